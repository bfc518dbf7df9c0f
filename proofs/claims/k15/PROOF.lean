import PyProof.Rows.All
import Wide.All
import OpenK.AllK
import Wide.FinOn
import Lean
import PyProof.EqAt
import PyProof.EqKinds
import PyProof.TupleCall
import PyProof.EqLayable
import PyProof.ConsumeWalk
import PySem.Challenge.RW_blockkeep_k15_names_in_words
section
set_option Elab.async false
set_option linter.all false
set_option maxRecDepth 100000
/-! THE HAND LAYER, for ints, bools, texts, own classes, LISTS and tuples (index, slices, in, append, pop ..), calls, loops. Paste it whole ahead of your own text; what your proof does not reach may be deleted. -/
namespace L2
open PySem PySem.Spec PyProof.Rows
/-- what an exception came out of: nothing, or one that came out of nothing -/
def Ctx (h : Heap) (e : Addr) (vs : Array Value) : Prop := vs[2]? = some .none ∨ ∃ (b : Addr) (ob : Obj) (vb : Array Value), vs[2]? = some (.ref b) ∧ b ≠ e ∧ h.get? b = some ob ∧ ob.data = .fields vb ∧ vb[2]? = some .none
/-- what is handled: nothing, or an exception that came out of one other at most -/
def HdAt (A : Around) (h : Heap) : Prop := A.handled = none ∨ ∃ (e : Addr) (oe : Obj) (vs : Array Value), A.handled = some (.ref e) ∧ h.get? e = some oe ∧ oe.data = .fields vs ∧ Ctx h e vs
/-- .. and all that is none of a -/
def HdOff (A : Around) (h : Heap) (a : Addr) : Prop := A.handled = none ∨ ∃ (e : Addr) (oe : Obj) (vs : Array Value), A.handled = some (.ref e) ∧ e ≠ a ∧ h.get? e = some oe ∧ oe.data = .fields vs ∧
  (vs[2]? = some .none ∨ ∃ (b : Addr) (ob : Obj) (vb : Array Value), vs[2]? = some (.ref b) ∧ b ≠ e ∧ b ≠ a ∧ h.get? b = some ob ∧ ob.data = .fields vb ∧ vb[2]? = some .none)
theorem entry_unchain : entryFor table "proto.unchain" = some Builtin.«proto.unchain» := entryFor_of_fast (by kernel_rfl)
section
variable {prog : Program} {w : World} {A : Around} {E : Value → Shared → Prop} {s : Shared}
theorem unchain_at {v o slow : Value} {t : Bool} {a : Addr} {oo : Obj} {vs : Array Value} {R : Result → Shared → Prop} (ho : o = .ref a) (hoe : s.heap.get? a = some oo) (hde : oo.data = .fields vs) (h2 : vs[2]? = some .none)
    (h : R (.ok (.ret .none)) s) : codeAny (model prog w) A (.builtin "proto.unchain" ⟨[v, o, slow, .bool t], []⟩) R s := by
  subst ho
  refine codeAny_builtin entry_unchain ?_
  unfold Builtin.«proto.unchain»
  refine wpAny_bind (wpAny_field hoe hde h2 ?_)
  rw [if_pos (by rfl)]
  refine wpAny_bind (wpAny_pure (wpAny_pure ?_))
  exact h
theorem raiseNew_hd {α : Type} {a : Addr} {o : Obj} {vs : Array Value} {Q : α → Shared → Prop} (hd : HdOff A s.heap a) (ho : s.heap.get? a = some o) (hdt : o.data = .fields vs) (h3 : 2 < vs.size)
    (h : ∀ h', Heap.SameBut a s.heap h' → (∃ o' v, h'.get? a = some o' ∧ o'.cls = o.cls ∧ o'.dict = o.dict ∧ o'.data = .fields (vs.setIfInBounds 2 v) ∧ (A.handled = none → h' = s.heap) ∧ ∀ e, A.handled = some (.ref e) → v = .ref e) → E (.ref a) { s with heap := h' }) : wpAny (model prog w) A (raiseNew (.ref a) : Sem α) Q E s := by
  unfold raiseNew
  refine wpAny_bind (wpAny_handled ?_)
  rcases hd with hn | ⟨e, oe, es, he, ne0, hoe, hde, h2⟩
  · rw [hn]
    have hx : vs.setIfInBounds 2 vs[2] = vs := Array.ext (by simp) fun i h1 h2 => by
      rw [Array.getElem_setIfInBounds]
      split
      · rename_i z; subst z; rfl
      · rfl
    exact wpAny_bind (wpAny_pure (wpAny_throw (h s.heap (Heap.SameBut.refl ..) ⟨o, vs[2], ho, rfl, rfl, by rw [hx]; exact hdt, fun _ => rfl, fun e he => by rw [hn] at he; cases he⟩)))
  · rw [he]
    have ne : (Value.ref e != Value.ref a) = true := by simp [ne0]
    dsimp only
    rw [if_pos ne]
    have fin : wpAny (model prog w) A (updateField a 2 (.ref e) >>= fun _ => throw (.ref a)) Q E s :=
      wpAny_bind (show wpAny _ _ (setField (.ref a) 2 (.ref e)) _ _ _ from wpAny_setField ho hdt h3 (wpAny_throw (h _ (Heap.SameBut.update ..)
        ⟨_, .ref e, Heap.get?_update_self _ ho (Obj.isFreed_of_fields (Obj.data_mapFields hdt _)), Obj.cls_mapFields .., (by unfold Obj.mapFields; split <;> rfl), Obj.data_mapFields hdt _, fun z => (by rw [he] at z; cases z), fun e' z => (by rw [he] at z; cases z; rfl)⟩)))
    refine wpAny_bind (wpAny_holding (wpAny_runValue ?_))
    rcases h2 with h2 | ⟨b, ob, vb, h2, hbe, hba, hob, hdb, hb2⟩
    · exact unchain_at rfl hoe hde h2 fin
    · refine codeAny_builtin entry_unchain ?_
      unfold Builtin.«proto.unchain»
      refine wpAny_bind (wpAny_field hoe hde h2 ?_)
      rw [if_neg (by simp), if_neg (by simp [hba]), if_neg (by simp [hbe])]
      refine wpAny_bind (wpAny_pure ?_)
      exact wpAny_pure ⟨Code.quiet_builtin _ (by decide +kernel), unchain_at rfl hob hdb hb2 fin⟩
theorem HdAt.two {A : Around} {h h' : Heap} {it : Addr} {o1 o2 : Obj} (x : HdAt A h) (k : ∀ b o, b ≠ it → h.get? b = some o → h'.get? b = some o) (hi : ∀ oe vs, h.get? it = some oe → oe.data = .fields vs → vs[2]? ≠ some .none ∧ ∀ b, vs[2]? ≠ some (.ref b)) :
    HdOff A ((h'.push o1).push o2) (h'.push o1).objs.size := by
  rcases x with x | ⟨e, oe, vs, a, b, c, d⟩
  · exact .inl x
  · have b' := k e oe (fun z => by
      have := hi oe vs (z ▸ b) c
      rcases d with d | ⟨b, _, _, d, _⟩
      · exact this.1 d
      · exact this.2 b d) b
    have nw : ∀ {c o}, h'.get? c = some o → c ≠ (h'.push o1).objs.size := fun {c o} z => by
      rw [Heap.size_push]
      exact Nat.ne_of_lt (Nat.lt_succ_of_lt (Heap.lt_size z))
    refine .inr ⟨e, oe, vs, a, nw b', Heap.get?_push_of_some _ (Heap.get?_push_of_some _ b'), c, ?_⟩
    rcases d with d | ⟨b, ob, vb, d1, d2, d3, d4, d5⟩
    · exact .inl d
    · have d3' := k b ob (fun z => (hi ob vb (z ▸ d3) d4).1 d5) d3
      exact .inr ⟨b, ob, vb, d1, d2, nw d3', Heap.get?_push_of_some _ (Heap.get?_push_of_some _ d3'), d4, d5⟩
theorem list_endH {it l : Addr} {i : Nat} {items : Array Value} {Q : Option Value → Shared → Prop} (hh : HdAt A s.heap)
    (hit : s.heap.IsListIter it l i) (hl : s.heap.IsList l items) (hx : items[i]? = none)
    (hQ : ∀ h', Heap.ExtBut it s.heap h' → Q none { s with heap := h' }) : wpAny (model prog w) A (pyNext (.ref it)) Q E s := by
  obtain ⟨o, ho, hc, hd⟩ := id hit
  obtain ⟨ol, hol, _, nl, hdl⟩ := hl
  unfold pyNext
  refine wpAny_bind (wpAny_attempt (wpAny_callSpecial?_slot (name := Str.ofString "__next__") hit.typeIs slot_listiter_next
    (wpAny_call_entry slot_listiter_next hit.typeIs entry_listiter_next ?_ (args_listiter_next _))))
  show wpAny _ _ (field (.ref it) 0 >>= _) _ _ s
  refine wpAny_bind (wpAny_field ho hd (x := .ref l) rfl ?_)
  show wpAny _ _ (if (Value.ref l == Value.none) = true then _ else _) _ _ s
  rw [if_neg (show ¬ ((Value.ref l == Value.none) = true) from Bool.false_ne_true)]
  show wpAny _ _ (field (.ref it) 1 >>= _) _ _ s
  refine wpAny_bind (wpAny_field ho hd (x := .int i 0) rfl ?_)
  show wpAny _ _ (seqItems? (.ref l) >>= _) _ _ s
  refine wpAny_bind (wpAny_seqItems hol hdl ?_)
  simp only [Int.toNat_natCast, hx]
  refine wpAny_bind (wpAny_rule (wpAny_bind (wpAny_setField ho hd (by simp) ?_)))
  show wpAny _ _ (newExc (.type "StopIteration") [] >>= _) _ _ _
  refine wpAny_bind ?_
  simp only [newExc, newTuple]
  refine wpAny_bind (wpAny_newObj_type ?_ (by size_fits))
  refine wpAny_bind (m := firstArgMember _ _) (wpAny_of_eq (a := Value.none) (by first | rfl | (simp only [firstArgMember]; rfl)) ?_)
  refine wpAny_newObj_type ?_ (by size_fits)
  refine raiseNew_hd (HdAt.two (A := A.in1) (it := it) hh (fun b o' hb e => (Heap.SameBut.update ..).extBut b o' hb e) (fun oe vs e e2 => by rw [ho] at e; cases e; rw [hd] at e2; cases e2; exact ⟨by simp, by simp⟩)) (Heap.get?_push_size _ rfl) rfl (by simp; omega) fun h' sb ⟨o', _, ho', hc', _⟩ => ?_
  refine wpAny_bind (wpAny_isInstance (T := "StopIteration") (b := true) ⟨_, ho', hc'⟩ isSubtype_stop ?_)
  refine wpAny_pure (hQ _ fun b ob hb e => (sb.2 b ?_).trans (((Heap.SameBut.update ..).extBut.push _).push _ b ob hb e))
  exact Nat.ne_of_lt (Nat.lt_of_lt_of_le (Heap.lt_size e) (by rw [Heap.size_push, Heap.size_after_update]; exact Nat.le_succ _))
theorem tuple_endH {it t : Addr} {i : Nat} {items : Array Value} {Q : Option Value → Shared → Prop} (hh : HdAt A s.heap)
    (hit : s.heap.IsTupleIter it t i) (ht : s.heap.IsTuple t items) (hx : items[i]? = none)
    (hQ : ∀ h', Heap.ExtBut it s.heap h' → Q none { s with heap := h' }) : wpAny (model prog w) A (pyNext (.ref it)) Q E s := by
  obtain ⟨o, ho, hc, hd⟩ := id hit
  obtain ⟨ol, hol, _, nl, hdl⟩ := ht
  unfold pyNext
  refine wpAny_bind (wpAny_attempt (wpAny_callSpecial?_slot (name := Str.ofString "__next__") hit.typeIs F.slot_tuple_iterator_next
    (wpAny_call_entry F.slot_tuple_iterator_next hit.typeIs F.entry_tuple_iterator_next ?_ (F.args_tuple_iterator_next_1 _))))
  show wpAny _ _ (field (.ref it) 0 >>= _) _ _ s
  refine wpAny_bind (wpAny_field ho hd (x := .ref t) rfl ?_)
  show wpAny _ _ (if (Value.ref t == Value.none) = true then _ else _) _ _ s
  rw [if_neg (show ¬ ((Value.ref t == Value.none) = true) from Bool.false_ne_true)]
  show wpAny _ _ (field (.ref it) 1 >>= _) _ _ s
  refine wpAny_bind (wpAny_field ho hd (x := .int i 0) rfl ?_)
  show wpAny _ _ (seqItems? (.ref t) >>= _) _ _ s
  refine wpAny_bind (wpAny_seqItems hol hdl ?_)
  simp only [Int.toNat_natCast, hx]
  refine wpAny_bind (wpAny_rule (wpAny_bind (wpAny_setField ho hd (by simp) ?_)))
  show wpAny _ _ (newExc (.type "StopIteration") [] >>= _) _ _ _
  refine wpAny_bind ?_
  simp only [newExc, newTuple]
  refine wpAny_bind (wpAny_newObj_type ?_ (by size_fits))
  refine wpAny_bind (m := firstArgMember _ _) (wpAny_of_eq (a := Value.none) (by first | rfl | (simp only [firstArgMember]; rfl)) ?_)
  refine wpAny_newObj_type ?_ (by size_fits)
  refine raiseNew_hd (HdAt.two (A := A.in1) (it := it) hh (fun b o' hb e => (Heap.SameBut.update ..).extBut b o' hb e) (fun oe vs e e2 => by rw [ho] at e; cases e; rw [hd] at e2; cases e2; exact ⟨by simp, by simp⟩)) (Heap.get?_push_size _ rfl) rfl (by simp; omega) fun h' sb ⟨o', _, ho', hc', _⟩ => ?_
  refine wpAny_bind (wpAny_isInstance (T := "StopIteration") (b := true) ⟨_, ho', hc'⟩ isSubtype_stop ?_)
  refine wpAny_pure (hQ _ fun b ob hb e => (sb.2 b ?_).trans (((Heap.SameBut.update ..).extBut.push _).push _ b ob hb e))
  exact Nat.ne_of_lt (Nat.lt_of_lt_of_le (Heap.lt_size e) (by rw [Heap.size_push, Heap.size_after_update]; exact Nat.le_succ _))
theorem range_endH {it : Addr} {x left step : Int} {Q : Option Value → Shared → Prop} (hh : HdAt A s.heap) (hit : IsRangeIter s.heap it x left step) (hleft : left ≤ 0)
    (hQ : ∀ h', Heap.ExtBut it s.heap h' → Q none { s with heap := h' }) : wpAny (model prog w) A (pyNext (.ref it)) Q E s := by
  have hT : s.TypeIs (.ref it) "range_iterator" := ⟨_, hit, rfl⟩
  unfold pyNext
  refine wpAny_bind (wpAny_attempt (wpAny_callSpecial?_slot (name := Str.ofString "__next__") hT F.slot_range_iterator_next
    (wpAny_call_entry F.slot_range_iterator_next hT F.entry_range_iterator_next ?_ (F.args_range_iterator_next_1 _))))
  show wpAny _ _ (field (.ref it) 0 >>= _) _ _ s
  refine wpAny_bind (wpAny_field hit rfl (x := rawInt x) rfl ?_)
  show wpAny _ _ (field (.ref it) 1 >>= _) _ _ s
  refine wpAny_bind (wpAny_field hit rfl (x := rawInt left) rfl ?_)
  show wpAny _ _ (field (.ref it) 2 >>= _) _ _ s
  refine wpAny_bind (wpAny_field hit rfl (x := rawInt step) rfl ?_)
  show wpAny _ _ (if left ≤ 0 then _ else _) _ _ s
  rw [if_pos hleft]
  refine wpAny_bind (wpAny_rule ?_)
  refine wpAny_bind ?_
  show wpAny _ _ (newExc (.type "StopIteration") [] >>= _) _ _ _
  refine wpAny_bind ?_
  simp only [newExc, newTuple]
  refine wpAny_bind (wpAny_newObj_type ?_ (by size_fits))
  refine wpAny_bind (m := firstArgMember _ _) (wpAny_of_eq (a := Value.none) (by first | rfl | (simp only [firstArgMember]; rfl)) ?_)
  refine wpAny_newObj_type ?_ (by size_fits)
  refine raiseNew_hd (HdAt.two (A := A.in1) (it := it) hh (fun b o' hb e => e) (fun oe vs e e2 => by rw [show s.heap.get? it = some _ from hit] at e; cases e; cases e2; exact ⟨by simp [rawInt], by simp [rawInt]⟩)) (Heap.get?_push_size _ rfl) rfl (by simp; omega) fun h' sb ⟨o', _, ho', hc', _⟩ => ?_
  refine wpAny_bind (wpAny_isInstance (T := "StopIteration") (b := true) ⟨_, ho', hc'⟩ isSubtype_stop ?_)
  refine wpAny_pure (hQ _ fun b ob hb e => (sb.2 b ?_).trans (((Heap.ExtBut.refl it s.heap).push _).push _ b ob hb e))
  exact Nat.ne_of_lt (Nat.lt_of_lt_of_le (Heap.lt_size e) (by rw [Heap.size_push]; exact Nat.le_succ _))
end
section
variable {prog : Program} {w : World} {A : Around} {E : Value → Shared → Prop} {s : Shared} {K : PySem.W.Frag} {e D : Addr} {oe : Obj}
open PySem.Calls PySem.W in
theorem exc_class {Q : Option Value → Shared → Prop} (X : K.In s.heap) (I : PySem.W.InstAt s.heap e oe D none) (hga : findIn K (.ref D) "__getattribute__" = some (some (.builtin "BaseException.__getattribute__"))) (hk : findIn K (.ref D) "__getattr__" = some none)
    (ha : findIn K (.ref D) "__class__" = some (some (.builtin "object.__class__"))) (hB : mroIn K D (.type "BaseException") = some true) (hm : mroIn K D (.type "object") = some true)
    (hf : findObj K D none "__class__" = some (.bind (.builtin "getset_descriptor.__get__") (.builtin "object.__class__")))
    (h : Q (some (.ref D)) { s with toks := s.toks + 1 }) : wpAny (model prog w) A (getAttr? (.ref e) "__class__") Q E s := by
  obtain ⟨h0, g, d, t, os⟩ := s
  have L0 := I.type (M := model prog w)
  have L1 := looks_findIn (M := model prog w) X hga
  have L2 := looks_findIn (M := model prog w) X hk
  have L3 := looks_findIn (M := model prog w) X ha
  have L4 := looks_mroIn (M := model prog w) X hB
  unfold getAttr? getAttrBy? getAttrBy
  refine wpAny_bind (wpAny_mkText (wpAny_bind (wpAny_attempt (wpAny_holding (wpAny_bind (L0.at (wpAny_bind (L1.at ?_))))))))
  show wpAny _ _ (getAttrByItsOwn _ _ _ _ _ _) _ _ _
  unfold getAttrByItsOwn hookBefore
  rw [if_pos (show onTheHeap (Value.ref D) = true from rfl)]
  have L5 := looks_find (M := model prog w) X I hf
  refine wpAny_bind (L2.at (wpAny_bind (wpAny_attempt (wpAny_holding ?_))))
  unfold callGetattribute
  rw [if_neg (by decide)]
  unfold boundAndCalled
  refine wpAny_bind (wpAny_of_eq (PySem.F.attr_ValueError.ga.bind (.ref e)) ?_)
  refine wpAny_call (codeAny_call_builtin PySem.F.attr_ValueError.ga.plain F.entry_bexc_ga ?_)
  have hk' : builtinKind "BaseException.__getattribute__" = some .slot := by decide +kernel
  have hsplit : splitId "BaseException.__getattribute__" = some ("BaseException", "__getattribute__") := by decide +kernel
  have harg := F.args_bexc_ga (.ref e) (.str "__class__" t)
  simp only [checkBuiltinCall, hk', hsplit]
  refine wpAny_bind ?_
  unfold isInstance
  refine wpAny_bind (L0.at (L4.at ?_))
  rw [if_neg (by decide)]
  refine wpAny_of_eq harg ?_
  unfold Builtin.«object.__getattribute__»
  refine wpAny_bind (wpAny_pure (wpAny_bind (wpAny_pure (wpAny_bind (L0.at (wpAny_bind (L5.at ?_)))))))
  unfold Builtin.ObjectAttr.bindTo
  refine wpAny_bind (wpAny_holding (wpAny_call (PySem.W.class_get (ox := oe) (od := none) X I hm ?_)))
  refine wpAny_pure ?_
  exact handed_on rfl (wpAny_pure h)
/-- what the text must have of a class of exceptions -/
structure ExcK (K : PySem.W.Frag) (D : Addr) : Prop where
  ga : PySem.W.findIn K (.ref D) "__getattribute__" = some (some (.builtin "BaseException.__getattribute__"))
  gr : PySem.W.findIn K (.ref D) "__getattr__" = some none
  cl : PySem.W.findIn K (.ref D) "__class__" = some (some (.builtin "object.__class__"))
  bx : PySem.W.mroIn K D (.type "BaseException") = some true
  ob : PySem.W.mroIn K D (.type "object") = some true
  fd : PySem.W.findObj K D none "__class__" = some (.bind (.builtin "getset_descriptor.__get__") (.builtin "object.__class__"))
  is : (PySem.W.clsIn K D).isSome = true
open PySem.Calls PySem.W in
theorem kitx_exc (F : ExcK K D) : KitX K (.ref e) (.ref D) (fun h => ∃ oe, PySem.W.InstAt h e oe D none) where
  ty := fun _ _ _ ⟨_, I⟩ => I.type
  it := fun _ _ X _ => by
    obtain ⟨cdD, hcD⟩ := Option.isSome_iff_exists.mp F.is
    unfold clsIn at hcD
    split at hcD
    · rename_i c' d' cd' sl' ho
      intro A' Q' E' s' k q
      unfold isType loadHead
      exact wpAny_bind (wpAny_loadPart (k _ _ (X _ _ ho)) (wpAny_pure q))
    · cases hcD
  ne := fun h tp dd its n sl X htp => by
    obtain ⟨cdD, hcD⟩ := Option.isSome_iff_exists.mp F.is
    refine Bool.eq_false_iff.mpr fun q => ?_
    have e : D = tp := Value.ref.inj (beq_iff_eq.mp q)
    subst e
    unfold clsIn at hcD
    split at hcD
    · rename_i c' d' cd' sl' ho
      have z := (X _ _ ho).symm.trans htp
      cases z
    · cases hcD
  ca := fun X ⟨_, I⟩ k => exc_class X I F.ga F.gr F.cl F.bx F.ob F.fd k
end
end L2

namespace L2
open PySem PySem.Spec PyProof.Rows

/-- a key: an int or a str -/
abbrev Key := Sum Int Str
def keyIs : Key → Value → Bool
  | .inl k, v => Value.isInt k v
  | .inr x, v => Value.isStrOf x v
def keyH (w : World) : Key → Int
  | .inl k => hashInt k
  | .inr x => hashStr w x
theorem keyIs_shape : ∀ {k : Key} {v : Value}, keyIs k v = true → (∃ i t, k = Sum.inl i ∧ v = Value.int i t) ∨ (∃ x t, k = Sum.inr x ∧ v = Value.str x t)
  | .inl i, v, h => by
    obtain ⟨t, e⟩ := Value.isInt_shape (k := i) (v := v) h
    exact .inl ⟨i, t, rfl, e⟩
  | .inr x, v, h => by
    obtain ⟨t, e⟩ := Value.isStrOf_shape (x := x) (v := v) h
    exact .inr ⟨x, t, rfl, e⟩
theorem key_ll (a b : Int) : decide ((Sum.inl a : Key) = Sum.inl b) = (a == b) := by
  by_cases e : a = b
  · subst e; simp
  · have h : ¬ (Sum.inl a : Key) = Sum.inl b := fun q => e (Sum.inl.inj q)
    rw [decide_eq_false h]
    exact (beq_eq_false_iff_ne.mpr e).symm
theorem key_rr (a b : Str) : decide ((Sum.inr a : Key) = Sum.inr b) = decide (a = b) := by
  by_cases e : a = b
  · subst e; simp
  · have h : ¬ (Sum.inr a : Key) = Sum.inr b := fun q => e (Sum.inr.inj q)
    rw [decide_eq_false h, decide_eq_false e]
theorem key_lr (a : Int) (b : Str) : decide ((Sum.inl a : Key) = Sum.inr b) = false := decide_eq_false (fun q => nomatch q)
theorem key_rl (a : Str) (b : Int) : decide ((Sum.inr a : Key) = Sum.inl b) = false := decide_eq_false (fun q => nomatch q)

def mixKind (prog : Program) (w : World) : PySem.KeyKind prog w Key where
  is := keyIs
  hash := keyH w
  inj := fun v a b ha hb => by
    rcases keyIs_shape ha with ⟨i, t, rfl, rfl⟩ | ⟨x, t, rfl, rfl⟩
    · rcases keyIs_shape hb with ⟨j, u, rfl, e⟩ | ⟨y, u, rfl, e⟩
      · injection e with e1 _; rw [e1]
      · exact nomatch e
    · rcases keyIs_shape hb with ⟨j, u, rfl, e⟩ | ⟨y, u, rfl, e⟩
      · exact nomatch e
      · injection e with e1 _; rw [e1]
  byValue := fun k v h => by
    rcases keyIs_shape h with ⟨i, t, rfl, rfl⟩ | ⟨x, t, rfl, rfl⟩ <;> rfl
  pyHash := fun hv h => by
    rcases keyIs_shape hv with ⟨i, t, rfl, rfl⟩ | ⟨x, t, rfl, rfl⟩
    · exact wpAny_pyHash_int h
    · exact wpAny_pyHash_str h
  eqBool := fun hu hv h => by
    rcases keyIs_shape hu with ⟨i, t, rfl, rfl⟩ | ⟨x, t, rfl, rfl⟩
    · rcases keyIs_shape hv with ⟨j, u, rfl, rfl⟩ | ⟨y, u, rfl, rfl⟩
      · rw [key_ll] at h; exact wpAny_eqBool_int h
      · rw [key_lr] at h; exact SeqAt.EqAt.int_str i t y u _ _ _ _ h
    · rcases keyIs_shape hv with ⟨j, u, rfl, rfl⟩ | ⟨y, u, rfl, rfl⟩
      · rw [key_rl] at h; exact SeqAt.EqAt.str_int x t j u _ _ _ _ h
      · rw [key_rr] at h; exact wpAny_eqBool_str h
  «strs» := fun k x t v h => by
    rcases keyIs_shape h with ⟨i, u, rfl, e⟩ | ⟨y, u, rfl, e⟩
    · exact nomatch e
    · injection e with e1 _
      subst e1
      cases v <;> rfl

end L2

namespace L2
open PySem PySem.Spec PyProof.Rows

/-- a value, without the heap -/
inductive V where
  | non | bl (b : Bool) | int (i : Int) | str (x : Str) | byt (b : Array UInt8) | flt (b : UInt64) | ref (a : Addr) | ty (n : String)
  deriving DecidableEq

def RelV : V → Value → Prop
  | .non, u => u = Value.none
  | .bl b, u => u = Value.bool b
  | .int i, u => ∃ t, u = Value.int i t
  | .str x, u => ∃ t, u = Value.str x t
  | .byt b, u => ∃ t, u = Value.bytes b t
  | .flt b, u => ∃ t, u = Value.float b t
  | .ref a, u => u = Value.ref a
  | .ty n, u => u = Value.type n

abbrev Vals : List V → List Value → Prop := Paired RelV
theorem Vals.length {xs : List V} {us : List Value} (r : Vals xs us) : xs.length = us.length := Paired.length r
theorem Vals.get : ∀ {xs : List V} {us : List Value} {i : Nat} {x : V}, Vals xs us → xs[i]? = some x → ∃ u, us[i]? = some u ∧ RelV x u
  | _, _, _, _, .nil, e => by simp at e
  | _, _, 0, _, .cons r _, e => by simp at e; subst e; exact ⟨_, rfl, r⟩
  | _, _, i + 1, x, .cons _ t, e => by
    obtain ⟨u, h1, h2⟩ := Vals.get (i := i) (x := x) t (by simpa using e)
    exact ⟨u, by simpa using h1, h2⟩
theorem Vals.set {x : V} {u : Value} (r : RelV x u) : ∀ {xs : List V} {us : List Value} (i : Nat), Vals xs us → Vals (xs.set i x) (us.set i u)
  | _, _, _, .nil => .nil
  | _, _, 0, .cons _ t => .cons r t
  | _, _, i + 1, .cons q t => .cons q (Vals.set r i t)
theorem Vals.append : ∀ {xs ys : List V} {us ws : List Value}, Vals xs us → Vals ys ws → Vals (xs ++ ys) (us ++ ws)
  | _, _, _, _, .nil, s => s
  | _, _, _, _, .cons r t, s => .cons r (Vals.append t s)
def RelO : Option V → Option Value → Prop
  | some v, some u => RelV v u
  | none, none => True
  | _, _ => False
def KV {κ : Type} : List (κ × V) → List (κ × Value) → Prop := Paired fun (p : κ × V) (q : κ × Value) => p.1 = q.1 ∧ RelV p.2 q.2

/-- a key of a dict (00_mix): an int or a text -/
def kV : Key → V
  | .inl i => .int i
  | .inr x => .str x

/-- what stands at a tracked address -/
inductive HO where
  /-- a list -/
  | lst (xs : List V)
  /-- a tuple (never changes) -/
  | tup (xs : List V)
  /-- a dict whose keys are ints and texts; one whose keys are tuples of ints and texts (the empty one is both) -/
  | dK (kvs : List (Key × V)) | dT (kvs : List (List Key × V))
  /-- a set of ints: its members, its size -/
  | set (S : Int → Bool) (n : Nat)
  /-- an instance of the class at C, its dict at dx, its attributes -/
  | ins (C dx : Addr) (fs : List (Str × V))
  /-- the dict of the instance at x -/
  | own (x : Addr)
  /-- the dict of an exception -/
  | xd (fs : List (Str × V))
  /-- a bound method, f of x -/
  | met (f x : Addr)
  /-- a range object lo, lo + 1, .. below hi -/
  | rng (lo hi : Int)
  /-- a thing that is known to the object (the script; a dict while a loop walks it): read, never written while it is so -/
  | frz (o : Obj) (u : HO)
  /-- a code object's table -/
  | tbl (ps : Array Value)
  /-- an exception that was caught, of that class: it came out of no other -/
  | exc (cls : Value)
  /-- any other thing, by what is true of its one object (a def of one's own: SetO a S n := HO.ext fun h => ..) -/
  | ext (φ : Heap → Prop)

abbrev Hp := Addr → Option HO
def upd (H : Hp) (a : Addr) (o : HO) : Hp := fun b => if b = a then some o else H b
theorem upd_same {H : Hp} {a : Addr} {o : HO} : upd H a o a = some o := by unfold upd; rw [if_pos rfl]
theorem upd_ne {H : Hp} {a b : Addr} {o : HO} (h : b ≠ a) : upd H a o b = H b := by unfold upd; rw [if_neg h]
/-- two objects of different content stand apart -/
theorem ne_of {H : Hp} {a b : Addr} {o u : HO} (h : H a = some o) (h' : H b = some u) (d : o ≠ u) : a ≠ b := by
  intro e; subst e; rw [h] at h'; exact d (Option.some.inj h')
theorem ne_of_none {H : Hp} {a b : Addr} {o : HO} (h : H a = some o) (h' : H b = none) : a ≠ b := by
  intro e; subst e; rw [h] at h'; cases h'

section
variable (P : Program) (w : World)
def ObjOk (H : Hp) (h : Heap) (a : Addr) : HO → Prop
  | .lst xs => xs.length ≤ sizeLine ∧ ∃ (its : List Value) (n : Nat), Vals xs its ∧ h.get? a = some { cls := .type "list", data := .seq its.toArray n }
  | .tup xs => xs.length ≤ sizeLine ∧ ∃ its : List Value, Vals xs its ∧ IsTup h a its.toArray
  | .dK kvs => kvs.length ≤ sizeLine ∧ (a == sysModules) = false ∧ ∃ vs, KV kvs vs ∧ h.DictOf (mixKind P w) a vs
  | .dT kvs => kvs.length ≤ sizeLine ∧ (a == sysModules) = false ∧ ∃ xs : List (List Key × Addr × Value),
      Paired (fun (p : List Key × V) (q : List Key × Addr × Value) => p.1 = q.1 ∧ H q.2.1 = some (.tup (p.1.map kV)) ∧ RelV p.2 q.2.2) kvs xs ∧
      ∃ o es ep, h.get? a = some o ∧ o.ExactDict ∧ o.data = .dict es ep ∧ es.toList = xs.map (entryOfKey (tupleKind (mixKind P w))) ∧ (xs.map (·.1)).Nodup
  | .set S n => h.SetOf (intKind P w) a S n
  | .ins C dx fs => H dx = some (.own a) ∧ fs.length ≤ 1000 ∧ dx ≠ a ∧ h.get? a = some (PySem.W.instObj C dx) ∧
      ∃ mA, h.Ns1 dx mA ∧ (∀ f, RelO (fs.lookup f) (mA f)) ∧ PySem.Within mA (fs.map (·.1))
  | .own _ => ∃ o, h.get? a = some o
  | .xd fs => ∃ mA, h.Ns1 a mA ∧ ∀ f, RelO (fs.lookup f) (mA f)
  | .rng lo hi => ∃ t u v, h.get? a = some { cls := .type "range", data := .fields #[.int lo t, .int hi u, .int 1 v] }
  | .frz o u => h.get? a = some o ∧ ObjOk H h a u
  | .tbl ps => h.get? a = some { cls := .none, data := .fields ps }
  | .met f x => h.get? a = some (PySem.W.methodObj (.ref f) (.ref x))
  | .exc c => ∃ oe vs, h.get? a = some oe ∧ oe.cls = c ∧ oe.dict = none ∧ oe.data = .fields vs ∧ (vs[2]? = some .none ∨ ∃ b ob vb, vs[2]? = some (.ref b) ∧ b ≠ a ∧ H b = some (.own a) ∧ h.get? b = some ob ∧ ob.data = .fields vb ∧ vb[2]? = some .none)
  | .ext φ => φ h ∧ (∃ o, h.get? a = some o) ∧ ∀ h1 h2 : Heap, φ h1 → (∀ o, h1.get? a = some o → h2.get? a = some o) → φ h2
/-- the abstract heap is held -/
def HOk (H : Hp) (h : Heap) : Prop := ∀ a o, H a = some o → ObjOk P w H h a o
end

section
variable {P : Program} {w : World} {H H' : Hp} {h h' : Heap} {a : Addr} {o : HO}
theorem ObjOk.lt (x : ObjOk P w H h a o) : a < h.objs.size := by
  cases o with
  | lst xs => obtain ⟨_, _, _, _, e⟩ := x; exact Heap.lt_size e
  | tup xs => obtain ⟨_, _, _, p⟩ := x; exact p.lt
  | dK kvs => obtain ⟨_, _, _, _, o, _, _, e, _⟩ := x; exact Heap.lt_size e
  | dT kvs => obtain ⟨_, _, _, _, o, _, _, e, _⟩ := x; exact Heap.lt_size e
  | set S n => obtain ⟨o, _, _, _, e, _⟩ := x; exact Heap.lt_size e
  | ins C dx fs => obtain ⟨_, _, _, e, _⟩ := x; exact Heap.lt_size e
  | own y => obtain ⟨_, e⟩ := x; exact Heap.lt_size e
  | xd fs => obtain ⟨_, ⟨_, _, _, e, _⟩, _⟩ := x; exact Heap.lt_size e
  | rng lo hi => obtain ⟨_, _, _, e⟩ := x; exact Heap.lt_size e
  | frz ob u => obtain ⟨e, _⟩ := x; exact Heap.lt_size e
  | tbl ps => exact Heap.lt_size (show h.get? a = some _ from x)
  | met f y => exact Heap.lt_size (show h.get? a = some _ from x)
  | ext φ => obtain ⟨_, ⟨_, e⟩, _⟩ := x; exact Heap.lt_size e
  | exc c => obtain ⟨_, _, e, _⟩ := x; exact Heap.lt_size e
theorem Paired.mapP {α β : Type} {F G : α → β → Prop} : ∀ {l₁ : List α} {l₂ : List β}, Paired F l₁ l₂ → (∀ a b, F a b → G a b) → Paired G l₁ l₂
  | _, _, .nil, _ => .nil
  | _, _, .cons r t, f => .cons (f _ _ r) (Paired.mapP t f)
/-- what an object's description leans on: its own object, its own dict, the tuples -/
theorem ObjOk.stay (x : ObjOk P w H h a o) (k : ∀ b u, (b = a ∨ H b = some (.own a)) → h.get? b = some u → h'.get? b = some u)
    (ho : ∀ b, H b = some (.own a) → H' b = some (.own a)) (ht : ∀ b xs, H b = some (.tup xs) → H' b = some (.tup xs)) : ObjOk P w H' h' a o := by
  induction o with
  | lst xs => obtain ⟨z, its, n, r, e⟩ := x; exact ⟨z, its, n, r, k _ _ (.inl rfl) e⟩
  | tup xs => obtain ⟨z, its, r, ob, e, c⟩ := x; exact ⟨z, its, r, ob, k _ _ (.inl rfl) e, c⟩
  | dK kvs => obtain ⟨z, y, vs, r, ob, es, ep, e, c⟩ := x; exact ⟨z, y, vs, r, ob, es, ep, k _ _ (.inl rfl) e, c⟩
  | dT kvs =>
    obtain ⟨z, y, xs, r, ob, es, ep, e, c⟩ := x
    exact ⟨z, y, xs, Paired.mapP r fun p q z => ⟨z.1, ht _ _ z.2.1, z.2.2⟩, ob, es, ep, k _ _ (.inl rfl) e, c⟩
  | set S n => obtain ⟨ob, es, ep, t, e, c⟩ := x; exact ⟨ob, es, ep, t, k _ _ (.inl rfl) e, c⟩
  | ins C dx fs =>
    obtain ⟨d, z, ne, e, mA, ⟨od, es, ep, e2, c⟩, r⟩ := x
    exact ⟨ho _ d, z, ne, k _ _ (.inl rfl) e, mA, ⟨od, es, ep, k _ _ (.inr d) e2, c⟩, r⟩
  | own y => obtain ⟨ob, e⟩ := x; exact ⟨ob, k _ _ (.inl rfl) e⟩
  | xd fs => obtain ⟨mA, ⟨od, es, ep, e, c⟩, r⟩ := x; exact ⟨mA, ⟨od, es, ep, k _ _ (.inl rfl) e, c⟩, r⟩
  | rng lo hi => obtain ⟨t, u, v, e⟩ := x; exact ⟨t, u, v, k _ _ (.inl rfl) e⟩
  | frz ob u ih => obtain ⟨e, q⟩ := x; exact ⟨k _ _ (.inl rfl) e, ih q⟩
  | tbl ps =>
    have e : h.get? a = some { cls := .none, data := .fields ps } := x
    show h'.get? a = some { cls := .none, data := .fields ps }
    exact k a _ (.inl rfl) e
  | met f y =>
    have e : h.get? a = some (PySem.W.methodObj (.ref f) (.ref y)) := x
    show h'.get? a = some (PySem.W.methodObj (.ref f) (.ref y))
    exact k a _ (.inl rfl) e
  | exc c =>
    obtain ⟨oe, vs, e, r1, r2, r3, r⟩ := x
    refine ⟨oe, vs, k _ _ (.inl rfl) e, r1, r2, r3, ?_⟩
    rcases r with r | ⟨b, ob, vb, d1, d2, d3, d4, d5⟩
    · exact .inl r
    · exact .inr ⟨b, ob, vb, d1, d2, ho _ d3, k _ _ (.inr d3) d4, d5⟩
  | ext φ => obtain ⟨p, ⟨o, e⟩, st⟩ := x; exact ⟨st _ _ p fun o q => k _ _ (.inl rfl) q, ⟨o, k _ _ (.inl rfl) e⟩, st⟩
theorem HOk.lt (x : HOk P w H h) (e : H a = some o) : a < h.objs.size := (x a o e).lt
theorem HOk.fresh (x : HOk P w H h) (e : h.objs.size ≤ a) : H a = none := by
  cases q : H a with
  | none => rfl
  | some u => exact absurd (Nat.lt_of_lt_of_le (x.lt q) e) (Nat.lt_irrefl _)
/-- every object of the heap is kept -/
theorem HOk.kept (x : HOk P w H h) (k : ∀ b u, h.get? b = some u → h'.get? b = some u) : HOk P w H h' := fun a o e =>
  (x a o e).stay (fun b u _ q => k b u q) (fun _ q => q) fun _ _ q => q
/-- a new object is laid and tracked -/
theorem HOk.laid (x : HOk P w H h) (k : ∀ b u, h.get? b = some u → h'.get? b = some u) (hp : h.objs.size ≤ a) (new : ObjOk P w (upd H a o) h' a o) : HOk P w (upd H a o) h' := fun b u e => by
  have hn := x.fresh hp
  by_cases hb : b = a
  · subst hb; rw [upd_same] at e; cases e; exact new
  · rw [upd_ne hb] at e
    exact (x b u e).stay (fun c v _ q => k c v q) (fun c q => by rw [upd_ne (ne_of_none q hn)]; exact q) fun c xs q => by rw [upd_ne (ne_of_none q hn)]; exact q
end

/-- what is handled is tracked -/
def HdE (A : Around) (H : Hp) : Prop := A.handled = none ∨ ∃ (e : Addr) (c : Value), A.handled = some (.ref e) ∧ H e = some (.exc c)
theorem HdE.at {P : Program} {w : World} {A : Around} {H : Hp} {h : Heap} (x : HdE A H) (ok : HOk P w H h) : HdAt A h := by
  rcases x with x | ⟨e, c, a, b⟩
  · exact .inl x
  · obtain ⟨oe, vs, q, _, _, d, z⟩ := ok e _ b
    refine .inr ⟨e, oe, vs, a, q, d, ?_⟩
    rcases z with z | ⟨b, ob, vb, d1, d2, _, d4⟩
    · exact .inl z
    · exact .inr ⟨b, ob, vb, d1, d2, d4⟩
/-- what may be read as u: it is u, or a known u -/
def Rd (H : Hp) (a : Addr) (u : HO) : Prop := H a = some u ∨ ∃ o, H a = some (.frz o u)
theorem Rd.ok {P : Program} {w : World} {H : Hp} {h : Heap} {a : Addr} {u : HO} (r : Rd H a u) (x : HOk P w H h) : ObjOk P w H h a u := by
  rcases r with r | ⟨o, r⟩
  · exact x a u r
  · obtain ⟨_, q⟩ := x a _ r
    exact q
/-- what may be written -/
def Mut : Option HO → Prop
  | some (.lst _) => True
  | some (.dK _) => True
  | some (.dT _) => True
  | some (.set _ _) => True
  | some (.ins _ _ _) => True
  | some (.ext _) => True
  | _ => False
section
variable {P : Program} {w : World} {H : Hp} {h h' : Heap} {x e : Addr} {o' : HO}
/-- the object at e is changed: x itself, or the dict of the instance x -/
theorem HOk.write (ok : HOk P w H h) (mu : Mut (H x)) (he : e = x ∨ H e = some (.own x)) (k : ∀ b u, b ≠ e → h.get? b = some u → h'.get? b = some u) (heo : ∃ u, h'.get? e = some u)
    (new : ObjOk P w (upd H x o') h' x o') : HOk P w (upd H x o') h' := fun b u q => by
  have nown : ∀ c y, H c = some (.own y) → c ≠ x := fun c y r z => by subst z; rw [r] at mu; exact mu
  have ntup : ∀ c xs, H c = some (.tup xs) → c ≠ x := fun c xs r z => by subst z; rw [r] at mu; exact mu
  by_cases hb : b = x
  · subst hb; rw [upd_same] at q; cases q; exact new
  · rw [upd_ne hb] at q
    by_cases hbe : b = e
    · have q' : H b = some (.own x) := by
        rcases he with z | z
        · exact absurd (hbe.trans z) hb
        · rw [hbe]; exact z
      rw [q] at q'; cases q'
      obtain ⟨v, hv⟩ := heo
      exact ⟨v, by rw [hbe]; exact hv⟩
    · refine (ok b u q).stay (fun c v hc r => k c v ?_ r) (fun c r => by rw [upd_ne (nown c b r)]; exact r) fun c xs r => by rw [upd_ne (ntup c xs r)]; exact r
      rcases hc with rfl | hc
      · exact hbe
      · rintro rfl
        rcases he with z | z
        · exact nown c b hc z
        · rw [hc] at z; cases z; exact hb rfl
end

/-! ### kept unless tracked; of the frames at fs (the callers') the slots may change (an exception that passes writes there); of the records at ex (iterators) nothing is said -/
structure Un (fs ex : List Addr) (H H' : Hp) (h h' : Heap) : Prop where
  keep : ∀ b o, h.get? b = some o → H b = none → b ∉ fs → b ∉ ex → h'.get? b = some o
  slot : ∀ b o, h.get? b = some o → H b = none → b ∈ fs → b ∉ ex → ∃ sl, h'.get? b = some { o with slots := sl }
  free : ∀ b o, h.get? b = some o → H b = none → b ∉ ex → H' b = none
  there : ∀ b o, h.get? b = some o → b ∉ ex → ∃ o', h'.get? b = some o'
  tups : ∀ b xs, H b = some (.tup xs) → H' b = some (.tup xs)
  frzs : ∀ b o u, H b = some (.frz o u) → H' b = some (.frz o u)
  tbls : ∀ b ps, H b = some (.tbl ps) → ∃ more, H' b = some (.tbl (ps ++ more))
  excs : ∀ b c, H b = some (.exc c) → H' b = some (.exc c)
section
variable {fs fs' ex ex' : List Addr} {H H1 H2 : Hp} {h h1 h2 h' : Heap} {a x e : Addr} {o : HO}
theorem Un.any (u : Un fs ex H H1 h h1) {b : Addr} {ob : Obj} (q : h.get? b = some ob) (n : H b = none) (hx : b ∉ ex) : ∃ sl, h1.get? b = some { ob with slots := sl } := by
  by_cases hb : b ∈ fs
  · exact u.slot b ob q n hb hx
  · exact ⟨ob.slots, u.keep b ob q n hb hx⟩
theorem Un.kept (k : ∀ b u, h.get? b = some u → h'.get? b = some u) : Un fs ex H H h h' :=
  ⟨fun b ob q _ _ _ => k b ob q, fun b ob q _ _ _ => ⟨ob.slots, k b ob q⟩, fun _ _ _ n _ => n, fun b ob q _ => ⟨ob, k b ob q⟩, fun _ _ q => q, fun _ _ _ q => q, fun _ ps q => ⟨#[], by rw [q]; simp⟩, fun _ _ q => q⟩
theorem Un.refl : Un fs ex H H h h := Un.kept fun _ _ q => q
theorem Un.laid (k : ∀ b u, h.get? b = some u → h'.get? b = some u) (hp : h.objs.size ≤ a) (hn : H a = none) : Un fs ex H (upd H a o) h h' where
  keep := fun b u q _ _ _ => k b u q
  slot := fun b u q _ _ _ => ⟨u.slots, k b u q⟩
  free := fun b u q n _ => by rw [upd_ne (Nat.ne_of_lt (Nat.lt_of_lt_of_le (Heap.lt_size q) hp))]; exact n
  there := fun b u q _ => ⟨u, k b u q⟩
  tups := fun b xs q => by rw [upd_ne (ne_of_none q hn)]; exact q
  frzs := fun b u xs q => by rw [upd_ne (ne_of_none q hn)]; exact q
  tbls := fun b ps q => ⟨#[], by rw [upd_ne (ne_of_none q hn), q]; simp⟩
  excs := fun b c q => by rw [upd_ne (ne_of_none q hn)]; exact q
theorem Un.write (mu : Mut (H x)) (he : e = x ∨ H e = some (.own x)) (k : ∀ b u, b ≠ e → h.get? b = some u → h'.get? b = some u) (heo : ∃ u, h'.get? e = some u) : Un fs ex H (upd H x o) h h' := by
  have hx : ∀ b, H b = none → b ≠ x := fun b n z => by subst z; rw [n] at mu; exact mu
  have hb : ∀ b, H b = none → b ≠ e := fun b n z => by
    subst z
    rcases he with r | r
    · exact hx b n r
    · rw [n] at r; cases r
  have hm : ∀ b u, H b = some u → ¬ Mut (some u) → b ≠ x := fun b u q nm z => by subst z; rw [q] at mu; exact nm mu
  refine ⟨fun b u q n _ _ => k b u (hb b n) q, fun b u q n _ _ => ⟨u.slots, k b u (hb b n) q⟩, fun b u q n _ => by rw [upd_ne (hx b n)]; exact n, fun b u q _ => ?_,
    fun b xs q => by rw [upd_ne (hm b _ q fun z => z)]; exact q, fun b u xs q => by rw [upd_ne (hm b _ q fun z => z)]; exact q, fun b ps q => ⟨#[], by rw [upd_ne (hm b _ q fun z => z), q]; simp⟩, fun b c q => by rw [upd_ne (hm b _ q fun z => z)]; exact q⟩
  by_cases hbe : b = e
  · subst hbe; exact heo
  · exact ⟨u, k b u hbe q⟩
end

/-! ### the heap without what is tracked -/
def trk (h : Heap) (H : Hp) : List Addr := (List.range h.objs.size).filter fun a => (H a).isSome
def hidT (h : Heap) (H : Hp) : Heap := PySem.W.hideAll h (trk h H)
theorem hidT_size (h : Heap) (H : Hp) : (hidT h H).objs.size = h.objs.size := PySem.W.hideAll_size _ _
theorem hidT_get {h : Heap} {H : Hp} {b : Addr} {o : Obj} (e : h.get? b = some o) (n : H b = none) : (hidT h H).get? b = some o :=
  PySem.W.hideAll_get _ e fun hm => by
    have q : (H b).isSome = true := (List.mem_filter.mp hm).2
    rw [n] at q; simp at q
theorem of_hidT {h : Heap} {H : Hp} {b : Addr} {o : Obj} (e : (hidT h H).get? b = some o) : h.get? b = some o ∧ H b = none := by
  have e' : h.get? b = some o := PySem.W.of_hideAll (trk h H) e
  refine ⟨e', ?_⟩
  cases q : H b with
  | none => rfl
  | some x =>
    have hm : b ∈ trk h H := List.mem_filter.mpr ⟨List.mem_range.mpr (Heap.lt_size e'), by simp [q]⟩
    have z : (hidT h H).get? b = none := PySem.W.hideAll_none (trk h H) hm
    rw [z] at e; cases e

/-! ### OpenK's ledger, filled with every new object but one -/
def allNews (g h : Heap) (L : Addr) : List (Addr × Obj) := (List.range h.objs.size).filterMap fun a => if a = L ∨ (g.get? a).isSome = true then none else (h.get? a).map fun o => (a, o)
def rest (g h : Heap) (L d : Addr) : List (Addr × Obj) := (allNews g h L).filter fun p => decide (p.1 ≠ d)
end L2

namespace L2
open PySem PySem.Spec PyProof.Rows

/-- the module's facts, over the base: the heap at the law's entry without what is tracked there -/
structure Mod (K : PySem.W.Frag) (mg : Str → Option Value) (base : Heap) : Prop where
  kin : K.In base
  glob : base.Ns mainGlobals mg
  blt : ∃ mb, base.Ns builtinsNs mb ∧ ∀ x : Str, x ≠ "__name__" → mb x = bootBuiltins x
  nolimit : base.NoLimit

/-- the context: a def's body (or a comprehension's block) running. base: fixed through the whole law; s₀, H₀: the entry; outer: the frames whose slots others may change (a def's callers); stack: all frames that run;
   ex: iterators that were made ahead of the entry and are walked here (a comprehension's); fn: the names whose cells were made at the entry (a def: all; a comprehension's block: its own); calm: not within an except suite; pn: pins that every state bears; xe: what is wanted of an exception that leaves the code -/
structure Cx where
  prog : Program
  w : World
  K : PySem.W.Frag
  mg : Str → Option Value
  base : Heap
  A : Around
  N : List Str
  s₀ : Shared
  H₀ : Hp
  env : Env
  outer : List Env
  stack : List Env
  ex : List Addr
  fn : Str → Bool
  calm : Bool
  pn : List (Addr × Obj)
  tr : List (Addr × Value)
  fx : List (Str × Value)
  xe : Value → Shared → Prop
/-- the callers' frames -/
def frs (l : List Env) : List Addr := l.filterMap (·.frame)
abbrev Cx.fs (X : Cx) : List Addr := frs X.outer

def Vis (sc : Scope) (x : Str) : Prop := sc.names.lookup x = some .local ∨ sc.names.lookup x = some .cell ∨ sc.names.lookup x = some .free
def Loc (sc : Scope) (x : Str) : Prop := sc.names.lookup x = some .local ∨ sc.names.lookup x = some .cell
def Look (env : Env) (h : Heap) (m : Str → Option Value) (x : Str) (u : Value) : Prop :=
  (env.kindOf x = some .local ∧ m x = some u) ∨ ((env.kindOf x = some .cell ∨ env.kindOf x = some .free) ∧ ∃ c, env.cells.lookup x = some c ∧ h.IsCell c (some u))

structure Cx.Ok (X : Cx) : Prop where
  mod : Mod X.K X.mg X.base
  kind : X.env.scope.kind = .function
  glob : X.env.globals = mainGlobals
  blt : X.env.builtins = builtinsNs
  above : X.s₀.heap.objs.size ≤ X.env.locals
  inj : ∀ x y c, X.env.cells.lookup x = some c → X.env.cells.lookup y = some c → x = y
  has : ∀ x, (X.env.kindOf x = some .cell ∨ X.env.kindOf x = some .free) → ∃ c, X.env.cells.lookup x = some c
  cab : ∀ x c, X.fn x = true → X.env.cells.lookup x = some c → X.s₀.heap.objs.size ≤ c
  hd : X.A.handled = none ∨ ∃ (e : Addr) (c : Value), X.A.handled = some (.ref e) ∧ (X.H₀ e = some (.exc c) ∨ (e, c) ∈ X.tr)
  frames : X.A.frames = some X.stack
  stk : X.stack = X.outer ∨ (X.stack = X.env :: X.outer ∧ X.env.frame = some X.env.locals)
  exf : ∀ b ∈ X.ex, b ≠ X.env.locals ∧ ∀ x c, X.env.cells.lookup x = some c → c ≠ b
  bs : ∀ b o, X.base.get? b = some o → X.s₀.heap.get? b = some o ∧ X.H₀ b = none
  bsz : X.base.objs.size ≤ X.s₀.heap.objs.size
  noex : ∀ b o, X.base.get? b = some o → b ∉ X.ex
  exfs : ∀ b ∈ X.ex, b ∉ X.fs
  funs : X.s₀.heap.FunFrames X.base X.outer
  frf : ∀ b ∈ X.fs, X.H₀ b = none

structure Inv (X : Cx) (pins : List (Addr × Obj)) (σ : List (Option V)) (H : Hp) (s : Shared) : Prop where
  ok : X.Ok
  os : s.os = X.s₀.os
  bare : AllBare s.gens
  base : Un X.fs X.ex X.H₀ H X.s₀.heap s.heap
  loc : ∃ m, s.heap.Ns X.env.locals m ∧ ∀ (i : Nat) (x : Str) (v : V), X.N[i]? = some x → σ[i]? = some (some v) → Vis X.env.scope x → ∃ u, RelV v u ∧ Look X.env s.heap m x u
  cell : ∀ x c, X.env.cells.lookup x = some c → ∃ v, s.heap.IsCell c v
  free : H X.env.locals = none
  freeC : ∀ x c, X.env.cells.lookup x = some c → H c = none
  pin : ∀ p ∈ X.pn ++ pins, s.heap.get? p.1 = some p.2 ∧ H p.1 = none ∧ p.1 ≠ X.env.locals ∧ p.1 ∉ X.fs ∧ ∀ v, p.2.data ≠ .cell v
  hok : HOk X.prog X.w H s.heap
  len : σ.length = X.N.length
  tr : ∀ p ∈ X.tr, H p.1 = some (.exc p.2)
  fix : ∀ p ∈ X.fx, ∃ m, s.heap.Ns X.env.locals m ∧ Look X.env s.heap m p.1 p.2
theorem ns_uniq {h : Heap} {a : Addr} {m m' : Str → Option Value} (n : h.Ns a m) (n' : h.Ns a m') : m = m' := by
  obtain ⟨o, es, ep, h1, h2, _, h3⟩ := n
  obtain ⟨o', es', ep', h1', h2', _, h3'⟩ := n'
  rw [h1] at h1'; cases h1'
  rw [h2] at h2'; cases h2'
  funext x
  rw [← h3, ← h3']

section
variable {X : Cx} {pins : List (Addr × Obj)} {σ : List (Option V)} {H H' : Hp} {s : Shared} {h' : Heap}

theorem Cx.Ok.nofr (ok : X.Ok) {b : Addr} {o : Obj} (e : X.base.get? b = some o) : b ∉ X.fs := fun hb => by
  have := (ok.funs.mem hb).1
  rw [e] at this; cases this
theorem Inv.bs (I : Inv X pins σ H s) : ∀ b o, X.base.get? b = some o → s.heap.get? b = some o ∧ H b = none := fun b o e =>
  ⟨I.base.keep b o (I.ok.bs b o e).1 (I.ok.bs b o e).2 (I.ok.nofr e) (I.ok.noex b o e), I.base.free b o (I.ok.bs b o e).1 (I.ok.bs b o e).2 (I.ok.noex b o e)⟩
theorem Inv.bk (I : Inv X pins σ H s) : ∀ b o, X.base.get? b = some o → s.heap.get? b = some o := fun b o e => (I.bs b o e).1
theorem Inv.mod (I : Inv X pins σ H s) : Mod X.K X.mg X.base := I.ok.mod
theorem Inv.hdE (I : Inv X pins σ H s) : HdE X.A H := by
  rcases I.ok.hd with h | ⟨e, c, h1, h2⟩
  · exact .inl h
  · rcases h2 with h2 | h2
    · exact .inr ⟨e, c, h1, I.base.excs e c h2⟩
    · exact .inr ⟨e, c, h1, I.tr (e, c) h2⟩
theorem Inv.hd (I : Inv X pins σ H s) : HdAt X.A s.heap := I.hdE.at I.hok
theorem Inv.kIn (I : Inv X pins σ H s) : X.K.In s.heap := I.ok.mod.kin.keeps I.bk
theorem Inv.lt (I : Inv X pins σ H s) : X.env.locals < s.heap.objs.size := let ⟨_, hn, _⟩ := I.loc; hn.lt
theorem Inv.sz (I : Inv X pins σ H s) : X.s₀.heap.objs.size ≤ s.heap.objs.size := Nat.le_trans I.ok.above (Nat.le_of_lt I.lt)
theorem Inv.nofs (I : Inv X pins σ H s) {a : Addr} (h : s.heap.objs.size ≤ a) : a ∉ X.fs := fun hb => by
  obtain ⟨_, o, ho, _⟩ := I.ok.funs.mem hb
  exact absurd (Nat.lt_of_lt_of_le (Heap.lt_size ho) (Nat.le_trans I.sz h)) (Nat.lt_irrefl _)
theorem Inv.cne (I : Inv X pins σ H s) : ∀ x c, X.env.cells.lookup x = some c → c ≠ X.env.locals := fun x c e z => by
  obtain ⟨v, o, ho, hd⟩ := I.cell x c e
  obtain ⟨m, ⟨o', es, ep, ho', hd', _⟩, _⟩ := I.loc
  rw [z, ho'] at ho; cases ho; rw [hd'] at hd; cases hd
theorem Inv.funs (I : Inv X pins σ H s) : s.heap.FunFrames X.base X.outer := by
  have all : ∀ (l : List Env), (∀ b ∈ frs l, b ∈ X.fs) → X.s₀.heap.FunFrames X.base l → s.heap.FunFrames X.base l := by
    intro l
    induction l with
    | nil => intro _ _; trivial
    | cons env r ih =>
      intro hs hl
      obtain ⟨hk, ⟨L, o, hf, hn, ho, hd⟩, hr⟩ := hl
      have hL : L ∈ X.fs := hs L (by unfold frs; rw [List.filterMap_cons, hf]; exact List.mem_cons_self)
      obtain ⟨sl, e⟩ := I.base.slot L o ho (I.ok.frf L hL) hL fun z => I.ok.exfs L z hL
      exact ⟨hk, ⟨L, _, hf, hn, e, hd⟩, ih (fun b hb => hs b (by unfold frs; rw [List.filterMap_cons, hf]; exact List.mem_cons_of_mem _ hb)) hr⟩
  exact all X.outer (fun _ hb => hb) I.ok.funs

/-- the frames that run, for a call -/
theorem Inv.stack (I : Inv X pins σ H s) : s.heap.FunFrames X.base X.stack := by
  rcases I.ok.stk with e | ⟨e, hf⟩
  · rw [e]; exact I.funs
  · rw [e]
    obtain ⟨m, hn, _⟩ := I.loc
    refine .cons (by rw [I.ok.kind]; decide) hf hn ?_ I.funs
    exact Heap.get?_none_of_le (Nat.le_trans I.ok.bsz I.ok.above)
theorem Inv.stkSub (I : Inv X pins σ H s) : ∀ b ∈ frs X.stack, b ∈ X.env.locals :: X.fs := fun b hb => by
  rcases I.ok.stk with e | ⟨e, hf⟩
  · rw [e] at hb; exact List.mem_cons_of_mem _ hb
  · rw [e] at hb
    unfold frs at hb
    rw [List.filterMap_cons, hf] at hb
    exact hb
theorem Inv.stkFree (I : Inv X pins σ H s) : ∀ b ∈ frs X.stack, H b = none := fun b hb => by
  rcases List.mem_cons.mp (I.stkSub b hb) with e | hb
  · rw [e]; exact I.free
  · obtain ⟨_, o, ho, _⟩ := I.ok.funs.mem hb
    exact I.base.free b o ho (I.ok.frf b hb) fun z => I.ok.exfs b z hb

/-- THE STEP: the untracked objects but the frame and the records at ch are kept (the callers' frames up to slots), the frame's map is kept, the new abstract heap is held -/
theorem Inv.step {g' : Array GenState} {t' : Nat} {d' : Drawn} {ch : List Addr} (I : Inv X pins σ H s)
    (hch : ∀ b ∈ ch, (b ∈ X.ex ∨ X.s₀.heap.objs.size ≤ b) ∧ b ≠ X.env.locals ∧ (∀ x c, X.env.cells.lookup x = some c → c ≠ b) ∧ ∀ p ∈ X.pn ++ pins, p.1 ≠ b)
    (keep : ∀ b o, b ≠ X.env.locals → b ∉ X.fs → b ∉ ch → s.heap.get? b = some o → H b = none → h'.get? b = some o)
    (slot : ∀ b o, b ≠ X.env.locals → b ∈ X.fs → b ∉ ch → s.heap.get? b = some o → H b = none → ∃ sl, h'.get? b = some { o with slots := sl }) (free : ∀ b o, b ∉ ch → s.heap.get? b = some o → H b = none → H' b = none)
    (there : ∀ b o, b ∉ ch → s.heap.get? b = some o → ∃ o', h'.get? b = some o')
    (tups : ∀ b xs, H b = some (.tup xs) → H' b = some (.tup xs)) (frzs : ∀ b o u, H b = some (.frz o u) → H' b = some (.frz o u)) (tbls : ∀ b ps, H b = some (.tbl ps) → ∃ more, H' b = some (.tbl (ps ++ more))) (excs : ∀ b c, H b = some (.exc c) → H' b = some (.exc c))
    (ns : ∀ m, s.heap.Ns X.env.locals m → h'.Ns X.env.locals m) (hok : HOk X.prog X.w H' h') (hg : AllBare g') :
    Inv X pins σ H' { s with heap := h', gens := g', drawn := d', toks := t' } := by
  have neL : ∀ b o, X.s₀.heap.get? b = some o → b ≠ X.env.locals := fun b o e => Nat.ne_of_lt (Nat.lt_of_lt_of_le (Heap.lt_size e) I.ok.above)
  have neC : ∀ b o, X.s₀.heap.get? b = some o → b ∉ X.ex → b ∉ ch := fun b o e hx hb => by
    rcases (hch b hb).1 with z | z
    · exact hx z
    · exact absurd (Nat.lt_of_lt_of_le (Heap.lt_size e) z) (Nat.lt_irrefl _)
  have cellK : ∀ x c, X.env.cells.lookup x = some c → ∀ v, s.heap.IsCell c v → h'.IsCell c v := fun x c e v ⟨o, ho, hd⟩ => by
    have nch : c ∉ ch := fun z => (hch c z).2.2.1 x c e rfl
    by_cases hc : c ∈ X.fs
    · obtain ⟨sl, q⟩ := slot c o (I.cne x c e) hc nch ho (I.freeC x c e)
      exact ⟨_, q, hd⟩
    · exact ⟨o, keep c o (I.cne x c e) hc nch ho (I.freeC x c e), hd⟩
  refine ⟨I.ok, I.os, hg, ⟨fun b o e n hb hx => ?_, fun b o e n hb hx => ?_, fun b o e n hx => ?_, fun b o e hx => ?_, fun b xs e => tups b xs (I.base.tups b xs e), fun b o xs e => frzs b o xs (I.base.frzs b o xs e), fun b ps e => ?_, fun b k e => excs b k (I.base.excs b k e)⟩, ?_, fun x c e => ?_, ?_, fun x c e => ?_, fun p hp => ?_, hok, I.len, fun p hp => excs _ _ (I.tr p hp), fun p hp => let ⟨m, hn, lk⟩ := I.fix p hp; ⟨m, ns m hn, lk.elim .inl fun ⟨k, c, e, z⟩ => .inr ⟨k, c, e, cellK p.1 c e _ z⟩⟩⟩
  · exact keep b o (neL b o e) hb (neC b o e hx) (I.base.keep b o e n hb hx) (I.base.free b o e n hx)
  · obtain ⟨sl, e1⟩ := I.base.slot b o e n hb hx
    obtain ⟨sl', e2⟩ := slot b _ (neL b o e) hb (neC b o e hx) e1 (I.base.free b o e n hx)
    exact ⟨sl', e2⟩
  · obtain ⟨o', e1⟩ := I.base.there b o e hx
    exact free b o' (neC b o e hx) e1 (I.base.free b o e n hx)
  · obtain ⟨o', e1⟩ := I.base.there b o e hx
    exact there b o' (neC b o e hx) e1
  · obtain ⟨m1, e1⟩ := I.base.tbls b ps e
    obtain ⟨m2, e2⟩ := tbls b _ e1
    exact ⟨m1 ++ m2, by rw [e2, Array.append_assoc]⟩
  · obtain ⟨m, hn, hl⟩ := I.loc
    refine ⟨m, ns m hn, fun i x v e1 e2 e3 => ?_⟩
    obtain ⟨u, r, l⟩ := hl i x v e1 e2 e3
    refine ⟨u, r, ?_⟩
    rcases l with l | ⟨k, c, e, z⟩
    · exact .inl l
    · exact .inr ⟨k, c, e, cellK x c e _ z⟩
  · obtain ⟨v, z⟩ := I.cell x c e
    exact ⟨v, cellK x c e v z⟩
  · obtain ⟨m, ⟨o, _, _, ho, _⟩, _⟩ := I.loc
    exact free _ o (fun z => (hch _ z).2.1 rfl) ho I.free
  · obtain ⟨v, o, ho, hd⟩ := I.cell x c e
    exact free c o (fun z => (hch c z).2.2.1 x c e rfl) ho (I.freeC x c e)
  · obtain ⟨e, n, ne, nf, d⟩ := I.pin p hp
    have nch : p.1 ∉ ch := fun z => (hch p.1 z).2.2.2 p hp rfl
    exact ⟨keep p.1 p.2 ne nf nch e n, free p.1 p.2 nch e n, ne, nf, d⟩
/-- .. where the frame's own object is kept too -/
theorem Inv.un {t' : Nat} (I : Inv X pins σ H s) (u : Un X.fs [] H H' s.heap h') (hok : HOk X.prog X.w H' h') : Inv X pins σ H' { s with heap := h', toks := t' } := by
  obtain ⟨m, ⟨o, es, ep, ho, r⟩, _⟩ := id I.loc
  obtain ⟨sl, hL⟩ := u.any ho I.free (by simp)
  exact I.step (g' := s.gens) (d' := s.drawn) (ch := []) (fun _ z => nomatch z) (fun b o _ hb _ e n => u.keep b o e n hb (by simp)) (fun b o _ hb _ e n => u.slot b o e n hb (by simp)) (fun b o _ e n => u.free b o e n (by simp)) (fun b o _ e => u.there b o e (by simp)) u.tups u.frzs u.tbls u.excs (fun m' hm => by
    obtain ⟨o', es', ep', ho', r'⟩ := hm
    rw [ho] at ho'; cases ho'
    exact ⟨_, es', ep', hL, r'⟩) hok I.bare
/-- behind a call (or a comprehension's block): the slots of this frame may have changed too, the records at ch may have turned -/
theorem Inv.call {g' : Array GenState} {t' : Nat} {d' : Drawn} {ch : List Addr} (I : Inv X pins σ H s) (u : Un (frs X.stack) ch H H' s.heap h') (hok : HOk X.prog X.w H' h') (hg : AllBare g')
    (hch : ∀ b ∈ ch, (b ∈ X.ex ∨ X.s₀.heap.objs.size ≤ b) ∧ b ≠ X.env.locals ∧ (∀ x c, X.env.cells.lookup x = some c → c ≠ b) ∧ ∀ p ∈ X.pn ++ pins, p.1 ≠ b) :
    Inv X pins σ H' { s with heap := h', gens := g', drawn := d', toks := t' } := by
  obtain ⟨m, ⟨o, es, ep, ho, r⟩, _⟩ := id I.loc
  obtain ⟨sl, hL⟩ := u.any ho I.free fun z => (hch _ z).2.1 rfl
  exact I.step (ch := ch) hch (fun b o hL hb hc e n => u.keep b o e n (fun z => (List.mem_cons.mp (I.stkSub b z)).elim hL hb) hc) (fun b o _ _ hc e n => u.any e n hc) (fun b o hc e n => u.free b o e n hc) (fun b o hc e => u.there b o e hc) u.tups u.frzs u.tbls u.excs (fun m' hm => by
    obtain ⟨o', es', ep', ho', r'⟩ := hm
    rw [ho] at ho'; cases ho'
    exact ⟨_, es', ep', hL, r'⟩) hok hg
/-- an untracked record of ours (an iterator) has turned -/
theorem Inv.turned {t' : Nat} {it : Addr} (I : Inv X pins σ H s) (k : ∀ b o, b ≠ it → s.heap.get? b = some o → h'.get? b = some o) (hn : H it = none) (hL : it ≠ X.env.locals)
    (h1 : it ∈ X.ex ∨ X.s₀.heap.objs.size ≤ it) (h2 : ∀ x c, X.env.cells.lookup x = some c → c ≠ it) (h3 : ∀ p ∈ X.pn ++ pins, p.1 ≠ it) : Inv X pins σ H { s with heap := h', toks := t' } := by
  have nit : ∀ b u, H b = some u → b ≠ it := fun b u e z => by rw [z, hn] at e; cases e
  refine I.step (g' := s.gens) (d' := s.drawn) (ch := [it]) (fun b hb => ?_) (fun b o _ _ hc e _ => k b o (fun z => hc (by simp [z])) e) (fun b o _ _ hc e _ => ⟨o.slots, k b o (fun z => hc (by simp [z])) e⟩) (fun _ _ _ _ n => n)
    (fun b o hc e => ⟨o, k b o (fun z => hc (by simp [z])) e⟩) (fun _ _ e => e) (fun _ _ _ e => e) (fun b ps e => ⟨#[], by rw [e]; simp⟩) (fun _ _ e => e) (fun m hm => ?_) (fun b u e => ?_) I.bare
  · have e : b = it := by simpa using hb
    subst e
    exact ⟨h1, hL, h2, h3⟩
  · obtain ⟨o, es, ep, ho, r⟩ := hm
    exact ⟨o, es, ep, k _ o (Ne.symm hL) ho, r⟩
  · refine (I.hok b u e).stay (fun c v hc q => k c v ?_ q) (fun _ q => q) fun _ _ q => q
    rcases hc with z | z
    · rw [z]; exact nit b u e
    · exact nit c _ z
theorem Inv.tok (I : Inv X pins σ H s) (t : Nat) : Inv X pins σ H { s with toks := t } := I.un (h' := s.heap) (t' := t) Un.refl I.hok
/-- all objects kept -/
theorem Inv.kept {t' : Nat} (I : Inv X pins σ H s) (k : ∀ b u, s.heap.get? b = some u → h'.get? b = some u) : Inv X pins σ H { s with heap := h', toks := t' } := I.un (Un.kept k) (I.hok.kept k)
/-- a new object laid and tracked -/
theorem Inv.laid {a : Addr} {o : HO} {t' : Nat} (I : Inv X pins σ H s) (k : ∀ b u, s.heap.get? b = some u → h'.get? b = some u) (hp : s.heap.objs.size ≤ a) (new : ObjOk X.prog X.w (upd H a o) h' a o) :
    Inv X pins σ (upd H a o) { s with heap := h', toks := t' } := I.un (Un.laid k hp (I.hok.fresh hp)) (I.hok.laid k hp new)
/-- an object written -/
theorem Inv.write {x e : Addr} {o : HO} {t' : Nat} (I : Inv X pins σ H s) (mu : Mut (H x)) (he : e = x ∨ H e = some (.own x)) (k : ∀ b u, b ≠ e → s.heap.get? b = some u → h'.get? b = some u) (heo : ∃ u, h'.get? e = some u)
    (new : ObjOk X.prog X.w (upd H x o) h' x o) : Inv X pins σ (upd H x o) { s with heap := h', toks := t' } := I.un (Un.write mu he k heo) (I.hok.write mu he k heo new)
theorem Inv.pins_of {pins' : List (Addr × Obj)} (I : Inv X pins σ H s) (h : ∀ p ∈ pins', s.heap.get? p.1 = some p.2 ∧ H p.1 = none ∧ p.1 ≠ X.env.locals ∧ p.1 ∉ X.fs ∧ ∀ v, p.2.data ≠ .cell v) : Inv X pins' σ H s :=
  ⟨I.ok, I.os, I.bare, I.base, I.loc, I.cell, I.free, I.freeC, fun p hp => (List.mem_append.mp hp).elim (fun z => I.pin p (List.mem_append_left _ z)) (h p), I.hok, I.len, I.tr, I.fix⟩

theorem nodup_ix {N : List Str} (hN : N.Nodup) {i j : Nat} {x : Str} (a : N[i]? = some x) (b : N[j]? = some x) : i = j := by
  obtain ⟨h1, e1⟩ := List.getElem?_eq_some_iff.mp a
  obtain ⟨h2, e2⟩ := List.getElem?_eq_some_iff.mp b
  exact (List.getElem_inj hN).mp (e1.trans e2.symm)

/-- a name is stored; what changed -/
theorem store_ok2 {M : Model} {A : Around} {E : Value → Shared → Prop} {i : Nat} {x : Str} {v : V} {u : Value} {Q : Unit → Shared → Prop} (I : Inv X pins σ H s) (hN : X.N.Nodup) (hi : X.N[i]? = some x) (hx : Loc X.env.scope x) (r : RelV v u)
    (h : ∀ s', Inv X pins (σ.set i (some v)) H s' → (∃ a, Heap.SameBut a s.heap s'.heap ∧ (a = X.env.locals ∨ X.env.cells.lookup x = some a)) → Q () s') (hf : X.fn x = true ∨ X.env.scope.names.lookup x = some .local := by first | exact .inl rfl | exact .inr rfl | assumption) (hfx : ∀ p ∈ X.fx, p.1 ≠ x := by first | exact fun p h => absurd (show p ∈ ([] : List (Str × Value)) from h) (by simp) | assumption) : wpAny M A (storeName X.env x u) Q E s := by
  obtain ⟨m, hn, hl⟩ := id I.loc
  have hcls : (X.env.scope.kind == .class || (X.env.scope.kind == .module && X.env.locals != X.env.globals)) = false := by rw [I.ok.kind]; rfl
  have hiσ : i < σ.length := by rw [I.len]; exact (List.getElem?_eq_some_iff.mp hi).1
  have cne := I.cne
  have tracked : ∀ {a : Addr} {h' : Heap}, (∃ o, s.heap.get? a = some o ∧ H a = none) → Heap.SameBut a s.heap h' → HOk X.prog X.w H h' := fun {a h'} ha hs b ob e => by
    obtain ⟨_, _, hfree⟩ := ha
    refine (I.hok b ob e).stay (fun c w' hc q => (hs.2 c ?_).trans q) (fun _ q => q) fun _ _ q => q
    rintro rfl
    rcases hc with rfl | hc
    · rw [hfree] at e; cases e
    · rw [hfree] at hc; cases hc
  rcases hx with hk | hk
  · refine wpAny_storeName_local hk hn (fun h' hn' hs => ?_) hcls
    obtain ⟨oL, _, _, hoL, _⟩ := id hn
    refine h _ ⟨I.ok, I.os, I.bare, ⟨fun b o e n hb hx => ?_, fun b o e n hb hx => ?_, I.base.free, fun b o e hx => ?_, I.base.tups, I.base.frzs, I.base.tbls, I.base.excs⟩, ⟨_, hn', fun j y v' e1 e2 e3 => ?_⟩, fun y c e => ?_, I.free, I.freeC, fun p hp => ?_, tracked ⟨oL, hoL, I.free⟩ hs, by simpa using I.len, I.tr, fun p hp => ?_⟩ ⟨_, hs, .inl rfl⟩
    rotate_right
    · obtain ⟨m1, hn1, lk⟩ := I.fix p hp
      have em := ns_uniq hn1 hn
      subst em
      refine ⟨_, hn', ?_⟩
      rcases lk with ⟨k, e⟩ | ⟨k, c, e, z⟩
      · exact .inl ⟨k, by simp [hfx p hp, e]⟩
      · exact .inr ⟨k, c, e, z.sameBut hs (cne p.1 c e)⟩
    · exact (hs.2 b (Nat.ne_of_lt (Nat.lt_of_lt_of_le (Heap.lt_size e) I.ok.above))).trans (I.base.keep b o e n hb hx)
    · obtain ⟨sl, e1⟩ := I.base.slot b o e n hb hx
      exact ⟨sl, (hs.2 b (Nat.ne_of_lt (Nat.lt_of_lt_of_le (Heap.lt_size e) I.ok.above))).trans e1⟩
    · obtain ⟨o', e1⟩ := I.base.there b o e hx
      exact ⟨o', (hs.2 b (Nat.ne_of_lt (Nat.lt_of_lt_of_le (Heap.lt_size e) I.ok.above))).trans e1⟩
    · by_cases hj : j = i
      · subst hj
        rw [hi] at e1; cases e1
        rw [List.getElem?_set_self hiσ] at e2
        cases e2
        exact ⟨u, r, .inl ⟨hk, by simp⟩⟩
      · rw [List.getElem?_set_ne (Ne.symm hj)] at e2
        obtain ⟨u', r', q⟩ := hl j y v' e1 e2 e3
        refine ⟨u', r', ?_⟩
        rcases q with ⟨k, e⟩ | ⟨k, c, e, z⟩
        · refine .inl ⟨k, ?_⟩
          have : y ≠ x := fun e => hj (nodup_ix hN e1 (e ▸ hi))
          simp [this, e]
        · exact .inr ⟨k, c, e, z.sameBut hs (cne y c e)⟩
    · obtain ⟨w', z⟩ := I.cell y c e
      exact ⟨w', z.sameBut hs (cne y c e)⟩
    · obtain ⟨e, n, ne, nf, d⟩ := I.pin p hp
      exact ⟨(hs.2 p.1 ne).trans e, n, ne, nf, d⟩
  · have hfn : X.fn x = true := by
      rcases hf with z | z
      · exact z
      · rw [z] at hk; cases hk
    obtain ⟨c, hc⟩ := I.ok.has x (.inl hk)
    obtain ⟨w', z⟩ := I.cell x c hc
    refine wpAny_storeName_cell I.ok.kind hk hc z (fun h' hc' hs => ?_)
    obtain ⟨oc, hoc, hocd⟩ := id z
    refine h { s with heap := h' } ⟨I.ok, I.os, I.bare, ⟨fun b o e n hb hx => ?_, fun b o e n hb hx => ?_, I.base.free, fun b o e hx => ?_, I.base.tups, I.base.frzs, I.base.tbls, I.base.excs⟩, ⟨m, hn.sameBut hs (Ne.symm (cne x c hc)), fun j y v' e1 e2 e3 => ?_⟩, fun y c' e => ?_, I.free, I.freeC, fun p hp => ?_, tracked ⟨oc, hoc, I.freeC x c hc⟩ hs, by simpa using I.len, I.tr, fun p hp => ?_⟩ ⟨c, hs, .inr hc⟩
    rotate_right
    · obtain ⟨m1, hn1, lk⟩ := I.fix p hp
      refine ⟨m1, hn1.sameBut hs (Ne.symm (cne x c hc)), ?_⟩
      rcases lk with q | ⟨k, c', e, z'⟩
      · exact .inl q
      · refine .inr ⟨k, c', e, z'.sameBut hs ?_⟩
        rintro rfl
        exact hfx p hp (I.ok.inj _ _ _ e hc)
    · exact (hs.2 b (Nat.ne_of_lt (Nat.lt_of_lt_of_le (Heap.lt_size e) (I.ok.cab x c hfn hc)))).trans (I.base.keep b o e n hb hx)
    · obtain ⟨sl, e1⟩ := I.base.slot b o e n hb hx
      exact ⟨sl, (hs.2 b (Nat.ne_of_lt (Nat.lt_of_lt_of_le (Heap.lt_size e) (I.ok.cab x c hfn hc)))).trans e1⟩
    · obtain ⟨o', e1⟩ := I.base.there b o e hx
      exact ⟨o', (hs.2 b (Nat.ne_of_lt (Nat.lt_of_lt_of_le (Heap.lt_size e) (I.ok.cab x c hfn hc)))).trans e1⟩
    · by_cases hj : j = i
      · subst hj
        rw [hi] at e1; cases e1
        rw [List.getElem?_set_self hiσ] at e2
        cases e2
        exact ⟨u, r, .inr ⟨.inl hk, c, hc, hc'⟩⟩
      · rw [List.getElem?_set_ne (Ne.symm hj)] at e2
        obtain ⟨u', r', q⟩ := hl j y v' e1 e2 e3
        refine ⟨u', r', ?_⟩
        rcases q with q | ⟨k, c', e, z'⟩
        · exact .inl q
        · refine .inr ⟨k, c', e, z'.sameBut hs ?_⟩
          rintro rfl
          exact hj (nodup_ix hN e1 (I.ok.inj _ _ _ e hc ▸ hi))
    · by_cases hcc : c' = c
      · subst hcc; exact ⟨_, hc'⟩
      · obtain ⟨w2, z2⟩ := I.cell y c' e
        exact ⟨w2, z2.sameBut hs hcc⟩
    · obtain ⟨e, n, ne, nf, d⟩ := I.pin p hp
      refine ⟨(hs.2 p.1 ?_).trans e, n, ne, nf, d⟩
      intro q
      rw [q, hoc] at e
      have q' : oc = p.2 := Option.some.inj e
      exact d w' (by rw [← q']; exact hocd)
theorem store_ok {M : Model} {A : Around} {E : Value → Shared → Prop} {i : Nat} {x : Str} {v : V} {u : Value} {Q : Unit → Shared → Prop} (I : Inv X pins σ H s) (hN : X.N.Nodup) (hi : X.N[i]? = some x) (hx : Loc X.env.scope x) (r : RelV v u)
    (h : ∀ s', Inv X pins (σ.set i (some v)) H s' → Q () s') (hf : X.fn x = true ∨ X.env.scope.names.lookup x = some .local := by first | exact .inl rfl | exact .inr rfl | assumption) (hfx : ∀ p ∈ X.fx, p.1 ≠ x := by first | exact fun p h => absurd (show p ∈ ([] : List (Str × Value)) from h) (by simp) | assumption) : wpAny M A (storeName X.env x u) Q E s :=
  store_ok2 I hN hi hx r (fun s' I' _ => h s' I') hf hfx
/-- behind a call or a block, the state as it is -/
theorem Inv.call' {s' : Shared} {ch : List Addr} (I : Inv X pins σ H s) (ho : s'.os = s.os) (u : Un (frs X.stack) ch H H' s.heap s'.heap) (hok : HOk X.prog X.w H' s'.heap) (hg : AllBare s'.gens)
    (hch : ∀ b ∈ ch, (b ∈ X.ex ∨ X.s₀.heap.objs.size ≤ b) ∧ b ≠ X.env.locals ∧ (∀ x c, X.env.cells.lookup x = some c → c ≠ b) ∧ ∀ p ∈ X.pn ++ pins, p.1 ≠ b) : Inv X pins σ H' s' := by
  obtain ⟨h', g', d', t', o'⟩ := s'
  have e : o' = s.os := ho
  subst e
  exact I.call (g' := g') (t' := t') (d' := d') u hok hg hch
end

/-! ### the judgements -/
/-- an exception: its class, its own dict's address (where it has one), the abstract heap behind it -/
abbrev XK := Value → Option Addr → Hp → Prop
abbrev St := List (Option V)
abbrev VK := V → Hp → Prop
/-- an expression's reading; a test's; an argument list's -/
abbrev TE := St → Hp → VK → Prop
abbrev TT := St → Hp → (Bool → Hp → Prop) → Prop
abbrev TA := St → Hp → (List V → Hp → Prop) → Prop
/-- what is wanted behind a statement -/
structure Ends where
  nx : St → Hp → Prop
  rt : VK
  bk : St → Hp → Prop := fun _ _ => False
  ct : St → Hp → Prop := fun _ _ => False
abbrev TS := Ends → St → Hp → Prop

def EP (X : Cx) (pins : List (Addr × Obj)) (σ : St) (Q : VK) (u : Value) (s' : Shared) : Prop := ∃ v H', Inv X pins σ H' s' ∧ RelV v u ∧ Q v H'
def TP (X : Cx) (pins : List (Addr × Obj)) (σ : St) (Q : Bool → Hp → Prop) (b : Bool) (s' : Shared) : Prop := ∃ H', Inv X pins σ H' s' ∧ Q b H'
def AP (X : Cx) (pins : List (Addr × Obj)) (σ : St) (Q : List V → Hp → Prop) (us : List Value) (s' : Shared) : Prop := ∃ vs H', Inv X pins σ H' s' ∧ Vals vs us ∧ Q vs H'
def SP (X : Cx) (pins : List (Addr × Obj)) (D : Ends) (f : Flow) (s' : Shared) : Prop :=
  match f with
  | .next => ∃ σ' H', Inv X pins σ' H' s' ∧ D.nx σ' H'
  | .brk => ∃ σ' H', Inv X pins σ' H' s' ∧ D.bk σ' H'
  | .cont => ∃ σ' H', Inv X pins σ' H' s' ∧ D.ct σ' H'
  | .ret u => ∃ v σ' H', Inv X pins σ' H' s' ∧ RelV v u ∧ D.rt v H'

def PE (X : Cx) (e : Expr) (t : TE) : Prop :=
  ∀ (pins : List (Addr × Obj)) (s : Shared) (σ : St) (H : Hp) (Q : VK), Inv X pins σ H s → t σ H Q → wpAny (model X.prog X.w) X.A (eval e X.env) (EP X pins σ Q) X.xe s
def PT (X : Cx) (e : Expr) (t : TT) : Prop :=
  ∀ (pins : List (Addr × Obj)) (s : Shared) (σ : St) (H : Hp) (Q : Bool → Hp → Prop), Inv X pins σ H s → t σ H Q → wpAny (model X.prog X.w) X.A (isTrue e X.env (eval e X.env)) (TP X pins σ Q) X.xe s
/-- a test whatever its 'whole' is (and, or) -/
def PW (X : Cx) (e : Expr) (t : TT) : Prop :=
  ∀ (whole : Sem Value) (pins : List (Addr × Obj)) (s : Shared) (σ : St) (H : Hp) (Q : Bool → Hp → Prop), Inv X pins σ H s → t σ H Q → wpAny (model X.prog X.w) X.A (isTrue e X.env whole) (TP X pins σ Q) X.xe s
theorem PW.pt {X : Cx} {e : Expr} {t : TT} (h : PW X e t) : PT X e t := h _
/-- an argument list (no star), from the left -/
def PA (X : Cx) (es : List Expr) (t : TA) : Prop :=
  ∀ (pos : Pos) (pins : List (Addr × Obj)) (s : Shared) (σ : St) (H : Hp) (Q : List V → Hp → Prop), Inv X pins σ H s → t σ H Q → wpAny (model X.prog X.w) X.A (spliced (backTo pos (starEach es X.env))) (AP X pins σ Q) X.xe s
def PS (X : Cx) (st : Stmt) (t : TS) : Prop :=
  ∀ (pins : List (Addr × Obj)) (s : Shared) (σ : St) (H : Hp) (D : Ends), Inv X pins σ H s → t D σ H → wpAny (model X.prog X.w) X.A (exec st X.env) (SP X pins D) X.xe s
def PSs (X : Cx) (st : List Stmt) (t : TS) : Prop :=
  ∀ (pins : List (Addr × Obj)) (s : Shared) (σ : St) (H : Hp) (D : Ends), Inv X pins σ H s → t D σ H → wpAny (model X.prog X.w) X.A (execs st X.env) (SP X pins D) X.xe s
/-- weaken the end -/
theorem thn {α : Type} {t : Sem α} {Q Q' : α → Shared → Prop} {M : Model} {A : Around} {E : Value → Shared → Prop} {s : Shared} (h : wpAny M A t Q E s) (hQ : ∀ a s, Q a s → Q' a s) : wpAny M A t Q' E s := wpAny_mono h hQ fun _ _ x => x
end L2

namespace L2
open PySem PySem.Spec PyProof.Rows
section
variable {X : Cx}

/-! ### names and constants -/
def tVar (i : Nat) : TE := fun σ H Q => ∃ v, σ[i]? = some (some v) ∧ Q v H
def tC (v : V) : TE := fun _ H Q => Q v H
theorem pe_var {i : Nat} {x : Str} {pos : Pos} (hN : X.N[i]? = some x) (hv : Vis X.env.scope x) (hd : (x == ("__debug__" : Str)) = false := by decide) (hcd : (x == ("__classdict__" : Str)) = false := by decide) : PE X (.Name x pos) (tVar i) := by
  intro pins s σ H Q I h
  obtain ⟨v, e, h⟩ := h
  obtain ⟨m, hn, hl⟩ := I.loc
  obtain ⟨u, r, l⟩ := hl i x v hN e hv
  have fin : EP X pins σ Q u s := ⟨v, H, I, r, h⟩
  rcases l with ⟨hk, hm⟩ | ⟨hk, c, hc, hcell⟩
  · exact wpAny_Name (wpAny_loadName_local I.ok.kind hk hn hm fin) hd
  · rcases hk with hk | hk
    · exact wpAny_Name (wpAny_loadName_cell I.ok.kind hk hc hcell fin) hd
    · exact wpAny_Name (wpAny_loadName_free I.ok.kind hk hc hcell fin hcd) hd
theorem pe_int {i j pos} : PE X (.Constant (.int i) j pos) (tC (.int i)) := fun _ _ _ H _ I h => wpAny_Constant_int ⟨.int i, H, I.tok _, ⟨_, rfl⟩, h⟩
theorem pe_bl {b j pos} : PE X (.Constant (.bool b) j pos) (tC (.bl b)) := fun _ _ _ H _ I h => Constant_bool ⟨.bl b, H, I, rfl, h⟩
theorem pe_non {j pos} : PE X (.Constant .none j pos) (tC .non) := fun _ _ _ H _ I h => Constant_none ⟨.non, H, I, rfl, h⟩
theorem pe_str {x j pos} : PE X (.Constant (.str x) j pos) (tC (.str x)) := fun _ _ _ H _ I h => Calls.Constant_str ⟨.str x, H, I.tok _, ⟨_, rfl⟩, h⟩

/-- a global name of the def -/
def Gl (X : Cx) (x : Str) : Prop := X.env.kindOf x = some .globalImplicit
theorem ld_glob {E : Value → Shared → Prop} {pins : List (Addr × Obj)} {s : Shared} {σ : St} {H : Hp} {x : Str} {u : Value} {pos : Pos} {Q : Value → Shared → Prop} (I : Inv X pins σ H s) (hg : Gl X x) (hm : X.mg x = some u) (h : Q u s)
    (hd : (x == ("__debug__" : Str)) = false := by decide) : wpAny (model X.prog X.w) X.A (eval (.Name x pos) X.env) Q E s :=
  Calls.Name_function_global I.ok.kind hg (Calls.loadGlobal_global (by rw [I.ok.glob]; exact I.mod.glob.keeps I.bk) hm h) hd
theorem ld_blt {E : Value → Shared → Prop} {pins : List (Addr × Obj)} {s : Shared} {σ : St} {H : Hp} {x : Str} {u : Value} {pos : Pos} {Q : Value → Shared → Prop} (I : Inv X pins σ H s) (hg : Gl X x) (hm : X.mg x = none) (hv : bootBuiltins x = some u) (h : Q u s)
    (hn : x ≠ "__name__" := by decide) (hd : (x == ("__debug__" : Str)) = false := by decide) : wpAny (model X.prog X.w) X.A (eval (.Name x pos) X.env) Q E s := by
  obtain ⟨mb, h1, h2⟩ := I.mod.blt
  exact Calls.Name_function_global I.ok.kind hg (Calls.loadGlobal_builtin (by rw [I.ok.glob]; exact I.mod.glob.keeps I.bk) hm (by rw [I.ok.blt]; exact h1.keeps I.bk) ((h2 x hn).trans hv) h) hd
/-- a module's constant, a class, a function, as a value -/
theorem pe_glob {x : Str} {v : V} {u : Value} {pos : Pos} (hg : Gl X x) (hm : X.mg x = some u) (r : RelV v u) (hd : (x == ("__debug__" : Str)) = false := by decide) : PE X (.Name x pos) (tC v) :=
  fun _ _ _ H _ I h => ld_glob I hg hm ⟨v, H, I, r, h⟩ hd
theorem pe_bltn {x : Str} {v : V} {u : Value} {pos : Pos} (hg : Gl X x) (hm : X.mg x = none) (hv : bootBuiltins x = some u) (r : RelV v u) (hn : x ≠ "__name__" := by decide) (hd : (x == ("__debug__" : Str)) = false := by decide) : PE X (.Name x pos) (tC v) :=
  fun _ _ _ H _ I h => ld_blt I hg hm hv ⟨v, H, I, r, h⟩ hn hd

/-! ### arithmetic -/
/-- two ints -/
def t2I (ta tb : TE) (k : Int → Int → Hp → Prop) : St → Hp → Prop := fun σ H => ta σ H fun x H1 => tb σ H1 fun y H2 => ∃ i j, x = .int i ∧ y = .int j ∧ k i j H2
def tAdd (ta tb : TE) : TE := fun σ H Q => t2I ta tb (fun i j H2 => Q (.int (i + j)) H2) σ H
def tSub (ta tb : TE) : TE := fun σ H Q => t2I ta tb (fun i j H2 => Q (.int (i - j)) H2) σ H
/-- the left factor below 2^64 -/
def tMul (ta tb : TE) : TE := fun σ H Q => t2I ta tb (fun i j H2 => (-(2 ^ 64) < i ∧ i < 2 ^ 64) ∧ Q (.int (i * j)) H2) σ H
variable {a b : Expr} {ta tb : TE} {pos : Pos}
/-! ### comparisons -/
def PC (X : Cx) (op : CmpOp) (a b : Expr) (t : TE) : Prop :=
  ∀ (pins : List (Addr × Obj)) (s : Shared) (σ : St) (H : Hp) (Q : VK), Inv X pins σ H s → t σ H Q →
    wpAny (model X.prog X.w) X.A (eval a X.env) (fun v s₁ => wpAny (model X.prog X.w) X.A (eval b X.env) (fun u s₂ => wpAny (model X.prog X.w) X.A (compareOp op v u) (EP X pins σ Q) X.xe s₂) X.xe s₁) X.xe s
def tCmp (p : Int → Int → Bool) (ta tb : TE) : TE := fun σ H Q => t2I ta tb (fun i j H2 => Q (.bl (p i j)) H2) σ H
abbrev tLt : TE → TE → TE := tCmp fun i j => decide (i < j)
abbrev tLe : TE → TE → TE := tCmp fun i j => decide (i ≤ j)
abbrev tGt : TE → TE → TE := tCmp fun i j => decide (j < i)
abbrev tGe : TE → TE → TE := tCmp fun i j => decide (j ≤ i)
abbrev tEqI : TE → TE → TE := tCmp fun i j => decide (i = j)
abbrev tNeI : TE → TE → TE := tCmp fun i j => !decide (i = j)
/-- is None -/
def tIsN (ta : TE) : TE := fun σ H Q => ta σ H fun x H1 => Q (.bl (decide (x = .non))) H1
def tNotN (ta : TE) : TE := fun σ H Q => ta σ H fun x H1 => Q (.bl (!decide (x = .non))) H1
/-- a comparison as a value, as a test -/
def tB (t : TE) : TT := fun σ H Q => t σ H fun x H1 => ∃ c, x = .bl c ∧ Q c H1
/-- an expression whose value is a bool, as a test -/
theorem pt_val {e : Expr} {t : TE} (h : PE X e t) (he : ∀ whole, isTrue e X.env whole = (do let v ← whole; standAt e.pos; holding [v] (truthy v)) := by intro _; rfl) : PT X e (tB t) := by
  intro pins s σ H Q I hw
  refine isTrue_plain (thn (h pins s σ H _ I hw) fun v s1 ⟨x, H1, I1, r1, q1⟩ => ?_) (he _)
  obtain ⟨d, rfl, q⟩ := q1
  cases r1
  exact wpAny_truthy_bool ⟨H1, I1, q⟩

/-! ### and, or, not -/
variable {tA tB' : TT} {rest : List Expr}
def tAnd (t u : TT) : TT := fun σ H Q => t σ H fun c H1 => if c = true then u σ H1 Q else Q false H1
def tOr (t u : TT) : TT := fun σ H Q => t σ H fun c H1 => if c = true then Q true H1 else u σ H1 Q
def tNot (t : TT) : TT := fun σ H Q => t σ H fun c H1 => Q (!c) H1
theorem pw_and1 (ha : PT X a tA) : PW X (.BoolOp .And [a] pos) tA := by
  intro wh pins s σ H Q I h
  refine isTrue_and (thn (ha pins s σ H Q I h) fun c s1 e => ?_)
  cases c with
  | true => exact isTrue_and_nil e
  | false => exact e
theorem pw_or1 (ha : PT X a tA) : PW X (.BoolOp .Or [a] pos) tA := by
  intro wh pins s σ H Q I h
  refine isTrue_or (thn (ha pins s σ H Q I h) fun c s1 e => ?_)
  cases c with
  | false => exact isTrue_or_nil e
  | true => exact e
theorem pw_and (ha : PT X a tA) (hb : PW X (.BoolOp .And (b :: rest) pos) tB') : PW X (.BoolOp .And (a :: b :: rest) pos) (tAnd tA tB') := by
  intro wh pins s σ H Q I h
  refine isTrue_and (thn (ha pins s σ H _ I h) fun c s1 ⟨H1, I1, q1⟩ => ?_)
  cases c with
  | true => exact hb wh pins s1 σ H1 Q I1 q1
  | false => exact ⟨H1, I1, q1⟩
theorem pw_or (ha : PT X a tA) (hb : PW X (.BoolOp .Or (b :: rest) pos) tB') : PW X (.BoolOp .Or (a :: b :: rest) pos) (tOr tA tB') := by
  intro wh pins s σ H Q I h
  refine isTrue_or (thn (ha pins s σ H _ I h) fun c s1 ⟨H1, I1, q1⟩ => ?_)
  cases c with
  | true => exact ⟨H1, I1, q1⟩
  | false => exact hb wh pins s1 σ H1 Q I1 q1
theorem pt_not (ha : PT X a tA) : PT X (.UnaryOp .Not a pos) (tNot tA) := by
  intro pins s σ H Q I h
  exact isTrue_not (ha pins s σ H (fun c H1 => Q (!c) H1) I h)
/-- .. as values (bools) -/
def tAndV (ta tb : TE) : TE := fun σ H Q => ta σ H fun x H1 => ∃ c, x = .bl c ∧ if c = true then tb σ H1 Q else Q (.bl false) H1
def tOrV (ta tb : TE) : TE := fun σ H Q => ta σ H fun x H1 => ∃ c, x = .bl c ∧ if c = true then Q (.bl true) H1 else tb σ H1 Q
def tNotV (ta : TE) : TE := fun σ H Q => ta σ H fun x H1 => ∃ c, x = .bl c ∧ Q (.bl (!c)) H1
theorem pe_one {op} {t : TE} (h : PE X a t) : PE X (.BoolOp op [a] pos) t := fun pins s σ H Q I hw => BoolOp_one (h pins s σ H Q I hw)
theorem pe_and (ha : PE X a ta) (hb : PE X (.BoolOp .And (b :: rest) pos) tb) : PE X (.BoolOp .And (a :: b :: rest) pos) (tAndV ta tb) := by
  intro pins s σ H Q I h
  refine BoolOp_and (thn (ha pins s σ H _ I h) fun v s1 ⟨x, H1, I1, r1, q1⟩ => ?_)
  obtain ⟨c, rfl, q1⟩ := q1
  cases r1
  refine wpAny_truthy_bool ?_
  cases c with
  | true => exact hb pins s1 σ H1 Q I1 q1
  | false => exact ⟨.bl false, H1, I1, rfl, q1⟩
/-- a if t else b -/
def tIf (t : TT) (ta tb : TE) : TE := fun σ H Q => t σ H fun c H1 => if c = true then ta σ H1 Q else tb σ H1 Q
end
end L2

namespace L2
open PySem PySem.Spec PyProof.Rows

/-! ### a list, a tuple that is read: tracked, frozen, or an object of the module -/
def SqL (K : PySem.W.Frag) (H : Hp) (a : Addr) (xs : List V) : Prop :=
  Rd H a (.lst xs) ∨
    ∃ (o : Obj) (its : Array Value) (n : Nat), K.lookup a = some o ∧ o.cls = .type "list" ∧ o.dict = none ∧ o.data = .seq its n ∧ its.size ≤ sizeLine ∧ Vals xs its.toList
def SqT (K : PySem.W.Frag) (H : Hp) (a : Addr) (xs : List V) : Prop :=
  Rd H a (.tup xs) ∨
    ∃ (o : Obj) (its : Array Value) (n : Nat), K.lookup a = some o ∧ o.cls = .type "tuple" ∧ o.data = .seq its n ∧ its.size ≤ sizeLine ∧ Vals xs its.toList
def absV : Value → Option V
  | .none => some .non
  | .bool b => some (.bl b)
  | .int i _ => some (.int i)
  | .str x _ => some (.str x)
  | .bytes b _ => some (.byt b)
  | .float b _ => some (.flt b)
  | .ref a => some (.ref a)
  | .type n => some (.ty n)
  | _ => none
theorem RelV.abs {x : V} {u : Value} (r : RelV x u) : absV u = some x := by
  cases x with
  | non => cases r; rfl
  | bl _ => cases r; rfl
  | int _ => obtain ⟨t, rfl⟩ := r; rfl
  | str _ => obtain ⟨t, rfl⟩ := r; rfl
  | byt _ => obtain ⟨t, rfl⟩ := r; rfl
  | flt _ => obtain ⟨t, rfl⟩ := r; rfl
  | ref _ => cases r; rfl
  | ty _ => cases r; rfl
theorem RelV.inj {x y : V} {u : Value} (r : RelV x u) (q : RelV y u) : x = y := Option.some.inj (r.abs.symm.trans q.abs)
theorem Vals.inj : ∀ {xs ys : List V} {us : List Value}, Vals xs us → Vals ys us → xs = ys
  | _, _, _, .nil, .nil => rfl
  | _, _, _, .cons r t, .cons r' t' => by rw [r.inj r', Vals.inj t t']
section
variable {X : Cx} {pins : List (Addr × Obj)} {σ : St} {H : Hp} {s : Shared} {a : Addr} {xs ys : List V}
theorem SqL.of {K : PySem.W.Frag} (h : H a = some (.lst xs)) : SqL K H a xs := .inl (.inl h)
theorem SqT.of {K : PySem.W.Frag} (h : H a = some (.tup xs)) : SqT K H a xs := .inl (.inl h)
theorem Inv.list (I : Inv X pins σ H s) (h : SqL X.K H a xs) : ∃ its : List Value, Vals xs its ∧ PlainL s.heap a its.toArray ∧ xs.length ≤ sizeLine := by
  rcases h with h | ⟨o, its, n, hk, hc, hd, hs, hz, r⟩
  · obtain ⟨z, its, n, r, e⟩ := h.ok I.hok
    exact ⟨its, r, ⟨_, n, e, rfl, rfl, rfl⟩, z⟩
  · refine ⟨its.toList, r, ⟨o, n, I.kIn a o hk, hc, hd, by simpa using hs⟩, ?_⟩
    have e := r.length
    simp only [Array.length_toList] at e
    omega
theorem Inv.tuple (I : Inv X pins σ H s) (h : SqT X.K H a xs) : ∃ its : List Value, Vals xs its ∧ IsTup s.heap a its.toArray ∧ xs.length ≤ sizeLine := by
  rcases h with h | ⟨o, its, n, hk, hc, hs, hz, r⟩
  · obtain ⟨z, its, r, p⟩ := h.ok I.hok
    exact ⟨its, r, p, z⟩
  · refine ⟨its.toList, r, ⟨o, I.kIn a o hk, hc, n, by simpa using hs⟩, ?_⟩
    have e := r.length
    simp only [Array.length_toList] at e
    omega
theorem Inv.list_inj (I : Inv X pins σ H s) (h : SqL X.K H a xs) (h' : SqL X.K H a ys) : xs = ys := by
  obtain ⟨its, r, ⟨o, n, e, _, _, d⟩, _⟩ := I.list h
  obtain ⟨its', r', ⟨o', n', e', _, _, d'⟩, _⟩ := I.list h'
  rw [e] at e'; cases e'
  rw [d] at d'
  injection d' with d1 _
  have : its = its' := by simpa using congrArg Array.toList d1
  subst this
  exact r.inj r'
theorem Inv.tuple_inj (I : Inv X pins σ H s) (h : SqT X.K H a xs) (h' : SqT X.K H a ys) : xs = ys := by
  obtain ⟨its, r, ⟨o, e, _, n, d⟩, _⟩ := I.tuple h
  obtain ⟨its', r', ⟨o', e', _, n', d'⟩, _⟩ := I.tuple h'
  rw [e] at e'; cases e'
  rw [d] at d'
  injection d' with d1 _
  have : its = its' := by simpa using congrArg Array.toList d1
  subst this
  exact r.inj r'
end

/-! ### another wish about exceptions -/
abbrev Cx.wish (X : Cx) (E : Value → Shared → Prop) : Cx := { X with xe := E }
/-- no exception leaves -/
abbrev Cx.nox (X : Cx) : Cx := X.wish fun _ _ => False
theorem Cx.Ok.wish {X : Cx} (ok : X.Ok) (E : Value → Shared → Prop) : (X.wish E).Ok :=
  ⟨ok.mod, ok.kind, ok.glob, ok.blt, ok.above, ok.inj, ok.has, ok.cab, ok.hd, ok.frames, ok.stk, ok.exf, ok.bs, ok.bsz, ok.noex, ok.exfs, ok.funs, ok.frf⟩
theorem Cx.Ok.unwish {X : Cx} {E : Value → Shared → Prop} (ok : (X.wish E).Ok) : X.Ok :=
  ⟨ok.mod, ok.kind, ok.glob, ok.blt, ok.above, ok.inj, ok.has, ok.cab, ok.hd, ok.frames, ok.stk, ok.exf, ok.bs, ok.bsz, ok.noex, ok.exfs, ok.funs, ok.frf⟩
section
variable {X : Cx} {pins : List (Addr × Obj)} {σ : St} {H : Hp} {s : Shared} {E : Value → Shared → Prop}
theorem Inv.wish (I : Inv X pins σ H s) (E : Value → Shared → Prop) : Inv (X.wish E) pins σ H s := ⟨I.ok.wish E, I.os, I.bare, I.base, I.loc, I.cell, I.free, I.freeC, I.pin, I.hok, I.len, I.tr, I.fix⟩
theorem Inv.unwish (I : Inv (X.wish E) pins σ H s) : Inv X pins σ H s := ⟨I.ok.unwish, I.os, I.bare, I.base, I.loc, I.cell, I.free, I.freeC, I.pin, I.hok, I.len, I.tr, I.fix⟩
theorem SP.unwish {D : Ends} {f : Flow} {s' : Shared} (h : SP (X.wish E) pins D f s') : SP X pins D f s' := by
  cases f with
  | next => obtain ⟨σ', H', I, q⟩ := h; exact ⟨σ', H', I.unwish, q⟩
  | brk => obtain ⟨σ', H', I, q⟩ := h; exact ⟨σ', H', I.unwish, q⟩
  | cont => obtain ⟨σ', H', I, q⟩ := h; exact ⟨σ', H', I.unwish, q⟩
  | ret u => obtain ⟨v, σ', H', I, r, q⟩ := h; exact ⟨v, σ', H', I.unwish, r, q⟩
theorem PSs.nox {st : List Stmt} {t : TS} (h : PSs X.nox st t) : PSs X st t := fun pins s σ H D I hw =>
  wpAny_mono (h pins s σ H D (I.wish _) hw) (fun _ _ q => q.unwish) fun _ _ z => False.elim z
end

/-! ### blocks and small statements -/
section
variable {X : Cx} {st : Stmt} {rest : List Stmt} {t u : TS} {e : Expr} {te : TE} {pos : Pos}
def tNext : TS := fun D σ H => D.nx σ H
def tSeq (t u : TS) : TS := fun D σ H => t { D with nx := u D } σ H
theorem pss_nil : PSs X [] tNext := fun _ _ σ H _ I h => wpAny_execs_nil ⟨σ, H, I, h⟩
theorem pss_cons (h1 : PS X st t) (h2 : PSs X rest u) : PSs X (st :: rest) (tSeq t u) := by
  intro pins s σ H D I h
  refine wpAny_execs_cons (thn (h1 pins s σ H { D with nx := u D } I h) fun f s1 q => ?_)
  cases f with
  | next =>
    obtain ⟨σ', H', I', q⟩ := q
    exact h2 pins s1 σ' H' D I' q
  | ret v => exact q
  | brk => exact q
  | cont => exact q
theorem pss_one (h1 : PS X st t) : PSs X [st] t := by
  intro pins s σ H D I h
  refine wpAny_execs_cons (thn (h1 pins s σ H D I h) fun f s1 q => ?_)
  cases f with
  | next => exact wpAny_execs_nil q
  | ret v => exact q
  | brk => exact q
  | cont => exact q
def tBreak : TS := fun D σ H => D.bk σ H
def tCont : TS := fun D σ H => D.ct σ H
/-- in a def's body nothing is shown -/
theorem Inv.quiet {pins : List (Addr × Obj)} {σ : St} {H : Hp} {s : Shared} (I : Inv X pins σ H s) : interactive X.env = false := by simp [interactive, I.ok.kind]
/-- an expression whose value is dropped -/
def tDrop (te : TE) : TS := fun D σ H => te σ H fun _ H1 => D.nx σ H1
theorem ps_expr (he : PE X e te) (hs : swapsWith e none pos.line X.env = pure false := by rfl) : PS X (.Expr e pos) (tDrop te) := by
  intro pins s σ H D I h
  exact wpAny_Expr_any (thn (he pins s σ H _ I h) fun v s1 ⟨x, H1, I1, r1, q1⟩ => ⟨σ, H1, I1, q1⟩) I.quiet hs
def tRet (te : TE) : TS := fun D σ H => te σ H D.rt
theorem ps_ret (he : PE X e te) : PS X (.Return (some e) pos) (tRet te) := by
  intro pins s σ H D I h
  exact wpAny_Return_some (thn (he pins s σ H _ I h) fun v s1 ⟨x, H1, I1, r1, q1⟩ => ⟨x, σ, H1, I1, r1, q1⟩)
def tRetN : TS := fun D _ H => D.rt .non H
def tIfS (c : TT) (t u : TS) : TS := fun D σ H => c σ H fun b H1 => if b = true then t D σ H1 else u D σ H1
theorem ps_if {c : Expr} {a b : List Stmt} {tc : TT} (hc : PT X c tc) (ha : PSs X a t) (hb : PSs X b u) : PS X (.If c a b pos) (tIfS tc t u) := by
  intro pins s σ H D I h
  refine wpAny_If (thn (hc pins s σ H _ I h) fun d s1 ⟨H1, I1, q1⟩ => ?_)
  cases d with
  | true => exact ha pins s1 σ H1 D I1 q1
  | false => exact hb pins s1 σ H1 D I1 q1
/-- code that the proof never comes to -/
def tNever : TS := fun _ _ _ => False
end

/-! ### targets -/
abbrev TG := V → St → Hp → (St → Hp → Prop) → Prop
abbrev TGs := List V → St → Hp → (St → Hp → Prop) → Prop
def PG (X : Cx) (target : Expr) (t : TG) : Prop :=
  ∀ (pins : List (Addr × Obj)) (s : Shared) (σ : St) (H : Hp) (v : V) (u : Value) (Q : St → Hp → Prop), Inv X pins σ H s → RelV v u → t v σ H Q →
    wpAny (model X.prog X.w) X.A (assign target X.env u) (fun _ s' => ∃ σ' H', Inv X pins σ' H' s' ∧ Q σ' H') X.xe s
/-- several targets, one after another -/
def PGs (X : Cx) (ts : List Expr) (t : TGs) : Prop :=
  ∀ (pins : List (Addr × Obj)) (s : Shared) (σ : St) (H : Hp) (vs : List V) (us : List Value) (Q : St → Hp → Prop), Inv X pins σ H s → Vals vs us → t vs σ H Q →
    wpAny (model X.prog X.w) X.A (assignInOrder ((assignEach ts X.env).map (·.2)) us) (fun _ s' => ∃ σ' H', Inv X pins σ' H' s' ∧ Q σ' H') X.xe s
/-- o[i] = v, by values -/
abbrev TSet := V → V → V → Hp → (Hp → Prop) → Prop
def PSet (X : Cx) (t : TSet) : Prop :=
  ∀ (pins : List (Addr × Obj)) (s : Shared) (σ : St) (H : Hp) (o i v : V) (ov iv u : Value) (Q : Hp → Prop), Inv X pins σ H s → RelV o ov → RelV i iv → RelV v u → t o i v H Q →
    wpAny (model X.prog X.w) X.A (setItem ov iv u) (fun _ s' => ∃ H', Inv X pins σ H' s' ∧ Q H') X.xe s
/-- a op= b, by values -/
abbrev TIp := V → V → Hp → VK → Prop
def PIp (X : Cx) (op : Operator) (t : TIp) : Prop :=
  ∀ (pins : List (Addr × Obj)) (s : Shared) (σ : St) (H : Hp) (x y : V) (v u : Value) (Q : VK), Inv X pins σ H s → RelV x v → RelV y u → t x y H Q →
    wpAny (model X.prog X.w) X.A (inplaceOp op v u) (EP X pins σ Q) X.xe s
section
variable {X : Cx} {pos : Pos}
def gName (i : Nat) : TG := fun v σ H Q => Q (σ.set i (some v)) H
theorem pg_name {i : Nat} {x : Str} (hN : X.N.Nodup) (hi : X.N[i]? = some x) (hx : Loc X.env.scope x) (hf : X.fn x = true ∨ X.env.scope.names.lookup x = some .local := by first | exact .inl rfl | exact .inr rfl | assumption) (hfx : ∀ p ∈ X.fx, p.1 ≠ x := by first | exact fun p h => absurd (show p ∈ ([] : List (Str × Value)) from h) (by simp) | assumption) : PG X (.Name x pos) (gName i) := by
  intro pins s σ H v u Q I r h
  exact wpAny_assign_Name (store_ok I hN hi hx r (fun s' I' => ⟨_, H, I', h⟩) hf hfx)
def gNil : TGs := fun vs σ H Q => vs = [] ∧ Q σ H
def gCons (t : TG) (u : TGs) : TGs := fun vs σ H Q => ∃ v r, vs = v :: r ∧ t v σ H fun σ' H' => u r σ' H' Q
theorem pgs_nil : PGs X [] gNil := by
  intro pins s σ H vs us Q I r h
  obtain ⟨e, h⟩ := h
  subst e
  cases r
  exact assignInOrder_nil ⟨σ, H, I, h⟩
theorem pgs_cons {e : Expr} {es : List Expr} {t : TG} {u : TGs} (h1 : PG X e t) (h2 : PGs X es u)
    (hs : (assignEach (e :: es) X.env).map (·.2) = assign e X.env :: (assignEach es X.env).map (·.2) := by rfl) : PGs X (e :: es) (gCons t u) := by
  intro pins s σ H vs us Q I r h
  obtain ⟨v, vr, e1, h⟩ := h
  subst e1
  cases r with
  | cons r rr =>
    rw [hs]
    refine assignInOrder_cons (thn (h1 pins s σ H _ _ _ I r h) fun _ s1 ⟨σ1, H1, I1, q1⟩ => ?_)
    exact h2 pins s1 σ1 H1 _ _ Q I1 rr q1
/-- (a, b, ..) = a tuple of that length -/
def gTup (K : PySem.W.Frag) (n : Nat) (t : TGs) : TG := fun v σ H Q => ∃ a xs, v = .ref a ∧ SqT K H a xs ∧ xs.length = n ∧ t xs σ H Q
theorem pg_tup {es : List Expr} {k : Nat} {t : TGs} {n : Nat} (hc : X.A.handled = none) (h : PGs X es t)
    (hn : (assignEach es X.env).length = n := by rfl) (hst : (assignEach es X.env).findIdx? (·.1) = none := by rfl) : PG X (.Tuple es k pos) (gTup X.K n t) := by
  intro pins s σ H v u Q I r hw
  obtain ⟨a, xs, e1, hq, hl, hw⟩ := hw
  subst e1
  cases r
  obtain ⟨its, rv, ht, hz⟩ := I.tuple hq
  refine assign_Tuple_tuple hc ht (by simp [hn, ← hl, rv.length]) hst fun h' hx => ?_
  have I1 : Inv X pins σ H { s with heap := h' } := I.kept (t' := s.toks) fun b o e => hx b o (Nat.ne_of_lt (Heap.lt_size e)) e
  exact h pins _ σ H xs _ Q I1 (by simpa using rv) hw
/-- o[i] = .. -/
def gSub (to ti : TE) (t : TSet) : TG := fun v σ H Q => to σ H fun o H1 => ti σ H1 fun i H2 => t o i v H2 fun H3 => Q σ H3
theorem pg_sub {o i : Expr} {to ti : TE} {t : TSet} (ho : PE X o to) (hi : PE X i ti) (hs : PSet X t)
    (ha : ∀ v, assign (.Subscript o i pos) X.env v = (do
      let ov ← holding [v] (eval o X.env)
      let iv ← holding [v, ov] (eval i X.env)
      standAt pos
      holding [v, ov, iv] (setItem ov iv v)
      release [v, ov, iv] []) := by intro _; rfl) : PG X (.Subscript o i pos) (gSub to ti t) := by
  intro pins s σ H v u Q I r h
  rw [ha]
  refine wpAny_bind (wpAny_holding (thn (ho pins s σ H _ I h) fun ov s1 ⟨x, H1, I1, r1, q1⟩ => ?_))
  refine wpAny_bind (wpAny_holding (thn (hi pins s1 σ H1 _ I1 q1) fun iv s2 ⟨y, H2, I2, r2, q2⟩ => ?_))
  refine wpAny_bind (wpAny_standAt (wpAny_bind (wpAny_holding (thn (hs pins s2 σ H2 x y v ov iv u _ I2 r1 r2 r q2) fun _ s3 ⟨H3, I3, q3⟩ => ?_))))
  exact wpAny_release ⟨σ, H3, I3, q3⟩
/-- target = value -/
def tAsg (te : TE) (g : TG) : TS := fun D σ H => te σ H fun x H1 => g x σ H1 D.nx
theorem ps_asg {tg e : Expr} {te : TE} {g : TG} (he : PE X e te) (hg : PG X tg g) (hs : swapsWithSole [tg] e pos.line X.env = pure false := by rfl) (hw : swappedStores [tg] e X.env = pure none := by rfl)
    (h1 : (assignEach [tg] X.env).map (·.2) = [assign tg X.env] := by rfl) : PS X (.Assign [tg] e pos) (tAsg te g) := by
  intro pins s σ H D I h
  refine wpAny_Assign_stores (thn (he pins s σ H _ I h) fun v s1 ⟨x, H1, I1, r1, q1⟩ => ?_) hs hw
  rw [h1]
  exact thn (hg pins s1 σ H1 x v _ I1 r1 q1) fun _ s2 q => q
/-- name = value -/
theorem ps_set {i : Nat} {x : Str} {e : Expr} {te : TE} {pos' : Pos} (hN : X.N.Nodup) (hi : X.N[i]? = some x) (hx : Loc X.env.scope x) (he : PE X e te) (hs : swapsWith e (some (.Name x pos')) pos.line X.env = pure false := by rfl) (hf : X.fn x = true ∨ X.env.scope.names.lookup x = some .local := by first | exact .inl rfl | exact .inr rfl | assumption) (hfx : ∀ p ∈ X.fx, p.1 ≠ x := by first | exact fun p h => absurd (show p ∈ ([] : List (Str × Value)) from h) (by simp) | assumption) :
    PS X (.Assign [.Name x pos'] e pos) (tAsg te (gName i)) := by
  intro pins s σ H D I h
  refine wpAny_Assign_Name (thn (he pins s σ H _ I h) fun v s1 ⟨y, H1, I1, r1, q1⟩ => ?_) hs
  exact store_ok I1 hN hi hx r1 (fun s2 I2 => ⟨_, H1, I2, q1⟩) hf hfx
/-- a, b = x, y with plain local names: stored from the right; the pair itself is not tracked (the opening rows as in PyProof/Rows/TupAssign.lean:23) -/
def tPar (i j : Nat) (ta : TA) : TS := fun D σ H => ta σ H fun vs H1 => ∃ v w, vs = [v, w] ∧ D.nx ((σ.set i (some v)).set j (some w)) H1
/-- name op= e -/
def tAug (i : Nat) (te : TE) (ti : TIp) : TS := fun D σ H => ∃ x, σ[i]? = some (some x) ∧ te σ H fun y H1 => ti x y H1 fun z H2 => D.nx (σ.set i (some z)) H2
/-- o[i] op= e -/
def tAugS (to ti te : TE) (tget : V → V → Hp → VK → Prop) (tip : TIp) (tset : TSet) : TS := fun D σ H => to σ H fun o H1 => ti σ H1 fun i H2 => tget o i H2 fun x H3 => te σ H3 fun y H4 => tip x y H4 fun z H5 => tset o i z H5 fun H6 => D.nx σ H6
/-- o[i], by values -/
def PGet (X : Cx) (t : V → V → Hp → VK → Prop) : Prop :=
  ∀ (pins : List (Addr × Obj)) (s : Shared) (σ : St) (H : Hp) (o i : V) (ov iv : Value) (Q : VK), Inv X pins σ H s → RelV o ov → RelV i iv → t o i H Q →
    wpAny (model X.prog X.w) X.A (getItem ov iv) (EP X pins σ Q) X.xe s
/-- ints -/
def ipI (f : Int → Int → Int) : TIp := fun x y H Q => ∃ i j, x = .int i ∧ y = .int j ∧ Q (.int (f i j)) H
end

/-! ### while -/
section
variable {X : Cx} {pos : Pos}
/-- the invariant W with its measure -/
def tWhile (c : TT) (tb : TS) : TS := fun D σ H => ∃ W : Nat → St → Hp → Prop, (∃ m, W m σ H) ∧ ∀ m σ H, W m σ H →
  c σ H fun b H1 => if b = true then ∃ N : St → Hp → Prop, (∀ σ' H', N σ' H' → ∃ m', m' < m ∧ W m' σ' H') ∧ tb { D with nx := N, ct := N, bk := D.nx } σ H1 else D.nx σ H1
theorem ps_while {c : Expr} {body : List Stmt} {tc : TT} {tb : TS} (hp : PassesOwn (model X.prog X.w) X.A X.env X.xe) (hc : PT X c tc) (hb : PSs X body tb) : PS X (.While c body [] pos) (tWhile tc tb) := by
  intro pins s σ H D I h
  obtain ⟨W, ⟨m0, w0⟩, turn⟩ := h
  refine wpAny_While (codeAny_whileLoop (fun n s' => ∃ σ' H', Inv X pins σ' H' s' ∧ W n σ' H') ?_ m0 ⟨σ, H, I, w0⟩)
  rintro n s1 ⟨σ1, H1, I1, w1⟩
  refine wpAny_passesOwn hp (thn (hc pins s1 σ1 H1 _ I1 (turn n σ1 H1 w1)) fun b s2 ⟨H2, I2, q2⟩ => ?_)
  cases b with
  | true =>
    obtain ⟨N, hN, q2⟩ := q2
    rw [if_pos rfl]
    refine wpAny_passesOwn hp (thn (hb pins s2 σ1 H2 _ I2 q2) fun f s3 q3 => ?_)
    cases f with
    | next =>
      obtain ⟨σ3, H3, I3, n3⟩ := q3
      obtain ⟨m', hm, w3⟩ := hN σ3 H3 n3
      exact ⟨m', hm, σ3, H3, I3, w3⟩
    | cont =>
      obtain ⟨σ3, H3, I3, n3⟩ := q3
      obtain ⟨m', hm, w3⟩ := hN σ3 H3 n3
      exact ⟨m', hm, σ3, H3, I3, w3⟩
    | brk => exact q3
    | ret v => exact q3
  | false =>
    rw [if_neg Bool.false_ne_true]
    exact wpAny_execs_nil ⟨σ1, H2, I2, q2⟩
end

/-! ### what a loop or a comprehension walks -/
/-- at turn i: it yields x (the heap may grow), or it stops -/
structure It where
  go : Nat → Hp → Prop
  yld : Nat → Hp → V → Hp → Prop
  stop : Nat → Hp → Prop
/-- the iterator's own objects may turn: they are not the frame's, not pinned, younger than the entry (or a comprehension's own) -/
def FpOk (X : Cx) (pins : List (Addr × Obj)) (H : Hp) (b : Addr) : Prop :=
  H b = none ∧ b ≠ X.env.locals ∧ b ∉ X.fs ∧ (b ∈ X.ex ∨ X.s₀.heap.objs.size ≤ b) ∧ (∀ x c, X.env.cells.lookup x = some c → c ≠ b) ∧ ∀ p ∈ X.pn ++ pins, p.1 ≠ b
theorem Inv.fpOk {X : Cx} {pins : List (Addr × Obj)} {σ : St} {H H' : Hp} {s : Shared} {b : Addr} (I : Inv X pins σ H s) (hb : s.heap.objs.size ≤ b) (hn : H' b = none) : FpOk X pins H' b := by
  refine ⟨hn, Nat.ne_of_gt (Nat.lt_of_lt_of_le I.lt hb), I.nofs hb, .inr (Nat.le_trans I.sz hb), fun x c e z => ?_, fun p hp z => ?_⟩
  · obtain ⟨v, q⟩ := I.cell x c e
    exact absurd (Nat.lt_of_lt_of_le q.lt (by rw [z]; exact hb)) (Nat.lt_irrefl _)
  · exact absurd (Nat.lt_of_lt_of_le (Heap.lt_size (I.pin p hp).1) (by rw [z]; exact hb)) (Nat.lt_irrefl _)
structure Turn (P : Program) (w : World) (K : PySem.W.Frag) (tg : Expr) (J : It) (fp : List Addr) (it : Addr) (tn : Nat → Heap → Prop) : Prop where
  mem : it ∈ fp
  obj : ∀ i h, tn i h → ∀ b ∈ fp, ∃ o, h.get? b = some o ∧ ∀ v, o.data ≠ .cell v
  keep : ∀ i h h', tn i h → (∀ b ∈ fp, ∀ o, h.get? b = some o → h'.get? b = some o) → tn i h'
  item : ∀ (X : Cx), X.prog = P → X.w = w → X.K = K → X.calm = true → ∀ (i : Nat) (pins : List (Addr × Obj)) (s : Shared) (σ : St) (H : Hp) (E : Value → Shared → Prop), Inv X pins σ H s → (∀ b ∈ fp, FpOk X pins H b) → tn i s.heap → J.go i H →
    wpAny (model P w) X.A (pyNext (.ref it)) (fun r s1 => ∃ u, r = some u ∧
      wpAny (model P w) X.A (letOwnedTupleGo tg (.ref it) u) (fun _ s2 => ∃ x H', Inv X pins σ H' s2 ∧ RelV x u ∧ J.yld i H x H' ∧ tn (i + 1) s2.heap ∧ ∀ b ∈ fp, H' b = none) E s1) E s
  done : ∀ (X : Cx), X.prog = P → X.w = w → X.K = K → X.calm = true → ∀ (i : Nat) (pins : List (Addr × Obj)) (s : Shared) (σ : St) (H : Hp) (E : Value → Shared → Prop), Inv X pins σ H s → (∀ b ∈ fp, FpOk X pins H b) → tn i s.heap → J.stop i H →
    wpAny (model P w) X.A (pyNext (.ref it)) (fun r s1 => r = none ∧ Inv X pins σ H s1) E s
  self : ∀ (A : Around) (i : Nat) (s : Shared) (Q : Value → Shared → Prop) (E : Value → Shared → Prop), tn i s.heap → Q (.ref it) s → wpAny (model P w) A (pyIter (.ref it)) Q E s
abbrev TI := St → Hp → (It → Hp → Prop) → Prop
/-- an iterator has come -/
def PIE (X : Cx) (pins : List (Addr × Obj)) (σ : St) (tg : Expr) (R : It → Hp → Prop) (itv : Value) (s2 : Shared) : Prop :=
  ∃ (it : Addr) (fp : List Addr) (tn : Nat → Heap → Prop) (J : It) (H' : Hp), itv = .ref it ∧ Inv X pins σ H' s2 ∧ Turn X.prog X.w X.K tg J fp it tn ∧ tn 0 s2.heap ∧ (∀ b ∈ fp, FpOk X pins H' b) ∧ R J H'
def PI (X : Cx) (tg iter : Expr) (wi : TI) : Prop :=
  ∀ (pins : List (Addr × Obj)) (s : Shared) (σ : St) (H : Hp) (R : It → Hp → Prop), Inv X pins σ H s → wi σ H R →
    wpAny (model X.prog X.w) X.A (eval iter X.env) (fun v s1 => wpAny (model X.prog X.w) X.A (pyIter v) (PIE X pins σ tg R) X.xe s1) X.xe s

/-- the step ahead of the store is nothing for an iterator that keeps no tuple -/
theorem go_of {M : Model} {A : Around} {E : Value → Shared → Prop} {s : Shared} {tg : Expr} {it : Addr} {u : Value} {o : Obj} {n : String} {vs : Array Value} {Q : Unit → Shared → Prop} (ho : s.heap.get? it = some o) (hc : o.cls = .type n) (hd : o.data = .fields vs)
    (hn : ["enumerate", "zip", "dict_itemiterator", "dict_reverseitemiterator", "odict_iterator", "itertools.zip_longest", "itertools.pairwise"].contains n = false) (hQ : Q () s) : wpAny M A (letOwnedTupleGo tg (.ref it) u) Q E s := by
  unfold letOwnedTupleGo
  cases tg <;> first
    | exact wpAny_pure hQ
    | (cases u <;> first
        | exact wpAny_pure hQ
        | (refine wpAny_bind (wpAny_load ho ?_)
           rw [hc, hd]
           show wpAny M A (if (["enumerate", "zip", "dict_itemiterator", "dict_reverseitemiterator", "odict_iterator", "itertools.zip_longest", "itertools.pairwise"].contains n && vs[0]? == some (rawInt _)) = true then _ else _) Q E s
           rw [if_neg (by intro h; rw [hn, Bool.false_and] at h; cases h)]
           exact wpAny_pure hQ))

/-- the list at a, as it stands at each turn (a loop may append to it) -/
def Itl (K : PySem.W.Frag) (a : Addr) : It :=
  ⟨fun i H => ∃ xs x, SqL K H a xs ∧ xs[i]? = some x, fun i H x H' => H' = H ∧ ∀ xs, SqL K H a xs → xs[i]? = some x, fun i H => ∃ xs, SqL K H a xs ∧ xs.length ≤ i⟩
def Itt (K : PySem.W.Frag) (a : Addr) : It :=
  ⟨fun i H => ∃ xs x, SqT K H a xs ∧ xs[i]? = some x, fun i H x H' => H' = H ∧ ∀ xs, SqT K H a xs → xs[i]? = some x, fun i H => ∃ xs, SqT K H a xs ∧ xs.length ≤ i⟩
/-- lo, lo + 1, .. (n of them) -/
def Itr (lo : Int) (n : Nat) : It := ⟨fun i _ => i < n, fun i H x H' => H' = H ∧ x = .int (lo + i), fun i _ => n ≤ i⟩
theorem turn_list {P : Program} {w : World} {K : PySem.W.Frag} {tg : Expr} (a it : Addr) : Turn P w K tg (Itl K a) [it] it (fun i h => h.IsListIter it a i) where
  mem := by simp
  obj := fun i h st b hb => by
    have e : b = it := by simpa using hb
    subst e
    obtain ⟨o, e, c, d⟩ := st
    exact ⟨o, e, fun v z => by rw [d] at z; cases z⟩
  keep := fun i h h' st k => st.at fun o e => k it (by simp) o e
  item := by
    intro X hP hw hK hc i pins s σ H E I hf st hg
    subst hP hw hK
    obtain ⟨xs, x, hq, hx⟩ := hg
    obtain ⟨its, rv, p, hz⟩ := I.list hq
    obtain ⟨u, hu, ru⟩ := rv.get hx
    obtain ⟨f0, f1, f2, f3, f4, f5⟩ := hf it (by simp)
    refine wpAny_pyNext_list_item st p.isList (x := u) (by simpa using hu) fun h' st' sb => ?_
    have I1 : Inv X pins σ H { s with heap := h' } := I.turned (t' := s.toks) (fun b o hb e => (sb.2 b hb).trans e) f0 f1 f3 f4 f5
    obtain ⟨o, e, c, d⟩ := id st'
    exact ⟨u, rfl, go_of (s := { s with heap := h' }) e c d (by decide) ⟨x, H, I1, ru, ⟨rfl, fun ys hy => by rw [I.list_inj hy hq]; exact hx⟩, st', fun b hb => (hf b hb).1⟩⟩
  done := by
    intro X hP hw hK hc i pins s σ H E I hf st hg
    subst hP hw hK
    obtain ⟨xs, hq, hx⟩ := hg
    obtain ⟨its, rv, p, hz⟩ := I.list hq
    obtain ⟨f0, f1, f2, f3, f4, f5⟩ := hf it (by simp)
    have hl := rv.length
    exact list_endH I.hd st p.isList (by simp; omega) fun h' eb => ⟨rfl, I.turned (t' := s.toks) (fun b o hb e => eb b o hb e) f0 f1 f3 f4 f5⟩
  self := fun _ _ _ _ _ st h => wpAny_pyIter_listiter st h
theorem turn_tuple {P : Program} {w : World} {K : PySem.W.Frag} {tg : Expr} (a it : Addr) : Turn P w K tg (Itt K a) [it] it (fun i h => h.IsTupleIter it a i) where
  mem := by simp
  obj := fun i h st b hb => by
    have e : b = it := by simpa using hb
    subst e
    obtain ⟨o, e, c, d⟩ := st
    exact ⟨o, e, fun v z => by rw [d] at z; cases z⟩
  keep := fun i h h' st k => st.at fun o e => k it (by simp) o e
  item := by
    intro X hP hw hK hc i pins s σ H E I hf st hg
    subst hP hw hK
    obtain ⟨xs, x, hq, hx⟩ := hg
    obtain ⟨its, rv, p, hz⟩ := I.tuple hq
    obtain ⟨u, hu, ru⟩ := rv.get hx
    obtain ⟨f0, f1, f2, f3, f4, f5⟩ := hf it (by simp)
    refine wpAny_pyNext_tuple_item st (show s.heap.IsTuple a its.toArray from p) (x := u) (by simpa using hu) fun h' st' sb => ?_
    have I1 : Inv X pins σ H { s with heap := h' } := I.turned (t' := s.toks) (fun b o hb e => (sb.2 b hb).trans e) f0 f1 f3 f4 f5
    obtain ⟨o, e, c, d⟩ := id st'
    exact ⟨u, rfl, go_of (s := { s with heap := h' }) e c d (by decide) ⟨x, H, I1, ru, ⟨rfl, fun ys hy => by rw [I.tuple_inj hy hq]; exact hx⟩, st', fun b hb => (hf b hb).1⟩⟩
  done := by
    intro X hP hw hK hc i pins s σ H E I hf st hg
    subst hP hw hK
    obtain ⟨xs, hq, hx⟩ := hg
    obtain ⟨its, rv, p, hz⟩ := I.tuple hq
    obtain ⟨f0, f1, f2, f3, f4, f5⟩ := hf it (by simp)
    have hl := rv.length
    exact tuple_endH I.hd st (show s.heap.IsTuple a its.toArray from p) (by simp; omega) fun h' eb => ⟨rfl, I.turned (t' := s.toks) (fun b o hb e => eb b o hb e) f0 f1 f3 f4 f5⟩
  self := fun _ _ _ _ _ st h => wpAny_pyIter_tupleiter st h
theorem turn_range {P : Program} {w : World} {K : PySem.W.Frag} {tg : Expr} (it : Addr) (lo : Int) (n : Nat) : Turn P w K tg (Itr lo n) [it] it (fun i h => IsRangeIter h it (lo + (i : Nat) * 1) ((n : Int) - (i : Nat)) 1) where
  mem := by simp
  obj := fun i h st b hb => by
    have e : b = it := by simpa using hb
    subst e
    exact ⟨_, st, fun v z => by
      have z' : Data.fields _ = Data.cell v := z
      cases z'⟩
  keep := fun i h h' st k => k it (by simp) _ st
  item := by
    intro X hP hw hK hc i pins s σ H E I hf st hg
    subst hP hw hK
    obtain ⟨f0, f1, f2, f3, f4, f5⟩ := hf it (by simp)
    have hlt : i < n := hg
    refine wpAny_pyNext_range_item st (by omega) fun h' st' sb => ?_
    have I1 : Inv X pins σ H { s with heap := h', toks := s.toks + 1 } := I.turned (fun b o hb e => (sb.2 b hb).trans e) f0 f1 f3 f4 f5
    have e1 : lo + (i : Int) * 1 + 1 = lo + ((i + 1 : Nat) : Int) * 1 := by omega
    have e2 : (n : Int) - (i : Int) - 1 = (n : Int) - ((i + 1 : Nat) : Int) := by omega
    rw [e1, e2] at st'
    refine ⟨_, rfl, go_of (s := { s with heap := h', toks := s.toks + 1 }) (n := "range_iterator") st' rfl rfl (by decide) ⟨.int (lo + i), H, I1, ⟨s.toks, ?_⟩, ⟨rfl, rfl⟩, st', fun b hb => (hf b hb).1⟩⟩
    rw [Int.mul_one]
  done := by
    intro X hP hw hK hc i pins s σ H E I hf st hg
    subst hP hw hK
    obtain ⟨f0, f1, f2, f3, f4, f5⟩ := hf it (by simp)
    exact range_endH I.hd st (by have : n ≤ i := hg; omega) fun h' eb => ⟨rfl, I.turned (t' := s.toks) (fun b o hb e => eb b o hb e) f0 f1 f3 f4 f5⟩
  self := fun _ _ _ _ _ st h => wpAny_pyIter_rangeiter st h
end L2

namespace L2
open PySem PySem.Spec PyProof.Rows
section
variable {X : Cx} {tg : Expr}
def iList (K : PySem.W.Frag) (tl : TE) : TI := fun σ H R => tl σ H fun x H1 => ∃ a, x = .ref a ∧ (∃ xs, SqL K H1 a xs) ∧ R (Itl K a) H1
def iTup (K : PySem.W.Frag) (tl : TE) : TI := fun σ H R => tl σ H fun x H1 => ∃ a, x = .ref a ∧ (∃ xs, SqT K H1 a xs) ∧ R (Itt K a) H1
theorem pi_list {l : Expr} {tl : TE} (hl : PE X l tl) : PI X tg l (iList X.K tl) := by
  intro pins s σ H R I h
  refine thn (hl pins s σ H _ I h) fun v s1 ⟨x, H1, I1, r1, q1⟩ => ?_
  obtain ⟨a, e, ⟨xs, hq⟩, q⟩ := q1
  subst e
  cases r1
  obtain ⟨its, rv, p, hz⟩ := I1.list hq
  refine wpAny_pyIter_list p.isList ?_
  refine ⟨s1.heap.objs.size, [s1.heap.objs.size], _, _, H1, rfl, I1.kept (t' := s1.toks) fun b o e => Heap.get?_push_of_some _ e, turn_list a _, ⟨_, Heap.get?_push_size _ rfl, rfl, rfl⟩, fun b hb => ?_, q⟩
  have e : b = s1.heap.objs.size := by simpa using hb
  subst e
  exact I1.fpOk (Nat.le_refl _) (I1.hok.fresh (Nat.le_refl _))
theorem pi_tup {l : Expr} {tl : TE} (hl : PE X l tl) : PI X tg l (iTup X.K tl) := by
  intro pins s σ H R I h
  refine thn (hl pins s σ H _ I h) fun v s1 ⟨x, H1, I1, r1, q1⟩ => ?_
  obtain ⟨a, e, ⟨xs, hq⟩, q⟩ := q1
  subst e
  cases r1
  obtain ⟨its, rv, p, hz⟩ := I1.tuple hq
  refine wpAny_pyIter_tuple (show s1.heap.IsTuple a its.toArray from p) ?_
  refine ⟨s1.heap.objs.size, [s1.heap.objs.size], _, _, H1, rfl, I1.kept (t' := s1.toks) fun b o e => Heap.get?_push_of_some _ e, turn_tuple a _, ⟨_, Heap.get?_push_size _ rfl, rfl, rfl⟩, fun b hb => ?_, q⟩
  have e : b = s1.heap.objs.size := by simpa using hb
  subst e
  exact I1.fpOk (Nat.le_refl _) (I1.hok.fresh (Nat.le_refl _))
/-- a range object just made, walked -/
theorem range_it {pins : List (Addr × Obj)} {σ : St} {H : Hp} {s : Shared} {R : It → Hp → Prop} {E : Value → Shared → Prop} {lo hi : Int} {t u v : Tok} {tk : Nat} (I : Inv X pins σ H s) (h1 : -(2 ^ 62) ≤ lo) (h2 : lo < 2 ^ 62) (h3 : -(2 ^ 62) ≤ hi) (h4 : hi < 2 ^ 62)
    (q : R (Itr lo (hi - lo).toNat) H) : wpAny (model X.prog X.w) X.A (pyIter (.ref s.heap.objs.size)) (PIE X pins σ tg R) E { s with heap := s.heap.push { cls := .type "range", data := .fields #[.int lo t, .int hi u, .int 1 v] }, toks := tk } := by
  refine wpAny_pyIter_range (IsRange.new ..) (small_one h1 h2 h3 h4) ?_
  have I1 : Inv X pins σ H { s with heap := s.heap.push { cls := .type "range", data := .fields #[.int lo t, .int hi u, .int 1 v] }, toks := tk } := I.kept fun b o e => Heap.get?_push_of_some _ e
  refine ⟨(s.heap.push { cls := .type "range", data := .fields #[.int lo t, .int hi u, .int 1 v] }).objs.size, [(s.heap.push { cls := .type "range", data := .fields #[.int lo t, .int hi u, .int 1 v] }).objs.size], _, _, H, rfl,
    I1.kept (t' := tk) fun b o e => Heap.get?_push_of_some _ e, turn_range _ lo (hi - lo).toNat, ?_, fun b hb => ?_, q⟩
  · have e1 : lo + ((0 : Nat) : Int) * 1 = lo := by simp
    have e2 : (((hi - lo).toNat : Nat) : Int) - ((0 : Nat) : Int) = Builtin.Range.rangeSize lo hi 1 := by rw [rangeSize_one]; split <;> omega
    show IsRangeIter _ _ (lo + ((0 : Nat) : Int) * 1) ((((hi - lo).toNat : Nat) : Int) - ((0 : Nat) : Int)) 1
    rw [e1, e2]
    exact Heap.get?_push_size _ rfl
  · have e : b = (s.heap.push { cls := .type "range", data := .fields #[.int lo t, .int hi u, .int 1 v] }).objs.size := by simpa using hb
    subst e
    exact I1.fpOk (Nat.le_refl _) (I1.hok.fresh (Nat.le_refl _))
def iRng1 (ta : TA) : TI := fun σ H R => ta σ H fun vs H1 => ∃ j : Int, vs = [.int j] ∧ -(2 ^ 62) ≤ j ∧ j < 2 ^ 62 ∧ R (Itr 0 j.toNat) H1
def iRng2 (ta : TA) : TI := fun σ H R => ta σ H fun vs H1 => ∃ i j : Int, vs = [.int i, .int j] ∧ (-(2 ^ 62) ≤ i ∧ i < 2 ^ 62 ∧ -(2 ^ 62) ≤ j ∧ j < 2 ^ 62) ∧ R (Itr i (j - i).toNat) H1
theorem pi_range1 {a : Expr} {ta : TA} {p pos : Pos} (hg : Gl X "range") (hm : X.mg "range" = none) (ha : PA X [a] ta) (hs : starEach [a] X.env = [(false, eval a X.env)] := by rfl) : PI X tg (.Call (.Name "range" p) [a] [] pos) (iRng1 ta) := by
  intro pins s σ H R I h
  refine Call_ (ld_blt I hg hm boot_range (PyProof.Rows.callWith_type1 (thn (ha pos pins s σ H _ I h) fun us s1 ⟨vs, H1, I1, r1, q1⟩ => ?_) hs rfl))
  obtain ⟨j, e, q1, q2, q⟩ := q1
  subst e
  cases r1 with
  | cons r rr =>
    cases rr
    obtain ⟨t, rfl⟩ := r
    exact call_range_1 (range_it I1 (by omega) (by omega) q1 q2 (by simpa using q))
/-! ### for -/
/-- W: the invariant by the turn and a measure; N: what the body is to reach -/
def tFor (wi : TI) (g : TG) (tb : TS) : TS := fun D σ H => wi σ H fun J H1 => ∃ W : Nat → Nat → St → Hp → Prop, (∃ m, W 0 m σ H1) ∧ ∀ i m σ H, W i m σ H →
  (J.stop i H ∧ D.nx σ H) ∨ (J.go i H ∧ ∃ N : St → Hp → Prop, (∀ σ' H', N σ' H' → ∃ m', m' < m ∧ W (i + 1) m' σ' H') ∧ ∀ x H', J.yld i H x H' → g x σ H' fun σ2 H2 => tb { D with nx := N, ct := N, bk := D.nx } σ2 H2)
/-- the records at fp as they stand -/
def pinsAt (fp : List Addr) (h : Heap) : List (Addr × Obj) := fp.filterMap fun b => (h.get? b).map fun o => (b, o)
theorem mem_pinsAt {fp : List Addr} {h : Heap} {b : Addr} {o : Obj} (hb : b ∈ fp) (e : h.get? b = some o) : (b, o) ∈ pinsAt fp h := List.mem_filterMap.mpr ⟨b, hb, by rw [e]; rfl⟩
theorem of_pinsAt {fp : List Addr} {h : Heap} {p : Addr × Obj} (hp : p ∈ pinsAt fp h) : p.1 ∈ fp ∧ h.get? p.1 = some p.2 := by
  obtain ⟨b, hb, e⟩ := List.mem_filterMap.mp hp
  cases q : h.get? b with
  | none => rw [q] at e; cases e
  | some o =>
    rw [q] at e
    have e' : (b, o) = p := Option.some.inj e
    subst e'
    exact ⟨hb, q⟩
theorem Inv.pinned {pins : List (Addr × Obj)} {σ : St} {H : Hp} {s : Shared} {fp : List Addr} (I : Inv X pins σ H s) (hf : ∀ b ∈ fp, FpOk X pins H b) (ho : ∀ b ∈ fp, ∃ o, s.heap.get? b = some o ∧ ∀ v, o.data ≠ .cell v) : Inv X (pins ++ pinsAt fp s.heap) σ H s :=
  I.pins_of fun p hp => (List.mem_append.mp hp).elim (fun z => I.pin p (List.mem_append_right _ z)) fun z => by
    obtain ⟨hb, e⟩ := of_pinsAt z
    obtain ⟨f0, f1, f2, _⟩ := hf p.1 hb
    obtain ⟨o, e', d⟩ := ho p.1 hb
    rw [e] at e'; cases e'
    exact ⟨e, f0, f1, f2, d⟩
theorem Inv.unpinned {pins pl : List (Addr × Obj)} {σ : St} {H : Hp} {s : Shared} (I : Inv X (pins ++ pl) σ H s) : Inv X pins σ H s := I.pins_of fun p hp => I.pin p (List.mem_append_right _ (List.mem_append_left _ hp))
theorem ps_for {iter : Expr} {body : List Stmt} {wi : TI} {g : TG} {tb : TS} {pos : Pos} (hp : PassesOwn (model X.prog X.w) X.A X.env X.xe) (hc : X.calm = true) (hi : PI X tg iter wi) (hg : PG X tg g) (hb : PSs X body tb)
    (hs : ∀ x, foldedSetIterable iter X.env x = pure x := by intro _; rfl) : PS X (.For tg iter body [] pos) (tFor wi g tb) := by
  intro pins s σ H D I h
  refine wpAny_For (thn (hi pins s σ H _ I h) fun v s1 h1 => thn h1 fun itv s2 h2 => ?_) hs
  obtain ⟨it, fp, tn, J, H2, e, I2, T, st2, f2, W, ⟨m0, w0⟩, turn⟩ := h2
  subst e
  -- what stays true of the iterator's objects through the loop
  have stat : ∀ {H' : Hp}, (∀ b ∈ fp, H' b = none) → ∀ b ∈ fp, FpOk X pins H' b := fun hn b hb => ⟨hn b hb, (f2 b hb).2⟩
  refine codeAny_forLoop_any (fun n s' => ∃ i σ' H', Inv X pins σ' H' s' ∧ tn i s'.heap ∧ (∀ b ∈ fp, H' b = none) ∧ W i n σ' H') ?_ m0 ⟨0, σ, H2, I2, st2, fun b hb => (f2 b hb).1, w0⟩
  rintro n s3 ⟨i, σ3, H3, I3, st3, fr3, w3⟩
  rcases turn i n σ3 H3 w3 with ⟨stop, qn⟩ | ⟨go, N, hN, step⟩
  · refine wpAny_passesOwn hp (thn (T.done X rfl rfl rfl hc i pins s3 σ3 H3 X.xe I3 (stat fr3) st3 stop) fun r s4 ⟨hr, I4⟩ => ?_)
    subst hr
    exact wpAny_execs_nil ⟨σ3, H3, I4, qn⟩
  · refine wpAny_passesOwn hp (thn (T.item X rfl rfl rfl hc i pins s3 σ3 H3 X.xe I3 (stat fr3) st3 go) fun r s4 ⟨u, hr, h4⟩ => ?_)
    subst hr
    refine wpAny_passesOwn hp (thn h4 fun _ s5 ⟨x, H5, I5, r5, y5, st5, fr5⟩ => ?_)
    have I5' := I5.pinned (stat fr5) (T.obj _ _ st5)
    refine wpAny_passesOwn hp (thn (hg _ s5 σ3 H5 x u _ I5' r5 (step x H5 y5)) fun _ s6 ⟨σ6, H6, I6, q6⟩ => ?_)
    refine wpAny_passesOwn hp (thn (hb _ s6 σ6 H6 _ I6 q6) fun f s7 q7 => ?_)
    have again : ∀ {σ7 : St} {H7 : Hp}, Inv X (pins ++ pinsAt fp s5.heap) σ7 H7 s7 → N σ7 H7 → ∃ m, m < n ∧ ∃ i σ' H', Inv X pins σ' H' s7 ∧ tn i s7.heap ∧ (∀ b ∈ fp, H' b = none) ∧ W i m σ' H' := fun {σ7 H7} I7 n7 => by
      obtain ⟨m', hm, w7⟩ := hN σ7 H7 n7
      refine ⟨m', hm, i + 1, σ7, H7, I7.unpinned, T.keep _ _ _ st5 fun b hb o e => (I7.pin (b, o) (List.mem_append_right _ (List.mem_append_right _ (mem_pinsAt hb e)))).1, fun b hb => ?_, w7⟩
      obtain ⟨o, e, d⟩ := T.obj _ _ st5 b hb
      exact (I7.pin (b, o) (List.mem_append_right _ (List.mem_append_right _ (mem_pinsAt hb e)))).2.1
    cases f with
    | next => obtain ⟨σ7, H7, I7, n7⟩ := q7; exact again I7 n7
    | cont => obtain ⟨σ7, H7, I7, n7⟩ := q7; exact again I7 n7
    | brk => obtain ⟨σ7, H7, I7, q7⟩ := q7; exact ⟨σ7, H7, I7.unpinned, q7⟩
    | ret v => obtain ⟨x7, σ7, H7, I7, r7, q7⟩ := q7; exact ⟨x7, σ7, H7, I7.unpinned, r7, q7⟩
end

/-! ### the forms one uses -/
/-- over a list that the body leaves as it is -/
theorem for_list {K : PySem.W.Frag} {a : Addr} {xs : List V} {g : TG} {tb : TS} {D : Ends} {σ : St} {H : Hp} (Pv : Nat → St → Hp → Prop) (h0 : Pv 0 σ H) (hl : ∀ i σ H, i ≤ xs.length → Pv i σ H → SqL K H a xs)
    (hs : ∀ i x σ H, xs[i]? = some x → Pv i σ H → g x σ H fun σ2 H2 => tb { D with nx := Pv (i + 1), ct := Pv (i + 1), bk := D.nx } σ2 H2) (hd : ∀ σ H, Pv xs.length σ H → D.nx σ H) :
    ∃ W : Nat → Nat → St → Hp → Prop, (∃ m, W 0 m σ H) ∧ ∀ i m σ H, W i m σ H →
      ((Itl K a).stop i H ∧ D.nx σ H) ∨ ((Itl K a).go i H ∧ ∃ N : St → Hp → Prop, (∀ σ' H', N σ' H' → ∃ m', m' < m ∧ W (i + 1) m' σ' H') ∧ ∀ x H', (Itl K a).yld i H x H' → g x σ H' fun σ2 H2 => tb { D with nx := N, ct := N, bk := D.nx } σ2 H2) := by
  refine ⟨fun i m σ H => m = xs.length - i ∧ i ≤ xs.length ∧ Pv i σ H, ⟨xs.length, by simp, Nat.zero_le _, h0⟩, ?_⟩
  rintro i m σ H ⟨rfl, hi, p⟩
  have q := hl i σ H hi p
  by_cases hlt : i < xs.length
  · refine .inr ⟨⟨xs, xs[i], q, by simp [hlt]⟩, Pv (i + 1), fun σ' H' p' => ⟨xs.length - (i + 1), by omega, rfl, hlt, p'⟩, fun x H' y => ?_⟩
    obtain ⟨e, y⟩ := y
    subst e
    exact hs i x σ _ (y xs q) p
  · have e : i = xs.length := by omega
    subst e
    exact .inl ⟨⟨xs, q, Nat.le_refl _⟩, hd σ H p⟩
theorem for_tup {K : PySem.W.Frag} {a : Addr} {xs : List V} {g : TG} {tb : TS} {D : Ends} {σ : St} {H : Hp} (Pv : Nat → St → Hp → Prop) (h0 : Pv 0 σ H) (hl : ∀ i σ H, i ≤ xs.length → Pv i σ H → SqT K H a xs)
    (hs : ∀ i x σ H, xs[i]? = some x → Pv i σ H → g x σ H fun σ2 H2 => tb { D with nx := Pv (i + 1), ct := Pv (i + 1), bk := D.nx } σ2 H2) (hd : ∀ σ H, Pv xs.length σ H → D.nx σ H) :
    ∃ W : Nat → Nat → St → Hp → Prop, (∃ m, W 0 m σ H) ∧ ∀ i m σ H, W i m σ H →
      ((Itt K a).stop i H ∧ D.nx σ H) ∨ ((Itt K a).go i H ∧ ∃ N : St → Hp → Prop, (∀ σ' H', N σ' H' → ∃ m', m' < m ∧ W (i + 1) m' σ' H') ∧ ∀ x H', (Itt K a).yld i H x H' → g x σ H' fun σ2 H2 => tb { D with nx := N, ct := N, bk := D.nx } σ2 H2) := by
  refine ⟨fun i m σ H => m = xs.length - i ∧ i ≤ xs.length ∧ Pv i σ H, ⟨xs.length, by simp, Nat.zero_le _, h0⟩, ?_⟩
  rintro i m σ H ⟨rfl, hi, p⟩
  have q := hl i σ H hi p
  by_cases hlt : i < xs.length
  · refine .inr ⟨⟨xs, xs[i], q, by simp [hlt]⟩, Pv (i + 1), fun σ' H' p' => ⟨xs.length - (i + 1), by omega, rfl, hlt, p'⟩, fun x H' y => ?_⟩
    obtain ⟨e, y⟩ := y
    subst e
    exact hs i x σ _ (y xs q) p
  · have e : i = xs.length := by omega
    subst e
    exact .inl ⟨⟨xs, q, Nat.le_refl _⟩, hd σ H p⟩
end L2

namespace L2
open PySem PySem.Spec PyProof.Rows

abbrev R2 := V → V → Hp → VK → Prop
/-- a two-place operation on values: f is binaryOp op, inplaceOp op or compareOp op -/
def OpR (X : Cx) (f : Value → Value → Sem Value) (r : R2) : Prop :=
  ∀ (pins : List (Addr × Obj)) (s : Shared) (σ : St) (H : Hp) (x y : V) (v u : Value) (Q : VK), Inv X pins σ H s → RelV x v → RelV y u → r x y H Q →
    wpAny (model X.prog X.w) X.A (f v u) (EP X pins σ Q) X.xe s
/-- a one-place operation -/
def UnR (X : Cx) (f : Value → Sem Value) (r : V → Hp → VK → Prop) : Prop :=
  ∀ (pins : List (Addr × Obj)) (s : Shared) (σ : St) (H : Hp) (x : V) (v : Value) (Q : VK), Inv X pins σ H s → RelV x v → r x H Q →
    wpAny (model X.prog X.w) X.A (f v) (EP X pins σ Q) X.xe s
/-- a call of a value that is known (a builtin, a type) with values -/
def CallR (X : Cx) (f : Value) (r : List V → Hp → VK → Prop) : Prop :=
  ∀ (pins : List (Addr × Obj)) (s : Shared) (σ : St) (H : Hp) (xs : List V) (us : List Value) (Q : VK), Inv X pins σ H s → Vals xs us → r xs H Q →
    wpAny (model X.prog X.w) X.A (call f us) (EP X pins σ Q) X.xe s
/-- a value's truth -/
def TruR (X : Cx) (r : V → Hp → (Bool → Hp → Prop) → Prop) : Prop :=
  ∀ (pins : List (Addr × Obj)) (s : Shared) (σ : St) (H : Hp) (x : V) (v : Value) (Q : Bool → Hp → Prop), Inv X pins σ H s → RelV x v → r x H Q →
    wpAny (model X.prog X.w) X.A (truthy v) (TP X pins σ Q) X.xe s

def tOp (r : R2) (ta tb : TE) : TE := fun σ H Q => ta σ H fun x H1 => tb σ H1 fun y H2 => r x y H2 Q
def tUn (r : V → Hp → VK → Prop) (ta : TE) : TE := fun σ H Q => ta σ H fun x H1 => r x H1 Q
/-- ints in, under C, and a value out -/
def rI (C : Int → Int → Prop) (g : Int → Int → V) : R2 := fun x y H Q => ∃ i j, x = .int i ∧ y = .int j ∧ C i j ∧ Q (g i j) H
def rI0 (g : Int → Int → V) : R2 := fun x y H Q => ∃ i j, x = .int i ∧ y = .int j ∧ Q (g i j) H
def rU (g : Int → V) : V → Hp → VK → Prop := fun x H Q => ∃ i, x = .int i ∧ Q (g i) H

section
variable {X : Cx} {a b c : Expr} {ta tb tc : TE} {pos : Pos}

theorem binT (ha : PE X a ta) (hb : PE X b tb) {pins : List (Addr × Obj)} {s : Shared} {σ : St} {H : Hp} {R : V → V → Hp → Prop} (I : Inv X pins σ H s)
    (h : ta σ H fun x H1 => tb σ H1 fun y H2 => R x y H2) {Q : Value → Shared → Prop} {f : Value → Value → Sem Value}
    (hf : ∀ v u s2 x y H2, Inv X pins σ H2 s2 → RelV x v → RelV y u → R x y H2 → wpAny (model X.prog X.w) X.A (f v u) Q X.xe s2) :
    wpAny (model X.prog X.w) X.A (eval a X.env) (fun v s₁ => wpAny (model X.prog X.w) X.A (eval b X.env) (fun u s₂ => wpAny (model X.prog X.w) X.A (f v u) Q X.xe s₂) X.xe s₁) X.xe s := by
  refine thn (ha pins s σ H _ I h) fun v s1 ⟨x, H1, I1, r1, q1⟩ => ?_
  refine thn (hb pins s1 σ H1 _ I1 q1) fun u s2 ⟨y, H2, I2, r2, q2⟩ => ?_
  exact hf v u s2 x y H2 I2 r1 r2 q2

theorem pe_op {op : Operator} {r : R2} (ho : OpR X (binaryOp op) r) (ha : PE X a ta) (hb : PE X b tb) : PE X (.BinOp a op b pos) (tOp r ta tb) := by
  intro pins s σ H Q I h
  exact wpAny_BinOp (binT ha hb I h fun v u s2 x y H2 I2 rx ry q => ho pins s2 σ H2 x y v u Q I2 rx ry q)
theorem pe_un {op : UnaryOp} {r : V → Hp → VK → Prop} (ho : UnR X (unaryOp op) r) (ha : PE X a ta) : PE X (.UnaryOp op a pos) (tUn r ta) := by
  intro pins s σ H Q I h
  exact UnaryOp_ (thn (ha pins s σ H _ I h) fun v s1 ⟨x, H1, I1, r1, q1⟩ => ho pins s1 σ H1 x v Q I1 r1 q1)
/-! ### ints -/
theorem opI {f : Value → Value → Sem Value} {C : Int → Int → Prop} {g : Int → Int → Int}
    (rule : ∀ (i j : Int) (t u : Tok) (s : Shared) (Q : Value → Shared → Prop) (E : Value → Shared → Prop), C i j → Q (.int (g i j) s.toks) { s with toks := s.toks + 1 } → wpAny (model X.prog X.w) X.A (f (.int i t) (.int j u)) Q E s) :
    OpR X f (rI C fun i j => .int (g i j)) := by
  intro pins s σ H x y v u Q I rx ry h
  obtain ⟨i, j, rfl, rfl, hc, q⟩ := h
  obtain ⟨t, rfl⟩ := rx
  obtain ⟨t', rfl⟩ := ry
  exact rule i j t t' s _ _ hc ⟨.int (g i j), H, I.tok _, ⟨_, rfl⟩, q⟩
theorem opI0 {f : Value → Value → Sem Value} {g : Int → Int → Int}
    (rule : ∀ (i j : Int) (t u : Tok) (s : Shared) (Q : Value → Shared → Prop) (E : Value → Shared → Prop), Q (.int (g i j) s.toks) { s with toks := s.toks + 1 } → wpAny (model X.prog X.w) X.A (f (.int i t) (.int j u)) Q E s) :
    OpR X f (rI0 fun i j => .int (g i j)) := by
  intro pins s σ H x y v u Q I rx ry h
  obtain ⟨i, j, rfl, rfl, q⟩ := h
  obtain ⟨t, rfl⟩ := rx
  obtain ⟨t', rfl⟩ := ry
  exact rule i j t t' s _ _ ⟨.int (g i j), H, I.tok _, ⟨_, rfl⟩, q⟩
theorem opB0 {f : Value → Value → Sem Value} {g : Int → Int → Bool}
    (rule : ∀ (i j : Int) (t u : Tok) (s : Shared) (Q : Value → Shared → Prop) (E : Value → Shared → Prop), Q (.bool (g i j)) s → wpAny (model X.prog X.w) X.A (f (.int i t) (.int j u)) Q E s) :
    OpR X f (rI0 fun i j => .bl (g i j)) := by
  intro pins s σ H x y v u Q I rx ry h
  obtain ⟨i, j, rfl, rfl, q⟩ := h
  obtain ⟨t, rfl⟩ := rx
  obtain ⟨t', rfl⟩ := ry
  exact rule i j t t' s _ _ ⟨.bl (g i j), H, I, rfl, q⟩

def CDiv (i j : Int) : Prop := 0 < j ∧ j < 1073741824
def CDivN (i j : Int) : Prop := j ≠ 0 ∧ j.natAbs < 1073741824
def CPow (i j : Int) : Prop := 0 ≤ j ∧ j ≤ 1000000 ∧ i.natAbs < 2 ^ 64
def CMul (i j : Int) : Prop := (-(2 ^ 64) < i ∧ i < 2 ^ 64) ∨ (-(2 ^ 64) < j ∧ j < 2 ^ 64)
theorem CMul.ok {i j : Int} (h : CMul i j) : IntMulOk i j := by
  rcases h with ⟨h1, h2⟩ | ⟨h1, h2⟩
  · exact .of_left (intBits_le_64 h1 h2)
  · exact .of_right (intBits_le_64 h1 h2)
theorem op_add : OpR X (binaryOp .Add) (rI0 fun i j => .int (i + j)) := opI0 fun _ _ _ _ _ _ _ q => add_int q
theorem op_sub : OpR X (binaryOp .Sub) (rI0 fun i j => .int (i - j)) := opI0 fun _ _ _ _ _ _ _ q => sub_int q
theorem op_mul : OpR X (binaryOp .Mult) (rI CMul fun i j => .int (i * j)) := opI fun _ _ _ _ _ _ _ hc q => mul_int q hc.ok
/-- // by a positive divisor -/
theorem op_fdiv : OpR X (binaryOp .FloorDiv) (rI CDiv fun i j => .int (i / j)) := opI fun i j _ _ _ _ _ hc q => by
  have h1 : (0 : Int) < j := hc.1
  have h2 : j < 1073741824 := hc.2
  exact floordiv_int (by omega) (by rw [Int.fdiv_eq_ediv_of_nonneg i (by omega)]; exact q) (.inl (PyProof.noPylong_small (by omega)))
/-- % by a positive divisor of any size -/
theorem op_mod : OpR X (binaryOp .Mod) (rI (fun _ j => 0 < j) fun i j => .int (i % j)) := opI fun i j _ _ _ _ _ hc q => by
  have h1 : (0 : Int) < j := hc
  exact mod_int' (by omega) (by rw [Int.fmod_eq_emod_of_nonneg i (by omega)]; exact q)
theorem unI {f : Value → Sem Value} {g : Int → Int}
    (rule : ∀ (i : Int) (t : Tok) (s : Shared) (Q : Value → Shared → Prop) (E : Value → Shared → Prop), Q (.int (g i) s.toks) { s with toks := s.toks + 1 } → wpAny (model X.prog X.w) X.A (f (.int i t)) Q E s) :
    UnR X f (rU fun i => .int (g i)) := by
  intro pins s σ H x v Q I rx h
  obtain ⟨i, rfl, q⟩ := h
  obtain ⟨t, rfl⟩ := rx
  exact rule i t s _ _ ⟨.int (g i), H, I.tok _, ⟨_, rfl⟩, q⟩
theorem un_neg : UnR X (unaryOp .USub) (rU fun i => .int (-i)) := unI fun _ _ _ _ _ q => neg_int q
/-! ### bools among ints: n += (a < b) -/
end

/-! ### comparisons -/
/-- the scalars that == tells apart as data does -/
def scal : V → V → Bool
  | .non, .non => true | .non, .int _ => true | .int _, .non => true | .non, .bl _ => true | .bl _, .non => true | .non, .str _ => true | .str _, .non => true
  | .int _, .int _ => true | .bl _, .bl _ => true | .str _, .str _ => true | .byt _, .byt _ => true
  | .int _, .str _ => true | .str _, .int _ => true | .bl _, .str _ => true | .str _, .bl _ => true
  | _, _ => false
def rEq : R2 := fun x y H Q => scal x y = true ∧ Q (.bl (decide (x = y))) H
def rNe : R2 := fun x y H Q => scal x y = true ∧ Q (.bl (!decide (x = y))) H

theorem dec_int {i j : Int} : decide (V.int i = V.int j) = (i == j) := by
  rw [Bool.eq_iff_iff]
  simp
theorem dec_bl {i j : Bool} : decide (V.bl i = V.bl j) = (i == j) := by
  rw [Bool.eq_iff_iff]
  simp
theorem dec_str {i j : Str} : decide (V.str i = V.str j) = (i == j) := by
  rw [Bool.eq_iff_iff]
  simp
theorem dec_byt {i j : Array UInt8} : decide (V.byt i = V.byt j) = (i.toList == j.toList) := by
  rw [Bool.eq_iff_iff]
  cases i
  cases j
  simp

section
variable {X : Cx} {a b c : Expr} {ta tb tc : TE} {pos : Pos}
theorem fin_bl {pins : List (Addr × Obj)} {σ : St} {H : Hp} {s : Shared} {Q : VK} {k k' : Bool} (I : Inv X pins σ H s) (q : Q (.bl k) H) (e : k = k') : EP X pins σ Q (.bool k') s := by
  subst e
  exact ⟨.bl k, H, I, rfl, q⟩
theorem op_eq : OpR X (compareOp .Eq) rEq := by
  intro pins s σ H x y v u Q I rx ry h
  obtain ⟨hs, q⟩ := h
  cases x with
  | non =>
    cases rx
    cases y with
    | non => cases ry; exact PySem.EqNone.eq_none_none (fin_bl I q (by simp))
    | bl j => cases ry; exact PySem.EqNone.eq_none_bool (fin_bl I q (by simp))
    | int j => obtain ⟨t', rfl⟩ := ry; exact PySem.EqNone.eq_none_int (fin_bl I q (by simp))
    | str j => obtain ⟨t', rfl⟩ := ry; exact PySem.EqNone.eq_none_str (fin_bl I q (by simp))
    | _ => exact absurd (show false = true from hs) Bool.false_ne_true
  | bl i =>
    cases rx
    cases y with
    | non => cases ry; exact PySem.EqNone.eq_bool_none (fin_bl I q (by simp))
    | bl j => cases ry; exact eq_bool (fin_bl I q dec_bl)
    | str j => obtain ⟨t', rfl⟩ := ry; exact PySem.EqMixed.eq_bool_str (fin_bl I q (by simp))
    | _ => exact absurd (show false = true from hs) Bool.false_ne_true
  | int i =>
    obtain ⟨t, rfl⟩ := rx
    cases y with
    | non => cases ry; exact PySem.EqNone.eq_int_none (fin_bl I q (by simp))
    | int j => obtain ⟨t', rfl⟩ := ry; exact eq_int (fin_bl I q dec_int)
    | str j => obtain ⟨t', rfl⟩ := ry; exact PySem.EqMixed.eq_int_str (fin_bl I q (by simp))
    | _ => exact absurd (show false = true from hs) Bool.false_ne_true
  | str i =>
    obtain ⟨t, rfl⟩ := rx
    cases y with
    | non => cases ry; exact PySem.EqNone.eq_str_none (fin_bl I q (by simp))
    | bl j => cases ry; exact PySem.EqMixed.eq_str_bool (fin_bl I q (by simp))
    | int j => obtain ⟨t', rfl⟩ := ry; exact PySem.EqMixed.eq_str_int (fin_bl I q (by simp))
    | str j => obtain ⟨t', rfl⟩ := ry; exact eq_str (fin_bl I q dec_str)
    | _ => exact absurd (show false = true from hs) Bool.false_ne_true
  | byt i =>
    obtain ⟨t, rfl⟩ := rx
    cases y with
    | byt j => obtain ⟨t', rfl⟩ := ry; exact PySem.W.eq_bytes (fin_bl I q dec_byt)
    | _ => exact absurd (show false = true from hs) Bool.false_ne_true
  | _ => cases y <;> exact absurd (show false = true from hs) Bool.false_ne_true
theorem op_ne : OpR X (compareOp .NotEq) rNe := by
  intro pins s σ H x y v u Q I rx ry h
  obtain ⟨hs, q⟩ := h
  cases x with
  | non =>
    cases rx
    cases y with
    | non => cases ry; exact PySem.EqNone.ne_none_none (fin_bl I q (by simp))
    | bl j => cases ry; exact PySem.EqNone.ne_none_bool (fin_bl I q (by simp))
    | int j => obtain ⟨t', rfl⟩ := ry; exact PySem.EqNone.ne_none_int (fin_bl I q (by simp))
    | str j => obtain ⟨t', rfl⟩ := ry; exact PySem.EqNone.ne_none_str (fin_bl I q (by simp))
    | _ => exact absurd (show false = true from hs) Bool.false_ne_true
  | bl i =>
    cases rx
    cases y with
    | non => cases ry; exact PySem.EqNone.ne_bool_none (fin_bl I q (by simp))
    | bl j => cases ry; exact ne_bool (fin_bl I q (congrArg not dec_bl))
    | str j => obtain ⟨t', rfl⟩ := ry; exact PySem.EqMixed.ne_bool_str (fin_bl I q (by simp))
    | _ => exact absurd (show false = true from hs) Bool.false_ne_true
  | int i =>
    obtain ⟨t, rfl⟩ := rx
    cases y with
    | non => cases ry; exact PySem.EqNone.ne_int_none (fin_bl I q (by simp))
    | int j => obtain ⟨t', rfl⟩ := ry; exact ne_int (fin_bl I q (congrArg not dec_int))
    | str j => obtain ⟨t', rfl⟩ := ry; exact PySem.EqMixed.ne_int_str (fin_bl I q (by simp))
    | _ => exact absurd (show false = true from hs) Bool.false_ne_true
  | str i =>
    obtain ⟨t, rfl⟩ := rx
    cases y with
    | non => cases ry; exact PySem.EqNone.ne_str_none (fin_bl I q (by simp))
    | bl j => cases ry; exact PySem.EqMixed.ne_str_bool (fin_bl I q (by simp))
    | int j => obtain ⟨t', rfl⟩ := ry; exact PySem.EqMixed.ne_str_int (fin_bl I q (by simp))
    | str j => obtain ⟨t', rfl⟩ := ry; exact ne_str (fin_bl I q (congrArg not dec_str))
    | _ => exact absurd (show false = true from hs) Bool.false_ne_true
  | byt i =>
    obtain ⟨t, rfl⟩ := rx
    cases y with
    | byt j => obtain ⟨t', rfl⟩ := ry; exact PySem.W.ne_bytes (fin_bl I q (congrArg not dec_byt))
    | _ => exact absurd (show false = true from hs) Bool.false_ne_true
  | _ => cases y <;> exact absurd (show false = true from hs) Bool.false_ne_true

theorem op_lt : OpR X (compareOp .Lt) (rI0 fun i j => .bl (decide (i < j))) := opB0 fun _ _ _ _ _ _ _ q => lt_int q
theorem op_le : OpR X (compareOp .LtE) (rI0 fun i j => .bl (decide (i ≤ j))) := opB0 fun _ _ _ _ _ _ _ q => le_int q
theorem op_gt : OpR X (compareOp .Gt) (rI0 fun i j => .bl (decide (j < i))) := opB0 fun _ _ _ _ _ _ _ q => gt_int q
/-- the one string within the other -/
theorem op_in_str : OpR X (compareOp .In) (fun x y H Q => ∃ i j, x = .str i ∧ y = .str j ∧ Q (.bl (!(Builtin.Str.occurrences j i 0 j.length 1).isEmpty)) H) := by
  intro pins s σ H x y v u Q I rx ry h
  obtain ⟨i, j, rfl, rfl, q⟩ := h
  obtain ⟨t, rfl⟩ := rx
  obtain ⟨t', rfl⟩ := ry
  exact in_str (fin_bl I q rfl)

/-- is None, is not None: the right side a value none -/
theorem op_isN : OpR X (compareOp .Is) (fun x y H Q => y = .non ∧ Q (.bl (decide (x = .non))) H) := by
  intro pins s σ H x y v u Q I rx ry h
  obtain ⟨rfl, q⟩ := h
  cases ry
  refine is_none_gen (fin_bl I q ?_)
  cases x <;> first
    | (cases rx; rfl)
    | (obtain ⟨t, rfl⟩ := rx; rfl)
theorem op_notN : OpR X (compareOp .IsNot) (fun x y H Q => y = .non ∧ Q (.bl (!decide (x = .non))) H) := by
  intro pins s σ H x y v u Q I rx ry h
  obtain ⟨rfl, q⟩ := h
  cases ry
  refine isnot_none_gen (fin_bl I q ?_)
  cases x <;> first
    | (cases rx; rfl)
    | (obtain ⟨t, rfl⟩ := rx; rfl)

theorem op_notin_str : OpR X (compareOp .NotIn) (fun x y H Q => ∃ i j, x = .str i ∧ y = .str j ∧ Q (.bl (!(!(Builtin.Str.occurrences j i 0 j.length 1).isEmpty))) H) := by
  intro pins s σ H x y v u Q I rx ry h
  obtain ⟨i, j, rfl, rfl, q⟩ := h
  obtain ⟨t, rfl⟩ := rx
  obtain ⟨t', rfl⟩ := ry
  exact notIn_str (fin_bl I q rfl)
/-- is, is not of two objects that are tracked lists or instances -/
def isObj : HO → Bool
  | .lst _ => true
  | .ins _ _ _ => true
  | _ => false
theorem nomark (b : Expr) {op : CmpOp} (h : op ≠ .In := by decide) (h2 : op ≠ .NotIn := by decide) : behindInMarks op b = false := by
  have e1 : (op == CmpOp.In) = false := by cases op <;> first | rfl | exact absurd rfl h
  have e2 : (op == CmpOp.NotIn) = false := by cases op <;> first | rfl | exact absurd rfl h2
  cases b <;> simp [behindInMarks, e1, e2]
/-- a comparison as a value; hm: nomark b, or (for in, not in) by with_unfolding_all rfl -/
theorem pe_cmpR {op : CmpOp} {r : R2} (ho : OpR X (compareOp op) r) (ha : PE X a ta) (hb : PE X b tb) (hm : behindInMarks op b = false) : PE X (.Compare a [op] [b] pos) (tOp r ta tb) := by
  intro pins s σ H Q I h
  exact wpAny_Compare1 (binT ha hb I h fun v u s2 x y H2 I2 rx ry q => ho pins s2 σ H2 x y v u Q I2 rx ry q) hm
/-- a reading of a value as a test -/
def tTest (t : TE) : TT := fun σ H Q => t σ H fun x H' => ∃ k, x = .bl k ∧ Q k H'
theorem pt_cmpR {op : CmpOp} {r : R2} (ho : OpR X (compareOp op) r) (ha : PE X a ta) (hb : PE X b tb) (hm : behindInMarks op b = false) : PT X (.Compare a [op] [b] pos) (tTest (tOp r ta tb)) := by
  intro pins s σ H Q I h
  refine wpAny_isTrue_Compare1 (thn (ha pins s σ H _ I h) fun v s1 ⟨x, H1, I1, r1, q1⟩ => thn (hb pins s1 σ H1 _ I1 q1) fun u s2 ⟨y, H2, I2, r2, q2⟩ =>
    thn (ho pins s2 σ H2 x y v u _ I2 r1 r2 q2) fun c s3 ⟨z, H3, I3, r3, k, e, q3⟩ => ?_) hm
  subst e
  cases r3
  exact wpAny_truthy_bool ⟨H3, I3, q3⟩
/-- a op1 b op2 c -/
def tChain (r r' : R2) (ta tb tc : TE) : TE := fun σ H Q => ta σ H fun x H1 => tb σ H1 fun y H2 => r x y H2 fun z H3 => ∃ k, z = .bl k ∧
  (if k = true then tc σ H3 fun w' H4 => r' y w' H4 Q else Q (.bl false) H3)
theorem pt_chain {op op' : CmpOp} {r r' : R2} (ho : OpR X (compareOp op) r) (ho' : OpR X (compareOp op') r') (ha : PE X a ta) (hb : PE X b tb) (hc : PE X c tc)
    (hm : lastMarks [op, op'] [b, c] = false := by with_unfolding_all rfl) : PT X (.Compare a [op, op'] [b, c] pos) (tTest (tChain r r' ta tb tc)) := by
  intro pins s σ H Q I h
  refine isTrue_chain (thn (ha pins s σ H _ I h) fun v s1 ⟨x, H1, I1, r1, q1⟩ => test_link (thn (hb pins s1 σ H1 _ I1 q1) fun u s2 ⟨y, H2, I2, r2, q2⟩ =>
    thn (ho pins s2 σ H2 x y v u _ I2 r1 r2 q2) fun d s3 ⟨z, H3, I3, r3, k, e, q3⟩ => ?_)) hm
  subst e
  cases r3
  refine wpAny_truthy_bool ?_
  cases k with
  | false =>
    obtain ⟨k', e', q'⟩ := q3
    cases e'
    exact ite_ff ⟨H3, I3, q'⟩
  | true =>
    refine ite_tt (test_last (thn (hc pins s3 σ H3 _ I3 q3) fun w' s4 ⟨z', H4, I4, r4, q4⟩ => thn (ho' pins s4 σ H4 y z' u w' _ I4 r2 r4 q4) fun d' s5 ⟨z2, H5, I5, r5, k2, e2, q5⟩ => ?_))
    subst e2
    cases r5
    exact wpAny_truthy_bool ⟨H5, I5, q5⟩

/-! ### truth -/
/-- a value's truth by the abstract heap -/
def TruV (K : PySem.W.Frag) (x : V) (H : Hp) (k : Bool) : Prop :=
  match x with
  | .non => k = false
  | .bl b => k = b
  | .int i => k = (i != 0)
  | .str y => y.length ≤ sizeLine ∧ k = ((y.length : Int) != 0)
  | .byt y => y.size ≤ sizeLine ∧ k = ((y.size : Int) != 0)
  | .ref p => (∃ xs, SqL K H p xs ∧ k = !xs.isEmpty) ∨ (∃ xs, SqT K H p xs ∧ k = !xs.isEmpty) ∨ ∃ kvs, H p = some (.dK kvs) ∧ k = !kvs.isEmpty
  | _ => False
theorem line63 : (sizeLine : Nat) < 2 ^ 63 := by rw [sizeLine_eq]; decide
/-! ### strs and bytes -/
theorem op_add_str : OpR X (binaryOp .Add) (fun x y H Q => ∃ i j, x = .str i ∧ y = .str j ∧ i.length + j.length ≤ sizeLine ∧ Q (.str (i ++ j)) H) := by
  intro pins s σ H x y v u Q I rx ry h
  obtain ⟨i, j, rfl, rfl, hz, q⟩ := h
  obtain ⟨t, rfl⟩ := rx
  obtain ⟨t', rfl⟩ := ry
  exact add_str (fun t' tk => ⟨.str (i ++ j), H, I.tok _, ⟨_, rfl⟩, q⟩) hz
def PlainIxT (b : Expr) : Prop := ∀ o i, subscripted b false o i = operate [o, i] (getItem o i)
/-! ### scalar builtins, by CallR -/
theorem vals1 {x : V} {us : List Value} (r : Vals [x] us) : ∃ u, us = [u] ∧ RelV x u := by
  cases r with
  | cons r1 r2 => cases r2; exact ⟨_, rfl, r1⟩
theorem vals2 {x y : V} {us : List Value} (r : Vals [x, y] us) : ∃ u w', us = [u, w'] ∧ RelV x u ∧ RelV y w' := by
  cases r with
  | cons r1 r2 =>
    cases r2 with
    | cons r3 r4 => cases r4; exact ⟨_, _, rfl, r1, r3⟩
theorem call_int1 : CallR X (.type "int") (fun xs H Q => (∃ i, xs = [.int i] ∧ Q (.int i) H) ∨ ∃ k, xs = [.bl k] ∧ Q (.int (if k then 1 else 0)) H) := by
  intro pins s σ H xs us Q I r h
  rcases h with ⟨i, rfl, q⟩ | ⟨k, rfl, q⟩
  · obtain ⟨u, rfl, t, rfl⟩ := vals1 r
    exact call_int_int ⟨.int i, H, I, ⟨_, rfl⟩, q⟩
  · obtain ⟨u, rfl, r1⟩ := vals1 r
    cases r1
    exact call_int_bool ⟨.int (if k then 1 else 0), H, I.tok _, ⟨_, rfl⟩, q⟩
/-- len of a str, a bytes, a list, a tuple -/
def LenV (K : PySem.W.Frag) (x : V) (H : Hp) (n : Nat) : Prop :=
  match x with
  | .str y => y.length ≤ sizeLine ∧ n = y.length
  | .byt y => y.size ≤ sizeLine ∧ n = y.size
  | .ref p => (∃ xs, SqL K H p xs ∧ n = xs.length) ∨ ∃ xs, SqT K H p xs ∧ n = xs.length
  | _ => False
end
end L2

namespace L2
open PySem PySem.Spec PyProof.Rows

/-! ### an instance, its attributes a map -/
structure ObjM (h : Heap) (x dx C : Addr) (mA : Str → Option Value) : Prop where
  obj : h.get? x = some (PySem.W.instObj C dx)
  ns : h.Ns1 dx mA
  ne : dx ≠ x

theorem lookIn_ns {h : Heap} {dx : Addr} {mA : Str → Option Value} (n : h.Ns1 dx mA) : ∃ od, h.get? dx = some od ∧ ∀ name, PySem.W.lookIn name od = some (mA name) := by
  obtain ⟨o, es, ep, ho, hd, hk, _, hm⟩ := n
  refine ⟨o, ho, fun name => ?_⟩
  have e := hm name
  unfold nsFind findBy at e
  rw [← Array.find?_toList] at e
  unfold PySem.W.lookIn
  rw [hd]
  dsimp only
  split
  · rename_i y q
    rw [q] at e
    exact congrArg some e
  · rename_i q
    rw [q] at e
    have a : es.toList.any (·.refKey) = false := by
      rw [List.any_eq_false]
      intro y hy
      obtain ⟨z, t, hkey⟩ := hk y (Array.mem_toList_iff.mp hy)
      simp [DictEntry.refKey, hkey]
    have a' : ¬ es.toList.any (·.refKey) = true := by rw [a]; exact Bool.false_ne_true
    rw [if_neg a']
    exact congrArg some e

theorem ObjM.look {h : Heap} {x dx C : Addr} {mA : Str → Option Value} (I : ObjM h x dx C mA) : ∃ od, PySem.W.InstAt h x (PySem.W.instObj C dx) C (some od) ∧ ∀ name, PySem.W.lookIn name od = some (mA name) :=
  let ⟨od, ho, hl⟩ := lookIn_ns I.ns
  ⟨od, ⟨I.obj, rfl, rfl, ho⟩, hl⟩

section
variable {prog : Program} {w : World} {A : Around} {E : Value → Shared → Prop} {s : Shared} {K : PySem.W.Frag} {x dx C f : Addr} {mA : Str → Option Value} {name : Str} {v : Value}

end

/-! ### the attributes as a list of pairs -/
def putF (f : Str) (v : V) : List (Str × V) → List (Str × V)
  | [] => [(f, v)]
  | (g, x) :: r => if g = f then (g, v) :: r else (g, x) :: putF f v r
section
variable {P : Program} {w : World} {H H' : Hp} {h h' : Heap} {a C dx : Addr} {fs fs' : List (Str × V)}
theorem ins_get (hok : HOk P w H h) (e : H a = some (.ins C dx fs)) : ∃ mA, ObjM h a dx C mA ∧ (∀ f, RelO (fs.lookup f) (mA f)) ∧ PySem.Within mA (fs.map (·.1)) ∧ fs.length ≤ 1000 ∧ H dx = some (.own a) := by
  obtain ⟨d, z, ne, ob, mA, n, r, q⟩ := (show ObjOk P w H h a (.ins C dx fs) from hok a _ e)
  exact ⟨mA, ⟨ob, n, ne⟩, r, q, z, d⟩
end

/-! ### what of the text a class must have -/
structure Cls (K : PySem.W.Frag) (C : Addr) : Prop where
  pg : PySem.W.plainGet K C Str.empty = true
  hd : PySem.W.hasDictIn K C = true
  po : PySem.W.plainOver K C = true
  sa : PySem.W.findIn K (.ref C) "__setattr__" = some (some (.builtin "object.__setattr__"))
theorem Cls.get {K : PySem.W.Frag} {C : Addr} (c : Cls K C) (f : Str) : PySem.W.plainGet K C f = true := c.pg
/-- no class of it has the name -/
def NoAttr (K : PySem.W.Frag) (C : Addr) (f : Str) : Prop := PySem.W.findIn K (.ref C) f = some none
/-- a constant of the class -/
structure Con (K : PySem.W.Frag) (C : Addr) (f : Str) (v : V) (u : Value) : Prop where
  at_ : PySem.W.findIn K (.ref C) f = some (some u)
  rel : RelV v u
  get : PySem.W.specialIn K u "__get__" = some none
  cp : PySem.W.copiedNames.contains f = false
/-- a method: a plain def of the class or of one above it -/
structure Meth (K : PySem.W.Frag) (C : Addr) (m : Str) (f : Addr) : Prop where
  at_ : PySem.W.findIn K (.ref C) m = some (some (.ref f))
  fn : PySem.W.isFn K (.ref f) = true
  kp : PySem.W.keepIn K (.ref f) = true

section
variable {X : Cx} {pins : List (Addr × Obj)} {σ : St} {H : Hp} {s : Shared} {a C dx : Addr} {fs : List (Str × V)} {f : Str} {v : V} {A : Around} {E : Value → Shared → Prop}

end

/-! ### readings and rules -/
/-- e.f, an attribute of the instance -/
def tFld (K : PySem.W.Frag) (ta : TE) (f : Str) : TE := fun σ H Q => ta σ H fun x H1 => ∃ a C dx fs v, x = .ref a ∧ H1 a = some (.ins C dx fs) ∧ Cls K C ∧ NoAttr K C f ∧ fs.lookup f = some v ∧ Q v H1
/-- e.f, a constant of the class -/
def tCon (K : PySem.W.Frag) (ta : TE) (f : Str) : TE := fun σ H Q => ta σ H fun x H1 => ∃ a C dx fs v u, x = .ref a ∧ H1 a = some (.ins C dx fs) ∧ Cls K C ∧ Con K C f v u ∧ fs.lookup f = none ∧ Q v H1
/-- e.f = value -/
def sFld (K : PySem.W.Frag) (ta tv : TE) (f : Str) : TS := fun D σ H => tv σ H fun y H1 => ta σ H1 fun x H2 => ∃ a C dx fs, x = .ref a ∧ H2 a = some (.ins C dx fs) ∧ Cls K C ∧ NoAttr K C f ∧ fs.length < 1000 ∧
  D.nx σ (upd H2 a (.ins C dx (putF f y fs)))
/-- an augmented operator on two values -/
def InOp (X : Cx) (op : Operator) (rd : V → V → Hp → VK → Prop) : Prop :=
  ∀ (pins : List (Addr × Obj)) (s : Shared) (σ : St) (H : Hp) (x y : V) (u v : Value) (Q : VK), Inv X pins σ H s → RelV x u → RelV y v → rd x y H Q → wpAny (model X.prog X.w) X.A (inplaceOp op u v) (EP X pins σ Q) X.xe s
/-- e.f op= value -/
def sFldAug (K : PySem.W.Frag) (ta tv : TE) (rd : V → V → Hp → VK → Prop) (f : Str) : TS := fun D σ H => ta σ H fun x H1 => ∃ a C dx fs v, x = .ref a ∧ H1 a = some (.ins C dx fs) ∧ Cls K C ∧ NoAttr K C f ∧ fs.lookup f = some v ∧
  tv σ H1 fun y H2 => rd v y H2 fun z H3 => ∃ dx' fs', H3 a = some (.ins C dx' fs') ∧ fs'.length < 1000 ∧ D.nx σ (upd H3 a (.ins C dx' (putF f z fs')))

section
variable {X : Cx} {o e value : Expr} {f : Str} {pos pos' tpos : Pos} {ta tv : TE}
def rAdd : V → V → Hp → VK → Prop := fun x y H Q => ∃ i j, x = .int i ∧ y = .int j ∧ Q (.int (i + j)) H
def rSub : V → V → Hp → VK → Prop := fun x y H Q => ∃ i j, x = .int i ∧ y = .int j ∧ Q (.int (i - j)) H
end

/-! ### isinstance -/
section
variable {X : Cx} {pins : List (Addr × Obj)} {σ : St} {H : Hp} {s : Shared} {A : Around} {E : Value → Shared → Prop} {Q : Value → Shared → Prop} {c : Value} {b : Bool}
/-- the type of a value, as the fragment's deciders take it; for an instance its class -/
inductive TyOf (K : PySem.W.Frag) (H : Hp) : V → Value → Prop where
  | non : TyOf K H .non (.type "NoneType")
  | bl (x : Bool) : TyOf K H (.bl x) (.type "bool")
  | int (i : Int) : TyOf K H (.int i) (.type "int")
  | str (x : Str) : TyOf K H (.str x) (.type "str")
  | flt (x : UInt64) : TyOf K H (.flt x) (.type "float")
  | lst {a : Addr} {xs : List V} (e : H a = some (.lst xs)) : TyOf K H (.ref a) (.type "list")
  | frz {a : Addr} {o : Obj} {xs : List V} (e : H a = some (.frz o (.lst xs))) : TyOf K H (.ref a) (.type "list")
  | tup {a : Addr} {xs : List V} (e : H a = some (.tup xs)) : TyOf K H (.ref a) (.type "tuple")
  | dK {a : Addr} {kvs : List (Key × V)} (e : H a = some (.dK kvs)) : TyOf K H (.ref a) (.type "dict")
  | dT {a : Addr} {kvs : List (List Key × V)} (e : H a = some (.dT kvs)) : TyOf K H (.ref a) (.type "dict")
  | ins {a C dx : Addr} {fs : List (Str × V)} (e : H a = some (.ins C dx fs)) (cl : Cls K C) (ha : PySem.W.findIn K (.ref C) "__class__" = some (some (.builtin "object.__class__")))
      (hn : PySem.W.specialIn K (.builtin "object.__class__") "__get__" = some (some (.builtin "getset_descriptor.__get__"))) (htk : PySem.W.takesIn K (.builtin "object.__class__") = some true)
      (hm : PySem.W.mroIn K C (.type "object") = some true) : TyOf K H (.ref a) (.ref C)
  | exc {a C : Addr} (e : H a = some (.exc (.ref C))) (F : ExcK K C) : TyOf K H (.ref a) (.ref C)
/-- isinstance(x, c) for one class c, a built-in or an own one: kitOne's answer -/
theorem isinst_ok {x : V} {u t : Value} (I : Inv X pins σ H s) (rx : RelV x u) (ty : TyOf X.K H x t) (e : PySem.W.kitOne X.K t c = some b) (h : ∀ tk, Q (.bool b) { s with toks := tk }) :
    wpAny (model X.prog X.w) A (call (.builtin "isinstance") [u, c]) Q E s := by
  cases ty with
  | non => cases (show u = Value.none from rx); exact PySem.W.kia_one PySem.W.kitx_none I.kIn True.intro e (fun z => nomatch z) h
  | bl y => cases (show u = Value.bool y from rx); exact PySem.W.kia_one PySem.W.kitx_bool I.kIn True.intro e (fun z => nomatch z) h
  | int i => obtain ⟨t, q⟩ := (show ∃ t, u = Value.int i t from rx); cases q; exact PySem.W.kia_one PySem.W.kitx_int I.kIn True.intro e (fun z => nomatch z) h
  | str y => obtain ⟨t, q⟩ := (show ∃ t, u = Value.str y t from rx); cases q; exact PySem.W.kia_one PySem.W.kitx_str I.kIn True.intro e (fun z => nomatch z) h
  | flt y => obtain ⟨t, q⟩ := (show ∃ t, u = Value.float y t from rx); cases q; exact PySem.W.kia_one PySem.W.kitx_float I.kIn True.intro e (fun z => nomatch z) h
  | @lst a xs ea =>
    cases (show u = Value.ref a from rx)
    obtain ⟨_, _, n, _, h1⟩ := (show ObjOk X.prog X.w H s.heap a (.lst xs) from I.hok a _ ea)
    exact PySem.W.kia_one PySem.W.kitx_list I.kIn ⟨_, h1, rfl⟩ e (fun z => nomatch z) h
  | @frz a ob xs ea =>
    cases (show u = Value.ref a from rx)
    obtain ⟨_, _, _, n, _, h1⟩ := (show ObjOk X.prog X.w H s.heap a (.frz ob (.lst xs)) from I.hok a _ ea)
    exact PySem.W.kia_one PySem.W.kitx_list I.kIn ⟨_, h1, rfl⟩ e (fun z => nomatch z) h
  | @tup a xs ea =>
    cases (show u = Value.ref a from rx)
    obtain ⟨_, _, _, p⟩ := (show ObjOk X.prog X.w H s.heap a (.tup xs) from I.hok a _ ea)
    obtain ⟨o, h1, h2, _⟩ := p
    exact PySem.W.kia_one PySem.W.kitx_tuple I.kIn ⟨o, h1, h2⟩ e (fun z => nomatch z) h
  | @dK a kvs ea =>
    cases (show u = Value.ref a from rx)
    obtain ⟨_, _, vs, _, p⟩ := (show ObjOk X.prog X.w H s.heap a (.dK kvs) from I.hok a _ ea)
    obtain ⟨o, es, ep, h1, h2, _⟩ := p
    exact PySem.W.kia_one PySem.W.kitx_dict I.kIn ⟨o, h1, h2.1⟩ e (fun z => nomatch z) h
  | @dT a kvs ea =>
    cases (show u = Value.ref a from rx)
    obtain ⟨_, _, xs, _, o, es, ep, h1, h2, _⟩ := (show ObjOk X.prog X.w H s.heap a (.dT kvs) from I.hok a _ ea)
    exact PySem.W.kia_one PySem.W.kitx_dict I.kIn ⟨o, h1, h2.1⟩ e (fun z => nomatch z) h
  | @exc a C ea F =>
    cases (show u = Value.ref a from rx)
    obtain ⟨oe, vs, h1, h2, h3, h4, _⟩ := (show ObjOk X.prog X.w H s.heap a (.exc (.ref C)) from I.hok a _ ea)
    refine PySem.W.kia_one (kitx_exc F) I.kIn ⟨oe, h1, h2, ?_, ?_⟩ e (fun z => nomatch z) h
    · unfold PySem.W.notCls; rw [h4]
    · rw [h3]; trivial
  | @ins a C dx fs ea cl ha hn htk hm =>
    cases (show u = Value.ref a from rx)
    obtain ⟨mA, O, _⟩ := ins_get I.hok ea
    obtain ⟨od, J, _⟩ := O.look
    exact PySem.W.kia_one (PySem.W.kitx_own (cl.get _) cl.hd ha hn htk hm) I.kIn J e (fun z => nomatch z) h
end
end L2

namespace L2
open PySem PySem.Spec PyProof.Rows

/-! ### room -/
structure Room (k : Nat) (A : Around) : Prop where
  dp : A.depth + 3 * k + 5 < recursionLimit
  un : A.units + 16 * k + 200 < cLine
theorem Room.mono {j k : Nat} {A : Around} (r : Room k A) (h : j ≤ k) : Room j A := ⟨by have := r.dp; omega, by have := r.un; omega⟩
theorem Room.deeper {k : Nat} {A : Around} (r : Room (k + 1) A) (env : Env) : Room k (A.deeper env) :=
  ⟨by have := r.dp; show A.depth + 1 + 3 * k + 5 < _; omega, by have := r.un; show A.units + 3 + 16 * k + 200 < _; omega⟩
theorem Room.depth {k : Nat} {A : Around} (r : Room k A) : A.depth < recursionLimit := by have := r.dp; omega
theorem Room.units {k : Nat} {A : Around} (r : Room k A) : A.units + 64 < cLine := by have := r.un; omega
/-! ### argument lists and displays -/
def tNil : TA := fun _ H Q => Q [] H
def tCons (ta : TE) (tr : TA) : TA := fun σ H Q => ta σ H fun x H1 => tr σ H1 fun xs H2 => Q (x :: xs) H2
section
variable {X : Cx} {e : Expr} {es : List Expr} {te : TE} {t : TA} {pos : Pos}
theorem pa_nil : PA X [] tNil := fun _ _ _ _ H Q I h => Calls.spliced_nil ⟨[], H, I, .nil, h⟩
theorem pa_cons (ha : PE X e te) (hr : PA X es t) (hs : starEach (e :: es) X.env = (false, eval e X.env) :: starEach es X.env := by rfl) : PA X (e :: es) (tCons te t) := by
  intro pos pins s σ H Q I h
  rw [hs]
  show wpAny _ _ (spliced ((false, eval e X.env) :: backTo pos (starEach es X.env))) _ _ s
  refine Calls.spliced_cons (thn (ha pins s σ H _ I h) fun u s1 ⟨x, H1, I1, r1, q1⟩ => ?_)
  exact thn (hr pos pins s1 σ H1 _ I1 q1) fun us s2 ⟨xs, H2, I2, r2, q2⟩ => ⟨x :: xs, H2, I2, .cons r1 r2, q2⟩

/-- a tuple, a list of written items -/
def tTup (t : TA) : TE := fun σ H Q => t σ H fun xs H1 => xs.length ≤ sizeLine ∧ ∀ p, H1 p = none → Q (.ref p) (upd H1 p (.tup xs))
def tLst (t : TA) : TE := fun σ H Q => t σ H fun xs H1 => xs.length ≤ sizeLine ∧ ∀ p, H1 p = none → Q (.ref p) (upd H1 p (.lst xs))
theorem pe_tup {x1} (h : PA X es t) : PE X (.Tuple es x1 pos) (tTup t) := by
  intro pins s σ H Q I hq
  refine wpAny_Tuple_spliced (thn (h pos pins s σ H _ I hq) fun us s1 ⟨xs, H1, I1, r, z, q⟩ => ⟨by rw [← r.length]; exact z, ?_⟩)
  have hf : H1 s1.heap.objs.size = none := I1.hok.fresh (Nat.le_refl _)
  refine ⟨.ref s1.heap.objs.size, upd H1 s1.heap.objs.size (.tup xs), I1.laid (t' := s1.toks) (fun b u e => Heap.get?_push_of_some _ e) (Nat.le_refl _) ?_, rfl, q _ hf⟩
  exact ⟨z, us, r, ⟨_, Heap.get?_push_size _ rfl, rfl, _, rfl⟩⟩
theorem pe_lst (h : PA X es t) : PE X (.List es pos) (tLst t) := by
  intro pins s σ H Q I hq
  refine wpAny_List_spliced (thn (h pos pins s σ H _ I hq) fun us s1 ⟨xs, H1, I1, r, z, q⟩ => ⟨by rw [← r.length]; exact z, ?_⟩)
  have hf : H1 s1.heap.objs.size = none := I1.hok.fresh (Nat.le_refl _)
  refine ⟨.ref s1.heap.objs.size, upd H1 s1.heap.objs.size (.lst xs), I1.laid (t' := s1.toks) (fun b u e => Heap.get?_push_of_some _ e) (Nat.le_refl _) ?_, rfl, q _ hf⟩
  exact ⟨z, us, 0, r, Heap.get?_push_size _ rfl⟩
end

/-! ### what a def promises -/
/-- a def's promise: the bound arguments in the parameters' order, the heap, the wanted end, the wanted exception -/
abbrev Sp := List V → Hp → VK → XK → Prop
/-- how an exception lies behind a call (file 08 gives it): the callers' frames, abstract heap and state ahead of the call, the wish, the exception, the state -/
abbrev CXT := List Env → Hp → Shared → XK → Value → Shared → Prop

/-- the state at a call -/
structure Env0 (P : Program) (w : World) (K : PySem.W.Frag) (mg : Str → Option Value) (base : Heap) (A : Around) (outer : List Env) (s : Shared) (H : Hp) : Prop where
  frames : A.frames = some outer
  mod : Mod K mg base
  bs : ∀ b o, base.get? b = some o → s.heap.get? b = some o ∧ H b = none
  bsz : base.objs.size ≤ s.heap.objs.size
  funs : s.heap.FunFrames base outer
  frf : ∀ b ∈ frs outer, H b = none
  hok : HOk P w H s.heap
  bare : AllBare s.gens
  hd : HdE A H
/-- a call's end -/
def CE (outer : List Env) (P : Program) (w : World) (H : Hp) (s : Shared) (Q : VK) (u : Value) (s' : Shared) : Prop :=
  ∃ v H', s'.os = s.os ∧ AllBare s'.gens ∧ Un (frs outer) [] H H' s.heap s'.heap ∧ HOk P w H' s'.heap ∧ RelV v u ∧ Q v H'
def CR (CX : CXT) (outer : List Env) (P : Program) (w : World) (H : Hp) (s : Shared) (Q : VK) (E : XK) (r : Result) (s' : Shared) : Prop :=
  match r with
  | .ok (.ret u) => CE outer P w H s Q u s'
  | .ok _ => False
  | .error e => CX outer H s E e s'
abbrev CX0 : CXT := fun _ _ _ _ _ _ => False
/-- what never raises is called anywhere, else where nothing is handled -/
def Calm (CX : CXT) (A : Around) : Prop := CX = CX0 ∨ A.handled = none
structure FnOk (P : Program) (w : World) (K : PySem.W.Frag) (mg : Str → Option Value) (base : Heap) (CX : CXT) (k : Nat) (f : Addr) (fd : FuncData) (ps : List Str) (sp : Sp) : Prop where
  len : ∀ vs H Q E, sp vs H Q E → vs.length = ps.length
  run : ∀ (A : Around) (outer : List Env) (s : Shared) (H : Hp) (args : Args) (us : List Value) (vs : List V) (Q : VK) (E : XK), Room k A → Calm CX A → Env0 P w K mg base A outer s H → BindsTo s fd args (ps.zip us) → Vals vs us → sp vs H Q E →
    codeAny (model P w) A (.call (.ref f) args) (CR CX outer P w H s Q E) s
section
variable {X : Cx} {pins : List (Addr × Obj)} {σ : St} {H : Hp} {s s' : Shared}
/-- from a body: what a callee wants -/
theorem Inv.env0 (I : Inv X pins σ H s) : Env0 X.prog X.w X.K X.mg X.base X.A X.stack s H :=
  ⟨I.ok.frames, I.ok.mod, I.bs, Nat.le_trans I.ok.bsz I.sz, I.stack, I.stkFree, I.hok, I.bare, I.hdE⟩
/-- behind a call -/
theorem Inv.after {Q : VK} {u : Value} (I : Inv X pins σ H s) (h : CE X.stack X.prog X.w H s Q u s') : EP X pins σ Q u s' := by
  obtain ⟨v, H', os, bare, un, hok, r, q⟩ := h
  obtain ⟨hh, g, d, t, os'⟩ := s'
  obtain rfl : os' = s.os := os
  exact ⟨v, H', I.call (h' := hh) (g' := g) (d' := d) (t' := t) (ch := []) un hok bare (fun b z => absurd z (by simp)), r, q⟩
end

/-! ### calls -/
/-- f(..): the written arguments, then the defaults dvs; E: what is wanted of an exception -/
def tCall (sp : Sp) (dvs : List V) (E : XK) (t : TA) : TE := fun σ H Q => t σ H fun vs H1 => sp (vs ++ dvs) H1 Q E
/-- o.m(..) of an instance of the class at C -/
def tMeth (C : Addr) (m : Str) (sp : Sp) (dvs : List V) (E : XK) (ta : TE) (t : TA) : TE := fun σ H Q => ta σ H fun x H1 => ∃ a dx fs, x = .ref a ∧ H1 a = some (.ins C dx fs) ∧ fs.lookup m = none ∧
  t σ H1 fun vs H2 => sp (x :: (vs ++ dvs)) H2 Q E
/-- C(..): a new instance and its dict, then __init__ -/
def tMake (C : Addr) (sp : Sp) (dvs : List V) (E : XK) (t : TA) : TE := fun σ H Q => t σ H fun vs H1 => ∀ x dx, H1 x = none → H1 dx = none → dx ≠ x →
  sp (.ref x :: (vs ++ dvs)) (upd (upd H1 dx (.own x)) x (.ins C dx [])) (fun v H2 => v = .non ∧ Q (.ref x) H2) E

/-- how the parameters are bound: us the positional arguments, kw the keywords' values by name, ds the defaults that fill up -/
def Binds (K : PySem.W.Frag) (fd : FuncData) (ps : List Str) (ds : List Value) : Prop :=
  ∀ (s : Shared) (us : List Value), K.In s.heap → (us ++ ds).length = ps.length → BindsTo s fd ⟨us, []⟩ (ps.zip (us ++ ds))
/-- every parameter is given -/
theorem Binds.all {K : PySem.W.Frag} {fd : FuncData} {ps : List Str} (h : ∀ us : List Value, us.length = ps.length → bindArgs fd ⟨us, []⟩ = pure (ps.zip us)) : Binds K fd ps [] := fun s us _ hl => by
  rw [List.append_nil] at hl ⊢
  exact .of_eq (h us hl)

/-- an exception of a callee reaches what this body wants of exceptions -/
def Passes (CX : CXT) (X : Cx) (E : XK) : Prop := ∀ (pins : List (Addr × Obj)) (σ : St) (H : Hp) (s : Shared) (e : Value) (s' : Shared), Inv X pins σ H s → CX X.stack H s E e s' → X.xe e s'

section
variable {X : Cx} {CX : CXT} {k : Nat} {f C : Addr} {fd : FuncData} {ps : List Str} {sp : Sp} {dvs : List V} {ds : List Value} {E : XK} {x m : Str} {p pos apos : Pos} {e o : Expr} {es : List Expr} {ta : TE} {t : TA}

/-- the callee runs -/
theorem run_fn {pins : List (Addr × Obj)} {σ : St} {H : Hp} {s : Shared} {Q : VK} {us : List Value} {vs : List V} (F : FnOk X.prog X.w X.K X.mg X.base CX k f fd ps sp) (hr : Room k X.A) (hb : Binds X.K fd ps ds) (hd : Vals dvs ds) (hx : Passes CX X E)
    (I : Inv X pins σ H s) (r : Vals vs us) (h : sp (vs ++ dvs) H Q E) (hcm : Calm CX X.A := by first | assumption | exact Or.inl rfl | exact Or.inr (by assumption)) : wpAny (model X.prog X.w) X.A (call (.ref f) us) (EP X pins σ Q) X.xe s := by
  have r2 : Vals (vs ++ dvs) (us ++ ds) := r.append hd
  have hl : (us ++ ds).length = ps.length := by rw [← r2.length]; exact F.len _ _ _ _ h
  refine wpAny_call (codeAny_mono (F.run X.A X.stack s H ⟨us, []⟩ (us ++ ds) (vs ++ dvs) Q E hr hcm I.env0 (hb s us I.kIn hl) r2 h) fun r s' hq => ?_)
  cases r with
  | error e => exact hx pins σ H s e s' I hq
  | ok fl =>
    cases fl with
    | ret u => exact I.after hq
    | next => exact False.elim hq
    | brk => exact False.elim hq
    | cont => exact False.elim hq

theorem pe_call (F : FnOk X.prog X.w X.K X.mg X.base CX k f fd ps sp) (hr : Room k X.A) (hg : Gl X x) (hm : X.mg x = some (.ref f)) (hk : PySem.W.keepIn X.K (.ref f) = true) (hb : Binds X.K fd ps ds) (hd : Vals dvs ds) (hx : Passes CX X E)
    (ha : PA X (e :: es) t) (hdb : (x == ("__debug__" : Str)) = false := by decide) (he : starEach (e :: es) X.env = (false, eval e X.env) :: starEach es X.env := by rfl) (hpl : (backTo pos (starEach es X.env)).any (·.1) = false := by rfl) (hcm : Calm CX X.A := by first | assumption | exact Or.inl rfl | exact Or.inr (by assumption)) :
    PE X (.Call (.Name x p) (e :: es) [] pos) (tCall sp dvs E t) := by
  intro pins s σ H Q I h
  refine wpAny_Call_Name_kw (ld_glob I hg hm ?_ hdb)
  refine PySem.W.callWith_K (h₀ := X.base) I.ok.mod.kin hk (thn (ha pos pins s σ H _ I h) fun us s1 ⟨vs, H1, I1, r, q⟩ => ⟨I1.kIn, ?_⟩) he hpl
  exact run_fn F hr hb hd hx I1 r q
/-- what a class must have to be made -/
structure Mk (K : PySem.W.Frag) (C f : Addr) : Prop where
  makes : PySem.W.makesIn K C = true
  init : PySem.W.findIn K (.ref C) "__init__" = some (some (.ref f))
  fn : PySem.W.isFn K (.ref f) = true
  kp : PySem.W.keepIn K (.ref C) = true

end

/-! ### keywords -/
/-- the values of the keywords, from the left -/
def PK (X : Cx) (kws : List Keyword) (t : TA) : Prop :=
  ∀ (pos : Pos) (pins : List (Addr × Obj)) (s : Shared) (σ : St) (H : Hp) (Q : List V → Hp → Prop), Inv X pins σ H s → t σ H Q → wpAny (model X.prog X.w) X.A (evalAll ((backToKw pos (keywordEach kws X.env)).map (·.2))) (AP X pins σ Q) X.xe s
section
variable {X : Cx} {CX : CXT} {k : Nat} {f C : Addr} {fd : FuncData} {ps ks : List Str} {sp : Sp} {E : XK} {x m : Str} {p pos apos kpos : Pos} {e o : Expr} {es : List Expr} {kws : List Keyword} {te ta : TE} {t tk : TA} {nm : Option Str}
/-- how a call with keywords binds: g puts the positional values us and the keywords' values ws (names ks) in the parameters' order, defaults among them -/
structure KBinds (K : PySem.W.Frag) (fd : FuncData) (ps ks : List Str) (g : List Value → List Value → List Value) (gV : List V → List V → List V) : Prop where
  to : ∀ (s : Shared) (us ws : List Value), K.In s.heap → (g us ws).length = ps.length → BindsTo s fd ⟨us, ks.zip ws⟩ (ps.zip (g us ws))
  rel : ∀ {vs : List V} {us : List Value} {zs : List V} {ws : List Value}, Vals vs us → Vals zs ws → Vals (gV vs zs) (g us ws)
def tCallK (sp : Sp) (gV : List V → List V → List V) (E : XK) (t tk : TA) : TE := fun σ H Q => t σ H fun vs H1 => tk σ H1 fun zs H2 => sp (gV vs zs) H2 Q E
variable {g : List Value → List Value → List Value} {gV : List V → List V → List V}
end

/-! ### a def's body keeps its promise -/
/-- names: the parameters first -/
structure FnScope (N P : List Str) (sc : Scope) : Prop where
  kind : sc.kind = .function
  co : sc.isCoroutine = false
  gen : sc.isGenerator = false
  nd : N.Nodup
  pre : N.take P.length = P
  par : ∀ x ∈ P, sc.names.lookup x = some .local ∨ sc.names.lookup x = some .cell
  nofree : ∀ y ∈ sc.names, y.2 ≠ .free

theorem bindL_out {kindOf : Str → Option NameKind} {x : Str} : ∀ {binds : List (Str × Value)} {m : Str → Option Value}, (∀ v, (x, v) ∉ binds) → bindL kindOf binds m x = m x
  | [], _, _ => rfl
  | (n, v) :: r, m, h => by
    unfold bindL
    rw [bindL_out fun w hw => h w (List.mem_cons_of_mem _ hw)]
    split
    · have : x ≠ n := by rintro rfl; exact h v List.mem_cons_self
      simp [this]
    · rfl
theorem bindC_out {kindOf : Str → Option NameKind} {x : Str} : ∀ {binds : List (Str × Value)} {m : Str → Option Value}, (∀ v, (x, v) ∉ binds) → bindC kindOf binds m x = m x
  | [], _, _ => rfl
  | (n, v) :: r, m, h => by
    unfold bindC
    rw [bindC_out fun w hw => h w (List.mem_cons_of_mem _ hw)]
    split
    · rfl
    · have : x ≠ n := by rintro rfl; exact h v List.mem_cons_self
      simp [this]
theorem bindL_get {kindOf : Str → Option NameKind} {x : Str} {v : Value} : ∀ {P : List Str} {vs : List Value} {i : Nat} {m : Str → Option Value}, P.Nodup → P[i]? = some x → vs[i]? = some v → kindOf x = some .local →
    bindL kindOf (P.zip vs) m x = some v
  | [], _, _, _, _, h, _, _ => by simp at h
  | _ :: _, [], _, _, _, _, h, _ => by simp at h
  | p :: P, w :: vs, 0, m, nd, h1, h2, hk => by
    simp at h1 h2; subst h1; subst h2
    show bindL kindOf ((p, w) :: P.zip vs) m p = _
    unfold bindL
    rw [bindL_out fun v hv => (List.nodup_cons.mp nd).1 (List.of_mem_zip hv).1, if_pos hk]
    simp
  | p :: P, w :: vs, i + 1, m, nd, h1, h2, hk => by
    show bindL kindOf ((p, w) :: P.zip vs) m x = _
    unfold bindL
    exact bindL_get (i := i) (List.nodup_cons.mp nd).2 (by simpa using h1) (by simpa using h2) hk
theorem bindC_get {kindOf : Str → Option NameKind} {x : Str} {v : Value} : ∀ {P : List Str} {vs : List Value} {i : Nat} {m : Str → Option Value}, P.Nodup → P[i]? = some x → vs[i]? = some v → kindOf x ≠ some .local →
    bindC kindOf (P.zip vs) m x = some v
  | [], _, _, _, _, h, _, _ => by simp at h
  | _ :: _, [], _, _, _, _, h, _ => by simp at h
  | p :: P, w :: vs, 0, m, nd, h1, h2, hk => by
    simp at h1 h2; subst h1; subst h2
    show bindC kindOf ((p, w) :: P.zip vs) m p = _
    unfold bindC
    rw [bindC_out fun v hv => (List.nodup_cons.mp nd).1 (List.of_mem_zip hv).1, if_neg hk]
    simp
  | p :: P, w :: vs, i + 1, m, nd, h1, h2, hk => by
    show bindC kindOf ((p, w) :: P.zip vs) m x = _
    unfold bindC
    exact bindC_get (i := i) (List.nodup_cons.mp nd).2 (by simpa using h1) (by simpa using h2) hk

/-- the names' values at the entry -/
def start (N : List Str) (vs : List V) : St := vs.map some ++ List.replicate (N.length - vs.length) none

/-- the context of a def's body, at its entry; an exception leaves the frame, then lies as CX says -/
def cxOf (CX : CXT) (P : Program) (w : World) (K : PySem.W.Frag) (mg : Str → Option Value) (base : Heap) (N : List Str) (qual : Str) (scope : Scope) (f : Addr) (cd : Value) (A : Around) (outer : List Env) (s : Shared) (H : Hp) (E : XK) : Cx where
  prog := P
  w := w
  K := K
  mg := mg
  base := base
  A := A.deeper (envOfC qual scope s.heap.objs.size f cd)
  N := N
  s₀ := s
  H₀ := H
  env := envOfC qual scope s.heap.objs.size f cd
  outer := outer
  stack := envOfC qual scope s.heap.objs.size f cd :: outer
  ex := []
  calm := true
  fn := fun _ => true
  pn := []
  tr := []
  fx := []
  xe := fun e s' => wpAny (model P w) (A.deeper (envOfC qual scope s.heap.objs.size f cd)) (leaving (envOfC qual scope s.heap.objs.size f cd) e) (fun _ s'' => CX outer H s E e s'') (fun e' s'' => CX outer H s E e' s'') s'

theorem cell_has {sc : Scope} {n : Nat} {x : Str} (h : sc.names.lookup x = some .cell) : ∃ c, (cellsFrom n sc.names []).lookup x = some c := by
  have q := PySem.W.cellsFrom_some sc.names n [] (.inl h)
  exact Option.isSome_iff_exists.mp q

theorem inv_start {CX : CXT} {P : Program} {w : World} {K : PySem.W.Frag} {mg : Str → Option Value} {base : Heap} {N ps : List Str} {qual : Str} {scope : Scope} {f : Addr} {cd : Value} {A : Around} {outer : List Env} {s s1 : Shared} {H : Hp} {E : XK} {us : List Value} {vs : List V}
    (S : FnScope N ps scope) (e0 : Env0 P w K mg base A outer s H) (hl : vs.length = ps.length) (r : Vals vs us)
    (x : InCallC s s.heap.objs.size (bindL (envOfC qual scope s.heap.objs.size f cd).kindOf (ps.zip us) fun _ => none) (cellsFrom (s.heap.objs.size + 1) scope.names []) (bindC (envOfC qual scope s.heap.objs.size f cd).kindOf (ps.zip us) fun _ => none) s1) :
    Inv (cxOf CX P w K mg base N qual scope f cd A outer s H E) [] (start N vs) H s1 := by
  have hpl : ps.length ≤ N.length := by have := congrArg List.length S.pre; rw [List.length_take] at this; omega
  obtain ⟨h1, tk, rfl, hk⟩ := x.done
  have noA : ∀ b : Addr, b ∉ (cxOf CX P w K mg base N qual scope f cd A outer s H E).ex := fun b z => absurd (show b ∈ ([] : List Addr) from z) (by simp)
  have hdX : A.handled = none ∨ ∃ (e : Addr) (c : Value), A.handled = some (.ref e) ∧ (H e = some (.exc c) ∨ (e, c) ∈ (cxOf CX P w K mg base N qual scope f cd A outer s H E).tr) := by
    rcases e0.hd with z | ⟨e, c, z1, z2⟩
    · exact .inl z
    · exact .inr ⟨e, c, z1, .inl z2⟩
  refine ⟨⟨e0.mod, S.kind, rfl, rfl, Nat.le_refl _, fun y z c h1 h2 => ?_, fun y hy => ?_, fun y c _ h => ?_, hdX, Around.frames_deeper e0.frames, .inr ⟨rfl, rfl⟩, fun b z => absurd z (noA b), e0.bs, e0.bsz, fun b _ _ => noA b, fun b z => absurd z (noA b), e0.funs, e0.frf⟩,
    rfl, e0.bare, Un.kept hk, ⟨_, x.toInCall.ns, fun i y v h1 h2 h3 => ?_⟩, fun y c h => ⟨_, x.cell y c h⟩, e0.hok.fresh (Nat.le_refl _), fun y c h => ?_, fun p hp => absurd (show p ∈ ([] : List (Addr × Obj)) from hp) (by simp), e0.hok.kept hk, ?_, fun p hp => absurd (show p ∈ ([] : List (Addr × Value)) from hp) (by simp), fun p hp => absurd (show p ∈ ([] : List (Str × Value)) from hp) (by simp)⟩
  · exact name_of_addr x.apart (PySem.mem_of_lookup h1) (PySem.mem_of_lookup h2)
  · have hy : scope.names.lookup y = some .cell ∨ scope.names.lookup y = some .free := hy
    rcases hy with hy | hy
    · exact cell_has hy
    · exact absurd rfl (S.nofree _ (PySem.mem_of_lookup hy))
  · exact Nat.le_of_lt (x.above y c (PySem.mem_of_lookup h))
  · have hi : i < vs.length := by
      unfold start at h2
      by_cases hi : i < vs.length
      · exact hi
      · rw [List.getElem?_append_right (by simpa using hi)] at h2
        rw [List.getElem?_replicate] at h2
        split at h2 <;> cases h2
    have ha : vs[i]? = some v := by
      unfold start at h2
      rw [List.getElem?_append_left (by simpa using hi), List.getElem?_map] at h2
      cases e : vs[i]? with
      | none => rw [e] at h2; cases h2
      | some a => rw [e] at h2; cases h2; rfl
    obtain ⟨u, hu, rv⟩ := r.get ha
    have hp : ps[i]? = some y := by
      rw [← S.pre, List.getElem?_take_of_lt (by omega)]; exact h1
    have ndP : ps.Nodup := by rw [← S.pre]; exact S.nd.sublist (List.take_sublist _ _)
    refine ⟨u, rv, ?_⟩
    rcases S.par y (List.mem_of_getElem? hp) with k | k
    · exact .inl ⟨k, bindL_get ndP hp hu k⟩
    · obtain ⟨c, e⟩ := cell_has (n := s.heap.objs.size + 1) k
      refine .inr ⟨.inl k, c, e, ?_⟩
      have q := x.cell y c e
      rw [bindC_get ndP hp hu (by show scope.names.lookup y ≠ _; rw [k]; decide)] at q
      exact q
  · exact e0.hok.fresh (Nat.le_of_lt (x.above y c (PySem.mem_of_lookup h)))
  · unfold start
    show _ = N.length
    rw [List.length_append, List.length_map, List.length_replicate]
    omega

/-- THE RULE: a def (or a method) of the text, by its body. The body's reading t is chosen for each entry; it is run at the parameters' values -/
theorem fn_of {CX : CXT} {P : Program} {w : World} {K : PySem.W.Frag} {mg : Str → Option Value} {base : Heap} {k : Nat} {f : Addr} {name qual : Str} {params : Arguments} {body : List Stmt} {scope : Scope} {dV kV doc pm cdv ct oc : Value} {an od : Option Addr}
    {osl : Array (Option Value)} {N ps : List Str} {sp : Sp} (lk : K.lookup f = some ⟨oc, od, .func (PySem.W.fnOf name qual params body scope dV kV doc pm an cdv ct), osl⟩) (hcd : PySem.W.codeIn K cdv qual = true) (S : FnScope N ps scope)
    (len : ∀ vs H Q E, sp vs H Q E → vs.length = ps.length)
    (hbody : ∀ (A : Around) (outer : List Env) (s : Shared) (H : Hp) (vs : List V) (Q : VK) (E : XK), Room k (A.deeper (envOfC qual scope s.heap.objs.size f cdv)) → Calm CX A → sp vs H Q E →
      ∃ t, PSs (cxOf CX P w K mg base N qual scope f cdv A outer s H E) body t ∧ t { nx := fun _ H' => Q .non H', rt := Q } (start N vs) H) :
    FnOk P w K mg base CX (k + 1) f (PySem.W.fnOf name qual params body scope dV kV doc pm an cdv ct) ps sp := by
  refine ⟨len, fun A outer s H args us vs Q E hr hcm e0 hb r hsp => ?_⟩
  have hl := len _ _ _ _ hsp
  have KX : K.In s.heap := e0.mod.kin.keeps fun b o e => (e0.bs b o e).1
  have lim : s.heap.NoLimit := e0.mod.nolimit.keeps fun b o e => (e0.bs b o e).1
  have hkind : ∀ y ∈ ps.zip us, scope.names.lookup y.1 = some .local ∨ (scope.names.lookup y.1 = some .cell ∧ ((cellsFrom (s.heap.objs.size + 1) scope.names []).lookup y.1).isSome = true) := fun ⟨n, v⟩ hy => by
    rcases S.par n (List.of_mem_zip hy).1 with q | q
    · exact .inl q
    · exact .inr ⟨q, PySem.W.cellsFrom_some _ _ _ (.inl q)⟩
  refine codeAny_call_function hr.depth (KX _ _ lk) rfl S.co S.gen rfl (PySem.W.codeRec_of KX hcd) (hb _ _ _ _ ?_)
  refine wpAny_newFunctionEnv_cells S.kind hkind fun env he s1 x => ?_
  subst he
  refine ⟨lim.keeps x.toInCall.keep, codeAny_func ?_⟩
  obtain ⟨t, ht, hq⟩ := hbody A outer s H vs Q E (hr.deeper _) hcm hsp
  have I : Inv (cxOf CX P w K mg base N qual scope f cdv A outer s H E) [] (start N vs) H s1 := inv_start S e0 hl r x
  refine wpAny_mono (ht [] s1 (start N vs) H _ I hq) (fun fl s' hs => ?_) fun e s' hs => hs
  have fin : ∀ {σ' : St} {H' : Hp} {v : V} {u : Value}, Inv (cxOf CX P w K mg base N qual scope f cdv A outer s H E) [] σ' H' s' → RelV v u → Q v H' → CE outer P w H s Q u s' :=
    fun {σ' H' v u} J rv q => ⟨v, H', J.os, J.bare, J.base, J.hok, rv, q⟩
  cases fl with
  | ret u =>
    obtain ⟨v, σ', H', J, rv, q⟩ := hs
    exact fin J rv q
  | next =>
    obtain ⟨σ', H', J, q⟩ := hs
    exact fin (v := V.non) (u := Value.none) J rfl q
  | brk =>
    obtain ⟨_, _, _, q⟩ := hs
    exact False.elim q
  | cont =>
    obtain ⟨_, _, _, q⟩ := hs
    exact False.elim q
end L2

namespace L2
open PySem PySem.Spec PyProof.Rows
section
variable {X : Cx} {x : Str} {p pos : Pos} {e : Expr} {es : List Expr} {t : TA} {id T : String} {r : List V → Hp → VK → Prop}

def tCB (r : List V → Hp → VK → Prop) (t : TA) : TE := fun σ H Q => t σ H fun vs H1 => r vs H1 Q
/-- f(e, ..), f a built-in function -/
theorem pe_callB (hc : CallR X (.builtin id) r) (hg : Gl X x) (hm : X.mg x = none) (hv : bootBuiltins x = some (.builtin id)) (ha : PA X (e :: es) t) (hn : x ≠ "__name__" := by decide) (hdb : (x == ("__debug__" : Str)) = false := by decide)
    (he : starEach (e :: es) X.env = (false, eval e X.env) :: starEach es X.env := by rfl) (hpl : (backTo pos (starEach es X.env)).any (·.1) = false := by rfl) : PE X (.Call (.Name x p) (e :: es) [] pos) (tCB r t) := by
  intro pins s σ H Q I h
  refine wpAny_Call_Name_kw (ld_blt I hg hm hv ?_ hn hdb)
  exact PyProof.Rows.callWith_builtin1 (thn (ha pos pins s σ H _ I h) fun us s1 ⟨vs, H1, I1, r1, q1⟩ => hc pins s1 σ H1 vs us Q I1 r1 q1) he hpl
/-- T(e, ..), T a built-in type -/
theorem pe_callTy (hc : CallR X (.type T) r) (hg : Gl X x) (hm : X.mg x = none) (hv : bootBuiltins x = some (.type T)) (ha : PA X (e :: es) t) (hn : x ≠ "__name__" := by decide) (hdb : (x == ("__debug__" : Str)) = false := by decide)
    (he : starEach (e :: es) X.env = (false, eval e X.env) :: starEach es X.env := by rfl) (hpl : (backTo pos (starEach es X.env)).any (·.1) = false := by rfl) : PE X (.Call (.Name x p) (e :: es) [] pos) (tCB r t) := by
  intro pins s σ H Q I h
  refine wpAny_Call_Name_kw (ld_blt I hg hm hv ?_ hn hdb)
  exact PyProof.Rows.callWith_type1 (thn (ha pos pins s σ H _ I h) fun us s1 ⟨vs, H1, I1, r1, q1⟩ => hc pins s1 σ H1 vs us Q I1 r1 q1) he hpl
end
end L2

namespace HT
open PySem PyProof.Rows

/-- t < u of tuples of ints -/
def lexLt : List Int → List Int → Bool
  | [], [] => false
  | [], _ :: _ => true
  | _ :: _, [] => false
  | x :: xs, y :: ys => if x = y then lexLt xs ys else decide (x < y)
section
open PySem.SeqAt
open PySem.AutoSeq1 (wpAny_loadPart')
open PySem.MeetsSeq PySem.MeetsSeq2 PySem.MeetsSeq3

end

section
variable {prog : Program} {w : World} {A : Around} {E : Value → Shared → Prop} {s : Shared}

/-! ### t[a:b], not the whole -/
/-- a slice's bound as a place among n (d where it is left out) -/
def sIx (n d : Nat) : Option Int → Nat
  | none => d
  | some v => if v < 0 then (v + (n : Int)).toNat else min v.toNat n
end
end HT

namespace L2
open PySem PySem.Spec PyProof.Rows

/-! ### the parts of a slice -/
abbrev TO := St → Hp → (Option Int → Hp → Prop) → Prop
/-- a slice's part (left out, or an int) -/
def PO (X : Cx) (e : Option Expr) (t : TO) : Prop :=
  ∀ (pins : List (Addr × Obj)) (s : Shared) (σ : St) (H : Hp) (Q : Option Int → Hp → Prop), Inv X pins σ H s → t σ H Q →
    wpAny (model X.prog X.w) X.A (evalPart e X.env) (fun u s' => ∃ o H', Inv X pins σ H' s' ∧ IsPart u o ∧ Q o H') X.xe s
def tNoPart : TO := fun _ H Q => Q none H
def tPart (t : TE) : TO := fun σ H Q => t σ H fun x H1 => ∃ i, x = .int i ∧ Q (some i) H1

theorem intsAre_of {ns : List Int} : ∀ {us : List Value}, Vals (ns.map V.int) us → IntsAre us ns := by
  induction ns with
  | nil => intro us r; rw [List.map_nil] at r; cases r; exact .nil
  | cons n ns ih =>
    intro us r
    rw [List.map_cons] at r
    cases r with
    | cons r1 r2 =>
      obtain ⟨t, e⟩ := r1
      subst e
      exact .cons n t (ih r2)

section
variable {X : Cx} {e : Expr} {te : TE} {lo hi : Option Expr} {tl th : TO} {pos p2 : Pos}

theorem po_none : PO X none tNoPart := by
  intro pins s σ H Q I h
  rw [evalPart_none]
  exact wpAny_pure ⟨none, H, I, .none, h⟩
theorem po_some (h : PE X e te) : PO X (some e) (tPart te) := by
  intro pins s σ H Q I hw
  rw [evalPart_some]
  refine thn (h pins s σ H _ I hw) fun u s1 ⟨x, H1, I1, r1, q1⟩ => ?_
  obtain ⟨i, rfl, q⟩ := q1
  obtain ⟨t, rfl⟩ := r1
  exact ⟨some i, H1, I1, .int i t, q⟩

/-- what a slice of a value is, by values: the slice object stands at sl -/
def SlR (X : Cx) (r : V → Option Int → Option Int → Hp → VK → Prop) : Prop :=
  ∀ (pins : List (Addr × Obj)) (s : Shared) (σ : St) (H : Hp) (x : V) (v vl vu : Value) (lo hi : Option Int) (sl : Addr) (Q : VK), Inv X pins σ H s → RelV x v → s.heap.IsSliceOf sl vl vu .none → IsPart vl lo → IsPart vu hi → r x lo hi H Q →
    ∃ T id, typeLookup (.type T) "__getitem__" = pure (some (.builtin id)) ∧ s.TypeIs v T ∧ wpAny (model X.prog X.w) X.A (getItem v (.ref sl)) (EP X pins σ Q) X.xe s
def tSl (r : V → Option Int → Option Int → Hp → VK → Prop) (te : TE) (tl th : TO) : TE := fun σ H Q => te σ H fun x H1 => tl σ H1 fun l H2 => th σ H2 fun u H3 => r x l u H3 Q
/-- a[lo:hi], any a -/
theorem pe_slice {r : V → Option Int → Option Int → Hp → VK → Prop} (hr : SlR X r) (he : PE X e te) (hl : PO X lo tl) (hu : PO X hi th) : PE X (.Subscript e (.Slice lo hi none p2) pos) (tSl r te tl th) := by
  intro pins s σ H Q I h
  refine Subscript_ (thn (he pins s σ H _ I h) fun v s1 ⟨x, H1, I1, r1, q1⟩ => ?_)
  refine wpAny_Slice (thn (hl pins s1 σ H1 _ I1 q1) fun vl s2 ⟨l, H2, I2, pl, q2⟩ => thn (hu pins s2 σ H2 _ I2 q2) fun vu s3 ⟨u, H3, I3, pu, q3⟩ => ?_)
  rw [evalPart_none]
  refine wpAny_pure ?_
  have I4 : Inv X pins σ H3 { s3 with heap := s3.heap.push { cls := .type "slice", data := .fields #[vl, vu, .none] } } := I3.kept (t' := s3.toks) fun b ob q => Heap.get?_push_of_some _ q
  obtain ⟨T, id, hT, ht, hg⟩ := hr pins { s3 with heap := s3.heap.push { cls := .type "slice", data := .fields #[vl, vu, .none] } } σ H3 x v vl vu l u s3.heap.objs.size Q I4 r1 (Heap.IsSliceOf.new ..) pl pu q3
  show wpAny (model X.prog X.w) X.A (subscriptTail e (.Slice lo hi none p2) v (.ref s3.heap.objs.size)) (EP X pins σ Q) X.xe { s3 with heap := s3.heap.push { cls := .type "slice", data := .fields #[vl, vu, .none] } }
  exact tail_any (ops := [.ref s3.heap.objs.size, v]) ht hT hg (by with_unfolding_all rfl)

/-- the items of xs[lo:hi] -/
def cutV (xs : List V) (lo hi : Option Int) : List V := (xs.drop (HT.sIx xs.length 0 lo)).take (HT.sIx xs.length xs.length hi - HT.sIx xs.length 0 lo)
/-- t[lo:hi], not the whole of it (the whole would be t itself) -/
def rSlT (K : PySem.W.Frag) : V → Option Int → Option Int → Hp → VK → Prop := fun x lo hi H Q => ∃ a xs, x = .ref a ∧ SqT K H a xs ∧
  ¬ (HT.sIx xs.length 0 lo = 0 ∧ HT.sIx xs.length xs.length hi = xs.length) ∧ ∀ p, H p = none → Q (.ref p) (upd H p (.tup (cutV xs lo hi)))
/-! ### t < u, t + u -/
def rLtT (K : PySem.W.Frag) : R2 := fun x y H Q => ∃ a b ns ms, x = .ref a ∧ y = .ref b ∧ SqT K H a (ns.map V.int) ∧ SqT K H b (ms.map V.int) ∧ Q (.bl (HT.lexLt ns ms)) H
/-- t + u, t not empty: u empty gives t itself -/
def rCatT (K : PySem.W.Frag) : R2 := fun x y H Q => ∃ a b xs ys, x = .ref a ∧ y = .ref b ∧ SqT K H a xs ∧ SqT K H b ys ∧ xs ≠ [] ∧ xs.length + ys.length ≤ sizeLine ∧
  (ys = [] → Q (.ref a) H) ∧ (ys ≠ [] → ∀ p, H p = none → Q (.ref p) (upd H p (.tup (xs ++ ys))))
end
end L2

namespace L2
open PySem PySem.Spec PyProof.Rows

/-! ### places -/
/-- the place that an index of any sign means -/
def ixN (n : Nat) (i : Int) : Option Nat := if 0 ≤ i then (if i < n then some i.toNat else none) else if -(n : Int) ≤ i then some (i + n).toNat else none
def atI {α : Type} (xs : List α) (i : Int) : Option α := (ixN xs.length i).bind fun j => xs[j]?
theorem ixN_seq {n : Nat} {i : Int} {j : Nat} (h : ixN n i = some j) : seqIndex? i n = some j ∧ j < n ∧ -(n : Int) ≤ i ∧ i < n := by
  unfold ixN at h
  by_cases h0 : 0 ≤ i
  · rw [if_pos h0] at h
    by_cases h1 : i < n
    · rw [if_pos h1] at h
      have e : i.toNat = j := Option.some.inj h
      exact ⟨by rw [seqIndex_of h0 h1, e], by omega, by omega, h1⟩
    · rw [if_neg h1] at h; cases h
  · rw [if_neg h0] at h
    by_cases h1 : -(n : Int) ≤ i
    · rw [if_pos h1] at h
      have e : (i + n).toNat = j := Option.some.inj h
      exact ⟨by rw [seqIndex_neg (by omega) h1, e], by omega, h1, by omega⟩
    · rw [if_neg h1] at h; cases h
theorem atI_get {α : Type} {xs : List α} {i : Int} {v : α} (h : atI xs i = some v) : ∃ j, seqIndex? i xs.length = some j ∧ xs[j]? = some v ∧ j < xs.length ∧ -(xs.length : Int) ≤ i ∧ i < xs.length := by
  unfold atI at h
  cases e : ixN xs.length i with
  | none => rw [e] at h; cases h
  | some j =>
    rw [e] at h
    obtain ⟨h1, h2, h3, h4⟩ := ixN_seq e
    exact ⟨j, h1, h, h2, h3, h4⟩
theorem atI_nat {α : Type} {xs : List α} {j : Nat} {v : α} (h : xs[j]? = some v) : atI xs (j : Int) = some v := by
  have hj : j < xs.length := (List.getElem?_eq_some_iff.mp h).1
  have e : ixN xs.length (j : Int) = some j := by
    unfold ixN
    rw [if_pos (by omega), if_pos (by omega)]; simp
  unfold atI; rw [e]; exact h
theorem atI_last {α : Type} (xs : List α) (v : α) : atI (xs ++ [v]) (-1) = some v := by
  have hl : (xs ++ [v]).length = xs.length + 1 := by simp
  have e : ixN (xs ++ [v]).length (-1) = some xs.length := by
    unfold ixN
    rw [hl, if_neg (by decide), if_pos (by omega)]
    congr 1
    omega
  unfold atI
  rw [e]
  show (xs ++ [v])[xs.length]? = some v
  simp

/-! ### what may be subscripted -/
/-- what stands as an index of a plain subscript -/
def PlainIx (b : Expr) : Prop := ∀ o i, subscripted b false o i = operate [o, i] (getItem o i)
/-- a subscript by values -/
def IxR (X : Cx) (r : R2) : Prop :=
  ∀ (value slice : Expr) (pins : List (Addr × Obj)) (s : Shared) (σ : St) (H : Hp) (x y : V) (v u : Value) (Q : VK), Inv X pins σ H s → RelV x v → RelV y u → r x y H Q →
    subscripted slice false v u = operate [v, u] (getItem v u) → wpAny (model X.prog X.w) X.A (subscriptTail value slice v u) (EP X pins σ Q) X.xe s
/-- a call of a builtin's method by values: the receiver, the arguments -/
def MtR (X : Cx) (id : String) (r : V → List V → Hp → VK → Prop) : Prop :=
  ∀ (pins : List (Addr × Obj)) (s : Shared) (σ : St) (H : Hp) (x : V) (xs : List V) (v : Value) (us : List Value) (Q : VK), Inv X pins σ H s → RelV x v → Vals xs us → r x xs H Q →
    wpAny (model X.prog X.w) X.A (call (.builtin id) (v :: us)) (EP X pins σ Q) X.xe s
section
variable {X : Cx} {a b : Expr} {ta tb : TE} {pos : Pos}
/-- a[b] -/
theorem pe_ix {r : R2} (hr : IxR X r) (ha : PE X a ta) (hb : PE X b tb) (hs : PlainIx b) : PE X (.Subscript a b pos) (tOp r ta tb) := by
  intro pins s σ H Q I h
  exact Subscript_ (binT ha hb I h fun v u s2 x y H2 I2 rx ry q => hr a b pins s2 σ H2 x y v u Q I2 rx ry q (hs _ _))

def rIxL (K : PySem.W.Frag) : R2 := fun x y H Q => ∃ p xs i v, x = .ref p ∧ y = .int i ∧ SqL K H p xs ∧ atI xs i = some v ∧ Q v H
def rIxT (K : PySem.W.Frag) : R2 := fun x y H Q => ∃ p xs i v, x = .ref p ∧ y = .int i ∧ SqT K H p xs ∧ atI xs i = some v ∧ Q v H
def rIxS : R2 := fun x y H Q => ∃ z i c, x = .str z ∧ y = .int i ∧ z.length ≤ sizeLine ∧ atI z.cps.toList i = some c ∧ Q (.str ⟨#[c]⟩) H
theorem ix_list : IxR X (rIxL X.K) := by
  intro value slice pins s σ H x y v u Q I rx ry h hs
  obtain ⟨p, xs, i, z, rfl, rfl, hq, he, q⟩ := h
  cases rx
  obtain ⟨t, rfl⟩ := ry
  obtain ⟨its, r, pl, hz⟩ := I.list hq
  obtain ⟨j, h1, h2, h3, h4, h5⟩ := atI_get he
  obtain ⟨w, ew, rw'⟩ := r.get h2
  have hl := r.length
  have hn := line63
  have fin : EP X pins σ Q w s := ⟨z, H, I, rw', q⟩
  by_cases h0 : 0 ≤ i
  · have hj : i.toNat = j := by
      rw [seqIndex_of h0 h5] at h1
      exact Option.some.inj h1
    exact item_listR pl.isList h0 (by omega) (by rw [hj]; simpa using ew) fin hs
  · have hj : (i + (its.toArray.size : Int)).toNat = j := by
      rw [seqIndex_neg (by omega) h4] at h1
      rw [List.size_toArray, ← hl]
      exact Option.some.inj h1
    exact subscriptTail_builtinR (x := w) pl.isList.typeIs slot_list_getitem.lookup
      (wpAny_getItem_list_neg (Q := fun r s' => r = w ∧ EP X pins σ Q r s') pl.isList (by omega) (by rw [List.size_toArray] <;> omega) (by omega) (by rw [hj]; simpa using ew) ⟨rfl, fin⟩) hs
theorem ix_str : IxR X rIxS := by
  intro value slice pins s σ H x y v u Q I rx ry h hs
  obtain ⟨z, i, c, rfl, rfl, hz, he, q⟩ := h
  obtain ⟨t, rfl⟩ := rx
  obtain ⟨t', rfl⟩ := ry
  obtain ⟨j, h1, h2, h3, h4, h5⟩ := atI_get he
  have hl : z.cps.toList.length = z.length := by simp [Str.length]
  rw [hl] at h1 h4 h5
  have hn := line63
  exact tail_any (typeIs_str s z t) slot_str_getitem.lookup (getItem_str (c := c) (by
    have e1 : decide (i < -(2 ^ 63 : Int)) = false := decide_eq_false (by omega)
    have e2 : decide (i ≥ 2 ^ 63) = false := decide_eq_false (by omega)
    rw [e1, e2, Bool.or_false]) (by rw [h1]; simpa using h2) ⟨.str ⟨#[c]⟩, H, I.tok _, ⟨_, rfl⟩, q⟩) hs
/-- list, tuple or str -/
def rIx (K : PySem.W.Frag) : R2 := fun x y H Q => rIxL K x y H Q ∨ rIxT K x y H Q ∨ rIxS x y H Q
/-! ### xs[i] = v, any sign -/
/-- the list's object behind a store -/
theorem mapSeq_set (its : List Value) (n j : Nat) (u : Value) : Obj.mapSeq (·.setIfInBounds j u) { cls := .type "list", data := .seq its.toArray n } = { cls := .type "list", data := .seq (its.set j u).toArray n } := by
  simp [Obj.mapSeq]
theorem Inv.lst {pins : List (Addr × Obj)} {σ : St} {H : Hp} {s : Shared} {p : Addr} {xs : List V} (I : Inv X pins σ H s) (h : H p = some (.lst xs)) :
    ∃ (its : List Value) (n : Nat), Vals xs its ∧ s.heap.get? p = some { cls := .type "list", data := .seq its.toArray n } ∧ xs.length ≤ sizeLine := by
  obtain ⟨z, its, n, r, e⟩ := I.hok p _ h
  exact ⟨its, n, r, e, z⟩
/-- the list at p is written by an update of its object -/
theorem Inv.lstUpd {pins : List (Addr × Obj)} {σ : St} {H : Hp} {s : Shared} {p : Addr} {xs ys : List V} {its its' : List Value} {n n' : Nat} {f : Obj → Obj} (I : Inv X pins σ H s) (h : H p = some (.lst xs))
    (ho : s.heap.get? p = some { cls := .type "list", data := .seq its.toArray n }) (hf : f { cls := .type "list", data := .seq its.toArray n } = { cls := .type "list", data := .seq its'.toArray n' }) (r : Vals ys its') (hz : ys.length ≤ sizeLine) (t : Nat) :
    Inv X pins σ (upd H p (.lst ys)) { s with heap := s.heap.update p f, toks := t } := by
  have e : (s.heap.update p f).get? p = some { cls := .type "list", data := .seq its'.toArray n' } := by
    rw [Heap.get?_update_self f ho (by rw [hf] <;> rfl), hf]
  refine I.write (x := p) (e := p) (by rw [h]; trivial) (.inl rfl) (fun b u hb q => (Heap.get?_update_other _ _ (Ne.symm hb)).trans q) ⟨_, e⟩ ?_
  exact ⟨hz, its', n', r, e⟩
def rSetL : V → V → V → Hp → (Hp → Prop) → Prop := fun o i v H Q => ∃ p xs k j, o = .ref p ∧ i = .int k ∧ H p = some (.lst xs) ∧ ixN xs.length k = some j ∧ Q (upd H p (.lst (xs.set j v)))
theorem set_list : PSet X rSetL := by
  intro pins s σ H o i v ov iv u Q I ro ri rv h
  obtain ⟨p, xs, k, j, rfl, rfl, hp, hj, q⟩ := h
  cases ro
  obtain ⟨t, rfl⟩ := ri
  obtain ⟨its, n, r, ho, hz⟩ := I.lst hp
  obtain ⟨h1, h2, h3, h4⟩ := ixN_seq hj
  have hl := r.length
  have hn := line63
  have I' : Inv X pins σ (upd H p (.lst (xs.set j v))) { s with heap := s.heap.update p (Obj.mapSeq (·.setIfInBounds j u)) } :=
    I.lstUpd hp ho (mapSeq_set its n j u) (r.set rv j) (by rw [List.length_set]; exact hz) s.toks
  by_cases h0 : 0 ≤ k
  · have hk : k.toNat = j := by
      rw [seqIndex_of h0 h4] at h1
      exact Option.some.inj h1
    exact PySem.W.ki_setAt ho h0 (by omega) (by rw [List.size_toArray, ← hl]; exact h4) (by rw [hk]; exact ⟨_, I', q⟩)
  · have hk : (k + (its.toArray.size : Int)).toNat = j := by
      rw [seqIndex_neg (by omega) h3] at h1
      rw [List.size_toArray, ← hl]
      exact Option.some.inj h1
    exact PySem.W.ki_setBack ho (by omega) (by rw [List.size_toArray, ← hl]; exact h3) (by omega) (by rw [hk]; exact ⟨_, I', q⟩)

/-! ### slices -/
/-- xs[lo:hi] of a list: a new list -/
def rSlL (K : PySem.W.Frag) : V → Option Int → Option Int → Hp → VK → Prop := fun x lo hi H Q => ∃ a xs, x = .ref a ∧ SqL K H a xs ∧ ∀ p, H p = none → Q (.ref p) (upd H p (.lst (cutV xs lo hi)))
/-! ### in, not in: flat items -/
def flatV : V → Bool
  | .non => true
  | .bl _ => true
  | .int _ => true
  | .str _ => true
  | _ => false
/-- == of flat values -/
def eqV : V → V → Bool
  | .non, .non => true
  | .bl a, .bl b => a == b
  | .bl a, .int b => (if a then 1 else 0) == b
  | .int a, .bl b => a == (if b then 1 else 0)
  | .int a, .int b => a == b
  | .str a, .str b => a == b
  | _, _ => false
/-- the items' answers, read off the values (a value's own answer does not lean on its token) -/
def eqU (x : V) (u : Value) : Bool := match u with
  | .none => eqV .non x
  | .bool b => eqV (.bl b) x
  | .int i _ => eqV (.int i) x
  | .str z _ => eqV (.str z) x
  | _ => false
def inV (x : V) (xs : List V) : Bool := xs.any fun y => eqV y x
/-- x in a list or tuple of flat items -/
def rIn (K : PySem.W.Frag) (neg : Bool) : R2 := fun x y H Q => ∃ p xs, y = .ref p ∧ (SqL K H p xs ∨ SqT K H p xs) ∧ flatV x = true ∧ xs.all flatV = true ∧ Q (.bl (if neg then !inV x xs else inV x xs)) H
/-! ### len, list(x), tuple(x) of any list or tuple that is read -/
theorem call_len_seq : CallR X (.builtin "len") (fun xs H Q => ∃ p ys, xs = [.ref p] ∧ (SqL X.K H p ys ∨ SqT X.K H p ys) ∧ Q (.int ys.length) H) := by
  intro pins s σ H xs us Q I r h
  obtain ⟨p, ys, rfl, hq, q⟩ := h
  obtain ⟨u, rfl, rx⟩ := vals1 r
  cases rx
  have hn := line63
  rcases hq with hq | hq
  · obtain ⟨its, r', pl, hz⟩ := I.list hq
    have hlen := r'.length
    exact Calls.call_len_list pl.isList (by simp only [List.size_toArray] <;> omega) ⟨.int ys.length, H, I.tok _, ⟨s.toks + 1, by rw [List.size_toArray, hlen]⟩, q⟩
  · obtain ⟨its, r', pl, hz⟩ := I.tuple hq
    have hlen := r'.length
    exact len_tuple pl (by simp only [List.size_toArray] <;> omega) ⟨.int ys.length, H, I.tok _, ⟨s.toks + 1, by rw [List.size_toArray, hlen]⟩, q⟩
theorem call_len_str : CallR X (.builtin "len") (fun xs H Q => ∃ z, xs = [.str z] ∧ z.length ≤ sizeLine ∧ Q (.int z.length) H) := by
  intro pins s σ H xs us Q I r h
  obtain ⟨z, rfl, hz, q⟩ := h
  obtain ⟨u, rfl, t, rfl⟩ := vals1 r
  have hn := line63
  exact len_str (by omega) ⟨.int z.length, H, I.tok _, ⟨_, rfl⟩, q⟩
theorem call_list_of : CallR X (.type "list") (fun xs H Q => ∃ p ys, xs = [.ref p] ∧ (SqL X.K H p ys ∨ SqT X.K H p ys) ∧ ∀ l, H l = none → Q (.ref l) (upd H l (.lst ys))) := by
  intro pins s σ H xs us Q I r h
  obtain ⟨p, ys, rfl, hq, q⟩ := h
  obtain ⟨u, rfl, rx⟩ := vals1 r
  cases rx
  have fin : ∀ (its : List Value), Vals ys its → ys.length ≤ sizeLine → ∀ (h' : Heap) (c' : Nat), (∀ b o', s.heap.get? b = some o' → h'.get? b = some o') →
      h'.get? s.heap.objs.size = some { cls := .type "list", dict := none, data := .seq its.toArray c', slots := #[] } → EP X pins σ Q (.ref s.heap.objs.size) { s with heap := h' } := fun its r' hz h' c' kp e =>
    ⟨.ref s.heap.objs.size, _, I.laid (t' := s.toks) kp (Nat.le_refl _) (show ObjOk X.prog X.w _ h' _ (.lst ys) from ⟨hz, its, c', r', e⟩), rfl, q _ (I.hok.fresh (Nat.le_refl _))⟩
  rcases hq with hq | hq
  · obtain ⟨its, r', pl, hz⟩ := I.list hq
    have hlen := r'.length
    obtain ⟨o, ho, hc, n, hd⟩ := pl.isList
    exact call_list_seq p (.inl rfl) ho hc hd (fun h' c' kp e => fin its r' hz h' c' kp e) (by simp only [List.size_toArray] <;> omega)
  · obtain ⟨its, r', pl, hz⟩ := I.tuple hq
    have hlen := r'.length
    obtain ⟨o, ho, hc, n, hd⟩ := pl
    exact call_list_seq p (.inr rfl) ho hc hd (fun h' c' kp e => fin its r' hz h' c' kp e) (by simp only [List.size_toArray] <;> omega)
/-! ### the call of a builtin's method: o.m(..) -/
/-- the value is of that builtin type -/
def tyV (K : PySem.W.Frag) (T : String) (x : V) (H : Hp) : Prop := match x with
  | .str _ => T = "str"
  | .int _ => T = "int"
  | .ref p => (T = "list" ∧ ∃ xs, SqL K H p xs) ∨ (T = "tuple" ∧ ∃ o, K.lookup p = some o ∧ o.cls = .type "tuple" ∧ o.dict = none) ∨
      (T = "dict" ∧ ((∃ kvs, H p = some (.dK kvs)) ∨ ∃ kvs, H p = some (.dT kvs))) ∨ (T = "set" ∧ ∃ S n, H p = some (.set S n))
  | _ => False
theorem tyV_is {pins : List (Addr × Obj)} {σ : St} {H : Hp} {s : Shared} {T : String} {x : V} {v : Value} (I : Inv X pins σ H s) (r : RelV x v) (ty : tyV X.K T x H) :
    s.TypeIs v T ∧ ∀ a, v = .ref a → ∃ ob, s.heap.get? a = some ob ∧ ob.dict = none := by
  cases x with
  | str z =>
    obtain ⟨t, rfl⟩ := r
    cases (show T = "str" from ty)
    exact ⟨typeIs_str s z t, fun _ e => nomatch e⟩
  | int i =>
    obtain ⟨t, rfl⟩ := r
    cases (show T = "int" from ty)
    exact ⟨typeIs_int s i t, fun _ e => nomatch e⟩
  | ref p =>
    cases r
    rcases ty with ⟨rfl, xs, hq⟩ | ⟨rfl, o, hk, hc, hd⟩ | ⟨rfl, hk⟩ | ⟨rfl, S, n, hk⟩
    · obtain ⟨its, _, pl, _⟩ := I.list hq
      refine ⟨pl.isList.typeIs, fun a e => ?_⟩
      cases e
      obtain ⟨o, n, e, c, hd, _⟩ := pl
      exact ⟨o, e, hd⟩
    · refine ⟨⟨o, I.kIn p o hk, hc⟩, fun a e => ?_⟩
      cases e
      exact ⟨o, I.kIn _ o hk, hd⟩
    · have z : ∃ o, s.heap.get? p = some o ∧ o.ExactDict := by
        rcases hk with ⟨kvs, hk⟩ | ⟨kvs, hk⟩
        · obtain ⟨_, _, _, _, o, _, _, e, ex, _⟩ := I.hok p _ hk
          exact ⟨o, e, ex⟩
        · obtain ⟨_, _, _, _, o, _, _, e, ex, _⟩ := I.hok p _ hk
          exact ⟨o, e, ex⟩
      obtain ⟨o, e, ex⟩ := z
      refine ⟨⟨o, e, ex.1⟩, fun a e2 => ?_⟩
      cases e2
      exact ⟨o, e, ex.2.1⟩
    · obtain ⟨o, _, _, _, e, ex, _⟩ := I.hok p _ hk
      refine ⟨⟨o, e, ex.1⟩, fun a e2 => ?_⟩
      cases e2
      exact ⟨o, e, ex.2.1⟩
  | _ => exact False.elim ty
def tBM0 (K : PySem.W.Frag) (T : String) (r : V → List V → Hp → VK → Prop) (to : TE) : TE := fun σ H Q => to σ H fun x H1 => tyV K T x H1 ∧ r x [] H1 Q
def tBM (K : PySem.W.Frag) (T : String) (r : V → List V → Hp → VK → Prop) (to : TE) (t : TA) : TE := fun σ H Q => to σ H fun x H1 => tyV K T x H1 ∧ t σ H1 fun xs H2 => r x xs H2 Q
variable {o e : Expr} {es : List Expr} {to : TE} {t : TA} {name : Str} {apos cpos : Pos} {T id : String} {r : V → List V → Hp → VK → Prop}
theorem pe_bm0 (pa : PlainAttrs T) (slot : Slot T name id) (hty : typeOf (.builtin id) = pure (.type "method_descriptor")) (hm : MtR X id r) (ho : PE X o to)
    (hbase : attributeBase o name X.env (eval o X.env) = eval o X.env := by rfl) (hline : (apos.endLine == cpos.line) = true := by rfl) : PE X (.Call (.Attribute o name apos) [] [] cpos) (tBM0 X.K T r to) := by
  intro pins s σ H Q I h
  refine wpAny_Call_method0_late hbase hline (thn (ho pins s σ H _ I h) fun v s1 ⟨x, H1, I1, r1, ty, q1⟩ => ?_)
  obtain ⟨h1, h2⟩ := tyV_is I1 r1 ty
  exact ⟨T, id, pa, slot, hty, h1, h2, Calls.callWith_builtin rfl (PySem.evalArgs_none (hm pins s1 σ H1 x [] v [] Q I1 r1 .nil q1))⟩
theorem pe_bm (pa : PlainAttrs T) (slot : Slot T name id) (hty : typeOf (.builtin id) = pure (.type "method_descriptor")) (hm : MtR X id r) (ho : PE X o to) (ha : PA X (e :: es) t)
    (hbase : attributeBase o name X.env (eval o X.env) = eval o X.env := by rfl)
    (hfew : ((backTo cpos (starEach (e :: es) X.env)).all (fun x => !x.1) && (backToKw cpos (keywordEach [] X.env)).all (fun x => x.1.isSome)
      && decide ((e :: es).length + ([] : List Keyword).length + (if ([] : List Keyword).isEmpty then 0 else 1) < 30)) = true := by rfl)
    (hline : (apos.endLine == cpos.line) = true := by rfl) (hs : starEach (e :: es) X.env = (false, eval e X.env) :: starEach es X.env := by rfl) (hplain : (backTo cpos (starEach es X.env)).any (·.1) = false := by rfl) :
    PE X (.Call (.Attribute o name apos) (e :: es) [] cpos) (tBM X.K T r to t) := by
  intro pins s σ H Q I h
  refine wpAny_Call_method_late hbase hfew hline rfl (thn (ho pins s σ H _ I h) fun v s1 ⟨x, H1, I1, r1, ty, q1⟩ => ?_)
  obtain ⟨h1, h2⟩ := tyV_is I1 r1 ty
  refine ⟨T, id, pa, slot, hty, h1, h2, ?_⟩
  have hA := ha cpos pins s1 σ H1 _ I1 q1
  rw [hs] at hA ⊢
  refine Calls.callWith_builtin (by show (false || (backTo cpos (starEach es X.env)).any (·.1)) = false; rw [hplain] <;> rfl) (Calls.evalArgs_plain ?_)
  exact thn hA fun us s2 ⟨vs, H2, I2, r2, q2⟩ => hm pins s2 σ H2 x vs v us Q I2 r1 r2 q2
/- xs.append(e), list.index on a module's tuple .. are MtR facts of 06m -/
end
end L2

namespace L2
open PySem PySem.Spec PyProof.Rows

def MtM (X : Cx) (id : String) (r : V → List V → Hp → VK → Prop) : Prop :=
  ∀ (pins : List (Addr × Obj)) (s : Shared) (σ : St) (H : Hp) (x : V) (xs : List V) (v : Value) (us : List Value) (Q : VK), Inv X pins σ H s → RelV x v → Vals xs us → r x xs H Q →
    wpAny (model X.prog X.w) X.A (call (.builtin id) (v :: us)) (EP X pins σ Q) X.xe s

/-! ### lists of values -/
theorem Vals.one : ∀ {x : V} {us : List Value}, Vals [x] us → ∃ u, us = [u] ∧ RelV x u
  | _, _, .cons r .nil => ⟨_, rfl, r⟩
theorem Vals.two : ∀ {x y : V} {us : List Value}, Vals [x, y] us → ∃ u v, us = [u, v] ∧ RelV x u ∧ RelV y v
  | _, _, _, .cons r (.cons q .nil) => ⟨_, _, rfl, r, q⟩
theorem Vals.zero : ∀ {us : List Value}, Vals [] us → us = []
  | _, .nil => rfl
theorem Vals.dropLast {xs : List V} {us : List Value} (h : Vals xs us) : Vals xs.dropLast us.dropLast := by
  induction h with
  | nil => exact .nil
  | cons r t ih =>
    cases t with
    | nil => exact .nil
    | cons q t' => exact .cons r ih
theorem Vals.rep {xs : List V} {us : List Value} (h : Vals xs us) : ∀ k : Nat, Vals (List.replicate k xs).flatten (List.replicate k us).flatten
  | 0 => .nil
  | k + 1 => by
    rw [List.replicate_succ, List.replicate_succ, List.flatten_cons, List.flatten_cons]
    exact Vals.append h (Vals.rep h k)
theorem erase_last {α : Type} (l : List α) : l.eraseIdx (l.length - 1) = l.dropLast := by
  induction l with
  | nil => rfl
  | cons a r ih =>
    cases r with
    | nil => rfl
    | cons b r =>
      have e : (a :: b :: r).length - 1 = ((b :: r).length - 1) + 1 := by
        have h1 : (a :: b :: r).length = r.length + 2 := rfl
        have h2 : (b :: r).length = r.length + 1 := rfl
        omega
      rw [e, List.eraseIdx_cons_succ, ih]
      all_goals rfl
theorem foldl_rep (its : List Value) : ∀ (k : Nat) (acc : List Value),
    List.foldl (fun x1 x2 => x1 ++ x2) acc.toArray (List.replicate k its.toArray) = (acc ++ (List.replicate k its).flatten).toArray
  | 0, acc => by simp
  | k + 1, acc => by
    have e : acc.toArray ++ its.toArray = (acc ++ its).toArray := by simp
    have e2 : (acc ++ its) ++ (List.replicate k its).flatten = acc ++ (List.replicate (k + 1) its).flatten := by
      rw [List.replicate_succ, List.flatten_cons, List.append_assoc]
    rw [← e2, ← foldl_rep its k (acc ++ its), ← e, List.replicate_succ, List.foldl_cons]

section
variable {X : Cx} {pins : List (Addr × Obj)} {σ : St} {H : Hp} {s : Shared} {l b : Addr} {xs ys zs : List V}

/-! ### the two steps: a tracked list is rewritten, a new list is laid -/
theorem Inv.lset {its its' : List Value} {n : Nat} {f : Array Value → Array Value} {t' : Nat} (I : Inv X pins σ H s) (hH : H l = some (.lst xs))
    (e : s.heap.get? l = some { cls := .type "list", data := .seq its.toArray n }) (hf : f its.toArray = its'.toArray) (hv : Vals ys its') (hz : ys.length ≤ sizeLine) :
    Inv X pins σ (upd H l (.lst ys)) { s with heap := s.heap.update l (Obj.mapSeq f), toks := t' } := by
  have q := PySem.IsL.update e f
  rw [hf] at q
  refine I.write (x := l) (e := l) (by rw [hH]; exact trivial) (.inl rfl) (fun b' u hb hu => (Heap.get?_update_other s.heap (Obj.mapSeq f) (Ne.symm hb)).trans hu) ⟨_, q⟩ ?_
  exact ⟨hz, its', _, hv, q⟩
theorem Inv.lnew {its : List Value} {t' : Nat} (I : Inv X pins σ H s) (hv : Vals ys its) (hz : ys.length ≤ sizeLine) :
    Inv X pins σ (upd H s.heap.objs.size (.lst ys)) { s with heap := s.heap.push { cls := .type "list", data := .seq its.toArray }, toks := t' } :=
  I.laid (fun _ _ q => Heap.get?_push_of_some _ q) (Nat.le_refl _) ⟨hz, its, 0, hv, Heap.get?_push_size _ rfl⟩
theorem Inv.fresh (I : Inv X pins σ H s) : H s.heap.objs.size = none := I.hok.fresh (Nat.le_refl _)
theorem Inv.lstM (I : Inv X pins σ H s) (hH : H l = some (.lst xs)) : xs.length ≤ sizeLine ∧ ∃ (its : List Value) (n : Nat), Vals xs its ∧ xs.length = its.length ∧ s.heap.get? l = some { cls := .type "list", data := .seq its.toArray n } := by
  obtain ⟨z, its, n, r, e⟩ := I.hok l _ hH
  exact ⟨z, its, n, r, r.length, e⟩

theorem notLongL {n : Nat} (h : n ≤ sizeLine) : Builtin.List.listTooLong n = false := by
  unfold Builtin.List.listTooLong
  exact decide_eq_false (by omega)
end

section
variable {X : Cx}

/-! ### methods -/
def rAppend : V → List V → Hp → VK → Prop := fun x vs H Q => ∃ l xs y, x = .ref l ∧ vs = [y] ∧ H l = some (.lst xs) ∧ xs.length < sizeLine ∧ Q .non (upd H l (.lst (xs ++ [y])))
theorem mt_append : MtM X "list.append" rAppend := by
  intro pins s σ H x vs v us Q I rx rv h
  obtain ⟨l, xs, y, rfl, rfl, hH, hz, q⟩ := h
  cases rx
  obtain ⟨u, rfl, ru⟩ := rv.one
  obtain ⟨z, its, n, r, hl, e⟩ := I.lstM hH
  refine call_meets F.slot_list_append ⟨_, e, rfl⟩ F.entry_list_append (F.args_list_append_2 _ _) (PySem.list_append l its.toArray n u (by rw [List.size_toArray]; omega)) ⟨e, ?_⟩
  refine ⟨.non, _, I.lset (its' := its ++ [u]) hH e (by simp) (r.append (.cons ru .nil)) ?_, rfl, q⟩
  rw [List.length_append, List.length_singleton]
  omega

def rExtend : V → List V → Hp → VK → Prop := fun x vs H Q => ∃ l b xs zs, x = .ref l ∧ vs = [.ref b] ∧ H l = some (.lst xs) ∧ H b = some (.lst zs) ∧ xs.length + zs.length ≤ sizeLine ∧ Q .non (upd H l (.lst (xs ++ zs)))
def rPop : V → List V → Hp → VK → Prop := fun x vs H Q => ∃ l xs y, x = .ref l ∧ vs = [] ∧ H l = some (.lst xs) ∧ xs[xs.length - 1]? = some y ∧ Q y (upd H l (.lst xs.dropLast))
theorem mt_pop : MtM X "list.pop" rPop := by
  intro pins s σ H x vs v us Q I rx rv h
  obtain ⟨l, xs, y, rfl, rfl, hH, hy, q⟩ := h
  cases rx
  have hus := rv.zero
  subst hus
  obtain ⟨z, its, n, r, hl, e⟩ := I.lstM hH
  obtain ⟨u, hu, ru⟩ := r.get hy
  have hy' : its.toArray[its.toArray.size - 1]? = some u := by
    show its.toArray[its.length - 1]? = some u
    rw [← Array.getElem?_toList, ← hl]
    exact hu
  refine call_meets F.slot_list_pop ⟨_, e, rfl⟩ F.entry_list_pop (F.args_list_pop_1 _) (MeetsSeq.list_pop_last l its.toArray n u hy' (by rw [List.size_toArray]; omega)) ⟨e, ?_⟩
  refine ⟨y, _, I.lset (its' := its.dropLast) hH e ?_ r.dropLast ?_, ru, q⟩
  · show its.toArray.eraseIdxIfInBounds (its.toArray.size - 1) = its.dropLast.toArray
    rw [List.size_toArray, List.eraseIdxIfInBounds_toArray, erase_last]
  · rw [List.length_dropLast]
    omega

def rPopAt : V → List V → Hp → VK → Prop := fun x vs H Q => ∃ l xs i k y, x = .ref l ∧ vs = [.int i] ∧ H l = some (.lst xs) ∧ -(2 ^ 63) ≤ i ∧ i < 2 ^ 63 ∧ seqIndex? i xs.length = some k ∧ xs[k]? = some y ∧ Q y (upd H l (.lst (xs.eraseIdx k)))
def rReverse : V → List V → Hp → VK → Prop := fun x vs H Q => ∃ l xs, x = .ref l ∧ vs = [] ∧ H l = some (.lst xs) ∧ Q .non (upd H l (.lst xs.reverse))
def rClear : V → List V → Hp → VK → Prop := fun x vs H Q => ∃ l xs, x = .ref l ∧ vs = [] ∧ H l = some (.lst xs) ∧ Q .non (upd H l (.lst []))
/-! ### list + list, list += list, list * int -/
def rCat : R2 := fun x y H Q => ∃ l b xs zs, x = .ref l ∧ y = .ref b ∧ H l = some (.lst xs) ∧ H b = some (.lst zs) ∧ xs.length + zs.length ≤ sizeLine ∧ ∀ p, H p = none → Q (.ref p) (upd H p (.lst (xs ++ zs)))
theorem op_cat : OpR X (binaryOp .Add) rCat := by
  intro pins s σ H x y v u Q I rx ry h
  obtain ⟨l, b, xs, zs, rfl, rfl, hH, hB, hz, q⟩ := h
  cases rx
  cases ry
  obtain ⟨z, its, n, r, hl, e⟩ := I.lstM hH
  obtain ⟨z2, its2, n2, r2, hl2, e2⟩ := I.lstM hB
  refine PySem.P.add_list e e2 ?_ (by rw [List.size_toArray, List.size_toArray]; omega)
  have ea : its.toArray ++ its2.toArray = (its ++ its2).toArray := by simp
  rw [ea]
  exact ⟨.ref _, _, I.lnew (t' := s.toks) (r.append r2) (by rw [List.length_append]; omega), rfl, q _ I.fresh⟩
/-- a list times an int (a negative one is nothing) -/
def rRep : R2 := fun x y H Q => ∃ l k xs, x = .ref l ∧ y = .int k ∧ H l = some (.lst xs) ∧ -(2 ^ 63) ≤ k ∧ k < 2 ^ 63 ∧ xs.length * k.toNat ≤ sizeLine ∧
  ∀ p, H p = none → Q (.ref p) (upd H p (.lst (List.replicate k.toNat xs).flatten))
theorem len_rep {α : Type} (xs : List α) (k : Nat) : (List.replicate k xs).flatten.length = k * xs.length := by
  induction k with
  | zero => simp
  | succ k ih => rw [List.replicate_succ, List.flatten_cons, List.length_append, ih, Nat.succ_mul, Nat.add_comm]
theorem op_rep : OpR X (binaryOp .Mult) rRep := by
  intro pins s σ H x y v u Q I rx ry h
  obtain ⟨l, k, xs, rfl, rfl, hH, h1, h2, hz, q⟩ := h
  cases rx
  obtain ⟨t, rfl⟩ := ry
  obtain ⟨z, its, n, r, hl, e⟩ := I.lstM hH
  have hlen : its.toArray.size * k.toNat ≤ sizeLine := by rw [List.size_toArray, ← hl]; exact hz
  have hcap : ¬ its.toArray.size * k.toNat > (2 ^ 63 - 1) / 8 := by
    have : (sizeLine : Nat) ≤ (2 ^ 63 - 1) / 8 := by decide
    omega
  have hfit : ¬ (!Builtin.List.listFitsIndex k) = true := by
    rw [fitsIndex_both h1 h2]
    exact Bool.false_ne_true
  have hlong : ¬ Builtin.List.listTooLong (its.toArray.size * k.toNat) = true := by
    rw [notLongL hlen]
    exact Bool.false_ne_true
  have hnew : List.foldl (fun x1 x2 => x1 ++ x2) #[] (List.replicate (if its.toArray.isEmpty = true then 0 else k.toNat) its.toArray) = (List.replicate k.toNat its).flatten.toArray := by
    have f0 : ∀ m : Nat, List.foldl (fun x1 x2 => x1 ++ x2) #[] (List.replicate m its.toArray) = (List.replicate m its).flatten.toArray := fun m => by
      have := foldl_rep its m []
      rw [List.nil_append] at this
      exact this
    rw [f0]
    cases its with
    | nil => simp
    | cons a r' => rw [if_neg (by simp)]
  refine wpAny_binaryOp_repeat_ref (T := "list") (U := "int") (by decide) ⟨_, e, rfl⟩ (fun s' => typeIs_int s' k t) noFill_list_mul F.fills_int_mul F.slot_int_rmul repeat_list F.slot_int_index.lookup
    (call_meets F.slot_int_rmul (typeIs_int s k t) F.entry_int_rmul (F.args_int_rmul_2 _ _) (int___rmul___int_list k t l its.toArray n)
      ⟨e, rfl, ⟨_, e, rfl⟩, call_meets F.slot_list_mul ⟨_, e, rfl⟩ F.entry_list_mul (F.args_list_mul_2 _ _) (AutoListH.list___mul___list_int_3 l its.toArray n k t hfit hcap hlong) ⟨e, ?_⟩⟩)
  rw [hnew]
  exact ⟨.ref _, _, I.lnew (t' := s.toks) (r.rep k.toNat) (by rw [len_rep, Nat.mul_comm]; exact hz), rfl, q _ I.fresh⟩

/-! ### del xs[i] -/
end

/-! ### xs[a:b] = ys -/
section
variable {prog : Program} {w : World} {A : Around} {E : Value → Shared → Prop} {s : Shared}
end

section
variable {X : Cx}
end
end L2

namespace Att
open PySem PySem.W PySem.Calls PyProof.Rows

/-! ### the script -/
theorem ints_of_wellAll {P : Params} {h : Heap} : ∀ (ns : List Int) (vs : List Value), WellAll P h vs (ns.map WData.int) → IntsAre vs ns := by
  intro ns
  induction ns with
  | nil =>
    intro vs w
    rw [List.map_nil] at w
    cases w
    exact .nil
  | cons n ns ih =>
    intro vs w
    rw [List.map_cons] at w
    cases w with
    | cons a b =>
      cases a
      exact .cons _ _ (ih _ b)

theorem script_of {l : OpenLaw} {n : Nat} (hn : l.most = some n) {P : Params} {h : Heap} {args : List WData} {vals : List Value}
    (hpre : l.row.toRowW.claim.pre args = true) (hwl : WellAll P h vals args) :
    ∃ a vs ns, vals = [Value.ref a] ∧ args = [WData.list (ns.map WData.int)] ∧ h.get? a = some { cls := .type "list", data := .seq vs.toArray } ∧ IntsAre vs ns ∧ ns.length ≤ n := by
  have hsh : WShape.hasAll [] args [.list .int] = true := (pre_splitW hpre).1
  have hc : l.pre.holds [] { args := args } = true := (pre_splitW hpre).2
  obtain ⟨d, r, rfl, h1, h2⟩ := hasAllW_cons hsh
  obtain rfl := hasAllW_nil h2
  obtain ⟨xs, rfl, h3⟩ := hasW_list h1
  obtain ⟨ns, rfl⟩ := items_int h3
  have hlen : ns.length ≤ n := by
    unfold OpenLaw.pre at hc
    have h4 : (WTm.not (.lt (.lit (.int (n : Int))) (.len (.arg 0)))).holds [] { args := [.list (ns.map .int)] } = true := by
      have h4 := (holds_andW hc).1
      rw [hn] at h4
      exact h4
    have h5 := condW_of h4 (w_not (w_lt w_lit (w_len_list (w_arg rfl))))
    rw [List.length_map] at h5
    refine Nat.le_of_not_lt fun q => ?_
    have q' : (n : Int) < ((ns.length : Nat) : Int) := by omega
    first
      | (rw [decide_eq_true q'] at h5; exact absurd h5 (by decide))
      | (simp at h5; omega)
  cases hwl with
  | cons w1 w2 =>
    cases w2
    cases w1 with
    | list ho hall => exact ⟨_, _, ns, rfl, rfl, ho, ints_of_wellAll ns _ hall, hlen⟩

theorem post_true (l : OpenLaw) (args : List WData) : l.row.toRowW.claim.post args (.bool true) args = true :=
  postW_of (r := l.row.toRowW) (X := (true == true))
    (show WShape.has [] (.bool true) .bool = true by first | rfl | decide | simp [WShape.has, WShape.arms, WShape.armsAll])
    (show (WTm.eq .res (.lit (.bool true))).value [] { args := args, res := some (.bool true), after := args } = some (.bool (true == true)) from w_eq_bool (w_res rfl) w_lit) rfl

/-! ### the attachment: holds_open's last premise (the goal 'hc' behind k_head) from a wpAny of the law's body -/
/-- the same from a codeAny of the CALL (for a layer whose function contracts speak of calls) -/
theorem attach_call {l : OpenLaw} {n : Nat} {q : Program} {loose : List Str} {XP : (Str → Option Value) → Heap → Prop} {YP : World → Heap → Prop} {d : DefRec}
    (hn : l.most = some n) (hdf : d.params.defaults = [])
    (call : ∀ (w : World) (s₀ s₁ : Shared) (mg mb : Str → Option Value) (fa : Addr) (o : Obj) (pm cd doc : Value) (a : Addr) (vs : List Value) (ns : List Int),
      Ground q loose [] XP w s₀ mg mb s₁.heap → YP w s₁.heap →
      s₁.heap.get? fa = some o → o.data = .func (docDef d.name d.params d.body d.scope pm cd doc) → s₁.heap.CodeRec cd d.name → mg d.name = some (.ref fa) →
      s₁.heap.get? a = some { cls := .type "list", data := .seq vs.toArray } → IntsAre vs ns → ns.length ≤ n → s₁.gens = #[] →
      codeAny (model l.prog w) callerA (.call (.ref fa) ⟨[.ref a], []⟩) (fun r s' => r = .ok (.ret (.bool true)) ∧ OldK s₁.heap s'.heap ∧ s'.os = s₁.os ∧ AllBare s'.gens) s₁) :
    WalkO q loose XP YP l.row.toRowW d [] (fun f vs => PySem.call f vs) := by
  intro w s₀ s₁ mg mb G Y fa o pm cd doc dV kV ho hd hcd hD hmg hg args vals as hpre hlay hrd hwl hlo
  obtain rfl : dV = .none := Dflts.none hD hdf
  obtain rfl : kV = .none := Dflts.noKw hD
  obtain ⟨a, vs, ns, rfl, rfl, hobj, hints, hlen⟩ := script_of hn hpre hwl
  refine enter_call (codeAny_mono (call w s₀ s₁ mg mb fa o pm cd doc a vs ns G Y ho (fd_plain hd) hcd hmg hobj hints hlen hg) fun r s' hq => ?_)
  obtain ⟨rfl, h2, h3, h4⟩ := hq
  exact ⟨.inl ⟨.bool true, .bool true, [], rfl, fun _ => rfl, .bool true, post_true l _, fun _ => ⟨List.Pairwise.nil, fun _ hm => (nomatch hm)⟩⟩, h2, h3, h4⟩

/-! ### rules over ANY heap (no ledger) from facts about the written part K: the library's own take a ledger (News) for what they write -/
section
variable {prog : Program} {w : World} {A : Around} {E : Value → Shared → Prop} {s : Shared} {K : Frag}

/-! the whole heap as the ledger: makes every rule that writes through a ledger a rule over any heap -/
def noObjs (h : Heap) : Heap := { h with objs := #[] }
def ledger (h : Heap) (L d : Addr) : List (Addr × Obj) := (List.range h.objs.size).filterMap fun a => if a = L ∨ a = d then none else (h.get? a).map fun o => (a, o)
end
end Att

namespace L2
open PySem PySem.Spec PyProof.Rows

theorem vals_ints : ∀ {vs : List Value} {ns : List Int}, IntsAre vs ns → Vals (ns.map V.int) vs
  | _, _, .nil => .nil
  | _, _, .cons n t h => .cons ⟨t, rfl⟩ (vals_ints h)

/-- nothing is tracked but the script, known to the object (or it is an object of the module) -/
def Only (H : Hp) : Prop := ∀ b, H b = none ∨ ∃ o xs, H b = some (.frz o (.lst xs))

/-- THE HEAD: the law's promise, at the heap behind the top. F, the promise of the law's def, may use that base is part of the heap (so K.In base, base.Ns mainGlobals mg stand in Mod) -/
theorem law_call {P : Program} {w : World} {K : PySem.W.Frag} {mg mb : Str → Option Value} {CX : CXT} {k : Nat} {fa a : Addr} {fd : FuncData} {x : Str} {sp : Sp} {s₁ : Shared} {vs : List Value} {ns : List Int}
    (KX : K.In s₁.heap) (hns : s₁.heap.Ns mainGlobals mg) (hb : s₁.heap.Ns builtinsNs mb) (hbb : ∀ x : Str, x ≠ "__name__" → mb x = bootBuiltins x) (hlim : s₁.heap.NoLimit) (hg : s₁.gens = #[])
    (ha : s₁.heap.get? a = some { cls := .type "list", data := .seq vs.toArray }) (hi : IntsAre vs ns) (hl : ns.length ≤ sizeLine) (hr : Room k callerA)
    (F : ∀ base : Heap, K.In base → base.Ns mainGlobals mg → FnOk P w K mg base CX k fa fd [x] sp) (hbind : ∀ (s : Shared) (u : Value), BindsTo s fd ⟨[u], []⟩ [(x, u)])
    (hsp : ∀ H : Hp, Only H → SqL K H a (ns.map V.int) → sp [.ref a] H (fun v _ => v = .bl true) fun _ _ _ => False)
    (hCX : ∀ H e s', CX [] H s₁ (fun _ _ _ => False) e s' → False) :
    codeAny (model P w) callerA (.call (.ref fa) ⟨[.ref a], []⟩) (fun r s' => r = .ok (.ret (.bool true)) ∧ OldK s₁.heap s'.heap ∧ s'.os = s₁.os ∧ AllBare s'.gens) s₁ := by
  have rv := vals_ints hi
  have lenV := hi.length
  -- from an abstract heap in which nothing but the script may be tracked
  have core : ∀ H : Hp, Only H → SqL K H a (ns.map V.int) → HOk P w H s₁.heap → (∀ b, H b ≠ none → b = a) → (H a ≠ none → K.lookup a = none) →
      codeAny (model P w) callerA (.call (.ref fa) ⟨[.ref a], []⟩) (fun r s' => r = .ok (.ret (.bool true)) ∧ OldK s₁.heap s'.heap ∧ s'.os = s₁.os ∧ AllBare s'.gens) s₁ := by
    intro H hO hS hok hA hK
    have base_of : ∀ {b : Addr} {o : Obj}, s₁.heap.get? b = some o → H b = none → (hidT s₁.heap H).get? b = some o := fun e n => hidT_get e n
    have noA : ∀ {b : Addr} {o : Obj} {es : Array DictEntry} {ep : Nat}, s₁.heap.get? b = some o → o.data = .dict es ep → H b = none := fun {b o es ep} e d => by
      cases q : H b with
      | none => rfl
      | some u =>
        have e' : b = a := hA b (by rw [q]; simp)
        subst e'
        rw [ha] at e; cases e
        have d' : Data.seq vs.toArray _ = Data.dict es ep := d
        cases d'
    have nsK : ∀ {b : Addr} {m : Str → Option Value}, s₁.heap.Ns b m → (hidT s₁.heap H).Ns b m := fun {b m} ⟨o, es, ep, e, d, r⟩ => ⟨o, es, ep, base_of e (noA e d), d, r⟩
    have hKb : K.In (hidT s₁.heap H) := fun b o e => base_of (KX b o e) (by
      cases q : H b with
      | none => rfl
      | some u =>
        have e' : b = a := hA b (by rw [q]; simp)
        subst e'
        rw [hK (by rw [q]; simp)] at e; cases e)
    have hM : Mod K mg (hidT s₁.heap H) := ⟨hKb, nsK hns, ⟨mb, nsK hb, hbb⟩, let ⟨mc, h1, h2⟩ := hlim; ⟨mc, nsK h1, h2⟩⟩
    have e0 : Env0 P w K mg (hidT s₁.heap H) callerA [] s₁ H := ⟨rfl, hM, fun b o e => of_hidT e, Nat.le_of_eq (hidT_size _ _), trivial, fun b hb => absurd (show b ∈ ([] : List Addr) from hb) (by simp), hok, .of_eq hg, .inl rfl⟩
    refine codeAny_mono ((F _ hKb (nsK hns)).run callerA [] s₁ H ⟨[.ref a], []⟩ [.ref a] [.ref a] _ _ hr (.inr rfl) e0 (hbind s₁ (.ref a)) (.cons rfl .nil) (hsp H hO hS)) fun r s' h => ?_
    cases r with
    | error e => exact (hCX H e s' h).elim
    | ok fl =>
      cases fl with
      | next => exact False.elim h
      | brk => exact False.elim h
      | cont => exact False.elim h
      | ret u =>
        obtain ⟨v, H', os, bare, un, hok', r', q⟩ := h
        have q' : v = .bl true := q
        subst q'
        obtain rfl : u = Value.bool true := r'
        refine ⟨rfl, OldK.of_keep fun b o e => ?_, os, bare⟩
        cases q : H b with
        | none => exact un.keep b o e q (by intro z; exact absurd (show b ∈ ([] : List Addr) from z) (by simp)) (by simp)
        | some u =>
          rcases hO b with z | ⟨ob, xs, z⟩
          · rw [q] at z; cases z
          · have z2 := un.frzs b ob _ z
            obtain ⟨e1, _⟩ := hok b _ z
            obtain ⟨e2, _⟩ := hok' b _ z2
            rw [e] at e1; cases e1
            exact e2
  cases hk : K.lookup a with
  | some o =>
    -- the script is one of the module's own objects
    have e := KX a o hk
    rw [ha] at e
    cases e
    refine core (fun _ => none) (fun _ => .inl rfl) (.inr ⟨_, vs.toArray, _, hk, rfl, rfl, rfl, by rw [List.size_toArray, lenV]; exact hl, by simpa using rv⟩) (fun b u z => by have z' : (none : Option HO) = some u := z; cases z') (fun b z => absurd rfl z) fun z => absurd rfl z
  | none =>
    refine core (fun b => if b = a then some (.frz { cls := .type "list", data := .seq vs.toArray } (.lst (ns.map V.int))) else none) (fun b => ?_) (.inl (.inr ⟨{ cls := .type "list", data := .seq vs.toArray }, if_pos rfl⟩)) (fun b u z => ?_) (fun b z => ?_) fun _ => hk
    · by_cases hb : b = a
      · exact .inr ⟨_, _, if_pos hb⟩
      · exact .inl (if_neg hb)
    · by_cases hb : b = a
      · have z' := (if_pos hb).symm.trans z
        cases z'
        subst hb
        exact ⟨ha, by rw [List.length_map]; exact hl, vs, _, rv, ha⟩
      · have z' := (if_neg hb).symm.trans z
        cases z'
    · by_cases hb : b = a
      · exact hb
      · exact absurd (if_neg hb) z
end L2

namespace L2
open PySem PySem.Spec PyProof.Rows

abbrev KOf {K : PySem.W.Frag} {h : Heap} (_ : K.In h) : PySem.W.Frag := K

/-- the goal that k_head leaves (case hc), from the law's promise. F gives the function object fd (K's own) once, then the promise over every base -/
theorem walk_of {l : PySem.W.OpenLaw} {n k : Nat} {q : Program} {loose : List Str} {XP : (Str → Option Value) → Heap → Prop} {YP : World → Heap → Prop} {d : DefRec} {K : Params → PySem.W.Frag} {CX : World → CXT} {sp : World → Sp} {x : Str}
    (hn : l.most = some n) (hn2 : n ≤ sizeLine) (hdf : d.params.defaults = []) (hr : Room k callerA)
    (hY : ∀ (w : World) (h : Heap), YP w h → (K w.params).In h)
    (F : ∀ (w : World) (mg : Str → Option Value) (fa : Addr) (h : Heap), (K w.params).In h → h.Ns mainGlobals mg → mg d.name = some (.ref fa) →
      ∃ fd : FuncData, (∀ (s : Shared) (u : Value), BindsTo s fd ⟨[u], []⟩ [(x, u)]) ∧
        ∀ base : Heap, (K w.params).In base → base.Ns mainGlobals mg → FnOk l.prog w (K w.params) mg base (CX w) k fa fd [x] (sp w))
    (hsp : ∀ (w : World) (H : Hp) (a : Addr) (ns : List Int), ns.length ≤ n → Only H → SqL (K w.params) H a (ns.map V.int) → sp w [.ref a] H (fun v _ => v = .bl true) fun _ _ _ => False)
    (hCX : ∀ (w : World) (H : Hp) (s : Shared) (e : Value) (s' : Shared), CX w [] H s (fun _ _ _ => False) e s' → False) :
    PySem.W.WalkO q loose XP YP l.row.toRowW d [] (fun f vs => PySem.call f vs) := by
  refine Att.attach_call hn hdf fun w s₀ s₁ mg mb fa o pm cd doc a vs ns G Y ho hd hcd hmg hobj hints hlen hg => ?_
  have KX := hY w _ Y
  obtain ⟨fd, hb, hF⟩ := F w mg fa _ KX G.T.g hmg
  exact law_call KX G.T.g G.T.b G.T.builtins G.T.nolimit hg hobj hints (Nat.le_trans hlen hn2) hr hF hb (fun H hO hS => hsp w H a ns hlen hO hS) fun H e s' => hCX w H s₁ e s'
end L2


/-! SHORT WORDS over the layer: a def of the text, its body, what a loop and a test want. -/
namespace L2
open PySem PySem.Spec PyProof.Rows

/-! ### the text by places -/
/-- the j-th statement of a class's body -/
def inClass (s : Stmt) (j : Nat) : Stmt := match s with
  | .ClassDef _ _ _ body _ _ _ _ _ _ _ => body.getD j (.Pass ⟨0, 0, 0, 0⟩)
  | _ => .Pass ⟨0, 0, 0, 0⟩
def defArgs (s : Stmt) : Arguments := match s with
  | .FunctionDef _ a _ _ _ _ _ _ _ _ => a
  | _ => { posonlyargs := [], args := [], vararg := none, kwonlyargs := [], kw_defaults := [], kwarg := none, defaults := [] }
def defBody (s : Stmt) : List Stmt := match s with
  | .FunctionDef _ _ b _ _ _ _ _ _ _ => b
  | _ => []
def defScope (s : Stmt) : Scope := match s with
  | .FunctionDef _ _ _ _ _ _ sc _ _ _ => sc
  | _ => { kind := .function, names := [], isGenerator := false, isCoroutine := false }

/-! ### no exception leaves a def -/
abbrev E0 : XK := fun _ _ _ => False
theorem pass0 {X : Cx} : Passes CX0 X E0 := fun _ _ _ _ _ _ _ h => h.elim

/-! ### a def (or method) of the text as it stands behind the top -/
structure Fun (K : PySem.W.Frag) (x qual : Str) (st : Stmt) (f : Addr) (fd : FuncData) : Prop where
  ex : ∃ (oc : Value) (od : Option Addr) (kV doc pm : Value) (an : Option Addr) (cdv ct : Value) (osl : Array (Option Value)),
    fd = PySem.W.fnOf x qual (defArgs st) (defBody st) (defScope st) .none kV doc pm an cdv ct ∧ K.lookup f = some ⟨oc, od, .func fd, osl⟩ ∧ PySem.W.codeIn K cdv qual = true
  kp : PySem.W.keepIn K (.ref f) = true
section
variable {P : Program} {w : World} {K : PySem.W.Frag} {mg : Str → Option Value} {base : Heap}
/-- THE RULE for a def: its body as a term of rules, and the reading of that term -/
theorem Fun.ok {x qual : Str} {st : Stmt} {f : Addr} {fd : FuncData} {N ps : List Str} {k : Nat} {sp : Sp} (F : Fun K x qual st f fd) (S : FnScope N ps (defScope st)) (len : ∀ vs H Q E, sp vs H Q E → vs.length = ps.length)
    (hbody : ∀ (cdv : Value) (A : Around) (outer : List Env) (s : Shared) (H : Hp) (vs : List V) (Q : VK) (E : XK), Room k (A.deeper (envOfC qual (defScope st) s.heap.objs.size f cdv)) → sp vs H Q E →
      ∃ t, PSs (cxOf CX0 P w K mg base N qual (defScope st) f cdv A outer s H E).nox (defBody st) t ∧ t { nx := fun _ H' => Q .non H', rt := Q } (start N vs) H) : FnOk P w K mg base CX0 (k + 1) f fd ps sp := by
  obtain ⟨oc, od, kV, doc, pm, an, cdv, ct, osl, rfl, lk, hcd⟩ := F.ex
  refine fn_of lk hcd S len fun A outer s H vs Q E hr _ hsp => ?_
  obtain ⟨t, h, q⟩ := hbody cdv A outer s H vs Q E hr hsp
  exact ⟨t, h.nox, q⟩
/-- how its arguments bind (no defaults): h is «fun _ _ _ _ _ _ us hl => match us, hl with | [_, _], _ => rfl», one _ a parameter -/
theorem Fun.binds {x qual : Str} {st : Stmt} {f : Addr} {fd : FuncData} {ps : List Str} (F : Fun K x qual st f fd)
    (h : ∀ (kV doc pm : Value) (an : Option Addr) (cdv ct : Value) (us : List Value), us.length = ps.length → bindArgs (PySem.W.fnOf x qual (defArgs st) (defBody st) (defScope st) .none kV doc pm an cdv ct) ⟨us, []⟩ = pure (ps.zip us)) : Binds K fd ps [] := by
  obtain ⟨oc, od, kV, doc, pm, an, cdv, ct, osl, rfl, lk, hcd⟩ := F.ex
  exact .all (h kV doc pm an cdv ct)
theorem fun_mk {x qual : Str} {st : Stmt} {f : Addr} {oc : Value} {od an : Option Addr} {osl : Array (Option Value)} {kV doc pm cdv ct : Value} (l : K.lookup f = some ⟨oc, od, .func (PySem.W.fnOf x qual (defArgs st) (defBody st) (defScope st) .none kV doc pm an cdv ct), osl⟩)
    (c : PySem.W.codeIn K cdv qual = true) (k : PySem.W.keepIn K (.ref f) = true) : Fun K x qual st f (PySem.W.fnOf x qual (defArgs st) (defBody st) (defScope st) .none kV doc pm an cdv ct) := ⟨⟨oc, od, kV, doc, pm, an, cdv, ct, osl, rfl, l, c⟩, k⟩
end
theorem small1000 {n : Nat} (h : n ≤ 1000) : n < sizeLine := Nat.lt_of_le_of_lt h (by decide)

/-! ### expressions in short: the name that stands in the i-th slot -/
section
variable {X : Cx}
theorem pv (i : Nat) {x : Str} {pos : Pos} (hN : X.N[i]? = some x := by rfl) (hv : Vis X.env.scope x := by first | exact Or.inl rfl | exact Or.inr (Or.inl rfl) | exact Or.inr (Or.inr rfl)) (hd : (x == ("__debug__" : Str)) = false := by decide)
    (hcd : (x == ("__classdict__" : Str)) = false := by decide) : PE X (.Name x pos) (tVar i) := pe_var hN hv hd hcd
end

/-! ### tests -/
theorem iteF {A B : Prop} (h : B) : if false = true then A else B := by
  rw [if_neg Bool.false_ne_true]
  exact h
theorem iteT {A B : Prop} (h : A) : if true = true then A else B := by
  rw [if_pos rfl]
  exact h
theorem ite2 {c A B : Prop} [Decidable c] (h1 : c → A) (h2 : ¬ c → B) : if c then A else B := by
  by_cases h : c
  · rw [if_pos h]
    exact h1 h
  · rw [if_neg h]
    exact h2 h
/-! ### heaps -/
/-- all that was tracked is as it was -/
def Same (H H' : Hp) : Prop := ∀ b o, H b = some o → H' b = some o
theorem Same.refl (H : Hp) : Same H H := fun _ _ h => h
theorem Same.trans {H H1 H2 : Hp} (a : Same H H1) (b : Same H1 H2) : Same H H2 := fun c o h => b c o (a c o h)
theorem Same.free {H H' : Hp} (e : Same H H') {l : Addr} (h : H' l = Option.none) : H l = Option.none := by
  cases q : H l with
  | none => rfl
  | some o =>
    rw [e l o q] at h
    cases h
theorem Same.seq {K : PySem.W.Frag} {H H' : Hp} {a : Addr} {xs : List V} (e : Same H H') (h : SqL K H a xs) : SqL K H' a xs := by
  rcases h with (h | ⟨o, h⟩) | h
  · exact .inl (.inl (e _ _ h))
  · exact .inl (.inr ⟨o, e _ _ h⟩)
  · exact .inr h

end L2
end
section
set_option Elab.async false
set_option linter.all false
set_option maxRecDepth 100000
set_option maxHeartbeats 4000000
/-! MORE RULES over the layer: list comprehensions, == and != of nested data, all, is True, isinstance, t[:] -/
namespace L2
open PySem PySem.Spec PyProof.Rows

/-! ### the tests of a clause -/
def PF (X : Cx) (ifs : List Expr) (t : TT) : Prop :=
  ∀ (pins : List (Addr × Obj)) (s : Shared) (σ : St) (H : Hp) (Q : Bool → Hp → Prop), Inv X pins σ H s → t σ H Q →
    wpAny (model X.prog X.w) X.A (forIn ifs true fun c r => if r = true then do let ok ← isTrue c X.env (eval c X.env); pure (ForInStep.yield ok) else pure (ForInStep.yield r)) (TP X pins σ Q) X.xe s
def tYes : TT := fun _ H Q => Q true H
theorem pf_nil {X : Cx} : PF X [] tYes := fun pins s σ H Q I h => wpAny_tests_nil ⟨H, I, h⟩
theorem pf_one {X : Cx} {c : Expr} {t : TT} (hc : PT X c t) : PF X [c] t := fun pins s σ H Q I h => wpAny_tests_one (hc pins s σ H Q I h)

/-! ### the loop of a comprehension that never raises -/
section
variable {prog : Program} {w : World} {A : Around} {R : Result → Shared → Prop} {s : Shared}
theorem compLoop_go {elt target iter : Expr} {ifs : List Expr} {scope : Scope} {pos : Pos} {it acc : Value} {env : Env} (I : Nat → Shared → Prop)
    (turn : ∀ n s, I n s → wpAny (model prog w) A (pyNext it) (fun r s₁ => match r with
      | none => R (.ok .next) s₁
      | some v => wpAny (model prog w) A (letOwnedTupleGo target it v) (fun _ s₁' => wpAny (model prog w) A (assign target env v) (fun _ s₂ =>
          wpAny (model prog w) A (forIn ifs true fun c r => if r = true then do let ok ← isTrue c env (eval c env); pure (ForInStep.yield ok) else pure (ForInStep.yield r)) (fun ok s₃ =>
            if ok = true then wpAny (model prog w) A (eval elt env) (fun x s₄ =>
              wpAny (model prog w) A (call (.builtin "list.append") [acc, x]) (fun _ s₅ => ∃ m, m < n ∧ I m s₅) (fun _ _ => False) s₄) (fun _ _ => False) s₃
            else ∃ m, m < n ∧ I m s₃) (fun _ _ => False) s₂) (fun _ _ => False) s₁') (fun _ _ => False) s₁) (fun _ _ => False) s)
    (n : Nat) (h : I n s) : codeAny (model prog w) A (.compLoop (.ListComp elt [⟨target, iter, ifs, 0⟩] scope pos) 0 it acc env) R s := by
  refine codeAny_loop rfl I (fun n s hI => ?_) n h
  show wpAny _ A ((compTurn (.ListComp elt [⟨target, iter, ifs, 0⟩] scope pos) 0 it acc env).onRaise (fun x => do noteFrame x env; theTreesLotGoes x)) _ _ s
  refine wpAny_noted ?_
  rw [compTurn_list]
  refine wpAny_bind (wpAny_standAt (wpAny_bind (wpAny_mono (turn n s hI) (fun r s₁ h₁ => ?_) fun _ _ f => f.elim)))
  cases r with
  | none => exact wpAny_pure h₁
  | some v =>
    refine wpAny_bind (wpAny_mono h₁ (fun _ s₁' h₁' => wpAny_bind (wpAny_mono h₁' (fun _ s₂ h₂ => wpAny_bind (wpAny_mono h₂ (fun ok s₃ h₃ => ?_) fun _ _ f => f.elim)) fun _ _ f => f.elim)) fun _ _ f => f.elim)
    cases ok with
    | false => exact wpAny_pure ⟨rfl, h₃⟩
    | true =>
      exact wpAny_bind (wpAny_bind (wpAny_mono h₃ (fun x s₄ h₄ => wpAny_bind (wpAny_mono h₄ (fun _ s₅ h₅ => wpAny_pure (wpAny_pure ⟨rfl, h₅⟩)) fun _ _ f => f.elim)) fun _ _ f => f.elim))
end

/-! ### names of a block -/
theorem relabel_in {env : Env} : ∀ {names : List (Str × NameKind)} {y : Str} {k : NameKind},
    (names.map fun (n, k) => if (k == NameKind.free && env.scope.kind == .function && env.kindOf n == some .cell) then (n, NameKind.cell) else (n, k)).lookup y = some k → (k = .cell ∨ k = .free) → ∃ k0, (y, k0) ∈ names ∧ (k0 = .cell ∨ k0 = .free)
  | [], _, _, h, _ => by simp at h
  | (n, k0) :: r, y, k, h, hk => by
    have ih := @relabel_in env r y k
    rw [List.map_cons] at h
    by_cases hc : (k0 == NameKind.free && env.scope.kind == .function && env.kindOf n == some .cell) = true
    · simp only [hc, if_true] at h
      cases hy : y == n with
      | true =>
        have e : y = n := eq_of_beq hy
        subst e
        rw [Bool.and_eq_true, Bool.and_eq_true] at hc
        exact ⟨k0, List.mem_cons_self .., .inr (eq_of_beq hc.1.1)⟩
      | false =>
        rw [List.lookup_cons, hy] at h
        obtain ⟨k1, h1, h2⟩ := ih h hk
        exact ⟨k1, List.mem_cons_of_mem _ h1, h2⟩
    · simp only [hc] at h
      cases hy : y == n with
      | true =>
        have e : y = n := eq_of_beq hy
        subst e
        simp only [List.lookup_cons, hy, Bool.false_eq_true, if_false] at h
        cases h
        exact ⟨k0, List.mem_cons_self .., hk⟩
      | false =>
        simp only [List.lookup_cons, hy, Bool.false_eq_true, if_false] at h
        obtain ⟨k1, h1, h2⟩ := ih h hk
        exact ⟨k1, List.mem_cons_of_mem _ h1, h2⟩
theorem relabel_free {env : Env} : ∀ {names : List (Str × NameKind)} {y : Str}, names.lookup y = some .free →
    (names.map fun (n, k) => if (k == NameKind.free && env.scope.kind == .function && env.kindOf n == some .cell) then (n, NameKind.cell) else (n, k)).lookup y = some .cell ∨
    (names.map fun (n, k) => if (k == NameKind.free && env.scope.kind == .function && env.kindOf n == some .cell) then (n, NameKind.cell) else (n, k)).lookup y = some .free
  | [], _, h => by simp at h
  | (n, k0) :: r, y, h => by
    have ih := @relabel_free env r y
    rw [List.map_cons]
    cases hy : y == n with
    | true =>
      simp only [List.lookup_cons, hy] at h
      cases h
      by_cases hc : (NameKind.free == NameKind.free && env.scope.kind == .function && env.kindOf n == some .cell) = true
      · left; simp only [hc, if_true, List.lookup_cons, hy]
      · right; simp only [hc, Bool.false_eq_true, if_false, List.lookup_cons, hy]
    | false =>
      simp only [List.lookup_cons, hy] at h
      by_cases hc : (k0 == NameKind.free && env.scope.kind == .function && env.kindOf n == some .cell) = true
      · simp only [hc, if_true, List.lookup_cons, hy]; exact ih h
      · simp only [hc, Bool.false_eq_true, if_false, List.lookup_cons, hy]; exact ih h
theorem mem_of_lookup {κ β : Type} [BEq κ] [LawfulBEq κ] : ∀ {l : List (κ × β)} {y : κ} {b : β}, l.lookup y = some b → (y, b) ∈ l
  | [], _, _, h => by simp at h
  | (n, k) :: r, y, b, h => by
    cases hy : y == n with
    | true =>
      have e : y = n := eq_of_beq hy
      subst e
      simp only [List.lookup_cons, hy] at h
      cases h
      exact List.mem_cons_self ..
    | false =>
      simp only [List.lookup_cons, hy] at h
      exact List.mem_cons_of_mem _ (mem_of_lookup h)

/-- the context of a comprehension's block: x its own name, fj the names from around with their slots there -/
def blk (X : Cx) (sc : Scope) (cl : List (Str × Addr)) (fj : List (Str × Nat)) (x : Str) (s₃ : Shared) (H₃ : Hp) (ex : List Addr) : Cx where
  prog := X.prog
  w := X.w
  K := X.K
  mg := X.mg
  base := X.base
  A := X.A
  N := x :: fj.map (·.1)
  s₀ := s₃
  H₀ := H₃
  env := compEnvC sc cl s₃.heap.objs.size X.env
  outer := X.stack
  stack := X.stack
  ex := ex
  fn := fun _ => false
  calm := X.calm
  pn := []
  tr := []
  fx := []
  xe := fun _ _ => False
def frees (σ : St) (fj : List (Str × Nat)) : St := fj.map fun p => (σ[p.2]?).join
/-- what the text must have -/
structure LcOk (X : Cx) (sc : Scope) (cl : List (Str × Addr)) (fj : List (Str × Nat)) (x : Str) : Prop where
  clos : closureFor sc X.env = pure cl
  cell : ∀ y ∈ sc.names, y.2 ≠ .cell
  kind : sc.kind = .function
  names : ∀ y ∈ sc.names, y.2 = .local → sc.names.lookup y.1 = some .local
  hx : sc.names.lookup x = some .local
  sub : ∀ p ∈ cl, X.env.cells.lookup p.1 = some p.2
  has : ∀ y ∈ sc.names, y.2 = .free → (cl.lookup y.1).isSome = true
  fr : ∀ p ∈ fj, X.N[p.2]? = some p.1 ∧ sc.names.lookup p.1 = some .free ∧ (X.env.scope.names.lookup p.1 = some .cell ∨ X.env.scope.names.lookup p.1 = some .free)
  nd : (x :: fj.map (·.1)).Nodup
section
variable {X : Cx} {sc : Scope} {cl : List (Str × Addr)} {fj : List (Str × Nat)} {x : Str} {pins : List (Addr × Obj)} {σ : St} {H : Hp} {s₃ : Shared} {ex : List Addr}
theorem LcOk.sub' (O : LcOk X sc cl fj x) {n : Str} {c : Addr} (h : cl.lookup n = some c) : X.env.cells.lookup n = some c := O.sub (n, c) (mem_of_lookup h)
theorem lookup_of_mem {κ β : Type} [BEq κ] [LawfulBEq κ] : ∀ {l : List (κ × β)} {y : κ}, y ∈ l.map (·.1) → (l.lookup y).isSome = true
  | [], _, h => by cases h
  | (n, k) :: r, y, h => by
    cases hy : y == n with
    | true => simp only [List.lookup_cons, hy, Option.isSome_some]
    | false =>
      simp only [List.lookup_cons, hy]
      rcases List.mem_cons.mp h with e | h
      · exact absurd (beq_iff_eq.mpr (show y = n from e)) (by rw [hy]; exact Bool.false_ne_true)
      · exact lookup_of_mem h
theorem LcOk.of (cn : List Str) (clos : closureFor sc X.env = pure cl) (cell : ∀ y ∈ sc.names, y.2 ≠ .cell) (kind : sc.kind = .function) (names : ∀ y ∈ sc.names, y.2 = .local → sc.names.lookup y.1 = some .local) (hx : sc.names.lookup x = some .local)
    (sub : ∀ p ∈ cl, X.env.cells.lookup p.1 = some p.2) (hcn : cl.map (·.1) = cn) (has : ∀ y ∈ sc.names, y.2 = .free → y.1 ∈ cn)
    (fr : ∀ p ∈ fj, X.N[p.2]? = some p.1 ∧ sc.names.lookup p.1 = some .free ∧ (X.env.scope.names.lookup p.1 = some .cell ∨ X.env.scope.names.lookup p.1 = some .free)) (nd : (x :: fj.map (·.1)).Nodup) : LcOk X sc cl fj x :=
  ⟨clos, cell, kind, names, hx, sub, fun y hy hf => lookup_of_mem (by rw [hcn]; exact has y hy hf), fr, nd⟩
theorem blk_ok (O : LcOk X sc cl fj x) (I : Inv X pins σ H s₃) (hx : ∀ b ∈ ex, FpOk X pins H b) (hb : ∀ b ∈ ex, ∃ o, s₃.heap.get? b = some o) : (blk X sc cl fj x s₃ H ex).Ok where
  mod := I.ok.mod
  kind := O.kind
  glob := I.ok.glob
  blt := I.ok.blt
  above := Nat.le_refl _
  inj := fun a b c h1 h2 => I.ok.inj a b c (O.sub' h1) (O.sub' h2)
  has := fun y h => by
    have h' : ∃ k, ((relabel sc X.env).names).lookup y = some k ∧ (k = .cell ∨ k = .free) := by
      rcases h with h | h
      · exact ⟨_, h, .inl rfl⟩
      · exact ⟨_, h, .inr rfl⟩
    obtain ⟨k, h1, h2⟩ := h'
    obtain ⟨k0, m, z⟩ := relabel_in h1 h2
    have z' : k0 = .free := z.resolve_left (O.cell _ m)
    subst z'
    have q := O.has _ m rfl
    cases e : cl.lookup y with
    | none => rw [show cl.lookup (y, NameKind.free).1 = cl.lookup y from rfl, e] at q; cases q
    | some c => exact ⟨c, e⟩
  cab := fun _ _ h => by cases h
  hd := by
    rcases I.hdE with z | ⟨e, c, z1, z2⟩
    · exact .inl z
    · exact .inr ⟨e, c, z1, .inl z2⟩
  frames := I.ok.frames
  stk := .inl rfl
  exf := fun b h => by
    obtain ⟨o, e⟩ := hb b h
    obtain ⟨_, _, _, _, h4, _⟩ := hx b h
    exact ⟨Nat.ne_of_lt (Heap.lt_size e), fun y c hc => h4 y c (O.sub' hc)⟩
  bs := fun b o e => I.bs b o e
  bsz := Nat.le_trans I.ok.bsz I.sz
  noex := fun b o e h => by
    obtain ⟨_, _, _, h3, _, _⟩ := hx b h
    rcases h3 with z | z
    · exact I.ok.noex b o e z
    · exact absurd (Nat.lt_of_lt_of_le (Heap.lt_size (I.ok.bs b o e).1) z) (Nat.lt_irrefl _)
  exfs := fun b h z => by
    obtain ⟨_, h1, h2, _, _, _⟩ := hx b h
    exact (List.mem_cons.mp (I.stkSub b z)).elim h1 h2
  funs := I.stack
  frf := I.stkFree
theorem blk_inv (O : LcOk X sc cl fj x) (I : Inv X pins σ H s₃) (hx : ∀ b ∈ ex, FpOk X pins H b) (hb : ∀ b ∈ ex, ∃ o, s₃.heap.get? b = some o) {h₁ : Heap} {m₀ : Str → Option Value} {t : Nat}
    (hns : h₁.Ns s₃.heap.objs.size m₀) (hk : ∀ b o, s₃.heap.get? b = some o → h₁.get? b = some o) : Inv (blk X sc cl fj x s₃ H ex) [] (none :: frees σ fj) H { s₃ with heap := h₁, toks := t } where
  ok := blk_ok O I hx hb
  os := rfl
  bare := I.bare
  base := Un.kept hk
  loc := by
    refine ⟨m₀, hns, fun i y v e1 e2 _ => ?_⟩
    cases i with
    | zero => simp at e2
    | succ i =>
      have e1' : (fj.map (·.1))[i]? = some y := by
        have e : (x :: fj.map (·.1))[i + 1]? = some y := e1
        rw [List.getElem?_cons_succ] at e
        exact e
      have e2' : (frees σ fj)[i]? = some (some v) := by simpa using e2
      rw [List.getElem?_map] at e1'
      cases hp : fj[i]? with
      | none => rw [hp] at e1'; cases e1'
      | some p =>
        rw [hp] at e1'
        have ey : p.1 = y := Option.some.inj e1'
        subst ey
        unfold frees at e2'
        rw [List.getElem?_map, hp] at e2'
        have e3 : (σ[p.2]?).join = some v := Option.some.inj e2'
        have e4 : σ[p.2]? = some (some v) := by
          cases q : σ[p.2]? with
          | none => rw [q] at e3; cases e3
          | some w => rw [q] at e3; cases w with
            | none => cases e3
            | some w => cases e3; rfl
        obtain ⟨f1, f2, f3⟩ := O.fr p (List.mem_of_getElem? hp)
        obtain ⟨m, hn, hl⟩ := I.loc
        obtain ⟨u, r, l⟩ := hl p.2 p.1 v f1 e4 (.inr f3)
        refine ⟨u, r, ?_⟩
        rcases l with ⟨k, _⟩ | ⟨k, c, e, z⟩
        · exfalso
          have k' : X.env.scope.names.lookup p.1 = some .local := k
          rcases f3 with f3 | f3 <;> rw [f3] at k' <;> cases k'
        · have q := O.has _ (mem_of_lookup f2) rfl
          cases ec : cl.lookup p.1 with
          | none => rw [show cl.lookup (p.1, NameKind.free).1 = cl.lookup p.1 from rfl, ec] at q; cases q
          | some c' =>
            have e' := O.sub' ec
            rw [e] at e'
            cases e'
            exact .inr ⟨relabel_free f2, c, ec, z.keeps hk⟩
  cell := fun y c e => let ⟨v, z⟩ := I.cell y c (O.sub' e); ⟨v, z.keeps hk⟩
  free := I.hok.fresh (Nat.le_refl _)
  freeC := fun y c e => I.freeC y c (O.sub' e)
  pin := fun p hp => by cases hp
  hok := I.hok.kept hk
  len := by
    show (none :: frees σ fj).length = (x :: fj.map (·.1)).length
    simp [frees]
  tr := fun p hp => by cases hp
  fix := fun p hp => by cases hp
end

/-! ### [e for x in it if c] -/
/-- W: by the turn, a measure, the list so far and the heap -/
def tLc (wi : TI) (fj : List (Str × Nat)) (tc : TT) (te : TE) : TE := fun σ H Q => wi σ H fun J H1 => ∀ acc, H1 acc = none →
  ∃ W : Nat → Nat → List V → Hp → Prop, (∃ m, W 0 m [] (upd H1 acc (.lst []))) ∧ ∀ i m ys H, W i m ys H →
    (J.stop i H ∧ Q (.ref acc) H) ∨ (J.go i H ∧ ∀ x H', J.yld i H x H' → tc (some x :: frees σ fj) H' fun b H2 =>
      if b = true then te (some x :: frees σ fj) H2 fun v H3 => H3 acc = some (.lst ys) ∧ ys.length < sizeLine ∧ ∃ m', m' < m ∧ W (i + 1) m' (ys ++ [v]) (upd H3 acc (.lst (ys ++ [v])))
      else ∃ m', m' < m ∧ W (i + 1) m' ys H2)
section
variable {X : Cx} {sc : Scope} {cl : List (Str × Addr)} {fj : List (Str × Nat)} {x : Str} {px pos : Pos} {elt iter : Expr} {ifs : List Expr} {wi : TI} {tc : TT} {te : TE}
theorem lc_core (O : LcOk X sc cl fj x) (hc : X.calm = true) (hi : PI X (.Name x px) iter wi)
    (hf : ∀ s₃ H₃ ex, PF (blk X sc cl fj x s₃ H₃ ex) ifs tc) (he : ∀ s₃ H₃ ex, PE (blk X sc cl fj x s₃ H₃ ex) elt te)
    {pins : List (Addr × Obj)} {s : Shared} {σ : St} {H : Hp} {Q : VK} (I : Inv X pins σ H s) (h : tLc wi fj tc te σ H Q) {RR : Value → Addr → Result → Shared → Prop}
    (hRR : ∀ a C s' H' m, Inv X pins σ H' s' → Q (.ref a) H' → s'.heap.Ns C m → H' C = none → C ≠ X.env.locals → X.s₀.heap.objs.size ≤ C →
      (∀ y c, X.env.cells.lookup y = some c → c ≠ C) → (∀ p ∈ X.pn ++ pins, p.1 ≠ C) → RR (.ref a) C (.ok .next) s') :
    wpAny (model X.prog X.w) X.A (eval iter X.env) (fun xv s₁ => wpAny (model X.prog X.w) X.A (pyIter xv) (fun it s₂ => wpAny (model X.prog X.w) X.A (newList []) (fun acc s₃ =>
      wpAny (model X.prog X.w) X.A (newFunctionEnv sc X.env.globals cl [] X.env.qual none .none (some X.env)) (fun cenv s₄ =>
        codeAny (model X.prog X.w) X.A (.compStart (.ListComp elt [⟨.Name x px, iter, ifs, 0⟩] sc pos) 0 it acc { cenv with scope := relabel sc X.env }) (RR acc cenv.locals) s₄) X.xe s₃) X.xe s₂) X.xe s₁) X.xe s := by
  refine thn (hi pins s σ H _ I h) fun v s1 h1 => thn h1 fun itv s2 h2 => ?_
  obtain ⟨it, fp, tn, J, H2, e, I2, T, st2, f2, hW⟩ := h2
  subst e
  have hacc : H2 s2.heap.objs.size = none := I2.hok.fresh (Nat.le_refl _)
  obtain ⟨W, ⟨m0, w0⟩, turn⟩ := hW _ hacc
  have I3 : Inv X pins σ (upd H2 s2.heap.objs.size (.lst [])) { s2 with heap := s2.heap.push { cls := .type "list", data := .seq ([] : List Value).toArray } } := I2.lnew (t' := s2.toks) (ys := []) (its := []) .nil (Nat.zero_le _)
  have old3 : ∀ b o, s2.heap.get? b = some o → (s2.heap.push { cls := .type "list", data := .seq ([] : List Value).toArray }).get? b = some o := fun b o q => Heap.get?_push_of_some _ q
  have st3 := T.keep _ _ _ st2 fun b _ o q => old3 b o q
  have ob3 := T.obj _ _ st3
  have ob2 := T.obj _ _ st2
  have f3 : ∀ b ∈ fp, FpOk X pins (upd H2 s2.heap.objs.size (.lst [])) b := fun b hb => by
    obtain ⟨o, q, _⟩ := ob2 b hb
    obtain ⟨g0, g⟩ := f2 b hb
    exact ⟨by rw [upd_ne (Nat.ne_of_lt (Heap.lt_size q))]; exact g0, g⟩
  refine wpAny_newObj_type ?_
  generalize hS3 : ({ s2 with heap := s2.heap.push { cls := .type "list", data := .seq ([] : List Value).toArray } } : Shared) = s3 at I3 ⊢
  have st3' : tn 0 s3.heap := by rw [← hS3]; exact st3
  have ob3' : ∀ b ∈ fp, ∃ o, s3.heap.get? b = some o ∧ ∀ v, o.data ≠ .cell v := by rw [← hS3]; exact ob3
  generalize hH3 : upd H2 s2.heap.objs.size (.lst []) = H3 at I3 w0 f3
  generalize hac : s2.heap.objs.size = ac at turn ⊢
  clear hS3 st3 ob3 old3
  refine wpAny_newFunctionEnv O.cell (by intro y hy; cases hy) (fun h₁ hns₁ hsb₁ => ?_) O.kind
  have hk1 : ∀ b o, s3.heap.get? b = some o → h₁.get? b = some o := fun b o q => (hsb₁.2 b (Nat.ne_of_lt (Heap.lt_size q))).trans (Heap.get?_push_of_some _ q)
  have B := blk_inv (t := s3.toks + ([] : List (Str × Value)).length) O I3 f3 (fun b hb => let ⟨o, q, _⟩ := ob3' b hb; ⟨o, q⟩) hns₁ hk1
  generalize hX : blk X sc cl fj x s3 H3 fp = X' at B
  have hPF := hf s3 H3 fp
  have hPE := he s3 H3 fp
  rw [hX] at hPF hPE
  have eA : X'.A = X.A := by rw [← hX]; rfl
  have eP : X'.prog = X.prog := by rw [← hX]; rfl
  have eW : X'.w = X.w := by rw [← hX]; rfl
  have eK : X'.K = X.K := by rw [← hX]; rfl
  have eC : X'.calm = true := by rw [← hX]; exact hc
  have eE : X'.env = compEnvC sc cl s3.heap.objs.size X.env := by rw [← hX]; rfl
  have eX : X'.xe = fun _ _ => False := by rw [← hX]; rfl
  have eex : X'.ex = fp := by rw [← hX]; rfl
  have epn : X'.pn = [] := by rw [← hX]; rfl
  have eO : X'.outer = X.stack := by rw [← hX]; rfl
  have eS : X'.s₀ = s3 := by rw [← hX]; rfl
  have eH : X'.H₀ = H3 := by rw [← hX]; rfl
  have eN : X'.N = x :: fj.map (·.1) := by rw [← hX]; rfl
  have eF : X'.fx = [] := by rw [← hX]; rfl
  have stat : ∀ {H' : Hp}, (∀ b ∈ fp, H' b = none) → ∀ b ∈ fp, FpOk X' [] H' b := fun {H'} hn b hb => by
    obtain ⟨o, q, _⟩ := ob3' b hb
    obtain ⟨_, g1, g2, g3, g4, g5⟩ := f3 b hb
    refine ⟨hn b hb, ?_, ?_, .inl (by rw [eex]; exact hb), ?_, ?_⟩
    · rw [eE]; exact Nat.ne_of_lt (Heap.lt_size q)
    · show b ∉ frs X'.outer
      rw [eO]
      exact fun z => (List.mem_cons.mp (I3.stkSub b z)).elim g1 g2
    · rw [eE]; exact fun y c hc' => g4 y c (O.sub' hc')
    · rw [epn]; intro p hp; cases hp
  have loop : codeAny (model X.prog X.w) X.A (.compLoop (.ListComp elt [⟨.Name x px, iter, ifs, 0⟩] sc pos) 0 (.ref it) (.ref ac) (compEnvC sc cl s3.heap.objs.size X.env)) (RR (.ref ac) s3.heap.objs.size)
      { s3 with heap := h₁, toks := s3.toks + ([] : List (Str × Value)).length } := by
    refine compLoop_go (fun n s' => ∃ i o ys H', Inv X' [] (o :: frees σ fj) H' s' ∧ tn i s'.heap ∧ (∀ b ∈ fp, H' b = none) ∧ W i n ys H') ?_ m0
      ⟨0, none, [], H3, B, T.keep _ _ _ st3' fun b _ o q => hk1 b o q, fun b hb => (f3 b hb).1, w0⟩
    rintro n s4 ⟨i, o4, ys, H4, J4, st4, fr4, w4⟩
    rw [← eE, ← eP, ← eW, ← eA]
    rcases turn i n ys H4 w4 with ⟨stop, q⟩ | ⟨go, step⟩
    · have T' : Turn X'.prog X'.w X'.K (.Name x px) J fp it tn := by rw [eP, eW, eK]; exact T
      refine thn (T'.done X' rfl rfl rfl eC i [] s4 _ H4 _ J4 (stat fr4) st4 stop) fun r s5 ⟨hr, J5⟩ => ?_
      subst hr
      have hb5 := J5.base
      rw [eS, eH, eex, show X'.fs = frs X.stack by show frs X'.outer = _; rw [eO]] at hb5
      have ho5 := J5.os
      rw [eS] at ho5
      have hk5 := J5.hok
      rw [eP, eW] at hk5
      have I5 : Inv X pins σ H4 s5 := I3.call' (ch := fp) ho5 hb5 hk5 J5.bare fun b hb => by
        obtain ⟨_, g1, g2, g3, g4, g5⟩ := f3 b hb
        exact ⟨g3, g1, g4, g5⟩
      obtain ⟨m5, n5, _⟩ := J5.loc
      have fr5 := J5.free
      rw [eE] at n5 fr5
      refine hRR ac s3.heap.objs.size s5 H4 m5 I5 q n5 fr5 (Ne.symm (Nat.ne_of_lt I3.lt)) I3.sz (fun y c hc' => ?_) fun p hp => ?_
      · obtain ⟨_, oc, q', _⟩ := I3.cell y c hc'
        exact Nat.ne_of_lt (Heap.lt_size q')
      · exact Nat.ne_of_lt (Heap.lt_size (I3.pin p hp).1)
    · have T' : Turn X'.prog X'.w X'.K (.Name x px) J fp it tn := by rw [eP, eW, eK]; exact T
      refine thn (T'.item X' rfl rfl rfl eC i [] s4 _ H4 _ J4 (stat fr4) st4 go) fun r s5 ⟨u, hr, h5⟩ => ?_
      subst hr
      refine thn h5 fun _ s6 ⟨xv, H6, J6, r6, y6, st6, fr6⟩ => ?_
      have J6' := J6.pinned (stat fr6) (T.obj _ _ st6)
      have lx : X'.env.scope.names.lookup x = some .local := by rw [eE]; exact lookup_relabel_local O.hx
      have pg : PG X' (.Name x px) (gName 0) := pg_name (by rw [eN]; exact O.nd) (by rw [eN]; rfl) (.inl lx) (.inr lx) (by rw [eF]; intro p hp; cases hp)
      have q6 := step xv H6 y6
      refine wpAny_mono (pg _ s6 _ H6 xv u (fun σ' H' => σ' = some xv :: frees σ fj ∧ H' = H6) J6' r6 ⟨rfl, rfl⟩) (fun _ s7 ⟨σ7, H7, J7, e7, e7'⟩ => ?_) (by rw [eX]; exact fun _ _ f => f)
      subst e7 e7'
      refine wpAny_mono (hPF _ s7 _ H7 _ J7 q6) (fun b s8 ⟨H8, J8, q8⟩ => ?_) (by rw [eX]; exact fun _ _ f => f)
      have back : ∀ {H9 : Hp} {s9 : Shared} {o9 : Option V}, Inv X' ([] ++ pinsAt fp s6.heap) (o9 :: frees σ fj) H9 s9 → Inv X' [] (o9 :: frees σ fj) H9 s9 ∧ tn (i + 1) s9.heap ∧ ∀ b ∈ fp, H9 b = none := fun {H9 s9 o9} J9 => by
        refine ⟨J9.unpinned, T.keep _ _ _ st6 fun b hb o q => (J9.pin (b, o) (List.mem_append_right _ (List.mem_append_right _ (mem_pinsAt hb q)))).1, fun b hb => ?_⟩
        obtain ⟨o, q, d⟩ := T.obj _ _ st6 b hb
        exact (J9.pin (b, o) (List.mem_append_right _ (List.mem_append_right _ (mem_pinsAt hb q)))).2.1
      cases b with
      | false =>
        obtain ⟨m', hm, w8⟩ : ∃ m', m' < n ∧ W (i + 1) m' ys H8 := q8
        obtain ⟨b1, b2, b3⟩ := back J8
        exact ⟨m', hm, i + 1, some xv, ys, H8, b1, b2, b3, w8⟩
      | true =>
        refine wpAny_mono (hPE _ s8 _ H8 _ J8 q8) (fun uv s9 ⟨v9, H9, J9, r9, ha9, hl9, m', hm, w9⟩ => ?_) (by rw [eX]; exact fun _ _ f => f)
        refine wpAny_mono (mt_append (X := X') _ s9 _ H9 (.ref ac) [v9] (.ref ac) [uv] (fun _ H' => H' = upd H9 ac (.lst (ys ++ [v9]))) J9 rfl (.cons r9 .nil) ⟨ac, ys, v9, rfl, rfl, ha9, hl9, rfl⟩)
          (fun _ s10 ⟨_, H10, J10, _, e10⟩ => ?_) (by rw [eX]; exact fun _ _ f => f)
        subst e10
        obtain ⟨b1, b2, b3⟩ := back J10
        exact ⟨m', hm, i + 1, some xv, ys ++ [v9], _, b1, b2, b3, w9⟩
  exact codeAny_compStart_list loop (T.self _ 0 _ _ _ (T.keep _ _ _ st3' fun b _ o q => hk1 b o q) loop)
theorem pe_lc (O : LcOk X sc cl fj x) (hc : X.calm = true) (hi : PI X (.Name x px) iter wi)
    (hf : ∀ s₃ H₃ ex, PF (blk X sc cl fj x s₃ H₃ ex) ifs tc) (he : ∀ s₃ H₃ ex, PE (blk X sc cl fj x s₃ H₃ ex) elt te)
    (hs : ∀ x, foldedSetIterable iter X.env x = pure x := by intro _; rfl) : PE X (.ListComp elt [⟨.Name x px, iter, ifs, 0⟩] sc pos) (tLc wi fj tc te) := by
  intro pins s σ H Q I h
  rw [eval_ListComp]
  refine wpAny_comprehension_free (use := none) rfl hs O.clos O.kind O.names (lc_core O hc hi hf he I h (RR := fun acc C => compPost (model X.prog X.w) X.A X.xe none (EP X pins σ Q) acc C) ?_)
  intro a C s' H' m I' q hn hC hL hz h2 h3
  exact ⟨m, hn, fun h' hs' => ⟨.ref a, H', I'.turned (t' := s'.toks) (fun b o hb e => (hs'.2 b hb).trans e) hC hL (.inr hz) h2 h3, rfl, q⟩⟩
/-- y = [..], stored ahead of the block's end -/
theorem ps_setLc {j : Nat} {y : Str} {py spos : Pos} (O : LcOk X sc cl fj x) (hc : X.calm = true) (hN : X.N.Nodup) (hj : X.N[j]? = some y) (hy : Loc X.env.scope y) (hi : PI X (.Name x px) iter wi)
    (hf : ∀ s₃ H₃ ex, PF (blk X sc cl fj x s₃ H₃ ex) ifs tc) (he : ∀ s₃ H₃ ex, PE (blk X sc cl fj x s₃ H₃ ex) elt te)
    (hsw : swapsWith (.ListComp elt [⟨.Name x px, iter, ifs, 0⟩] sc pos) (some (.Name y py)) spos.line X.env = pure true := by rfl)
    (hfn : X.fn y = true ∨ X.env.scope.names.lookup y = some .local := by first | exact .inl rfl | exact .inr rfl | assumption)
    (hfx : ∀ p ∈ X.fx, p.1 ≠ y := by first | exact fun p h => absurd (show p ∈ ([] : List (Str × Value)) from h) (by simp) | assumption)
    (hs : ∀ x, foldedSetIterable iter X.env x = pure x := by intro _; rfl) : PS X (.Assign [.Name y py] (.ListComp elt [⟨.Name x px, iter, ifs, 0⟩] sc pos) spos) (tAsg (tLc wi fj tc te) (gName j)) := by
  intro pins s σ H D I h
  rw [exec_Assign_Name_used _ _ _ _ hsw]
  refine wpAny_bind (wpAny_standAt (wpAny_bind ?_))
  show wpAny _ X.A (do let _ ← comprehension (.ListComp elt [⟨.Name x px, iter, ifs, 0⟩] sc pos) sc X.env _ (newList []) false (eval iter X.env) (some (assign (.Name y py) X.env))) _ _ s
  refine wpAny_bind (thn (wpAny_comprehension_free (use := some (assign (.Name y py) X.env)) (Q := fun _ s' => ∃ σ' H', Inv X pins σ' H' s' ∧ D.nx σ' H') rfl hs O.clos O.kind O.names
    (lc_core O hc hi hf he I h (RR := fun acc C => compPost (model X.prog X.w) X.A X.xe (some (assign (.Name y py) X.env)) (fun _ s' => ∃ σ' H', Inv X pins σ' H' s' ∧ D.nx σ' H') acc C) ?_)) fun _ s' hq => wpAny_pure (wpAny_pure hq))
  intro a C s' H' m I' q hn hC hL hz h2 h3
  show wpAny _ X.A (assign (.Name y py) X.env (.ref a)) _ _ _
  refine wpAny_assign_Name (store_ok2 (v := .ref a) I' hN hj hy rfl (fun s'' I'' ⟨a', sb, ha⟩ => ?_) hfn hfx)
  have ne : C ≠ a' := by
    rcases ha with ha | ha
    · rw [ha]; exact hL
    · exact Ne.symm (h2 y a' ha)
  exact ⟨m, hn.sameBut sb ne, fun h' hs' => ⟨_, H', I''.turned (t' := s''.toks) (fun b o hb e => (hs'.2 b hb).trans e) hC hL (.inr hz) h2 h3, q⟩⟩
end

/-! ### the forms one uses: no test -/
/-- over a range: Pv by the turn, the list so far, the heap -/
theorem lc_range {fj : List (Str × Nat)} {te : TE} {σ : St} {H1 : Hp} {Q : Addr → Hp → Prop} {lo : Int} {n : Nat} (hn : n ≤ 1000)
    (Pv : Addr → Nat → List V → Hp → Prop) (h0 : ∀ acc, H1 acc = none → Pv acc 0 [] (upd H1 acc (.lst [])))
    (hl : ∀ acc i ys H, i ≤ n → Pv acc i ys H → ys.length = i)
    (hs : ∀ acc i ys H (Qf : VK), i < n → Pv acc i ys H → (∀ v H3, H3 acc = some (.lst ys) → Pv acc (i + 1) (ys ++ [v]) (upd H3 acc (.lst (ys ++ [v]))) → Qf v H3) → te (some (.int (lo + i)) :: frees σ fj) H Qf)
    (hd : ∀ acc ys H, H1 acc = none → Pv acc n ys H → Q acc H) :
    ∀ acc, H1 acc = none → ∃ W : Nat → Nat → List V → Hp → Prop, (∃ m, W 0 m [] (upd H1 acc (.lst []))) ∧ ∀ i m ys H, W i m ys H →
      ((Itr lo n).stop i H ∧ Q acc H) ∨ ((Itr lo n).go i H ∧ ∀ x H', (Itr lo n).yld i H x H' → tYes (some x :: frees σ fj) H' fun b H2 =>
        if b = true then te (some x :: frees σ fj) H2 fun v H3 => H3 acc = some (.lst ys) ∧ ys.length < sizeLine ∧ ∃ m', m' < m ∧ W (i + 1) m' (ys ++ [v]) (upd H3 acc (.lst (ys ++ [v])))
        else ∃ m', m' < m ∧ W (i + 1) m' ys H2) := by
  intro acc hacc
  refine ⟨fun i m ys H => m = n - i ∧ i ≤ n ∧ Pv acc i ys H, ⟨n, rfl, Nat.zero_le _, h0 acc hacc⟩, ?_⟩
  rintro i m ys H ⟨rfl, hi, hp⟩
  by_cases e : i = n
  · subst e; exact .inl ⟨Nat.le_refl _, hd acc ys H hacc hp⟩
  · have hlt : i < n := by omega
    refine .inr ⟨hlt, ?_⟩
    rintro x H' ⟨rfl, rfl⟩
    refine (hs acc i ys _ (fun v H3 => H3 acc = some (.lst ys) ∧ ys.length < sizeLine ∧ ∃ m', m' < n - i ∧ (m' = n - (i + 1) ∧ i + 1 ≤ n ∧ Pv acc (i + 1) (ys ++ [v]) (upd H3 acc (.lst (ys ++ [v]))))) hlt hp fun v H3 q1 q2 => ⟨q1, ?_, n - (i + 1), by omega, rfl, by omega, q2⟩)
    have := hl acc i ys _ hi hp
    exact small1000 (by omega)
/-! ### walking a list or a tuple -/
/-! ### == and != of data -/
mutual
inductive DV (K : PySem.W.Frag) (H : Hp) : V → PyData → Prop
  | non : DV K H .non .none
  | bl (b : Bool) : DV K H (.bl b) (.bool b)
  | int (i : Int) : DV K H (.int i) (.int i)
  | str (x : Str) : DV K H (.str x) (.str x)
  | lst {a : Addr} {xs : List V} {ds : List PyData} : SqL K H a xs → DVs K H xs ds → DV K H (.ref a) (.list ds)
  | tup {a : Addr} {xs : List V} {ds : List PyData} : SqT K H a xs → DVs K H xs ds → DV K H (.ref a) (.tuple ds)
inductive DVs (K : PySem.W.Frag) (H : Hp) : List V → List PyData → Prop
  | nil : DVs K H [] []
  | cons {x : V} {xs : List V} {d : PyData} {ds : List PyData} : DV K H x d → DVs K H xs ds → DVs K H (x :: xs) (d :: ds)
end
section
variable {X : Cx} {pins : List (Addr × Obj)} {σ : St} {H : Hp} {s : Shared}
mutual
theorem DV.reads (I : Inv X pins σ H s) : ∀ {v : V} {d : PyData} {u : Value}, DV X.K H v d → RelV v u → ∃ as, Reads s.heap u d as
  | _, _, _, .non, r => by cases (show _ = Value.none from r); exact ⟨_, .none⟩
  | _, _, _, .bl b, r => by cases (show _ = Value.bool b from r); exact ⟨_, .bool b⟩
  | _, _, _, .int i, r => by obtain ⟨t, e⟩ := (show ∃ t, _ = Value.int i t from r); subst e; exact ⟨_, .int i t⟩
  | _, _, _, .str x, r => by obtain ⟨t, e⟩ := (show ∃ t, _ = Value.str x t from r); subst e; exact ⟨_, .str x t⟩
  | _, _, _, .lst (a := a) hq hd, r => by
    cases (show _ = Value.ref a from r)
    obtain ⟨its, rv, ⟨o, n, e, c, _, dt⟩, _⟩ := I.list hq
    obtain ⟨as, q⟩ := DVs.reads I hd rv
    exact ⟨_, .list e c dt (by simpa using q)⟩
  | _, _, _, .tup (a := a) hq hd, r => by
    cases (show _ = Value.ref a from r)
    obtain ⟨its, rv, p, _⟩ := I.tuple hq
    obtain ⟨o, e, c, n, dt⟩ := p
    obtain ⟨as, q⟩ := DVs.reads I hd rv
    exact ⟨_, .tuple e c dt (by simpa using q)⟩
theorem DVs.reads (I : Inv X pins σ H s) : ∀ {vs : List V} {ds : List PyData} {us : List Value}, DVs X.K H vs ds → Vals vs us → ∃ as, ReadsAll s.heap us ds as
  | _, _, _, .nil, r => by cases r; exact ⟨_, .nil⟩
  | _, _, _, .cons hd ht, r => by
    cases r with
    | cons r1 r2 =>
      obtain ⟨as, q⟩ := DV.reads I hd r1
      obtain ⟨bs, p⟩ := DVs.reads I ht r2
      exact ⟨_, .cons q p⟩
end
end
section
variable {X : Cx}
def rEqD (K : PySem.W.Frag) (neg : Bool) : R2 := fun x y H Q => ∃ d e, DV K H x d ∧ DV K H y e ∧ SeqAt.shaped d = true ∧ SeqAt.shaped e = true ∧ Q (.bl (if neg then !PyData.eqv d e else PyData.eqv d e)) H
theorem op_eqD (hu : X.A.units + 64 < cLine) : OpR X (compareOp .Eq) (rEqD X.K false) := by
  intro pins s σ H x y v u Q I rx ry ⟨d, e, hd, he, sd, se, q⟩
  obtain ⟨as, ra⟩ := hd.reads I rx
  obtain ⟨bs, rb⟩ := he.reads I ry
  exact SeqAt.compareEq_shaped ra rb sd se hu (fin_bl I q rfl)
theorem op_neD (hu : X.A.units + 64 < cLine) : OpR X (compareOp .NotEq) (rEqD X.K true) := by
  intro pins s σ H x y v u Q I rx ry ⟨d, e, hd, he, sd, se, q⟩
  obtain ⟨as, ra⟩ := hd.reads I rx
  obtain ⟨bs, rb⟩ := he.reads I ry
  exact SeqAt.compareNe_shaped ra rb sd se hu (fin_bl I q rfl)
/-- x is True, x is False -/
def rIsB : R2 := fun x y H Q => ∃ b, y = .bl b ∧ Q (.bl (decide (x = .bl b))) H
/-- isinstance(x, C): C a built-in type -/
def rIsin (K : PySem.W.Frag) (T : String) : List V → Hp → VK → Prop := fun xs H Q => ∃ x t b, xs = [x, .ty T] ∧ TyOf K H x t ∧ PySem.W.kitOne K t (.type T) = some b ∧ Q (.bl b) H
theorem call_isinst {T : String} : CallR X (.builtin "isinstance") (rIsin X.K T) := by
  intro pins s σ H xs us Q I r ⟨x, t, b, e, ty, ek, q⟩
  subst e
  obtain ⟨u, w', rfl, ru, rw'⟩ := vals2 r
  cases (show w' = Value.type T from rw')
  exact isinst_ok I ru ty ek fun tk => ⟨.bl b, H, I.tok tk, rfl, q⟩
/-- isinstance(x, C): C a class of the text -/
theorem call_isinstC {C : Addr} : CallR X (.builtin "isinstance") (fun xs H Q => ∃ x t b, xs = [x, .ref C] ∧ TyOf X.K H x t ∧ PySem.W.kitOne X.K t (.ref C) = some b ∧ Q (.bl b) H) := by
  intro pins s σ H xs us Q I r ⟨x, t, b, e, ty, ek, q⟩
  subst e
  obtain ⟨u, w', rfl, ru, rw'⟩ := vals2 r
  cases (show w' = Value.ref C from rw')
  exact isinst_ok I ru ty ek fun tk => ⟨.bl b, H, I.tok tk, rfl, q⟩
theorem all_range : ∀ bs : List Bool, (List.range bs.length).all (fun i => bs.getD i true) = bs.all id
  | [] => rfl
  | b :: r => by
    rw [List.length_cons, List.range_succ_eq_map, List.all_cons, List.all_map, List.all_cons]
    have := all_range r
    simp only [List.getD_cons_zero, Function.comp_def, List.getD_cons_succ] at this ⊢
    rw [this]
    rfl
/-- the walk over a list while something is handled -/
def HdIn (A : Around) (L : List Addr) (h : Heap) : Prop := A.handled = none ∨ ∃ (e : Addr) (oe : Obj) (vs : Array Value), A.handled = some (.ref e) ∧ e ∈ L ∧ h.get? e = some oe ∧ oe.data = .fields vs ∧
  (vs[2]? = some .none ∨ ∃ (b : Addr) (ob : Obj) (vb : Array Value), vs[2]? = some (.ref b) ∧ b ≠ e ∧ b ∈ L ∧ h.get? b = some ob ∧ ob.data = .fields vb ∧ vb[2]? = some .none)
theorem HdIn.at {A : Around} {L : List Addr} {h : Heap} (x : HdIn A L h) : HdAt A h := by
  rcases x with x | ⟨e, oe, vs, a, _, b, c, d⟩
  · exact .inl x
  · refine .inr ⟨e, oe, vs, a, b, c, ?_⟩
    rcases d with d | ⟨b, ob, vb, d1, d2, _, d3⟩
    · exact .inl d
    · exact .inr ⟨b, ob, vb, d1, d2, d3⟩
theorem HdAt.in {A : Around} {h : Heap} (x : HdAt A h) : ∃ L, HdIn A L h := by
  rcases x with x | ⟨e, oe, vs, a, b, c, d⟩
  · exact ⟨[], .inl x⟩
  · rcases d with d | ⟨b', ob, vb, d1, d2, d3⟩
    · exact ⟨[e], .inr ⟨e, oe, vs, a, by simp, b, c, .inl d⟩⟩
    · exact ⟨[e, b'], .inr ⟨e, oe, vs, a, by simp, b, c, .inr ⟨b', ob, vb, d1, d2, by simp, d3⟩⟩⟩
theorem HdIn.keepF {A : Around} {L : List Addr} {h h' : Heap} (x : HdIn A L h) (k : ∀ b ∈ L, ∀ o, h.get? b = some o → h'.get? b = some o) : HdIn A L h' := by
  rcases x with x | ⟨e, oe, vs, a, m, b, c, d⟩
  · exact .inl x
  · refine .inr ⟨e, oe, vs, a, m, k e m oe b, c, ?_⟩
    rcases d with d | ⟨b, ob, vb, d1, d2, d3, d4, d5⟩
    · exact .inl d
    · exact .inr ⟨b, ob, vb, d1, d2, d3, k b d3 ob d4, d5⟩
theorem walks_listH {prog : Program} {w : World} {A : Around} (I ax : Addr) (hne : ax ≠ I) (items : Array Value) (L : List Addr) :
    Walks prog w A I (I :: ax :: L) [I] items.size (fun i v => items[i]? = some v) (fun i h => h.IsListIter I ax i ∧ h.IsList ax items ∧ HdIn A L h) where
  sub := fun b hb => by rw [List.mem_singleton.mp hb]; exact List.mem_cons_self ..
  frame := fun _ _ _ st hk => ⟨st.1.at fun o e => hk I (List.mem_cons_self ..) o e, st.2.1.at fun o e => hk ax (List.mem_cons_of_mem _ (List.mem_cons_self ..)) o e, st.2.2.keepF fun b hb o e => hk b (List.mem_cons_of_mem _ (List.mem_cons_of_mem _ hb)) o e⟩
  item := fun i s Q E hi st hQ => by
    refine wpAny_pyNext_list_item st.1 st.2.1 (x := items[i]) (by simp [hi]) fun h' hit' hs' => ?_
    refine hQ _ h' s.toks (by simp [hi]) ⟨hit', st.2.1.extBut hs'.extBut hne, ?_⟩ fun b o hb e => hs'.extBut b o (fun h => hb (by simp [h])) e
    have nit : ∀ (c : Addr) (o : Obj) (vs : Array Value), s.heap.get? c = some o → o.data = .fields vs → (vs[2]? = some .none ∨ ∃ b, vs[2]? = some (.ref b)) → c ≠ I := fun c o vs b c' d z => by
      subst z
      obtain ⟨o', ho, _, hd⟩ := st.1
      rw [b] at ho; cases ho; rw [hd] at c'; cases c'
      rcases d with d | ⟨_, d⟩ <;> simp at d
    rcases st.2.2 with x | ⟨e, oe, vs, a, m, b, c, d⟩
    · exact .inl x
    · refine .inr ⟨e, oe, vs, a, m, hs'.extBut e oe (nit e oe vs b c ?_) b, c, ?_⟩
      · rcases d with d | ⟨b, _, _, d, _⟩
        · exact .inl d
        · exact .inr ⟨b, d⟩
      · rcases d with d | ⟨b, ob, vb, d1, d2, d3, d4, d5, d6⟩
        · exact .inl d
        · exact .inr ⟨b, ob, vb, d1, d2, d3, hs'.extBut b ob (nit b ob vb d4 d5 (.inl d6)) d4, d5, d6⟩
  done := fun s Q E st hQ => list_endH st.2.2.at st.1 st.2.1 (by simp) fun h' he => hQ h' s.toks fun b o hb e => he b o (fun h => hb (by simp [h])) e
  self := fun _ _ _ _ st h => wpAny_pyIter_listiter st.1 h
/-- all of a list of bools -/
def rAll (K : PySem.W.Frag) : List V → Hp → VK → Prop := fun xs H Q => ∃ (p : Addr) (bs : List Bool), xs = [.ref p] ∧ SqL K H p (bs.map V.bl) ∧ Q (.bl (bs.all id)) H
theorem call_all (hc : X.calm = true) : CallR X (.builtin "all") (rAll X.K) := by
  intro pins s σ H xs us Q I r ⟨p, bs, e, hq, q⟩
  subst e
  obtain ⟨u, rfl, ru⟩ := vals1 r
  cases (show u = Value.ref p from ru)
  obtain ⟨its, rv, pl, hz⟩ := I.list hq
  have hp : p < s.heap.objs.size := by obtain ⟨o, n, e, _⟩ := pl; exact Heap.lt_size e
  have hlen : its.length = bs.length := by rw [← rv.length, List.length_map]
  refine call_all_walk (wpAny_pyIter_list pl.isList ?_)
  obtain ⟨HL, hHL⟩ := I.hd.in
  refine ⟨s.heap.objs.size, _, [s.heap.objs.size], its.toArray.size, _, _, (fun i => bs.getD i true), rfl, walks_listH s.heap.objs.size p (Nat.ne_of_lt hp) its.toArray HL,
    ⟨⟨_, Heap.get?_push_size _ rfl, rfl, rfl⟩, pl.isList.push _, hHL.keepF fun _ _ _ e => Heap.get?_push_of_some _ e⟩, ?_, fun h' tk hk => ?_⟩
  · intro i v s' Q' E' hv hQ
    have hv' : its[i]? = some v := by simpa using hv
    have hi : i < bs.length := by rw [← hlen]; exact (List.getElem?_eq_some_iff.mp hv').1
    obtain ⟨w', e1, r1⟩ := rv.get (i := i) (x := .bl bs[i]) (by rw [List.getElem?_map, List.getElem?_eq_getElem hi]; rfl)
    rw [hv'] at e1
    cases e1
    cases (show v = Value.bool bs[i] from r1)
    refine wpAny_truthy_bool ?_
    rw [show bs[i] = bs.getD i true by rw [List.getD_eq_getElem?_getD, List.getElem?_eq_getElem hi]; rfl]
    exact hQ
  · have ks : ∀ b o, s.heap.get? b = some o → h'.get? b = some o := fun b o e => hk b o (by
      intro z
      rcases List.mem_cons.mp z with z | z
      · exact absurd (Heap.lt_size e) (by rw [z]; exact Nat.lt_irrefl _)
      · cases z) (Heap.get?_push_of_some _ e)
    refine ⟨.bl _, H, I.kept (t' := tk) ks, rfl, ?_⟩
    rw [List.size_toArray, hlen, all_range]
    exact q
/-- {} -/
theorem Inv.bigX {pins : List (Addr × Obj)} {σ : St} {H : Hp} {s : Shared} (I : Inv X pins σ H s) : sysModules < s.heap.objs.size := by
  have h : mainGlobals < s.heap.objs.size := (I.mod.glob.keeps I.bk).lt
  exact Nat.lt_trans (by decide) h
def tDict0 : TE := fun _ H Q => ∀ p, H p = none → Q (.ref p) (upd H p (.dK []))
theorem pe_dict0 {pos : Pos} : PE X (.Dict [] [] pos) tDict0 := fun pins s σ H Q I h =>
  wpAny_Dict_empty ⟨.ref s.heap.objs.size, _, I.laid (a := s.heap.objs.size) (o := .dK []) (t' := s.toks) (fun _ _ q => Heap.get?_push_of_some _ q) (Nat.le_refl _)
    ⟨Nat.zero_le _, beq_eq_false_iff_ne.mpr (Ne.symm (Nat.ne_of_lt I.bigX)), [], .nil, Heap.DictOf.new _⟩, rfl, h _ (I.hok.fresh (Nat.le_refl _))⟩
end

/-! ### t[:] of a tuple is the tuple -/
section
variable {prog : Program} {w : World} {A : Around} {E : Value → Shared → Prop} {s : Shared}
end
section
variable {X : Cx}
def rSlW (K : PySem.W.Frag) : V → Option Int → Option Int → Hp → VK → Prop := fun x lo hi H Q => ∃ a xs, x = .ref a ∧ SqT K H a xs ∧ lo = none ∧ hi = none ∧ Q (.ref a) H
end
end L2
end
section
set_option Elab.async false
set_option linter.all false
set_option maxRecDepth 100000
set_option maxHeartbeats 4000000
/-! EXCEPTIONS, 1: a record in flight, frame by frame -/
namespace L2
open PySem PySem.Spec PyProof.Rows
/-- all is kept but the records at ex; of the frames at fs the slots may change -/
structure Mvd (fs ex : List Addr) (h h' : Heap) : Prop where
  keep : ∀ b o, b ∉ ex → b ∉ fs → h.get? b = some o → h'.get? b = some o
  slot : ∀ b o, b ∉ ex → h.get? b = some o → ∃ sl, h'.get? b = some { o with slots := sl }
  there : ∀ b o, h.get? b = some o → ∃ o', h'.get? b = some o'
theorem Mvd.trans {fs ex : List Addr} {h h1 h2 : Heap} (a : Mvd fs ex h h1) (b : Mvd fs ex h1 h2) : Mvd fs ex h h2 where
  keep := fun c o hx hf e => b.keep c o hx hf (a.keep c o hx hf e)
  slot := fun c o hx e => by
    obtain ⟨sl, e1⟩ := a.slot c o hx e
    obtain ⟨sl', e2⟩ := b.slot c _ hx e1
    exact ⟨sl', e2⟩
  there := fun c o e => by
    obtain ⟨o', e1⟩ := a.there c o e
    exact b.there c o' e1
theorem Mvd.mono {fs fs' ex ex' : List Addr} {h h' : Heap} (a : Mvd fs ex h h') (hf : ∀ b ∈ fs, b ∈ fs') (hx : ∀ b ∈ ex, b ∈ ex') : Mvd fs' ex' h h' :=
  ⟨fun c o nx nf e => a.keep c o (fun z => nx (hx c z)) (fun z => nf (hf c z)) e, fun c o nx e => a.slot c o (fun z => nx (hx c z)) e, a.there⟩
/-- the record of an exception, its newest traceback entry, where that stands, and what it came out of -/
def Fly (e T : Addr) (cls fl cx : Value) (h : Heap) : Prop :=
  ∃ oe vs oT ts, h.get? e = some oe ∧ oe.cls = cls ∧ oe.dict = none ∧ oe.data = .fields vs ∧ vs[1]? = some (.ref T) ∧ vs[2]? = some cx ∧ T ≠ e ∧ h.get? T = some oT ∧ oT.data = .fields ts ∧ ts[3]? = some fl
section
variable {M : Model} {A : Around} {E : Value → Shared → Prop} {s : Shared}
theorem setField_mvd {a : Addr} {o : Obj} {vs : Array Value} {i : Nat} {x : Value} (h : Heap) (ho : h.get? a = some o) (hd : o.data = .fields vs) :
    Mvd [] [a] h (h.update a (Obj.mapFields (·.setIfInBounds i x))) ∧ (h.update a (Obj.mapFields (·.setIfInBounds i x))).get? a = some (Obj.mapFields (·.setIfInBounds i x) o) := by
  have self := Heap.get?_update_self (Obj.mapFields (·.setIfInBounds i x)) ho (Obj.isFreed_of_fields (Obj.data_mapFields hd _))
  have oth : ∀ b, b ∉ [a] → (h.update a (Obj.mapFields (·.setIfInBounds i x))).get? b = h.get? b := fun b hb => Heap.get?_update_other _ _ (fun z => hb (by simp [z]))
  refine ⟨⟨fun b ob hb _ e => (oth b hb).trans e, fun b ob hb e => ⟨ob.slots, (oth b hb).trans e⟩, fun b ob e => ?_⟩, self⟩
  by_cases hb : b ∈ [a]
  · rw [List.mem_singleton.mp hb]; exact ⟨_, self⟩
  · exact ⟨ob, (oth b hb).trans e⟩
theorem dict_mapFields (f : Array Value → Array Value) (o : Obj) : (Obj.mapFields f o).dict = o.dict := by
  unfold Obj.mapFields; split <;> rfl
/-- a new entry for the frame at hand -/
theorem entry_new {cx : Value} {base : Heap} {env : Env} {outer : List Env} {L e : Addr} {oe : Obj} {vs : Array Value} {head : Value} {hadNext : Bool} {Q : Unit → Shared → Prop}
    (hfr : A.frames = some (env :: outer)) (hl : s.heap.FunFrames base (env :: outer)) (hf : env.frame = some L)
    (he : s.heap.get? e = some oe) (hdn : oe.dict = none) (hd : oe.data = .fields vs) (hsz : 1 < vs.size) (h2 : vs[2]? = some cx)
    (h : ∀ h' T, Mvd (frs (env :: outer)) [e] s.heap h' → Fly e T oe.cls (rawInt L) cx h' → s.heap.get? T = none → Q () { s with heap := h' }) :
    wpAny M A (do let a ← frameOf env; let pl ← entryPlaceOf L hadNext; let b ← EntryCells.newEntry head a .none (rawInt L) .none pl; setField (.ref e) 1 b) Q E s := by
  have hene : e ∉ (env :: outer).filterMap (·.frame) := fun hm => by
    obtain ⟨_, o, ho, hnf⟩ := hl.mem hm
    rw [he] at ho; injection ho with ho; subst ho; exact hnf vs hd
  refine wpAny_bind (wpAny_frameOf_fun hfr hl hf fun h₁ hs₁ => ?_)
  refine wpAny_bind (wpAny_entryPlaceOf fun pl hpl => ?_)
  unfold EntryCells.newEntry newFields
  refine wpAny_bind (wpAny_newObj_type ?_ (hpl.sizeOk5 _ _ _ _ _))
  have he₁ : h₁.get? e = some oe := (hs₁.2.1 e hene).trans he
  have he₂ := Heap.get?_push_of_some (h := h₁) { cls := .type "traceback", dict := none, data := .fields ([head, .ref L, .none, rawInt L, .none] ++ (if pl.isEmpty then List.replicate 6 Value.none else pl)).toArray } he₁
  obtain ⟨mv, self⟩ := setField_mvd (i := 1) (x := .ref h₁.objs.size) _ he₂ hd
  have hTe : h₁.objs.size ≠ e := Nat.ne_of_gt (Heap.lt_size he₁)
  have hT := (Heap.get?_update_other (h₁.push { cls := .type "traceback", dict := none, data := .fields ([head, .ref L, .none, rawInt L, .none] ++ (if pl.isEmpty then List.replicate 6 Value.none else pl)).toArray })
    (Obj.mapFields (·.setIfInBounds 1 (Value.ref h₁.objs.size))) (Ne.symm hTe)).trans (Heap.get?_push_size h₁ rfl)
  refine wpAny_setField he₂ hd hsz (h _ h₁.objs.size ⟨fun b o hx hb eo => ?_, fun b o hx eo => ?_, fun b o eo => ?_⟩ ⟨_, _, _, _, self, Obj.cls_mapFields _ _, (dict_mapFields _ _).trans hdn, Obj.data_mapFields hd _, by simp [hsz], by rw [Array.getElem?_setIfInBounds_ne (by decide)]; exact h2, hTe, hT, rfl, by simp⟩ ?_)
  · exact mv.keep b o hx (by simp) (Heap.get?_push_of_some _ ((hs₁.2.1 b hb).trans eo))
  · obtain ⟨sl, es⟩ := hs₁.2.2 b o eo
    obtain ⟨sl', es'⟩ := mv.slot b _ hx (Heap.get?_push_of_some _ es)
    exact ⟨sl', es'⟩
  · obtain ⟨sl, es⟩ := hs₁.2.2 b o eo
    exact mv.there b _ (Heap.get?_push_of_some _ es)
  · cases q : s.heap.get? h₁.objs.size with
    | none => rfl
    | some o =>
      obtain ⟨sl, es⟩ := hs₁.2.2 _ o q
      exact absurd (Heap.lt_size es) (Nat.lt_irrefl _)
/-- the frame looks at an exception that was just made -/
theorem note_first {cx : Value} {base : Heap} {env : Env} {outer : List Env} {L e : Addr} {oe : Obj} {vs : Array Value} {Q : Unit → Shared → Prop}
    (hfr : A.frames = some (env :: outer)) (hl : s.heap.FunFrames base (env :: outer)) (hf : env.frame = some L)
    (he : s.heap.get? e = some oe) (hdn : oe.dict = none) (hd : oe.data = .fields vs) (h1 : vs[1]? = some .none) (h2 : vs[2]? = some cx)
    (h : ∀ h' T, Mvd (frs (env :: outer)) [e] s.heap h' → Fly e T oe.cls (rawInt L) cx h' → s.heap.get? T = none → Q () { s with heap := h' }) : wpAny M A (noteFrame (.ref e) env) Q E s := by
  unfold noteFrame
  simp only [hf]
  refine wpAny_bind (wpAny_field he hd h1 ?_)
  rw [if_neg (by decide)]
  exact entry_new hfr hl hf he hdn hd (Array.getElem?_eq_some_iff.mp h1).1 h2 h
/-- the frame looks at an exception that comes from a callee -/
theorem note_next {cx : Value} {base : Heap} {env : Env} {outer : List Env} {L e T : Addr} {cls : Value} {Q : Unit → Shared → Prop}
    (hfr : A.frames = some (env :: outer)) (hl : s.heap.FunFrames base (env :: outer)) (hf : env.frame = some L) (ht : Fly e T cls .none cx s.heap)
    (h : ∀ h' T', Mvd (frs (env :: outer)) [e, T] s.heap h' → Fly e T' cls (rawInt L) cx h' → s.heap.get? T' = none → Q () { s with heap := h' }) : wpAny M A (noteFrame (.ref e) env) Q E s := by
  obtain ⟨oe, vs, oT, ts, he, hcls, hdn, hd, h1, h2, hTe, hT, hdT, h3⟩ := ht
  subst hcls
  unfold noteFrame
  simp only [hf]
  refine wpAny_bind (wpAny_field he hd h1 ?_)
  rw [if_pos (show (Value.ref T != Value.none) = true from by simp)]
  refine wpAny_bind (wpAny_field hT hdT h3 ?_)
  rw [if_neg (show ¬ ((Value.none == rawInt L) = true) from by simp [rawInt])]
  refine wpAny_bind (wpAny_setField hT hdT (Array.getElem?_eq_some_iff.mp h3).1 ?_)
  obtain ⟨mv, self⟩ := setField_mvd (i := 3) (x := Value.none) _ hT hdT
  have hl' : (s.heap.update T (Obj.mapFields (·.setIfInBounds 3 Value.none))).FunFrames base (env :: outer) := hl.of_keeps fun b o hb hnf => by
    have hbT : b ∉ [T] := fun z => by rw [List.mem_singleton.mp z, hT] at hb; cases hb; exact hnf ts hdT
    exact ⟨o, mv.keep b o hbT (by simp) hb, rfl⟩
  refine entry_new (s := { s with heap := s.heap.update T (Obj.mapFields (·.setIfInBounds 3 Value.none)) }) hfr hl' hf (mv.keep e oe (by simp [Ne.symm hTe]) (by simp) he) hdn hd (Array.getElem?_eq_some_iff.mp h1).1 h2 fun h' T' mv' fl' fr' => ?_
  refine h h' T' ((mv.mono (by simp) (by simp)).trans (mv'.mono (fun _ z => z) (by simp))) fl' ?_
  cases q : s.heap.get? T' with
  | none => rfl
  | some o =>
    obtain ⟨o', q'⟩ := mv.there T' o q
    rw [show (({ s with heap := s.heap.update T (Obj.mapFields (·.setIfInBounds 3 Value.none)) } : Shared).heap.get? T') = none from fr'] at q'
    cases q'
/-- it is met, or goes on to the caller -/
theorem flight_none {e T : Addr} {cls fl cx : Value} {Q : Unit → Shared → Prop} (ht : Fly e T cls fl cx s.heap)
    (h : ∀ h', Mvd [] [T] s.heap h' → Fly e T cls .none cx h' → Q () { s with heap := h' }) : wpAny M A (setFlight (.ref e) none) Q E s := by
  obtain ⟨oe, vs, oT, ts, he, hcls, hdn, hd, h1, h2, hTe, hT, hdT, h3⟩ := ht
  unfold setFlight
  refine wpAny_bind (wpAny_field he hd h1 ?_)
  rw [if_pos (show (Value.ref T != Value.none) = true from by simp)]
  obtain ⟨mv, self⟩ := setField_mvd (i := 3) (x := (none : Option Addr).elim Value.none fun f => rawInt f) _ hT hdT
  have hsz := (Array.getElem?_eq_some_iff.mp h3).1
  refine wpAny_setField hT hdT hsz (h _ mv ⟨oe, vs, _, _, mv.keep e oe (by simp [Ne.symm hTe]) (by simp) he, hcls, hdn, hd, h1, h2, hTe, self, Obj.data_mapFields hdT _, by simp [hsz]⟩)
/-- it was looked at here -/
theorem note_here {env : Env} {L e T : Addr} {cls cx : Value} {Q : Unit → Shared → Prop} (hf : env.frame = some L) (ht : Fly e T cls (rawInt L) cx s.heap) (h : Q () s) : wpAny M A (noteFrame (.ref e) env) Q E s := by
  obtain ⟨oe, vs, oT, ts, he, hcls, hdn, hd, h1, h2, hTe, hT, hdT, h3⟩ := ht
  unfold noteFrame
  simp only [hf]
  refine wpAny_bind (wpAny_field he hd h1 ?_)
  rw [if_pos (show (Value.ref T != Value.none) = true from by simp)]
  refine wpAny_bind (wpAny_field hT hdT h3 ?_)
  rw [if_pos (show ((rawInt L == rawInt L) = true) from by simp)]
  exact wpAny_pure h
end
end L2
end
section
set_option Elab.async false
set_option linter.all false
set_option maxRecDepth 100000
set_option maxHeartbeats 4000000
/-! EXCEPTIONS, 2: raised, passed on, met -/
namespace L2
open PySem PySem.Spec PyProof.Rows
theorem ObjOk.is {P : Program} {w : World} {H : Hp} {h : Heap} {a : Addr} {o : HO} (x : ObjOk P w H h a o) : ∃ ob, h.get? a = some ob := by
  cases o with
  | lst xs => obtain ⟨_, _, _, _, e⟩ := x; exact ⟨_, e⟩
  | tup xs => obtain ⟨_, _, _, o, e, _⟩ := x; exact ⟨_, e⟩
  | dK kvs => obtain ⟨_, _, _, _, o, _, _, e, _⟩ := x; exact ⟨_, e⟩
  | dT kvs => obtain ⟨_, _, _, _, o, _, _, e, _⟩ := x; exact ⟨_, e⟩
  | set S n => obtain ⟨o, _, _, _, e, _⟩ := x; exact ⟨_, e⟩
  | ins C dx fs => obtain ⟨_, _, _, e, _⟩ := x; exact ⟨_, e⟩
  | own y => obtain ⟨_, e⟩ := x; exact ⟨_, e⟩
  | xd fs => obtain ⟨_, ⟨_, _, _, e, _⟩, _⟩ := x; exact ⟨_, e⟩
  | rng lo hi => obtain ⟨_, _, _, e⟩ := x; exact ⟨_, e⟩
  | frz ob u => obtain ⟨e, _⟩ := x; exact ⟨_, e⟩
  | tbl ps => exact ⟨_, (show h.get? a = some _ from x)⟩
  | met f y => exact ⟨_, (show h.get? a = some _ from x)⟩
  | ext φ => obtain ⟨_, ⟨_, e⟩, _⟩ := x; exact ⟨_, e⟩
  | exc c => obtain ⟨_, _, e, _⟩ := x; exact ⟨_, e⟩
theorem HOk.none_of {P : Program} {w : World} {H : Hp} {h : Heap} (x : HOk P w H h) {a : Addr} (n : h.get? a = none) : H a = none := by
  cases q : H a with
  | none => rfl
  | some u => obtain ⟨o, e⟩ := (x a u q).is; rw [n] at e; cases e
/-- an untracked thing becomes tracked -/
theorem HOk.put {P : Program} {w : World} {H : Hp} {h : Heap} {a : Addr} {o : HO} (x : HOk P w H h) (hn : H a = none) (new : ObjOk P w (upd H a o) h a o) : HOk P w (upd H a o) h := fun b u e => by
  by_cases hb : b = a
  · subst hb; rw [upd_same] at e; cases e; exact new
  · rw [upd_ne hb] at e
    exact (x b u e).stay (fun c v _ q => q) (fun c q => by rw [upd_ne (ne_of_none q hn)]; exact q) fun c xs q => by rw [upd_ne (ne_of_none q hn)]; exact q
section
variable {X : Cx} {pins : List (Addr × Obj)} {σ σ' : St} {H H' : Hp} {s : Shared} {h' : Heap}
/-- THE STEP, where the records at ch are new since the entry -/
theorem Inv.stepN {g' : Array GenState} {t' : Nat} {d' : Drawn} {ch : List Addr} (I : Inv X pins σ H s)
    (hch : ∀ b ∈ ch, X.s₀.heap.get? b = none ∧ b ≠ X.env.locals ∧ (∀ x c, X.env.cells.lookup x = some c → c ≠ b) ∧ ∀ p ∈ X.pn ++ pins, p.1 ≠ b)
    (keep : ∀ b o, b ≠ X.env.locals → b ∉ X.fs → b ∉ ch → s.heap.get? b = some o → H b = none → h'.get? b = some o)
    (slot : ∀ b o, b ≠ X.env.locals → b ∈ X.fs → b ∉ ch → s.heap.get? b = some o → H b = none → ∃ sl, h'.get? b = some { o with slots := sl }) (free : ∀ b o, b ∉ ch → s.heap.get? b = some o → H b = none → H' b = none)
    (there : ∀ b o, b ∉ ch → s.heap.get? b = some o → ∃ o', h'.get? b = some o')
    (tups : ∀ b xs, H b = some (.tup xs) → H' b = some (.tup xs)) (frzs : ∀ b o u, H b = some (.frz o u) → H' b = some (.frz o u)) (tbls : ∀ b ps, H b = some (.tbl ps) → ∃ more, H' b = some (.tbl (ps ++ more))) (excs : ∀ b c, H b = some (.exc c) → H' b = some (.exc c))
    (loc : (∀ x c, X.env.cells.lookup x = some c → ∀ v, s.heap.IsCell c v → h'.IsCell c v) → ∃ m, h'.Ns X.env.locals m ∧ ∀ (i : Nat) (x : Str) (v : V), X.N[i]? = some x → σ'[i]? = some (some v) → Vis X.env.scope x → ∃ u, RelV v u ∧ Look X.env h' m x u)
    (fix : (∀ x c, X.env.cells.lookup x = some c → ∀ v, s.heap.IsCell c v → h'.IsCell c v) → ∀ p ∈ X.fx, ∃ m, h'.Ns X.env.locals m ∧ Look X.env h' m p.1 p.2)
    (len : σ'.length = σ.length) (hok : HOk X.prog X.w H' h') (hg : AllBare g') :
    Inv X pins σ' H' { s with heap := h', gens := g', drawn := d', toks := t' } := by
  have neL : ∀ b o, X.s₀.heap.get? b = some o → b ≠ X.env.locals := fun b o e => Nat.ne_of_lt (Nat.lt_of_lt_of_le (Heap.lt_size e) I.ok.above)
  have neC : ∀ b o, X.s₀.heap.get? b = some o → b ∉ ch := fun b o e hb => by
    rw [(hch b hb).1] at e; cases e
  have cellK : ∀ x c, X.env.cells.lookup x = some c → ∀ v, s.heap.IsCell c v → h'.IsCell c v := fun x c e v ⟨o, ho, hd⟩ => by
    have nch : c ∉ ch := fun z => (hch c z).2.2.1 x c e rfl
    by_cases hc : c ∈ X.fs
    · obtain ⟨sl, q⟩ := slot c o (I.cne x c e) hc nch ho (I.freeC x c e)
      exact ⟨_, q, hd⟩
    · exact ⟨o, keep c o (I.cne x c e) hc nch ho (I.freeC x c e), hd⟩
  refine ⟨I.ok, I.os, hg, ⟨fun b o e n hb hx => ?_, fun b o e n hb hx => ?_, fun b o e n hx => ?_, fun b o e hx => ?_, fun b xs e => tups b xs (I.base.tups b xs e), fun b o xs e => frzs b o xs (I.base.frzs b o xs e), fun b ps e => ?_, fun b c e => excs b c (I.base.excs b c e)⟩, loc cellK, fun x c e => ?_, ?_, fun x c e => ?_, fun p hp => ?_, hok, len.trans I.len, fun p hp => excs _ _ (I.tr p hp), fix cellK⟩
  · exact keep b o (neL b o e) hb (neC b o e) (I.base.keep b o e n hb hx) (I.base.free b o e n hx)
  · obtain ⟨sl, e1⟩ := I.base.slot b o e n hb hx
    obtain ⟨sl', e2⟩ := slot b _ (neL b o e) hb (neC b o e) e1 (I.base.free b o e n hx)
    exact ⟨sl', e2⟩
  · obtain ⟨o', e1⟩ := I.base.there b o e hx
    exact free b o' (neC b o e) e1 (I.base.free b o e n hx)
  · obtain ⟨o', e1⟩ := I.base.there b o e hx
    exact there b o' (neC b o e) e1
  · obtain ⟨m1, e1⟩ := I.base.tbls b ps e
    obtain ⟨m2, e2⟩ := tbls b _ e1
    exact ⟨m1 ++ m2, by rw [e2, Array.append_assoc]⟩
  · obtain ⟨v, z⟩ := I.cell x c e
    exact ⟨v, cellK x c e v z⟩
  · obtain ⟨m, ⟨o, _, _, ho, _⟩, _⟩ := I.loc
    exact free _ o (fun z => (hch _ z).2.1 rfl) ho I.free
  · obtain ⟨v, o, ho, hd⟩ := I.cell x c e
    exact free c o (fun z => (hch c z).2.2.1 x c e rfl) ho (I.freeC x c e)
  · obtain ⟨e, n, ne, nf, d⟩ := I.pin p hp
    have nch : p.1 ∉ ch := fun z => (hch p.1 z).2.2.2 p hp rfl
    exact ⟨keep p.1 p.2 ne nf nch e n, free p.1 p.2 nch e n, ne, nf, d⟩
/-- untracked, new since the entry, none of ours -/
structure Nw (X : Cx) (pins : List (Addr × Obj)) (H : Hp) (b : Addr) : Prop where
  free : H b = none
  new : X.s₀.heap.get? b = none
  loc : b ≠ X.env.locals
  cel : ∀ x c, X.env.cells.lookup x = some c → c ≠ b
  pin : ∀ p ∈ X.pn ++ pins, p.1 ≠ b
theorem Nw.of (I : Inv X pins σ H s) (hex : X.ex = []) {b : Addr} (n : s.heap.get? b = none) (f : H' b = none) : Nw X pins H' b where
  free := f
  new := by
    cases q : X.s₀.heap.get? b with
    | none => rfl
    | some o => obtain ⟨o', e⟩ := I.base.there b o q (by rw [hex]; simp); rw [n] at e; cases e
  loc := fun z => by obtain ⟨m, ⟨o, _, _, ho, _⟩, _⟩ := I.loc; rw [← z, n] at ho; cases ho
  cel := fun x c e z => by obtain ⟨v, o, ho, _⟩ := I.cell x c e; rw [z, n] at ho; cases ho
  pin := fun p hp z => by obtain ⟨e, _⟩ := I.pin p hp; rw [z, n] at e; cases e
/-- a record in flight is written -/
theorem Inv.mvd {ex : List Addr} (I : Inv X pins σ H s) (mv : Mvd (frs X.stack) ex s.heap h') (hex : ∀ b ∈ ex, Nw X pins H b) : Inv X pins σ H { s with heap := h' } := by
  have nx : ∀ b u, H b = some u → b ∉ ex := fun b u e z => by rw [(hex b z).free] at e; cases e
  have nf : ∀ b u, H b = some u → b ∉ frs X.stack := fun b u e z => by rw [I.stkFree b z] at e; cases e
  refine I.stepN (g' := s.gens) (d' := s.drawn) (t' := s.toks) (ch := ex) (fun b hb => ⟨(hex b hb).new, (hex b hb).loc, (hex b hb).cel, (hex b hb).pin⟩) (fun b o hL hf hc e _ => mv.keep b o hc (fun z => (List.mem_cons.mp (I.stkSub b z)).elim hL hf) e) (fun b o _ _ hc e _ => mv.slot b o hc e)
    (fun _ _ _ _ n => n) (fun b o _ e => mv.there b o e) (fun _ _ e => e) (fun _ _ _ e => e) (fun b ps e => ⟨#[], by rw [e]; simp⟩) (fun _ _ e => e) (fun cellK => ?_) (fun cellK p hp => ?_) rfl (fun a o e => (I.hok a o e).stay (fun b u hb q => ?_) (fun _ q => q) fun _ _ q => q) I.bare
  · obtain ⟨m, ⟨o, es, ep, ho, r⟩, hl⟩ := I.loc
    obtain ⟨sl, hL⟩ := mv.slot _ o (fun z => (hex _ z).loc rfl) ho
    refine ⟨m, ⟨_, es, ep, hL, r⟩, fun i x v e1 e2 e3 => ?_⟩
    obtain ⟨u, r, l⟩ := hl i x v e1 e2 e3
    refine ⟨u, r, ?_⟩
    rcases l with l | ⟨k, c, e, z⟩
    · exact .inl l
    · exact .inr ⟨k, c, e, cellK x c e _ z⟩
  · obtain ⟨m, ⟨o, es, ep, ho, r⟩, lk⟩ := I.fix p hp
    obtain ⟨sl, hL⟩ := mv.slot _ o (fun z => (hex _ z).loc rfl) ho
    exact ⟨m, ⟨_, es, ep, hL, r⟩, lk.elim .inl fun ⟨k, c, e, z⟩ => .inr ⟨k, c, e, cellK p.1 c e _ z⟩⟩
  · rcases hb with rfl | hb
    · exact mv.keep b u (nx b _ e) (nf b _ e) q
    · exact mv.keep b u (nx b _ hb) (nf b _ hb) q
end
/-- an exception that was just made -/
def Raw (e : Addr) (cls cx : Value) (h : Heap) : Prop := ∃ oe vs, h.get? e = some oe ∧ oe.cls = cls ∧ oe.dict = none ∧ oe.data = .fields vs ∧ vs[1]? = some .none ∧ vs[2]? = some cx
/-- what it came out of: nothing, or one at rest that is its own -/
def Chn (H : Hp) (h : Heap) (e : Addr) (cx : Value) (d : Option Addr) : Prop := (d = none ∧ cx = .none) ∨ ∃ (b : Addr) (ob : Obj) (vb : Array Value), d = some b ∧ cx = .ref b ∧ b ≠ e ∧ H b = some (.own e) ∧ h.get? b = some ob ∧ ob.data = .fields vb ∧ vb[2]? = some .none
theorem Chn.keep {H H' : Hp} {h h' : Heap} {e : Addr} {cx : Value} {d : Option Addr} (x : Chn H h e cx d) (k : ∀ b ob, H b = some (.own e) → h.get? b = some ob → H' b = some (.own e) ∧ h'.get? b = some ob) : Chn H' h' e cx d := by
  rcases x with x | ⟨b, ob, vb, x1, x2, x3, x4, x5, x6⟩
  · exact .inl x
  · obtain ⟨y1, y2⟩ := k b ob x4 x5
    exact .inr ⟨b, ob, vb, x1, x2, x3, y1, y2, x6⟩
/-- an exception in the air, within a body -/
def Air (X : Cx) (pins : List (Addr × Obj)) (H : Hp) (e : Addr) (cls : Value) (d : Option Addr) (h : Heap) : Prop := Nw X pins H e ∧ ∃ cx, Chn H h e cx d ∧ (Raw e cls cx h ∨ ∃ T fl, Fly e T cls fl cx h ∧ (fl = .none ∨ fl = rawInt X.env.locals) ∧ Nw X pins H T)
/-- what is wanted of an exception is what E says -/
def Out (X : Cx) (E : XK) : Prop := ∀ (pins : List (Addr × Obj)) (σ : St) (H : Hp) (s : Shared) (e : Addr) (cls : Value) (d : Option Addr), Inv X pins σ H s → Air X pins H e cls d s.heap → E cls d H → X.xe (.ref e) s
/-- how an exception lies behind a call -/
def CXE (P : Program) (w : World) : CXT := fun outer H s E e s' => (outer = [] ∧ E = fun _ _ _ => True) ∨ ∃ (a T : Addr) (cls cx : Value) (d : Option Addr) (H' : Hp), e = .ref a ∧ s'.os = s.os ∧ AllBare s'.gens ∧ Un (frs outer) [] H H' s.heap s'.heap ∧ HOk P w H' s'.heap ∧
  H' a = none ∧ s.heap.get? a = none ∧ Fly a T cls .none cx s'.heap ∧ Chn H' s'.heap a cx d ∧ H' T = none ∧ s.heap.get? T = none ∧ E cls d H'
theorem calm_of {P : Program} {w : World} {A : Around} (s : Shared) (h : Calm (CXE P w) A) : A.handled = none := by
  rcases h with h | h
  · have q : CXE P w [] (fun _ => none) s (fun _ _ _ => True) .none s := .inl ⟨rfl, rfl⟩
    rw [h] at q
    exact q.elim
  · exact h
section
variable {X : Cx} {pins : List (Addr × Obj)} {σ : St} {H : Hp} {s : Shared} {E : XK} {M : Model} {e : Addr} {cls : Value}
theorem passes_out (O : Out X E) (hst : X.stack = X.env :: X.outer) (hex : X.ex = []) : Passes (CXE X.prog X.w) X E := by
  intro pins σ H s e s' I h
  rcases h with ⟨h, _⟩ | ⟨a, T, cls, cx, d, H', rfl, os, bare, un, hok, f1, n1, fl, ch, f2, n2, q⟩
  · rw [hst] at h; cases h
  · have I' : Inv X pins σ H' s' := I.call' (ch := []) os un hok bare (fun b z => absurd z (by simp))
    exact O pins σ H' s' a cls d I' ⟨Nw.of I hex n1 f1, cx, ch, .inr ⟨T, _, fl, .inl rfl, Nw.of I hex n2 f2⟩⟩ q
/-- what is tracked is kept by a flight -/
theorem Inv.own_kept {ex : List Addr} {h' : Heap} (I : Inv X pins σ H s) (mv : Mvd (frs X.stack) ex s.heap h') (hex : ∀ b ∈ ex, Nw X pins H b) : ∀ b ob, H b = some (.own e) → s.heap.get? b = some ob → H b = some (.own e) ∧ h'.get? b = some ob := fun b ob hb q =>
  ⟨hb, mv.keep b ob (fun z => by rw [(hex b z).free] at hb; cases hb) (fun z => by rw [I.stkFree b z] at hb; cases hb) q⟩
/-- the frame looks at it -/
theorem look_note {A : Around} {Ex : Value → Shared → Prop} {d : Option Addr} {Q : Unit → Shared → Prop} (I : Inv X pins σ H s) (hA : A.frames = X.A.frames) (hst : X.stack = X.env :: X.outer) (hfr : X.env.frame = some X.env.locals) (hex : X.ex = []) (a : Air X pins H e cls d s.heap)
    (h : ∀ h' T cx, Inv X pins σ H { s with heap := h' } → Fly e T cls (rawInt X.env.locals) cx h' → Chn H h' e cx d → Nw X pins H T → Nw X pins H e → Q () { s with heap := h' }) :
    wpAny M A (noteFrame (.ref e) X.env) Q Ex s := by
  have hl := I.stack
  have hf := I.ok.frames
  rw [hst] at hl hf
  rw [← hA] at hf
  obtain ⟨ne, cx, ch, a⟩ := a
  have fin : ∀ (h1 : Heap) (T : Addr) (ex : List Addr), Mvd (frs (X.env :: X.outer)) ex s.heap h1 → (∀ b ∈ ex, Nw X pins H b) → Fly e T cls (rawInt X.env.locals) cx h1 → s.heap.get? T = none →
      Q () { s with heap := h1 } := fun h1 T ex mv hx fl nT => by
    have mv' : Mvd (frs X.stack) ex s.heap h1 := by rw [hst]; exact mv
    exact h h1 T cx (I.mvd mv' hx) fl (ch.keep (I.own_kept mv' hx)) (Nw.of I hex nT (I.hok.none_of nT)) ne
  rcases a with ⟨oe, vs, he, hc, hdn, hd, h1, h2⟩ | ⟨T0, fl0, fl, hfl, nT0⟩
  · subst hc
    refine note_first hf hl hfr he hdn hd h1 h2 fun h' T mv fl nT => fin h' T [e] mv (fun b hb => by rw [List.mem_singleton.mp hb]; exact ne) fl nT
  · rcases hfl with rfl | rfl
    · refine note_next hf hl hfr fl fun h' T mv fl nT => fin h' T [e, T0] mv (fun b hb => ?_) fl nT
      rcases List.mem_cons.mp hb with rfl | hb
      · exact ne
      · rw [List.mem_singleton.mp hb]; exact nT0
    · exact note_here hfr fl (h s.heap T0 cx I fl ch nT0 ne)
/-- the frame looks at it, and it is met -/
theorem look_land {A : Around} {Ex : Value → Shared → Prop} {d : Option Addr} {Q : Unit → Shared → Prop} (I : Inv X pins σ H s) (hA : A.frames = X.A.frames) (hst : X.stack = X.env :: X.outer) (hfr : X.env.frame = some X.env.locals) (hex : X.ex = []) (a : Air X pins H e cls d s.heap)
    (h : ∀ h' T cx, Inv X pins σ H { s with heap := h' } → Fly e T cls .none cx h' → Chn H h' e cx d → Nw X pins H T → Nw X pins H e → Q () { s with heap := h' }) :
    wpAny M A (noteFrame (.ref e) X.env) (fun _ s2 => wpAny M A (setFlight (.ref e) none) Q Ex s2) Ex s := by
  refine look_note I hA hst hfr hex a fun h1 T cx I1 fl ch nT ne => ?_
  refine flight_none (s := { s with heap := h1 }) fl fun h2 mv2 fl2 => ?_
  have mv' : Mvd (frs X.stack) [T] h1 h2 := mv2.mono (fun b z => nomatch z) fun b z => z
  have hx : ∀ b ∈ [T], Nw X pins H b := fun b hb => by rw [List.mem_singleton.mp hb]; exact nT
  exact h h2 T cx (I1.mvd mv' hx) fl2 (ch.keep (I1.own_kept mv' hx)) nT ne
end
/-- out of a def -/
theorem out_fn {P : Program} {w : World} {K : PySem.W.Frag} {mg : Str → Option Value} {base : Heap} {N : List Str} {qual : Str} {scope : Scope} {f : Addr} {cd : Value} {A : Around} {outer : List Env} {s : Shared} {H : Hp} {E E' : XK} (hE : ∀ c d H, E' c d H → E c d H) :
    Out (cxOf (CXE P w) P w K mg base N qual scope f cd A outer s H E) E' := by
  intro pins σ H' s' e cls d I a q
  show wpAny _ _ (leaving _ (.ref e)) _ _ _
  unfold leaving
  refine wpAny_bind (look_land I rfl rfl rfl rfl a fun h' T cx I' fl ch nT ne => ?_)
  exact .inr ⟨e, T, cls, cx, d, H', rfl, I'.os, I'.bare, I'.base, I'.hok, ne.free, ne.new, fl, ch, nT.free, nT.new, hE _ _ _ q⟩
theorem passes_fn {P : Program} {w : World} {K : PySem.W.Frag} {mg : Str → Option Value} {base : Heap} {N : List Str} {qual : Str} {scope : Scope} {f : Addr} {cd : Value} {A : Around} {outer : List Env} {s : Shared} {H : Hp} {E E' : XK} (hE : ∀ c d H, E' c d H → E c d H) :
    Passes (CXE P w) (cxOf (CXE P w) P w K mg base N qual scope f cd A outer s H E) E' := passes_out (X := cxOf (CXE P w) P w K mg base N qual scope f cd A outer s H E) (out_fn hE) rfl rfl
/-- no exception is wanted -/
theorem cxe0 {P : Program} {w : World} {l : List Env} {H : Hp} {s : Shared} {e : Value} {s' : Shared} (h : CXE P w l H s (fun _ _ _ => False) e s') : False := by
  rcases h with ⟨_, h⟩ | ⟨a, T, cls, cx, d, H', _, _, _, _, _, _, _, _, _, _, _, q⟩
  · have := congrFun (congrFun (congrFun h .none) none) H
    rw [this]; trivial
  · exact q
theorem passesE0 {X : Cx} : Passes (CXE X.prog X.w) X E0 := fun _ _ _ _ _ _ _ h => (cxe0 h).elim
/-- the class object of an exception of one's own -/
theorem own_obj {K : PySem.W.Frag} {h : Heap} {C : Addr} {bmB : List Value} {newId : String} (X : K.In h) (q : PySem.W.excIn K C bmB newId = true) :
    ∃ bm N nm qn bs hdct sn sub ab col dd k0 k1 k2 k3 k5 mN, h.get? C = some (excClassObj nm qn C N bs bm hdct sn sub ab col dd k0 k1 k2 k3 k5 newId) ∧ h.Ns N mN ∧ mN "__init__" = none ∧ OwnTail h bmB bm := by
  unfold PySem.W.excIn at q
  split at q
  · rename_i dd cd sl ho
    split at q
    · rename_i C' bm k0 k1 k2 k3 n k5 hm hs
      simp only [Bool.and_eq_true, beq_iff_eq, Bool.not_eq_true'] at q
      obtain ⟨⟨⟨⟨⟨rfl, rfl⟩, hdel⟩, ht⟩, hok⟩, hni⟩ := q
      obtain ⟨nm, bs, mro, ns, qn, hd, sn, sub, ab, col, del⟩ := cd
      dsimp only at hm hdel hok hni
      subst hm hdel
      have hsl : sl = #[k0, k1, k2, k3, some (.builtin n), k5] := by
        obtain ⟨l⟩ := sl
        simp only at hs
        rw [hs]
      subst hsl
      exact ⟨bm, ns, nm, qn, bs, hd, sn, sub, ab, col, dd, k0, k1, k2, k3, k5, _, X _ _ ho, .of_isNs (PySem.W.isNs_of_in X hok), PySem.W.nsMap_none_of_in X hok hni, PySem.W.tail_of_in X ht⟩
    · cases q
  · cases q
abbrev veMro : List Value := [.type "ValueError", .type "Exception", .type "BaseException", .type "object"]
/-- raise C(e) -/
def tRaise (E : XK) (C : Addr) (t : TA) : TS := fun _ σ H => t σ H fun vs H1 => vs.length ≤ 1000 ∧ E (.ref C) none H1
theorem ps_raise {X : Cx} {E : XK} {C : Addr} {x : Str} {np cpos pos : Pos} {e : Expr} {es : List Expr} {t : TA} (O : Out X E) (hex : X.ex = []) (hh : X.A.handled = none) (hg : Gl X x) (hm : X.mg x = some (.ref C)) (hc : PySem.W.excIn X.K C veMro "ValueError.__new__" = true)
    (ha : PA X (e :: es) t) (hdb : (x == ("__debug__" : Str)) = false := by decide) (he : starEach (e :: es) X.env = (false, eval e X.env) :: starEach es X.env := by rfl) (hpl : (backTo cpos (starEach es X.env)).any (·.1) = false := by rfl) :
    PS X (.Raise (some (.Call (.Name x np) (e :: es) [] cpos)) none pos) (tRaise E C t) := by
  intro pins s σ H D I h
  obtain ⟨bm, N, nm, q, bs, hdct, sn, sub, ab, col, dd, k0, k1, k2, k3, k5, mN, hC, hN, hni, T⟩ := own_obj I.ok.mod.kin hc
  refine wpAny_Raise_call_subT (C := C) (nm := nm) (q := q) (N := N) (bs := bs) (bm := bm) (hdct := hdct) (sn := sn) (sub := sub) (ab := ab) (col := col) (dd := dd) (k0 := k0) (k1 := k1) (k2 := k2) (k3 := k3) (k5 := k5)
    PySem.F.excBase_ValueError (mN := mN) (T.hasType PySem.F.excBase_ValueError.hasBase) hh (by rw [he]; show (false || (backTo cpos (starEach es X.env)).any (·.1)) = false; rw [hpl]; rfl) hni (ld_glob I hg hm ⟨rfl, ?_⟩ hdb)
  have h2 := ha cpos pins s σ H _ I h
  rw [he] at h2 ⊢
  refine Calls.evalArgs_plain (wpAny_mono h2 (fun us s2 ⟨vs, H1, I1, r, z, q⟩ => ?_) fun _ _ y => y)
  refine ⟨rfl, ?_, I1.bk _ _ hC, hN.keeps I1.bk, T.keeps I1.bk, fun h' e hm => ?_⟩
  · have e := r.length
    show us.length ≤ _
    rw [← e]
    exact Nat.le_of_lt (small1000 z)
  · have I2 : Inv X pins σ H1 { s2 with heap := h' } := I1.kept (t' := s2.toks) hm.keeps
    obtain ⟨t, h1, h2, h3⟩ := hm.there
    exact O pins σ H1 { s2 with heap := h' } e (.ref C) none I2 ⟨Nw.of I1 hex hm.new (I1.hok.none_of hm.new), .none, .inl ⟨rfl, rfl⟩, .inl ⟨_, _, h1, rfl, rfl, rfl, rfl, rfl⟩⟩ q
end L2
end
section
set_option Elab.async false
set_option linter.all false
set_option maxRecDepth 100000
set_option maxHeartbeats 4000000
/-! EXCEPTIONS, 3: try .. except C as e -/
namespace L2
open PySem PySem.Spec PyProof.Rows
/-- a class of the text that an except clause may name -/
structure CatK (K : PySem.W.Frag) (C : Addr) : Prop where
  cls : (match K.lookup C with | some ⟨.type "type", _, .cls _, _⟩ => true | _ => false) = true
  bx : PySem.W.mroIn K C (.type "BaseException") = some true
open PySem.W in
theorem exc_matches {M : Model} {A : Around} {E : Value → Shared → Prop} {s : Shared} {K : PySem.W.Frag} {C0 C e : Addr} {oe : Obj} {b : Bool} {Q : Bool → Shared → Prop} (X : K.In s.heap) (k : CatK K C0) (he : s.heap.get? e = some oe) (hcls : oe.cls = .ref C)
    (hm : mroIn K C (.ref C0) = some b) (h : Q b s) : wpAny M A (excMatches (.ref e) (.ref C0)) Q E s := by
  obtain ⟨hp, g, d, t, os⟩ := s
  have L1 := looks_mroIn (M := M) X k.bx
  have L2 := looks_mroIn (M := M) X hm
  have kc := k.cls
  split at kc
  · rename_i dd cd sl ho
    have hC : hp.get? C0 = some ⟨.type "type", dd, .cls cd, sl⟩ := X _ _ ho
    have f := tc_notTuple
    unfold excMatches
    repeat (first | (with_reducible refine wpAny_loadPart_at he ?_; rw [hcls]) | with_reducible refine wpAny_loadPart_at hC ?_ | (with_reducible refine L1.here ?_) | (with_reducible refine L2.here ?_) | wp_step)
    cases b <;> (wp_walk; exact h)
  · cases kc
end L2
namespace L2
open PySem PySem.Spec PyProof.Rows
abbrev Cx.bod (X : Cx) (pn : List (Addr × Obj)) (fx : List (Str × Value)) (xe : Value → Shared → Prop) : Cx := { X with pn := pn, fx := fx, xe := xe }
abbrev Cx.hnd (X : Cx) (e : Addr) (c : Value) (pn : List (Addr × Obj)) : Cx := { X with A := X.A.mark (some (.ref e)), pn := pn, tr := (e, c) :: X.tr, xe := fun _ _ => False }
theorem Cx.Ok.bod {X : Cx} (ok : X.Ok) (pn : List (Addr × Obj)) (fx : List (Str × Value)) (xe : Value → Shared → Prop) : (X.bod pn fx xe).Ok :=
  ⟨ok.mod, ok.kind, ok.glob, ok.blt, ok.above, ok.inj, ok.has, ok.cab, ok.hd, ok.frames, ok.stk, ok.exf, ok.bs, ok.bsz, ok.noex, ok.exfs, ok.funs, ok.frf⟩
theorem Cx.Ok.hnd {X : Cx} (ok : X.Ok) (e : Addr) (c : Value) (pn : List (Addr × Obj)) : (X.hnd e c pn).Ok :=
  ⟨ok.mod, ok.kind, ok.glob, ok.blt, ok.above, ok.inj, ok.has, ok.cab, .inr ⟨e, c, rfl, .inr (List.mem_cons_self ..)⟩, ok.frames, ok.stk, ok.exf, ok.bs, ok.bsz, ok.noex, ok.exfs, ok.funs, ok.frf⟩
/-- the values of the names that a try's body doesn't assign -/
def mask (W : List Str) : List Str → St → St
  | n :: N, v :: σ => (if W.contains n = true then none else v) :: mask W N σ
  | _, σ => σ
theorem mask_len (W : List Str) : ∀ (N : List Str) (σ : St), (mask W N σ).length = σ.length
  | [], _ => rfl
  | _ :: _, [] => rfl
  | _ :: N, _ :: σ => by simp [mask, mask_len W N σ]
theorem mask_get {W : List Str} : ∀ {N : List Str} {σ : St} {i : Nat} {x : Str} {v : V}, N[i]? = some x → (mask W N σ)[i]? = some (some v) → σ[i]? = some (some v) ∧ x ∉ W
  | [], _, _, _, _, h, _ => by simp at h
  | _ :: _, [], _, _, _, _, h => by simp [mask] at h
  | n :: N, u :: σ, 0, x, v, h1, h2 => by
    simp only [List.getElem?_cons_zero, Option.some.injEq] at h1
    subst h1
    simp only [mask, List.getElem?_cons_zero, Option.some.injEq] at h2
    split at h2
    · cases h2
    · rename_i hc
      exact ⟨by simp [h2], fun z => hc (by simpa using z)⟩
  | n :: N, u :: σ, i + 1, x, v, h1, h2 => by
    have := mask_get (N := N) (σ := σ) (i := i) (x := x) (v := v) (by simpa using h1) (by simpa [mask] using h2)
    simpa using this
section
variable {X : Cx} {pins : List (Addr × Obj)} {σ : St} {H : Hp} {s : Shared} {e : Addr} {c : Value}
/-- the names' values, written out -/
theorem Inv.fixed (I : Inv X pins σ H s) (W : List Str) : ∃ fx : List (Str × Value), (∀ p ∈ fx, p.1 ∉ W) ∧ (∀ p ∈ fx, ∃ m, s.heap.Ns X.env.locals m ∧ Look X.env s.heap m p.1 p.2) ∧
    ∀ (i : Nat) (x : Str) (v : V), X.N[i]? = some x → σ[i]? = some (some v) → Vis X.env.scope x → x ∉ W → ∃ u, RelV v u ∧ (x, u) ∈ fx := by
  obtain ⟨m, hn, hl⟩ := I.loc
  have key : ∀ n : Nat, ∃ fx : List (Str × Value), (∀ p ∈ fx, p.1 ∉ W) ∧ (∀ p ∈ fx, ∃ m, s.heap.Ns X.env.locals m ∧ Look X.env s.heap m p.1 p.2) ∧
      ∀ (i : Nat) (x : Str) (v : V), i < n → X.N[i]? = some x → σ[i]? = some (some v) → Vis X.env.scope x → x ∉ W → ∃ u, RelV v u ∧ (x, u) ∈ fx := by
    intro n
    induction n with
    | zero => exact ⟨[], fun p h => (by cases h), fun p h => (by cases h), fun i x v h => absurd h (Nat.not_lt_zero _)⟩
    | succ n ih =>
      obtain ⟨fx, h1, h2, h3⟩ := ih
      by_cases hx : ∃ x v, X.N[n]? = some x ∧ σ[n]? = some (some v) ∧ Vis X.env.scope x ∧ x ∉ W
      · obtain ⟨x, v, a1, a2, a3, a4⟩ := hx
        obtain ⟨u, r, lk⟩ := hl n x v a1 a2 a3
        refine ⟨(x, u) :: fx, fun p hp => ?_, fun p hp => ?_, fun i y v' hi b1 b2 b3 b4 => ?_⟩
        · rcases List.mem_cons.mp hp with rfl | hp
          · exact a4
          · exact h1 p hp
        · rcases List.mem_cons.mp hp with rfl | hp
          · exact ⟨m, hn, lk⟩
          · exact h2 p hp
        · by_cases hin : i = n
          · subst hin
            rw [a1] at b1; cases b1
            rw [a2] at b2; cases b2
            exact ⟨u, r, List.mem_cons_self ..⟩
          · obtain ⟨u', r', z⟩ := h3 i y v' (by omega) b1 b2 b3 b4
            exact ⟨u', r', List.mem_cons_of_mem _ z⟩
      · refine ⟨fx, h1, h2, fun i y v' hi b1 b2 b3 b4 => ?_⟩
        by_cases hin : i = n
        · subst hin
          exact absurd ⟨y, v', b1, b2, b3, b4⟩ hx
        · exact h3 i y v' (by omega) b1 b2 b3 b4
  obtain ⟨fx, h1, h2, h3⟩ := key X.N.length
  exact ⟨fx, h1, h2, fun i x v a1 a2 a3 a4 => h3 i x v (List.getElem?_eq_some_iff.mp a1).1 a1 a2 a3 a4⟩
theorem Inv.bod (I : Inv X pins σ H s) (hfx0 : X.fx = []) {fx : List (Str × Value)} (hf : ∀ p ∈ fx, ∃ m, s.heap.Ns X.env.locals m ∧ Look X.env s.heap m p.1 p.2) (xe : Value → Shared → Prop) : Inv (X.bod (X.pn ++ pins) fx xe) [] σ H s :=
  ⟨I.ok.bod _ _ _, I.os, I.bare, I.base, I.loc, I.cell, I.free, I.freeC, fun p hp => I.pin p (by simpa using hp), I.hok, I.len, I.tr, hf⟩
theorem Inv.unbod {fx : List (Str × Value)} {xe : Value → Shared → Prop} (J : Inv X pins σ H s) (hfx0 : X.fx = []) {ps : List (Addr × Obj)} {σ' : St} {H' : Hp} {s' : Shared} (I : Inv (X.bod (X.pn ++ pins) fx xe) ps σ' H' s') : Inv X pins σ' H' s' :=
  ⟨J.ok, I.os, I.bare, I.base, I.loc, I.cell, I.free, I.freeC, fun p hp => I.pin p (List.mem_append_left _ hp), I.hok, I.len, I.tr, fun p hp => by rw [hfx0] at hp; cases hp⟩
theorem Nw.unbod {fx : List (Str × Value)} {xe : Value → Shared → Prop} {ps : List (Addr × Obj)} {b : Addr} (n : Nw (X.bod (X.pn ++ pins) fx xe) ps H b) : Nw X pins H b := ⟨n.free, n.new, n.loc, n.cel, fun p hp => n.pin p (List.mem_append_left _ hp)⟩
theorem Nw.hnd {e' : Addr} {b : Addr} (n : Nw X pins H b) (hb : b ≠ e') (c : Value) (o : HO) : Nw (X.hnd e' c (X.pn ++ pins)) [] (upd H e' o) b := ⟨by rw [upd_ne hb]; exact n.free, n.new, n.loc, n.cel, fun p hp => n.pin p (by simpa using hp)⟩
/-- the exception is handled now -/
theorem Inv.hnd (I : Inv X pins σ H s) (hfx0 : X.fx = []) (n : Nw X pins H e) {T : Addr} {cx : Value} {dd : Option Addr} (fl : Fly e T c .none cx s.heap) (ch : Chn H s.heap e cx dd) : Inv (X.hnd e c (X.pn ++ pins)) [] σ (upd H e (.exc c)) s := by
  obtain ⟨oe, vs, oT, ts, h1, h2, h3, h4, _, h5, _⟩ := fl
  refine ⟨I.ok.hnd _ _ _, I.os, I.bare, ⟨I.base.keep, I.base.slot, fun b o q nb hx => ?_, I.base.there, fun b xs q => ?_, fun b o u q => ?_, fun b ps q => ?_, fun b k q => ?_⟩, I.loc, I.cell, ?_, fun x k q => ?_, fun p hp => ?_, I.hok.put n.free ⟨oe, vs, h1, h2, h3, h4, ?_⟩, I.len, fun p hp => ?_, fun p hp => ?_⟩
  case refine_9 =>
    rcases ch with ⟨_, rfl⟩ | ⟨b, ob, vb, _, rfl, d2, d3, d4, d5⟩
    · exact .inl h5
    · exact .inr ⟨b, ob, vb, h5, d2, by rw [upd_ne d2]; exact d3, d4, d5⟩
  · have hb : b ≠ e := fun z => by rw [z] at q; rw [show X.s₀.heap.get? e = none from n.new] at q; cases q
    rw [upd_ne hb]; exact I.base.free b o q nb hx
  · have := I.base.tups b xs q; rw [upd_ne (ne_of_none this n.free)]; exact this
  · have := I.base.frzs b o u q; rw [upd_ne (ne_of_none this n.free)]; exact this
  · obtain ⟨more, z⟩ := I.base.tbls b ps q; exact ⟨more, by rw [upd_ne (ne_of_none z n.free)]; exact z⟩
  · have := I.base.excs b k q; rw [upd_ne (ne_of_none this n.free)]; exact this
  · rw [upd_ne (Ne.symm n.loc)]; exact I.free
  · rw [upd_ne (n.cel x k q)]; exact I.freeC x k q
  · have hp' : p ∈ X.pn ++ pins := by simpa using hp
    obtain ⟨a1, a2, a3⟩ := I.pin p hp'
    exact ⟨a1, by rw [upd_ne (n.pin p hp')]; exact a2, a3⟩
  · rcases List.mem_cons.mp hp with rfl | hp
    · exact upd_same
    · have := I.tr p hp; rw [upd_ne (ne_of_none this n.free)]; exact this
  · have hp' : p ∈ X.fx := hp
    rw [hfx0] at hp'; cases hp'
theorem Inv.offh (J : Inv X pins σ H s) (hfx0 : X.fx = []) {σ' : St} {H' : Hp} {s' : Shared} (I : Inv (X.hnd e c (X.pn ++ pins)) [] σ' H' s') : Inv X pins σ' H' s' :=
  ⟨J.ok, I.os, I.bare, I.base, I.loc, I.cell, I.free, I.freeC, fun p hp => I.pin p (List.mem_append_left _ hp), I.hok, I.len, fun p hp => I.tr p (List.mem_cons_of_mem _ hp), fun p hp => by rw [hfx0] at hp; cases hp⟩
/-- it was handled, and the name is gone -/
theorem Inv.unhnd (J : Inv X pins σ H s) (hfx0 : X.fx = []) {i : Nat} {n : Str} (hi : X.N[i]? = some n) {σ' : St} {H' : Hp} {s' : Shared} {m : Str → Option Value} {u : Option Value} {h' : Heap} {t' : Nat} (I : Inv (X.hnd e c (X.pn ++ pins)) [] σ' H' s') (hm : s'.heap.Ns X.env.locals m)
    (hn : h'.Ns X.env.locals (fun x => if x = n then u else m x)) (sb : Heap.SameBut X.env.locals s'.heap h') (hN : X.N.Nodup) : Inv X pins (σ'.set i none) H' { s' with heap := h', toks := t' } := by
  have K0 : ∀ b o, b ≠ X.env.locals → s'.heap.get? b = some o → h'.get? b = some o := fun b o hb e => (sb.2 b hb).trans e
  have hL : H' X.env.locals = none := I.free
  have I' : Inv X pins σ' H' s' := J.offh hfx0 I
  refine I'.stepN (g' := s'.gens) (d' := s'.drawn) (ch := []) (fun b hb => nomatch hb) (fun b o hb _ _ q _ => K0 b o hb q) (fun b o hb _ _ q _ => ⟨o.slots, K0 b o hb q⟩) (fun _ _ _ _ n => n) (fun b o _ q => ?_) (fun _ _ q => q) (fun _ _ _ q => q) (fun b ps q => ⟨#[], by rw [q]; simp⟩) (fun _ _ q => q)
    (fun cellK => ?_) (fun _ p hp => by rw [hfx0] at hp; cases hp) (by simp) (fun a o q => (I.hok a o q).stay (fun b u hb z => K0 b u ?_ z) (fun _ z => z) fun _ _ z => z) I.bare
  · by_cases hb : b = X.env.locals
    · obtain ⟨ol, _, _, ho, _⟩ := hn
      exact ⟨ol, by rw [hb]; exact ho⟩
    · exact ⟨o, K0 b o hb q⟩
  · obtain ⟨m1, hn1, hl1⟩ := I'.loc
    have em := ns_uniq hn1 hm
    subst em
    refine ⟨_, hn, fun j y v a1 a2 a3 => ?_⟩
    have hji : j ≠ i := fun z => by
      subst z
      by_cases hlt : j < σ'.length
      · rw [List.getElem?_set_self hlt] at a2; cases a2
      · rw [List.getElem?_eq_none (by simp; omega)] at a2; cases a2
    rw [List.getElem?_set_ne (Ne.symm hji)] at a2
    obtain ⟨u', r, lk⟩ := hl1 j y v a1 a2 a3
    refine ⟨u', r, ?_⟩
    rcases lk with ⟨k, e'⟩ | ⟨k, c', e', z⟩
    · have : y ≠ n := fun z => hji (nodup_ix hN a1 (z ▸ hi))
      exact .inl ⟨k, by simp [this, e']⟩
    · exact .inr ⟨k, c', e', cellK y c' e' _ z⟩
  · intro zb
    rcases hb with hb | hb
    · rw [← hb, zb, hL] at q; cases q
    · rw [zb, hL] at hb; cases hb
/-- what the body doesn't assign is known again -/
theorem Inv.known {fx : List (Str × Value)} {xe : Value → Shared → Prop} {W : List Str} (J : Inv X pins σ H s) (hfx0 : X.fx = []) (hk : ∀ (i : Nat) (x : Str) (v : V), X.N[i]? = some x → σ[i]? = some (some v) → Vis X.env.scope x → x ∉ W → ∃ u, RelV v u ∧ (x, u) ∈ fx)
    {ps : List (Addr × Obj)} {σ' : St} {H' : Hp} {s' : Shared} (I : Inv (X.bod (X.pn ++ pins) fx xe) ps σ' H' s') : Inv X pins (mask W X.N σ) H' s' := by
  have I' := J.unbod hfx0 I
  obtain ⟨m, hn, _⟩ := I'.loc
  refine ⟨I'.ok, I'.os, I'.bare, I'.base, ⟨m, hn, fun i x v a1 a2 a3 => ?_⟩, I'.cell, I'.free, I'.freeC, I'.pin, I'.hok, by rw [mask_len]; exact J.len, I'.tr, I'.fix⟩
  obtain ⟨b1, b2⟩ := mask_get a1 a2
  obtain ⟨u, r, hm⟩ := hk i x v a1 b1 a3 b2
  obtain ⟨m1, hn1, lk⟩ := I.fix (x, u) hm
  have em := ns_uniq hn1 hn
  subst em
  exact ⟨u, r, lk⟩
end
/-- behind the handler the exception's name is gone -/
def Ends.dim (D : Ends) (i : Nat) : Ends := { nx := fun σ H => D.nx (σ.set i none) H, rt := D.rt, bk := fun σ H => D.bk (σ.set i none) H, ct := fun σ H => D.ct (σ.set i none) H }
/-- what is wanted of an exception: it is of the class, and the handler leads on; W: the names that the body assigns -/
def xTry (X : Cx) (C0 : Addr) (i : Nat) (W : List Str) (th : TS) (D : Ends) (σ : St) : XK := fun c _ H => (∃ C, c = .ref C ∧ PySem.W.mroIn X.K C (.ref C0) = some true) ∧ ∀ e, H e = none → th (D.dim i) ((mask W X.N σ).set i (some (.ref e))) (upd H e (.exc c))
def tTry (X : Cx) (C0 : Addr) (i : Nat) (W : List Str) (tb : XK → TS) (th : TS) : TS := fun D σ H => tb (xTry X C0 i W th D σ) D σ H
def xTry0 (X : Cx) (C0 : Addr) (W : List Str) (th : TS) (D : Ends) (σ : St) : XK := fun c _ H => (∃ C, c = .ref C ∧ PySem.W.mroIn X.K C (.ref C0) = some true) ∧ ∀ e, H e = none → th D (mask W X.N σ) (upd H e (.exc c))
def tTry0 (X : Cx) (C0 : Addr) (W : List Str) (tb : XK → TS) (th : TS) : TS := fun D σ H => tb (xTry0 X C0 W th D σ) D σ H
section
variable {X : Cx} {C0 : Addr} {x n : Str} {np hpos pos : Pos} {i : Nat} {W : List Str} {body suite : List Stmt} {b₀ : Stmt} {tb : XK → TS} {th : TS}
/-- what is wanted behind the suite of a clause -/
def TryQ (X : Cx) (pins : List (Addr × Obj)) (D : Ends) (hpos : Pos) : Option Str → Flow → Shared → Prop
  | none, f, s => SP X pins D f s
  | some n, f, s => wpAny (model X.prog X.w) X.A (do bindName X.env n .none; unbindBehindTheSuite X.env n hpos) (fun _ s₃ => SP X pins D f s₃) X.xe s
/-- the try's body, and where its exception is met -/
theorem try_core {name : Option Str} {pins : List (Addr × Obj)} {s : Shared} {σ : St} {H : Hp} {D : Ends} {E : XK} (hst : X.stack = X.env :: X.outer) (hfr : X.env.frame = some X.env.locals) (hex : X.ex = []) (hfx0 : X.fx = [])
    (hg : Gl X x) (hm : X.mg x = some (.ref C0)) (hk : CatK X.K C0) (hE : ∀ c d H, E c d H → ∃ C, c = .ref C ∧ PySem.W.mroIn X.K C (.ref C0) = some true)
    (hb : ∀ Ex pn fx xe, (∀ p ∈ fx, p.1 ∉ W) → Out (X.bod pn fx xe) Ex → PSs (X.bod pn fx xe) body (tb Ex)) (hdb : (x == ("__debug__" : Str)) = false) (I : Inv X pins σ H s) (h : tb E D σ H)
    (hs : ∀ (e T C : Addr) (cx : Value) (d : Option Addr) (H' : Hp) (s3 : Shared), Inv X pins (mask W X.N σ) H' s3 → Nw X pins H' e → Nw X pins H' T → T ≠ e → E (.ref C) d H' → Fly e T (.ref C) .none cx s3.heap → Chn H' s3.heap e cx d →
      codeAny (model X.prog X.w) (X.A.mark (some (.ref e))) (.handlers (.ref e) [.ExceptHandler none name (b₀ :: suite) hpos] X.env) (fun r s₂ => match r with
          | .ok f => TryQ X pins D hpos name f s₂
          | .error x => cameBackBy (model X.prog X.w) X.A X.env X.xe x s₂) s3) :
    wpAny (model X.prog X.w) X.A (exec (.Try body [.ExceptHandler (some (.Name x np)) name (b₀ :: suite) hpos] [] [] pos) X.env) (SP X pins D) X.xe s := by
  obtain ⟨fx, fx1, fx2, fx3⟩ := I.fixed W
  have O : Out (X.bod (X.pn ++ pins) fx fun v s1 => ∃ a cls d H', v = .ref a ∧ Inv X pins (mask W X.N σ) H' s1 ∧ Air X pins H' a cls d s1.heap ∧ E cls d H') E := by
    intro ps σ' H' s' a cls d J air q
    obtain ⟨air1, cx, ch, air2⟩ := air
    refine ⟨a, cls, d, H', rfl, I.known hfx0 fx3 J, ⟨air1.unbod, cx, ch, ?_⟩, q⟩
    rcases air2 with z | ⟨T, fl, z1, z3, z2⟩
    · exact .inl z
    · exact .inr ⟨T, fl, z1, z3, z2.unbod⟩
  refine wpAny_Try_except (wpAny_mono (hb _ _ _ _ fx1 O [] s σ H D (I.bod hfx0 fx2 _) h) (fun f s1 q => ?_) fun v s1 q => ?_)
  · cases f with
    | next => obtain ⟨σ', H', J, q⟩ := q; exact wpAny_execs_nil ⟨σ', H', I.unbod hfx0 J, q⟩
    | brk => obtain ⟨σ', H', J, q⟩ := q; exact ⟨σ', H', I.unbod hfx0 J, q⟩
    | cont => obtain ⟨σ', H', J, q⟩ := q; exact ⟨σ', H', I.unbod hfx0 J, q⟩
    | ret u => obtain ⟨v, σ', H', J, r, q⟩ := q; exact ⟨v, σ', H', I.unbod hfx0 J, r, q⟩
  · obtain ⟨e, c, d, H', rfl, J, air, qE⟩ := q
    obtain ⟨C, rfl, hmro⟩ := hE _ _ _ qE
    refine look_land J rfl hst hfr hex air fun h' T cx J1 fl ch nT ne => ?_
    have hTe : T ≠ e := by obtain ⟨_, _, _, _, _, _, _, _, _, _, z, _⟩ := id fl; exact z
    have Ih := J1.hnd hfx0 ne fl ch
    refine wpAny_handleBy_cons (codeAny_handlers_test (ld_glob (X := X.hnd e (.ref C) (X.pn ++ pins)) Ih hg hm ?_ hdb)) (by intro q; cases q)
    obtain ⟨oe, _, _, _, h1, h2, _⟩ := id fl
    refine exc_matches Ih.kIn hk h1 h2 hmro ?_
    show codeAny _ _ (.handlers _ [.ExceptHandler none name (b₀ :: suite) hpos] _) _ _
    refine codeAny_mono (hs e T C cx d H' _ J1 ne nT hTe qE fl ch) fun r s2 hq => ?_
    cases r with
    | error x => exact hq
    | ok f => cases name <;> exact hq
theorem ps_try (W : List Str) (hst : X.stack = X.env :: X.outer) (hfr : X.env.frame = some X.env.locals) (hex : X.ex = []) (hfx0 : X.fx = [])
    (hN : X.N.Nodup) (hi : X.N[i]? = some n) (hl : X.env.scope.names.lookup n = some .local) (hg : Gl X x) (hm : X.mg x = some (.ref C0)) (hk : CatK X.K C0)
    (hb : ∀ Ex pn fx xe, (∀ p ∈ fx, p.1 ∉ W) → Out (X.bod pn fx xe) Ex → PSs (X.bod pn fx xe) body (tb Ex)) (hh : ∀ e c pn, PSs (X.hnd e c pn) (b₀ :: suite) th) (hdb : (x == ("__debug__" : Str)) = false := by decide) :
    PS X (.Try body [.ExceptHandler (some (.Name x np)) (some n) (b₀ :: suite) hpos] [] [] pos) (tTry X C0 i W tb th) := by
  intro pins s σ H D I h
  refine try_core hst hfr hex hfx0 hg hm hk (fun c d H z => z.1) hb hdb I h fun e T C cx d H' s3 J1 ne nT hTe qE fl ch => ?_
  have Ih := J1.hnd hfx0 ne fl ch
  refine codeAny_handlers_suite_as ?_
  refine flight_none fl fun h2 mv2 fl2 => ?_
  have Ih2 := Ih.mvd (mv2.mono (fun b z => nomatch z) fun b z => z) fun b hb => by rw [List.mem_singleton.mp hb]; exact nT.hnd hTe _ _
  refine store_ok (X := X.hnd e (.ref C) (X.pn ++ pins)) (v := .ref e) Ih2 hN hi (.inl hl) rfl (fun s3 I3 => ?_) (.inr hl) (fun p hp => by have hp' : p ∈ X.fx := hp; rw [hfx0] at hp'; cases hp')
  refine wpAny_mono (hh e (.ref C) (X.pn ++ pins) [] s3 _ _ (D.dim i) I3 (qE.2 e ne.free)) (fun f s4 q => ?_) fun _ _ z => z.elim
  have gone : ∀ {σ4 : St} {H4 : Hp}, Inv (X.hnd e (.ref C) (X.pn ++ pins)) [] σ4 H4 s4 → (∀ s5, Inv X pins (σ4.set i none) H4 s5 → SP X pins D f s5) →
      wpAny (model X.prog X.w) X.A (do bindName X.env n .none; unbindBehindTheSuite X.env n hpos) (fun _ s5 => SP X pins D f s5) X.xe s4 := fun {σ4 H4} I4 k => by
    obtain ⟨m, hn, _⟩ := I4.loc
    exact wpAny_nameGoes_keeps hl hn (by rw [J1.ok.kind]; rfl) fun h5 v5 hn5 sb => k _ (J1.unhnd hfx0 hi I4 hn hn5 sb hN)
  cases f with
  | next => obtain ⟨σ4, H4, I4, q⟩ := q; exact gone I4 fun s5 I5 => ⟨_, _, I5, q⟩
  | brk => obtain ⟨σ4, H4, I4, q⟩ := q; exact gone I4 fun s5 I5 => ⟨_, _, I5, q⟩
  | cont => obtain ⟨σ4, H4, I4, q⟩ := q; exact gone I4 fun s5 I5 => ⟨_, _, I5, q⟩
  | ret u => obtain ⟨v, σ4, H4, I4, r, q⟩ := q; exact gone I4 fun s5 I5 => ⟨v, _, _, I5, r, q⟩
end
end L2
namespace L2
open PySem PySem.Spec PyProof.Rows
/-- THE RULE for a def that may raise, or is called where nothing is handled -/
theorem Fun.okE {P : Program} {w : World} {K : PySem.W.Frag} {mg : Str → Option Value} {base : Heap} {x qual : Str} {st : Stmt} {f : Addr} {fd : FuncData} {N ps : List Str} {k : Nat} {sp : Sp} (F : Fun K x qual st f fd) (S : FnScope N ps (defScope st)) (len : ∀ vs H Q E, sp vs H Q E → vs.length = ps.length)
    (hbody : ∀ (cdv : Value) (A : Around) (outer : List Env) (s : Shared) (H : Hp) (vs : List V) (Q : VK) (E : XK), Room k (A.deeper (envOfC qual (defScope st) s.heap.objs.size f cdv)) → A.handled = none → sp vs H Q E →
      ∃ t, PSs (cxOf (CXE P w) P w K mg base N qual (defScope st) f cdv A outer s H E) (defBody st) t ∧ t { nx := fun _ H' => Q .non H', rt := Q } (start N vs) H) : FnOk P w K mg base (CXE P w) (k + 1) f fd ps sp := by
  obtain ⟨oc, od, kV, doc, pm, an, cdv, ct, osl, rfl, lk, hcd⟩ := F.ex
  exact fn_of lk hcd S len fun A outer s H vs Q E hr hc hsp => hbody cdv A outer s H vs Q E hr (calm_of s hc) hsp
end L2
end
section
set_option Elab.async false
set_option linter.all false
set_option maxRecDepth 100000
set_option maxHeartbeats 4000000
/-! EXCEPTIONS, 4: a clause that doesn't match; except C: raise D("..") from None -/
namespace L2
open PySem PySem.Spec PyProof.Rows
section
variable {M : Model} {A : Around} {E : Value → Shared → Prop} {s : Shared}
end
section
variable {prog : Program} {w : World} {A : Around} {E : Value → Shared → Prop} {s : Shared} {env : Env}
variable {nm q : Str} {C N : Addr} {bs bm bmB : List Value} {hdct : Bool} {sn : List Str} {sub : List Value} {ab : Bool} {col : Option Bool} {dd : Option Addr} {k0 k1 k2 k3 k5 : Option Value} {B newId initId : String}
end
/-- what is wanted of an exception: one of C0 becomes one of C1, any other goes on -/
def xTryR (X : Cx) (C0 C1 : Addr) (E : XK) : XK := fun c d H => ∃ C, c = .ref C ∧ ((PySem.W.mroIn X.K C (.ref C0) = some true ∧ d = none ∧ ∀ e e1, H e = none → E (.ref C1) (some e) (upd H e (.own e1))) ∨ (PySem.W.mroIn X.K C (.ref C0) = some false ∧ E c d H))
def tTryR (X : Cx) (C0 C1 : Addr) (E : XK) (tb : XK → TS) : TS := fun D σ H => tb (xTryR X C0 C1 E) D σ H
section
variable {X : Cx} {C0 C1 : Addr} {x x1 z : Str} {np np1 hpos pos cpos pos1 cp zp : Pos} {j j2 : Nat} {W : List Str} {body : List Stmt} {tb : XK → TS} {E : XK}
end
end L2
end
section
set_option Elab.async false
set_option linter.all false
set_option maxRecDepth 100000
set_option maxHeartbeats 4000000
namespace L2
open PySem PySem.Spec PyProof.Rows

/-! ### lists of pairs as tables -/
section
variable {κ : Type} [DecidableEq κ]
def valV (kvs : List (κ × V)) (k : κ) : Option V := (kvs.find? fun kv => decide (kv.1 = k)).map (·.2)
/-- in its place, or at the end -/
def putK (kvs : List (κ × V)) (k : κ) (v : V) : List (κ × V) :=
  if (kvs.any fun kv => decide (kv.1 = k)) = true then kvs.map (fun kv => if kv.1 = k then (kv.1, v) else kv) else kvs ++ [(k, v)]
def dropK (kvs : List (κ × V)) (k : κ) : List (κ × V) := kvs.filter fun kv => decide (kv.1 ≠ k)

end


/-! ### a tracked dict, its keys ints and texts or tuples of these -/
/-- raw entries of a dict with tuple keys -/
abbrev KT (H : Hp) : List (List Key × V) → List (List Key × Addr × Value) → Prop := Paired fun p q => p.1 = q.1 ∧ H q.2.1 = some (.tup (p.1.map kV)) ∧ RelV p.2 q.2.2
section
variable {P : Program} {w : World} {H : Hp} {h : Heap} {a : Addr}
end

/-- what the dict at a holds at the key y -/
def DGet (H : Hp) (a : Addr) (y : V) (r : Option V) : Prop :=
  (∃ kvs k, Rd H a (.dK kvs) ∧ y = kV k ∧ r = valV kvs k) ∨ ∃ kvs k b, Rd H a (.dT kvs) ∧ y = .ref b ∧ H b = some (.tup (k.map kV)) ∧ r = valV kvs k
/-- the heap behind a[y] = v -/
def DPut (H : Hp) (a : Addr) (y v : V) (H' : Hp) : Prop :=
  (∃ kvs k, H a = some (.dK kvs) ∧ y = kV k ∧ kvs.length < sizeLine ∧ H' = upd H a (.dK (putK kvs k v))) ∨
  ∃ kvs k b, H a = some (.dT kvs) ∧ y = .ref b ∧ H b = some (.tup (k.map kV)) ∧ kvs.length < sizeLine ∧ H' = upd H a (.dT (putK kvs k v))
section
variable {X : Cx} {pins : List (Addr × Obj)} {σ : St} {H : Hp} {s : Shared} {a : Addr} {y v : V} {u r : Value} {o : Option V} {A : Around} {E : Value → Shared → Prop}

end

section
variable {X : Cx} {pins : List (Addr × Obj)} {σ : St} {H : Hp} {s : Shared} {a : Addr} {kvs : List (Key × V)} {k : Key} {u : Value} {A : Around} {E : Value → Shared → Prop}
end


/-! ### readings and rules -/
/-- the element of a subscription, not a slice -/
def NoSl (i : Expr) : Prop := ∀ ov iv, subscripted i false ov iv = operate [ov, iv] (getItem ov iv)
/-- d[y] -/
def tDGet (td ty : TE) : TE := fun σ H Q => td σ H fun x H1 => ty σ H1 fun y H2 => ∃ a v, x = .ref a ∧ DGet H2 a y (some v) ∧ Q v H2
/-- y in d, y not in d -/
def tDIn (ty td : TE) : TE := fun σ H Q => ty σ H fun y H1 => td σ H1 fun x H2 => ∃ a o, x = .ref a ∧ DGet H2 a y o ∧ Q (.bl o.isSome) H2
def tDNotIn (ty td : TE) : TE := fun σ H Q => ty σ H fun y H1 => td σ H1 fun x H2 => ∃ a o, x = .ref a ∧ DGet H2 a y o ∧ Q (.bl (!o.isSome)) H2
/-- d[y] = v -/
def sDPut (td ty tv : TE) : TS := fun D σ H => tv σ H fun v H1 => td σ H1 fun x H2 => ty σ H2 fun y H3 => ∃ a H4, x = .ref a ∧ DPut H3 a y v H4 ∧ D.nx σ H4
/-- d[y] op= v -/
def sDAug (td ty tv : TE) (rd : V → V → Hp → VK → Prop) : TS := fun D σ H => td σ H fun x H1 => ty σ H1 fun y H2 => ∃ a v, x = .ref a ∧ DGet H2 a y (some v) ∧
  tv σ H2 fun y2 H3 => rd v y2 H3 fun z H4 => ∃ H5, DPut H4 a y z H5 ∧ D.nx σ H5
/-- del d[y] -/
def sDDel (td ty : TE) : TS := fun D σ H => td σ H fun x H1 => ty σ H1 fun y H2 => ∃ a kvs k, x = .ref a ∧ H2 a = some (.dK kvs) ∧ y = kV k ∧ (valV kvs k).isSome = true ∧ D.nx σ (upd H2 a (.dK (dropK kvs k)))

section
variable {X : Cx} {o i e value : Expr} {pos pos' tpos : Pos} {td ty tv : TE}
end


/-! ### displays -/
/-- {}, to be a dict of the kind that is wanted -/
def tDNewK : TE := fun _ H Q => ∀ p, H p = none → Q (.ref p) (upd H p (.dK []))
def tDNewT : TE := fun _ H Q => ∀ p, H p = none → Q (.ref p) (upd H p (.dT []))
section
variable {X : Cx} {pos : Pos}
end

/-- the pairs of a display, from the left -/
def tPairs : List (TE × TE) → St → Hp → (List (V × V) → Hp → Prop) → Prop
  | [], _, H, Q => Q [] H
  | (tk, tv) :: r, σ, H, Q => tk σ H fun x H1 => tv σ H1 fun y H2 => tPairs r σ H2 fun ps H3 => Q ((x, y) :: ps) H3
abbrev VV : List (V × V) → List (Value × Value) → Prop := Paired fun p q => RelV p.1 q.1 ∧ RelV p.2 q.2
def PPs (X : Cx) (pos : Pos) (keys : List (Option Expr)) (values : List Expr) (trs : List (TE × TE)) : Prop :=
  ∀ (pins : List (Addr × Obj)) (s : Shared) (σ : St) (H : Hp) (Q : List (V × V) → Hp → Prop), Inv X pins σ H s → tPairs trs σ H Q →
    wpAny (model X.prog X.w) X.A (evalPairs (pairTrees keys values X.env pos)) (fun vs s' => ∃ ps H', Inv X pins σ H' s' ∧ VV ps vs ∧ Q ps H') X.xe s
def mergeK (kvs more : List (Key × V)) : List (Key × V) := more.foldl (fun acc kv => putK acc kv.1 kv.2) kvs
/-- {k: v, ..} with keys ints and texts; the new dict stands empty while the pairs are made -/
def tDisp (trs : List (TE × TE)) : TE := fun σ H Q => ∀ p, H p = none → tPairs trs σ (upd H p (.dK [])) fun ps H2 => H2 p = some (.dK []) ∧ ∃ kvs : List (Key × V), ps = kvs.map (fun kv => (kV kv.1, kv.2)) ∧ kvs.length ≤ 15 ∧ Q (.ref p) (upd H2 p (.dK (mergeK [] kvs)))
/-! ### methods -/
/-- a method call o.m(e) of a built-in, with one argument: what must be seen of the text -/
structure M1 (X : Cx) (o : Expr) (m : Str) (apos : Pos) (e : Expr) (cpos : Pos) : Prop where
  base : attributeBase o m X.env (eval o X.env) = eval o X.env
  few : ((backTo cpos (starEach [e] X.env)).all (fun x => !x.1) && (backToKw cpos (keywordEach [] X.env)).all (fun x => x.1.isSome)
    && decide (([e] : List Expr).length + ([] : List Keyword).length + (if ([] : List Keyword).isEmpty then 0 else 1) < 30)) = true
  line : (apos.endLine == cpos.line) = true
  trees : backTo cpos (starEach [e] X.env) = [(false, eval e X.env)]
structure M2 (X : Cx) (o : Expr) (m : Str) (apos : Pos) (e f : Expr) (cpos : Pos) : Prop where
  base : attributeBase o m X.env (eval o X.env) = eval o X.env
  few : ((backTo cpos (starEach [e, f] X.env)).all (fun x => !x.1) && (backToKw cpos (keywordEach [] X.env)).all (fun x => x.1.isSome)
    && decide (([e, f] : List Expr).length + ([] : List Keyword).length + (if ([] : List Keyword).isEmpty then 0 else 1) < 30)) = true
  line : (apos.endLine == cpos.line) = true
  trees : backTo cpos (starEach [e, f] X.env) = [(false, eval e X.env), (false, eval f X.env)]

/-- a is a dict, whatever its keys -/
def IsD (H : Hp) (a : Addr) : Prop := (∃ kvs, Rd H a (.dK kvs)) ∨ ∃ kvs, Rd H a (.dT kvs)
section
variable {X : Cx} {pins : List (Addr × Obj)} {σ : St} {H : Hp} {s : Shared} {a : Addr} {y d : V} {u r : Value} {o : Option V} {A : Around} {E : Value → Shared → Prop}
end

def tDGet1 (td ty : TE) : TE := fun σ H Q => td σ H fun x H1 => ∃ a, x = .ref a ∧ IsD H1 a ∧ ty σ H1 fun y H2 => ∃ o, DGet H2 a y o ∧ Q (o.getD .non) H2
def tDGet2 (td ty tx : TE) : TE := fun σ H Q => td σ H fun x H1 => ∃ a, x = .ref a ∧ IsD H1 a ∧ ty σ H1 fun y H2 => tx σ H2 fun z H3 => ∃ o, DGet H3 a y o ∧ Q (o.getD z) H3
/-- d.pop(k): there; d.pop(k, x): there or not -/
def tDPop1 (td ty : TE) : TE := fun σ H Q => td σ H fun x H1 => ∃ a, x = .ref a ∧ IsD H1 a ∧ ty σ H1 fun y H2 => ∃ kvs k v, H2 a = some (.dK kvs) ∧ y = kV k ∧ valV kvs k = some v ∧ Q v (upd H2 a (.dK (dropK kvs k)))
def tDPop2 (td ty tx : TE) : TE := fun σ H Q => td σ H fun x H1 => ∃ a, x = .ref a ∧ IsD H1 a ∧ ty σ H1 fun y H2 => tx σ H2 fun z H3 => ∃ kvs k, H3 a = some (.dK kvs) ∧ y = kV k ∧
  (∀ v, valV kvs k = some v → Q v (upd H3 a (.dK (dropK kvs k)))) ∧ (valV kvs k = none → Q z H3)
section
variable {X : Cx} {o e f : Expr} {apos cpos : Pos} {td ty tx : TE}
end

/-! ### dict(d): a copy -/
section
variable {X : Cx} {pins : List (Addr × Obj)} {σ : St} {H : Hp} {s : Shared} {a : Addr} {kvs : List (Key × V)} {A : Around} {E : Value → Shared → Prop}
end


section
variable {X : Cx} {pins : List (Addr × Obj)} {σ : St} {H : Hp} {s : Shared} {a : Addr} {y : V} {u : Value} {A : Around} {E : Value → Shared → Prop}
end
end L2
namespace L2
open PySem PySem.Spec PyProof.Rows
/-! ### a dict's pairs: keys that differ -/
section
variable {κ : Type} [DecidableEq κ]
end
end L2
end
section
set_option Elab.async false
set_option linter.all false
set_option maxRecDepth 100000
set_option maxHeartbeats 4000000
namespace BK
open PySem L2
theorem bt_int : bootBuiltins "int" = some (.type "int") := by decide +kernel
theorem bt_bool : bootBuiltins "bool" = some (.type "bool") := by decide +kernel
theorem bt_list : bootBuiltins "list" = some (.type "list") := by decide +kernel
theorem bt_ValueError : bootBuiltins "ValueError" = some (.type "ValueError") := by decide +kernel
theorem bt_isinstance : bootBuiltins "isinstance" = some (.builtin "isinstance") := by decide +kernel
theorem bt_all : bootBuiltins "all" = some (.builtin "all") := by decide +kernel
theorem bt_len : bootBuiltins "len" = some (.builtin "len") := by decide +kernel
def isI : V → Bool
  | .int _ => true
  | .bl _ => true
  | _ => false
def isB : V → Bool
  | .bl _ => true
  | _ => false
def isLH : Option HO → Bool
  | some (.lst _) => true
  | _ => false
def isL (H : Hp) : V → Bool
  | .ref a => isLH (H a)
  | _ => false
structure Kd (K : PySem.W.Frag) (H : Hp) (v : V) : Prop where
  ex : ∃ t, TyOf K H v t ∧ PySem.W.kitOne K t (.type "int") = some (isI v) ∧ PySem.W.kitOne K t (.type "bool") = some (isB v) ∧ PySem.W.kitOne K t (.type "list") = some (isL H v)
section
variable {K : PySem.W.Frag} {H H' : Hp}
theorem Kd.int (i : Int) : Kd K H (.int i) := ⟨_, .int i, by kernel_rfl, by kernel_rfl, by kernel_rfl⟩
theorem Kd.bl (b : Bool) : Kd K H (.bl b) := ⟨_, .bl b, by kernel_rfl, by kernel_rfl, by kernel_rfl⟩
theorem Kd.lst {a : Addr} {xs : List V} (e : H a = some (.lst xs)) : Kd K H (.ref a) := ⟨_, .lst e, by kernel_rfl, by kernel_rfl, by rw [show isL H (.ref a) = true by show isLH (H a) = _; rw [e]; rfl]; kernel_rfl⟩
theorem tyof_same {v : V} {t : Value} (e : Same H H') (h : TyOf K H v t) : TyOf K H' v t := by
  cases h with
  | non => exact .non
  | bl b => exact .bl b
  | int i => exact .int i
  | str i => exact .str i
  | flt i => exact .flt i
  | lst q => exact .lst (e _ _ q)
  | frz q => exact .frz (e _ _ q)
  | tup q => exact .tup (e _ _ q)
  | dK q => exact .dK (e _ _ q)
  | dT q => exact .dT (e _ _ q)
  | ins q c1 c2 c3 c4 c5 => exact .ins (e _ _ q) c1 c2 c3 c4 c5
  | exc q F => exact .exc (e _ _ q) F
theorem same_new {H : Hp} {p : Addr} (h : H p = none) (o : HO) : Same H (upd H p o) := fun b u q => by rw [upd_ne (ne_of_none q h)]; exact q
theorem same_upd {H H' : Hp} {p : Addr} (h : H p = none) (s : Same H H') (o : HO) : Same H (upd H' p o) := fun b u q => by rw [upd_ne (ne_of_none q h)]; exact s b u q
theorem sqT_same {a : Addr} {xs : List V} (e : Same H H') (h : SqT K H a xs) : SqT K H' a xs := by
  rcases h with h | h
  · rcases h with h | ⟨o, h⟩
    · exact .inl (.inl (e _ _ h))
    · exact .inl (.inr ⟨o, e _ _ h⟩)
  · exact .inr h
end
def wholeV (v : V) (lo hi : Int) : Bool := match v with
  | .int i => decide (lo ≤ i) && decide (i ≤ hi)
  | _ => false
def goodV (v : V) : Bool := wholeV v 0 999999999
section
variable {P : Program} {w : World} {K : PySem.W.Frag} {mg : Str → Option Value} {base : Heap} {f : Addr} {fd : FuncData} {H H' : Hp}
theorem iteF' {c : Bool} {A B : Prop} (hc : c = false) (h : B) : if c = true then A else B := by subst hc; exact iteF h
theorem iteT' {c : Bool} {A B : Prop} (hc : c = true) (h : A) : if c = true then A else B := by subst hc; exact iteT h
theorem small {n : Nat} (h : n ≤ 1000) : n ≤ sizeLine := Nat.le_of_lt (small1000 h)
theorem dec_V {i j : Int} : decide (V.int i = V.int j) = decide (i = j) := by
  by_cases h : i = j
  · subst h; simp
  · rw [decide_eq_false h, decide_eq_false (fun q => h (V.int.inj q))]
/-! ### data -/
mutual
theorem dv_same (e : Same H H') : ∀ {v : V} {d : PyData}, DV K H v d → DV K H' v d
  | _, _, .non => .non
  | _, _, .bl b => .bl b
  | _, _, .int i => .int i
  | _, _, .str x => .str x
  | _, _, .lst q r => .lst (e.seq q) (dvs_same e r)
  | _, _, .tup q r => .tup (sqT_same e q) (dvs_same e r)
theorem dvs_same (e : Same H H') : ∀ {vs : List V} {ds : List PyData}, DVs K H vs ds → DVs K H' vs ds
  | _, _, .nil => .nil
  | _, _, .cons q r => .cons (dv_same e q) (dvs_same e r)
end
theorem dvs_ints : ∀ R : List Int, DVs K H (R.map V.int) (R.map PyData.int)
  | [] => .nil
  | i :: r => .cons (.int i) (dvs_ints r)
theorem shaped_list {ds : List PyData} (c : PyData.canLayAll0 ds = true) (l : PyData.depthAll ds ≤ 1) : SeqAt.shaped (.list ds) = true := by
  have l' : (PyData.list ds).depth ≤ 64 := by simp only [PyData.depth]; omega
  have c' : (PyData.list ds).canLay0 = true := by simp only [PyData.canLay0]; exact c
  unfold SeqAt.shaped
  rw [c', Bool.true_and]
  exact decide_eq_true l'
/-- a comprehension over a range that makes ints -/
theorem lc_ints {fj : List (Str × Nat)} {te : TE} {σ : St} {H : Hp} {Q : Addr → Hp → Prop} {n : Nat} (hn : n ≤ 1000) (g : Nat → Int)
    (hs : ∀ (i : Nat) (H' : Hp) (Qf : VK), i < n → Same H H' → (∀ H3, Same H' H3 → Qf (.int (g i)) H3) → te (some (.int (0 + (i : Int))) :: frees σ fj) H' Qf)
    (hd : ∀ acc H', H acc = none → Same H H' → H' acc = some (.lst (((List.range n).map g).map V.int)) → Q acc H') :
    ∀ acc, H acc = none → ∃ W : Nat → Nat → List V → Hp → Prop, (∃ m, W 0 m [] (upd H acc (.lst []))) ∧ ∀ i m ys H, W i m ys H →
      ((Itr 0 n).stop i H ∧ Q acc H) ∨ ((Itr 0 n).go i H ∧ ∀ x H', (Itr 0 n).yld i H x H' → tYes (some x :: frees σ fj) H' fun b H2 =>
        if b = true then te (some x :: frees σ fj) H2 fun v H3 => H3 acc = some (.lst ys) ∧ ys.length < sizeLine ∧ ∃ m', m' < m ∧ W (i + 1) m' (ys ++ [v]) (upd H3 acc (.lst (ys ++ [v])))
        else ∃ m', m' < m ∧ W (i + 1) m' ys H2) := by
  refine lc_range hn (fun acc i ys H' => ys = (((List.range i).map g).map V.int) ∧ H' acc = some (.lst ys) ∧ H acc = none ∧ Same H H') ?_ ?_ ?_ ?_
  · exact fun acc h => ⟨rfl, upd_same, h, same_new h _⟩
  · rintro acc i ys H' hi ⟨rfl, h1, h2, h3⟩
    simp
  · rintro acc i ys H' Qf hi ⟨rfl, h1, h2, h3⟩ k
    refine hs i H' Qf hi h3 fun H3 h4 => k _ _ (h4 _ _ h1) ⟨?_, upd_same, h2, same_upd h2 (h3.trans h4) _⟩
    rw [List.range_succ]
    simp
  · rintro acc ys H' h ⟨rfl, h1, h2, h3⟩
    exact hd acc H' h2 h3 h1
/-- all is kept but what stands at S -/
def Chg (S : List Addr) (H H' : Hp) : Prop := ∀ b o, H b = some o → b ∉ S → H' b = some o
theorem Chg.of {S : List Addr} (s : Same H H') : Chg S H H' := fun b o q _ => s b o q
theorem Chg.upd {S : List Addr} {a : Addr} (c : Chg S H H') (ha : a ∈ S) (o : HO) : Chg S H (L2.upd H' a o) := fun b u q n => by rw [L2.upd_ne (fun z => n (by rw [z]; exact ha))]; exact c b u q n
/-! ### rows, the disk -/
def RowsAt (H : Hp) (rs : List Addr) (R : List (List Int)) : Prop := rs.length = R.length ∧ ∀ (i : Nat) (r : Addr) (row : List Int), rs[i]? = some r → R[i]? = some row → H r = some (.lst (row.map V.int))
def GoodRow (row : List Int) : Prop := row.length = 16 ∧ ∀ x ∈ row, 0 ≤ x ∧ x ≤ 999999999
def lv : Option Int → V
  | none => .non
  | some k => .int k
structure DiskAt (C : Addr) (H : Hp) (d kr : Addr) (R : List (List Int)) (n : Int) (l : Option Int) : Prop where
  ex : ∃ dx rs, H d = some (.ins C dx [("kept_rows", .ref kr), ("writes_done", .int n), ("writes_left", lv l)]) ∧ H kr = some (.lst (rs.map V.ref)) ∧ RowsAt H rs R
  lo : 24 ≤ R.length
  hi : R.length ≤ 96
  good : ∀ row ∈ R, GoodRow row
variable {C d kr : Addr} {R : List (List Int)} {n : Int} {l : Option Int}
end
/-! ### rules by the written part itself (within a comprehension) -/
section
variable {X : Cx} {K : PySem.W.Frag}
def rLenK (K : PySem.W.Frag) : List V → Hp → VK → Prop := fun xs H Q => ∃ p ys, xs = [.ref p] ∧ (SqL K H p ys ∨ SqT K H p ys) ∧ Q (.int ys.length) H
def rListK (K : PySem.W.Frag) : List V → Hp → VK → Prop := fun xs H Q => ∃ p ys, xs = [.ref p] ∧ (SqL K H p ys ∨ SqT K H p ys) ∧ ∀ l, H l = none → Q (.ref l) (upd H l (.lst ys))
theorem ix_listK (h : X.K = K) : IxR X (rIxL K) := by subst h; exact ix_list
theorem call_isinstK {T : String} (h : X.K = K) : CallR X (.builtin "isinstance") (rIsin K T) := by subst h; exact call_isinst
end
/-! ### list.index; [x for x in a list of bools if x] -/
section
variable {X : Cx}
def rIndex : V → List V → Hp → VK → Prop := fun x vs H Q => ∃ (l : Addr) (xs : List V) (y : V) (j : Nat), x = .ref l ∧ vs = [y] ∧ H l = some (.lst xs) ∧ flatV y = true ∧ xs.all flatV = true ∧ (∃ z, xs[j]? = some z ∧ eqV z y = true) ∧ (∀ (m : Nat) z, m < j → xs[m]? = some z → eqV z y = false) ∧ Q (.int j) H
end
section
variable {X : Cx} {K : PySem.W.Frag}
def rIsinC (K : PySem.W.Frag) (C : Addr) : List V → Hp → VK → Prop := fun xs H Q => ∃ x t b, xs = [x, .ref C] ∧ TyOf K H x t ∧ PySem.W.kitOne K t (.ref C) = some b ∧ Q (.bl b) H
variable {o e : Expr} {es : List Expr} {to : TE} {t : TA} {name : Str} {apos cpos : Pos} {T id : String} {r : V → List V → Hp → VK → Prop}
theorem pe_bmK (h : X.K = K) (pa : PySem.PlainAttrs T) (slot : PySem.Slot T name id) (hty : typeOf (.builtin id) = pure (.type "method_descriptor")) (hm : MtR X id r) (ho : PE X o to) (ha : PA X (e :: es) t)
    (hbase : attributeBase o name X.env (eval o X.env) = eval o X.env := by rfl)
    (hfew : ((backTo cpos (starEach (e :: es) X.env)).all (fun x => !x.1) && (backToKw cpos (keywordEach [] X.env)).all (fun x => x.1.isSome)
      && decide ((e :: es).length + ([] : List Keyword).length + (if ([] : List Keyword).isEmpty then 0 else 1) < 30)) = true := by rfl)
    (hline : (apos.endLine == cpos.line) = true := by rfl) (hs : starEach (e :: es) X.env = (false, eval e X.env) :: starEach es X.env := by rfl) (hplain : (backTo cpos (starEach es X.env)).any (·.1) = false := by rfl) :
    PE X (.Call (.Attribute o name apos) (e :: es) [] cpos) (tBM K T r to t) := by subst h; exact pe_bm pa slot hty hm ho ha hbase hfew hline hs hplain
end
/-! ### tests by a rest -/
section
variable {σ : St} {H : Hp} {Q : Bool → Hp → Prop} {i : Nat} {c : Int}
end
/-! ### what is no row of the disk -/
section
variable {C d kr p : Addr} {H H' : Hp} {R : List (List Int)} {n : Int} {l : Option Int}
def NoRowAt (H : Hp) (kr p : Addr) : Prop := ∀ rs : List Addr, H kr = some (.lst (rs.map V.ref)) → p ∉ rs
end
end BK
end
section
set_option Elab.async false
set_option linter.all false
set_option maxRecDepth 100000
set_option maxHeartbeats 4000000
namespace BK
open PySem L2
theorem eqvAll_ints : ∀ ns ms : List Int, PyData.eqvAll (ns.map PyData.int) (ms.map PyData.int) = decide (ns = ms)
  | [], [] => by simp [PyData.eqvAll]
  | [], _ :: _ => by simp [PyData.eqvAll]
  | _ :: _, [] => by simp [PyData.eqvAll]
  | a :: r, b :: t => by
    have e : PyData.eqv (.int a) (.int b) = decide (a = b) := by rw [Bool.eq_iff_iff]; simp [PyData.eqv]
    simp only [List.map_cons, PyData.eqvAll, e, eqvAll_ints r t]
    by_cases h : a = b <;> by_cases h' : r = t <;> simp [h, h']
theorem eqv_ints (ns ms : List Int) : PyData.eqv (.list (ns.map PyData.int)) (.list (ms.map PyData.int)) = decide (ns = ms) := by
  rw [PyData.eqv]; exact eqvAll_ints ns ms
end BK
end
section
set_option Elab.async false
set_option linter.all false
set_option maxRecDepth 100000
/-! sorted of ints: a list, a dict's keys; list of a dict -/
namespace L2
open PySem PySem.Spec PySem.Calls PyProof.Rows PySem.W

section
variable {prog : Program} {w : World} {A : Around} {E : Value → Shared → Prop} {s : Shared} {T : String} {r d : Addr} {n : Nat} {P : Nat → Value → Prop} {OK : Heap → Prop}
end

/-! ### the rules -/
section
variable {X : Cx}
/-- sorted(d): the keys, rising; d has ints as keys -/
def rSortedD (xs : List V) (H : Hp) (Q : VK) : Prop := ∃ (a : Addr) (kvs : List (Key × V)) (ks : List Int), xs = [.ref a] ∧ H a = some (.dK kvs) ∧ kvs.map (·.1) = ks.map (Sum.inl : Int → Key) ∧ kvs.length < 64 ∧
  ∀ l (ns : List Int), H l = none → ns.Perm ks → ns.Pairwise (· ≤ ·) → Q (.ref l) (upd H l (.lst (ns.map V.int)))
/-- sorted(l): a list of ints -/
def rSortedL (xs : List V) (H : Hp) (Q : VK) : Prop := ∃ (p : Addr) (ks : List Int), xs = [.ref p] ∧ SqL X.K H p (ks.map V.int) ∧ ks.length < 64 ∧
  ∀ l (ns : List Int), H l = none → ns.Perm ks → ns.Pairwise (· ≤ ·) → Q (.ref l) (upd H l (.lst (ns.map V.int)))
/-- list(d): the keys in their order -/
def rListD (xs : List V) (H : Hp) (Q : VK) : Prop := ∃ (a : Addr) (kvs : List (Key × V)) (ks : List Int), xs = [.ref a] ∧ H a = some (.dK kvs) ∧ kvs.map (·.1) = ks.map (Sum.inl : Int → Key) ∧
  ∀ l, H l = none → Q (.ref l) (upd H l (.lst (ks.map V.int)))
/-- len(d) -/
def rLenD (xs : List V) (H : Hp) (Q : VK) : Prop := ∃ (a : Addr) (kvs : List (Key × V)), xs = [.ref a] ∧ H a = some (.dK kvs) ∧ Q (.int kvs.length) H
/-- d != {}, d == {} -/
def rNeD0 : R2 := fun x y H Q => ∃ (a b : Addr) (kvs : List (Key × V)), x = .ref a ∧ y = .ref b ∧ H a = some (.dK kvs) ∧ H b = some (.dK []) ∧ Q (.bl (!kvs.isEmpty)) H
def rEqD0 : R2 := fun x y H Q => ∃ (a b : Addr) (kvs : List (Key × V)), x = .ref a ∧ y = .ref b ∧ H a = some (.dK kvs) ∧ H b = some (.dK []) ∧ Q (.bl kvs.isEmpty) H
/-- sep.join(l) -/
theorem strsAre_of {ns : List Str} : ∀ {us : List Value}, Vals (ns.map V.str) us → StrsAre us ns := by
  induction ns with
  | nil => intro us r; rw [List.map_nil] at r; cases r; exact .nil
  | cons n ns ih =>
    intro us r
    rw [List.map_cons] at r
    cases r with
    | cons r1 r2 =>
      obtain ⟨t, e⟩ := r1
      subst e
      exact .cons _ _ (ih r2)
def rJoin (K : PySem.W.Frag) : V → List V → Hp → VK → Prop := fun x vs H Q => ∃ (z : Str) (p : Addr) (ys : List Str), x = .str z ∧ vs = [.ref p] ∧ SqL K H p (ys.map V.str) ∧ (ys.map (·.length)).sum + ys.length * z.length ≤ 16777216 ∧ Q (.str (Txt.join z ys)) H
theorem mt_join : MtR X "str.join" (rJoin X.K) := by
  intro pins s σ H x vs v us Q I rx rv h
  obtain ⟨z, p, ys, rfl, rfl, hq, hz, q⟩ := h
  obtain ⟨t, rfl⟩ := rx
  obtain ⟨u, rfl, ru⟩ := rv.one
  cases ru
  obtain ⟨its, r', pl, hz'⟩ := I.list hq
  exact join_list pl.isList (by simpa using strsAre_of r') hz fun t' k => ⟨.str (Txt.join z ys), H, I.tok _, ⟨_, rfl⟩, q⟩
end
end L2
end
section
set_option Elab.async false
set_option linter.all false
set_option maxRecDepth 100000
/-! range with a step, list(range(..)), list.count, min of a list -/
namespace L2
open PySem PySem.Spec PySem.Calls PyProof.Rows

/-- lo, lo + st, .. (n of them) -/
def Its (lo st : Int) (n : Nat) : It := ⟨fun i _ => i < n, fun i H x H' => H' = H ∧ x = .int (lo + i * st), fun i _ => n ≤ i⟩
theorem turn_step {P : Program} {w : World} {K : PySem.W.Frag} {tg : Expr} (it : Addr) (lo c : Int) (n : Nat) : Turn P w K tg (Its lo c n) [it] it (fun i h => IsRangeIter h it (lo + (i : Nat) * c) ((n : Int) - (i : Nat)) c) where
  mem := by simp
  obj := fun i h st b hb => by
    have e : b = it := by simpa using hb
    subst e
    exact ⟨_, st, fun v z => by
      have z' : Data.fields _ = Data.cell v := z
      cases z'⟩
  keep := fun i h h' st k => k it (by simp) _ st
  item := by
    intro X hP hw hK hc i pins s σ H E I hf st hg
    subst hP hw hK
    obtain ⟨f0, f1, f2, f3, f4, f5⟩ := hf it (by simp)
    have hlt : i < n := hg
    refine wpAny_pyNext_range_item st (by omega) fun h' st' sb => ?_
    have I1 : Inv X pins σ H { s with heap := h', toks := s.toks + 1 } := I.turned (fun b o hb e => (sb.2 b hb).trans e) f0 f1 f3 f4 f5
    have e1 : lo + (i : Int) * c + c = lo + ((i + 1 : Nat) : Int) * c := by push_cast; rw [Int.add_mul]; omega
    have e2 : (n : Int) - (i : Int) - 1 = (n : Int) - ((i + 1 : Nat) : Int) := by omega
    rw [e1, e2] at st'
    exact ⟨_, rfl, go_of (s := { s with heap := h', toks := s.toks + 1 }) (n := "range_iterator") st' rfl rfl (by decide) ⟨.int (lo + i * c), H, I1, ⟨s.toks, rfl⟩, ⟨rfl, rfl⟩, st', fun b hb => (hf b hb).1⟩⟩
  done := by
    intro X hP hw hK hc i pins s σ H E I hf st hg
    subst hP hw hK
    obtain ⟨f0, f1, f2, f3, f4, f5⟩ := hf it (by simp)
    exact range_endH I.hd st (by have : n ≤ i := hg; omega) fun h' eb => ⟨rfl, I.turned (t' := s.toks) (fun b o hb e => eb b o hb e) f0 f1 f3 f4 f5⟩
  self := fun _ _ _ _ _ st h => wpAny_pyIter_rangeiter st h

section
variable {X : Cx} {tg : Expr}
theorem step_it {pins : List (Addr × Obj)} {σ : St} {H : Hp} {s : Shared} {R : It → Hp → Prop} {E : Value → Shared → Prop} {lo hi c : Int} {n : Nat} {t u v : Tok} {tk : Nat} (I : Inv X pins σ H s) (hs : Builtin.Range.small lo hi c = true) (hn : Builtin.Range.rangeSize lo hi c = n)
    (q : R (Its lo c n) H) : wpAny (model X.prog X.w) X.A (pyIter (.ref s.heap.objs.size)) (PIE X pins σ tg R) E { s with heap := s.heap.push { cls := .type "range", data := .fields #[.int lo t, .int hi u, .int c v] }, toks := tk } := by
  refine wpAny_pyIter_range (IsRange.new ..) hs ?_
  have I1 : Inv X pins σ H { s with heap := s.heap.push { cls := .type "range", data := .fields #[.int lo t, .int hi u, .int c v] }, toks := tk } := I.kept fun b o e => Heap.get?_push_of_some _ e
  refine ⟨(s.heap.push { cls := .type "range", data := .fields #[.int lo t, .int hi u, .int c v] }).objs.size, [(s.heap.push { cls := .type "range", data := .fields #[.int lo t, .int hi u, .int c v] }).objs.size], _, _, H, rfl,
    I1.kept (t' := tk) fun b o e => Heap.get?_push_of_some _ e, turn_step _ lo c n, ?_, fun b hb => ?_, q⟩
  · have e1 : lo + ((0 : Nat) : Int) * c = lo := by simp
    have e2 : ((n : Nat) : Int) - ((0 : Nat) : Int) = Builtin.Range.rangeSize lo hi c := by rw [hn]; simp
    show IsRangeIter _ _ (lo + ((0 : Nat) : Int) * c) (((n : Nat) : Int) - ((0 : Nat) : Int)) c
    rw [e1, e2]
    exact Heap.get?_push_size _ rfl
  · have e : b = (s.heap.push { cls := .type "range", data := .fields #[.int lo t, .int hi u, .int c v] }).objs.size := by simpa using hb
    subst e
    exact I1.fpOk (Nat.le_refl _) (I1.hok.fresh (Nat.le_refl _))
/-- range(i, j, c) -/
def iRng3 (ta : TA) : TI := fun σ H R => ta σ H fun vs H1 => ∃ (i j c : Int) (n : Nat), vs = [.int i, .int j, .int c] ∧ c ≠ 0 ∧ c.natAbs < 1073741824 ∧ Builtin.Range.small i j c = true ∧ Builtin.Range.rangeSize i j c = n ∧ R (Its i c n) H1
theorem pi_range3 {a b c : Expr} {ta : TA} {p pos : Pos} (hg : Gl X "range") (hm : X.mg "range" = none) (ha : PA X [a, b, c] ta) (he : starEach [a, b, c] X.env = (false, eval a X.env) :: starEach [b, c] X.env := by rfl) (hpl : (backTo pos (starEach [b, c] X.env)).any (·.1) = false := by rfl) :
    PI X tg (.Call (.Name "range" p) [a, b, c] [] pos) (iRng3 ta) := by
  intro pins s σ H R I h
  refine Call_ (ld_blt I hg hm boot_range (PyProof.Rows.callWith_type1 (thn (ha pos pins s σ H _ I h) fun us s1 ⟨vs, H1, I1, r1, q1⟩ => ?_) he hpl))
  obtain ⟨i, j, c, n, e, h0, h1, h2, h3, q⟩ := q1
  subst e
  cases r1 with
  | cons r rr =>
    cases rr with
    | cons r' rr =>
      cases rr with
      | cons r'' rr =>
        cases rr
        obtain ⟨t, rfl⟩ := r
        obtain ⟨t', rfl⟩ := r'
        obtain ⟨t'', rfl⟩ := r''
        exact call_range_3 h0 (step_it I1 h2 h3 q) (Or.inl (PyProof.noPylong_small h1))
/-! ### list(range(i, j)) -/
def tRngL (ta : TA) : TE := fun σ H Q => ta σ H fun vs H1 => ∃ (i j : Int), vs = [.int i, .int j] ∧ (-(2 ^ 62) ≤ i ∧ i < 2 ^ 62 ∧ -(2 ^ 62) ≤ j ∧ j < 2 ^ 62) ∧ (j - i).toNat ≤ 2 ^ 24 ∧
  ∀ l, H1 l = none → Q (.ref l) (upd H1 l (.lst ((List.range (j - i).toNat).map fun (k : Nat) => V.int (i + k))))
/-! ### list.count, min of a list -/
def rCount : V → List V → Hp → VK → Prop := fun x vs H Q => ∃ (l : Addr) (xs : List V) (y : V), x = .ref l ∧ vs = [y] ∧ H l = some (.lst xs) ∧ flatV y = true ∧ xs.all flatV = true ∧ Q (.int (xs.countP fun z => eqV z y)) H
/-- min(l): a list of ints, not empty -/
def rMinL (K : PySem.W.Frag) (xs : List V) (H : Hp) (Q : VK) : Prop := ∃ (p : Addr) (ks : List Int) (k : Int), xs = [.ref p] ∧ SqL K H p (ks.map V.int) ∧ k ∈ ks ∧ (∀ j ∈ ks, k ≤ j) ∧ Q (.int k) H
end
end L2
end
section
set_option Elab.async false
set_option linter.all false
set_option maxRecDepth 100000
/-! for i, x in enumerate(l) -/
namespace L2
open PySem PySem.Spec PySem.Calls PyProof.Rows

section
variable {prog : Program} {w : World} {A : Around} {E : Value → Shared → Prop} {s : Shared}
theorem nextOf_endH {it l : Addr} {i : Nat} {items : Array Value} {Q : Value → Shared → Prop} (hh : HdAt A s.heap) (hit : s.heap.IsListIter it l i) (hl : s.heap.IsList l items) (hx : items[i]? = none)
    (hE : ∀ h' e, Heap.ExtBut it s.heap h' → (∃ o, h'.get? e = some o ∧ o.cls = .type "StopIteration") → E (.ref e) { s with heap := h' }) :
    wpAny (model prog w) A (Builtin.SmallTypes.nextOf (.ref it)) Q E s := by
  obtain ⟨o, ho, hc, hd⟩ := id hit
  obtain ⟨ol, hol, _, nl, hdl⟩ := hl
  unfold Builtin.SmallTypes.nextOf
  refine wpAny_bind (wpAny_callSpecial?_slot (name := Str.ofString "__next__") hit.typeIs slot_listiter_next
    (wpAny_call_entry slot_listiter_next hit.typeIs entry_listiter_next ?_ (args_listiter_next _)))
  show wpAny _ _ (field (.ref it) 0 >>= _) _ _ s
  refine wpAny_bind (wpAny_field ho hd (x := .ref l) rfl ?_)
  show wpAny _ _ (if (Value.ref l == Value.none) = true then _ else _) _ _ s
  rw [if_neg (show ¬ ((Value.ref l == Value.none) = true) from Bool.false_ne_true)]
  show wpAny _ _ (field (.ref it) 1 >>= _) _ _ s
  refine wpAny_bind (wpAny_field ho hd (x := .int i 0) rfl ?_)
  show wpAny _ _ (seqItems? (.ref l) >>= _) _ _ s
  refine wpAny_bind (wpAny_seqItems hol hdl ?_)
  simp only [Int.toNat_natCast, hx]
  refine wpAny_bind (wpAny_rule (wpAny_bind (wpAny_setField ho hd (by simp) ?_)))
  show wpAny _ _ (newExc (.type "StopIteration") [] >>= _) _ _ _
  refine wpAny_bind ?_
  simp only [newExc, newTuple]
  refine wpAny_bind (wpAny_newObj_type ?_ (by size_fits))
  refine wpAny_bind (m := firstArgMember _ _) (wpAny_of_eq (a := Value.none) (by first | rfl | (simp only [firstArgMember]; rfl)) ?_)
  refine wpAny_newObj_type ?_ (by size_fits)
  refine raiseNew_hd (HdAt.two (A := A.in1) (it := it) hh (fun b o' hb e => (Heap.SameBut.update ..).extBut b o' hb e) (fun oe vs e e2 => by rw [ho] at e; cases e; rw [hd] at e2; cases e2; exact ⟨by simp, by simp⟩)) (Heap.get?_push_size _ rfl) rfl (by simp; omega) fun h' sb ⟨o', _, ho', hc', _⟩ => ?_
  refine hE _ _ (fun b ob hb e => (sb.2 b ?_).trans (((Heap.SameBut.update ..).extBut.push _).push _ b ob hb e)) ⟨o', ho', hc'⟩
  exact Nat.ne_of_lt (Nat.lt_of_lt_of_le (Heap.lt_size e) (by rw [Heap.size_push, Heap.size_after_update]; exact Nat.le_succ _))
end

/-- (0, x0), (1, x1), ..: each a new tuple -/
def Ite (K : PySem.W.Frag) (a : Addr) : It :=
  ⟨fun i H => ∃ xs x, SqL K H a xs ∧ xs[i]? = some x, fun i H x H' => ∃ p y, x = .ref p ∧ H p = none ∧ H' = upd H p (.tup [.int i, y]) ∧ ∀ xs, SqL K H a xs → xs[i]? = some y, fun i H => ∃ xs, SqL K H a xs ∧ xs.length ≤ i⟩
section
variable {X : Cx} {elts : List Expr} {pos : Pos}
def iEnum (K : PySem.W.Frag) (ta : TA) : TI := fun σ H R => ta σ H fun vs H1 => ∃ a, vs = [.ref a] ∧ (∃ xs, SqL K H1 a xs) ∧ R (Ite K a) H1
end
end L2
end
section
set_option Elab.async false
set_option linter.all false
set_option maxRecDepth 100000
/-! isinstance(x, (C, D)) -/
namespace L2
open PySem PySem.Spec PySem.Calls PyProof.Rows
section
variable {X : Cx} {pins : List (Addr × Obj)} {σ : St} {H : Hp} {s : Shared}
theorem kit_of {x : V} {u t : Value} (I : Inv X pins σ H s) (rx : RelV x u) (ty : TyOf X.K H x t) : ∃ P : Heap → Prop, PySem.W.KitX X.K u t P ∧ P s.heap ∧ u ≠ .builtin "__main__.__loader__#opaque" := by
  cases ty with
  | non => cases (show u = Value.none from rx); exact ⟨_, PySem.W.kitx_none, True.intro, fun z => nomatch z⟩
  | bl y => cases (show u = Value.bool y from rx); exact ⟨_, PySem.W.kitx_bool, True.intro, fun z => nomatch z⟩
  | int i => obtain ⟨t, q⟩ := (show ∃ t, u = Value.int i t from rx); cases q; exact ⟨_, PySem.W.kitx_int, True.intro, fun z => nomatch z⟩
  | str y => obtain ⟨t, q⟩ := (show ∃ t, u = Value.str y t from rx); cases q; exact ⟨_, PySem.W.kitx_str, True.intro, fun z => nomatch z⟩
  | flt y => obtain ⟨t, q⟩ := (show ∃ t, u = Value.float y t from rx); cases q; exact ⟨_, PySem.W.kitx_float, True.intro, fun z => nomatch z⟩
  | @lst a xs ea =>
    cases (show u = Value.ref a from rx)
    obtain ⟨_, _, n, _, h1⟩ := (show ObjOk X.prog X.w H s.heap a (.lst xs) from I.hok a _ ea)
    exact ⟨_, PySem.W.kitx_list, ⟨_, h1, rfl⟩, fun z => nomatch z⟩
  | @frz a ob xs ea =>
    cases (show u = Value.ref a from rx)
    obtain ⟨_, _, _, n, _, h1⟩ := (show ObjOk X.prog X.w H s.heap a (.frz ob (.lst xs)) from I.hok a _ ea)
    exact ⟨_, PySem.W.kitx_list, ⟨_, h1, rfl⟩, fun z => nomatch z⟩
  | @tup a xs ea =>
    cases (show u = Value.ref a from rx)
    obtain ⟨_, _, _, p⟩ := (show ObjOk X.prog X.w H s.heap a (.tup xs) from I.hok a _ ea)
    obtain ⟨o, h1, h2, _⟩ := p
    exact ⟨_, PySem.W.kitx_tuple, ⟨o, h1, h2⟩, fun z => nomatch z⟩
  | @dK a kvs ea =>
    cases (show u = Value.ref a from rx)
    obtain ⟨_, _, vs, _, p⟩ := (show ObjOk X.prog X.w H s.heap a (.dK kvs) from I.hok a _ ea)
    obtain ⟨o, es, ep, h1, h2, _⟩ := p
    exact ⟨_, PySem.W.kitx_dict, ⟨o, h1, h2.1⟩, fun z => nomatch z⟩
  | @dT a kvs ea =>
    cases (show u = Value.ref a from rx)
    obtain ⟨_, _, xs, _, o, es, ep, h1, h2, _⟩ := (show ObjOk X.prog X.w H s.heap a (.dT kvs) from I.hok a _ ea)
    exact ⟨_, PySem.W.kitx_dict, ⟨o, h1, h2.1⟩, fun z => nomatch z⟩
  | @exc a C ea F =>
    cases (show u = Value.ref a from rx)
    obtain ⟨oe, vs, h1, h2, h3, h4, _⟩ := (show ObjOk X.prog X.w H s.heap a (.exc (.ref C)) from I.hok a _ ea)
    refine ⟨_, kitx_exc F, ⟨oe, h1, h2, ?_, ?_⟩, fun z => nomatch z⟩
    · unfold PySem.W.notCls; rw [h4]
    · rw [h3]; trivial
  | @ins a C dx fs ea cl ha hn htk hm =>
    cases (show u = Value.ref a from rx)
    obtain ⟨mA, O, _⟩ := ins_get I.hok ea
    obtain ⟨od, J, _⟩ := O.look
    exact ⟨_, PySem.W.kitx_own (cl.get _) cl.hd ha hn htk hm, J, fun z => nomatch z⟩
theorem refs_of : ∀ {cs : List Addr} {us : List Value}, Vals (cs.map V.ref) us → us = cs.map Value.ref
  | [], _, .nil => rfl
  | c :: cs, _, .cons (b := u) r1 r2 => by rw [List.map_cons, ← refs_of r2, show u = Value.ref c from r1]
/-- isinstance(x, (C, D, ..)): classes of the text -/
def rIsinT (K : PySem.W.Frag) : List V → Hp → VK → Prop := fun xs H Q => ∃ (x : V) (p : Addr) (cs : List Addr) (t : Value) (b : Bool), xs = [x, .ref p] ∧ H p = some (.tup (cs.map V.ref)) ∧ TyOf K H x t ∧ PySem.W.kitAny K t (cs.map Value.ref) = some b ∧ Q (.bl b) H
theorem call_isinstT : CallR X (.builtin "isinstance") (rIsinT X.K) := by
  intro pins s σ H xs us Q I r ⟨x, p, cs, t, b, e, ep, ty, ek, q⟩
  subst e
  obtain ⟨u, w', rfl, ru, rw'⟩ := vals2 r
  cases (show w' = Value.ref p from rw')
  obtain ⟨P, Z, hp, hx⟩ := kit_of I ru ty
  obtain ⟨_, its, rv, ot, h1, h2, n, h3⟩ := (show ObjOk X.prog X.w H s.heap p (.tup (cs.map V.ref)) from I.hok p _ ep)
  have e := refs_of rv
  subst e
  obtain ⟨c0, dd, dt, sl⟩ := ot
  have h2 : c0 = .type "tuple" := h2
  have h3 : dt = .seq _ n := h3
  subst h2 h3
  exact PySem.W.kia_tup Z I.kIn hp h1 ek hx fun tk => ⟨.bl b, H, I.tok tk, rfl, q⟩
end
end L2
end
section

set_option Elab.async false
set_option linter.all false
set_option maxRecDepth 100000
set_option maxHeartbeats 4000000
/-! texts: walked, cut, searched; sum; a call of what an expression tells -/
namespace L2
open PySem PySem.Spec PySem.Calls PyProof.Rows

section
variable {prog : Program} {w : World} {A : Around} {E : Value → Shared → Prop} {s : Shared}
theorem nextOf_ascii_endH {it : Addr} {x : Str} {t : Tok} {i : Nat} {Q : Value → Shared → Prop} (hh : HdAt A s.heap) (hit : s.heap.IsStrIter it "str_ascii_iterator" x t i) (hx : x.cps[i]? = none)
    (hE : ∀ h' e, Heap.ExtBut it s.heap h' → (∃ o, h'.get? e = some o ∧ o.cls = .type "StopIteration") → E (.ref e) { s with heap := h' }) :
    wpAny (model prog w) A (Builtin.SmallTypes.nextOf (.ref it)) Q E s := by
  obtain ⟨o, ho, hc, hd⟩ := id hit
  unfold Builtin.SmallTypes.nextOf
  refine wpAny_bind (wpAny_callSpecial?_slot (name := Str.ofString "__next__") hit.typeIs F.slot_str_ascii_iterator_next
    (wpAny_call_entry F.slot_str_ascii_iterator_next hit.typeIs F.entry_str_ascii_iterator_next ?_ (F.args_str_ascii_iterator_next_1 _)))
  show wpAny _ _ (field (.ref it) 0 >>= _) _ _ s
  refine wpAny_bind (wpAny_field ho hd (x := .str x t) rfl ?_)
  show wpAny _ _ (field (.ref it) 1 >>= _) _ _ s
  refine wpAny_bind (wpAny_field ho hd (x := .int i 0) rfl ?_)
  simp only [Int.toNat_natCast, hx]
  refine wpAny_bind (wpAny_rule (wpAny_bind (wpAny_setField ho hd (by simp) (wpAny_bind (wpAny_letGo ?_)))))
  show wpAny _ _ (newExc (.type "StopIteration") [] >>= _) _ _ _
  refine wpAny_bind ?_
  simp only [newExc, newTuple]
  refine wpAny_bind (wpAny_newObj_type ?_ (by size_fits))
  refine wpAny_bind (m := firstArgMember _ _) (wpAny_of_eq (a := Value.none) (by first | rfl | (simp only [firstArgMember]; rfl)) ?_)
  refine wpAny_newObj_type ?_ (by size_fits)
  refine raiseNew_hd (HdAt.two (A := A.in1) (it := it) hh (fun b o' hb e => (Heap.SameBut.update ..).extBut b o' hb e) (fun oe vs e e2 => by rw [ho] at e; cases e; rw [hd] at e2; cases e2; exact ⟨by simp, by simp⟩)) (Heap.get?_push_size _ rfl) rfl (by simp; omega) fun h' sb ⟨o', _, ho', hc', _⟩ => ?_
  refine hE _ _ (fun b ob hb e => (sb.2 b ?_).trans (((Heap.SameBut.update ..).extBut.push _).push _ b ob hb e)) ⟨o', ho', hc'⟩
  exact Nat.ne_of_lt (Nat.lt_of_lt_of_le (Heap.lt_size e) (by rw [Heap.size_push, Heap.size_after_update]; exact Nat.le_succ _))
theorem ascii_endH {it : Addr} {x : Str} {t : Tok} {i : Nat} {Q : Option Value → Shared → Prop} (hh : HdAt A s.heap) (hit : s.heap.IsStrIter it "str_ascii_iterator" x t i) (hx : x.cps[i]? = none)
    (hQ : ∀ h', Heap.ExtBut it s.heap h' → Q none { s with heap := h' }) : wpAny (model prog w) A (pyNext (.ref it)) Q E s := by
  obtain ⟨o, ho, hc, hd⟩ := id hit
  unfold pyNext
  refine wpAny_bind (wpAny_attempt (wpAny_callSpecial?_slot (name := Str.ofString "__next__") hit.typeIs F.slot_str_ascii_iterator_next
    (wpAny_call_entry F.slot_str_ascii_iterator_next hit.typeIs F.entry_str_ascii_iterator_next ?_ (F.args_str_ascii_iterator_next_1 _))))
  show wpAny _ _ (field (.ref it) 0 >>= _) _ _ s
  refine wpAny_bind (wpAny_field ho hd (x := .str x t) rfl ?_)
  show wpAny _ _ (field (.ref it) 1 >>= _) _ _ s
  refine wpAny_bind (wpAny_field ho hd (x := .int i 0) rfl ?_)
  simp only [Int.toNat_natCast, hx]
  refine wpAny_bind (wpAny_rule (wpAny_bind (wpAny_setField ho hd (by simp) (wpAny_bind (wpAny_letGo ?_)))))
  show wpAny _ _ (newExc (.type "StopIteration") [] >>= _) _ _ _
  refine wpAny_bind ?_
  simp only [newExc, newTuple]
  refine wpAny_bind (wpAny_newObj_type ?_ (by size_fits))
  refine wpAny_bind (m := firstArgMember _ _) (wpAny_of_eq (a := Value.none) (by first | rfl | (simp only [firstArgMember]; rfl)) ?_)
  refine wpAny_newObj_type ?_ (by size_fits)
  refine raiseNew_hd (HdAt.two (A := A.in1) (it := it) hh (fun b o' hb e => (Heap.SameBut.update ..).extBut b o' hb e) (fun oe vs e e2 => by rw [ho] at e; cases e; rw [hd] at e2; cases e2; exact ⟨by simp, by simp⟩)) (Heap.get?_push_size _ rfl) rfl (by simp; omega) fun h' sb ⟨o', _, ho', hc', _⟩ => ?_
  refine wpAny_bind (wpAny_isInstance (T := "StopIteration") (b := true) ⟨o', ho', hc'⟩ isSubtype_stop ?_)
  refine wpAny_pure (hQ _ fun b ob hb e => (sb.2 b ?_).trans (((Heap.SameBut.update ..).extBut.push _).push _ b ob hb e))
  exact Nat.ne_of_lt (Nat.lt_of_lt_of_le (Heap.lt_size e) (by rw [Heap.size_push, Heap.size_after_update]; exact Nat.le_succ _))
end

/-- the signs of a text, each a text -/
def Itx (z : Str) : It := ⟨fun i _ => i < z.cps.size, fun i H x H' => H' = H ∧ ∃ c, z.cps[i]? = some c ∧ x = .str ⟨#[c]⟩, fun i _ => z.cps.size ≤ i⟩
theorem turn_text {P : Program} {w : World} {K : PySem.W.Frag} {tg : Expr} (z : Str) (t : Tok) (it : Addr) : Turn P w K tg (Itx z) [it] it (fun i h => h.IsStrIter it "str_ascii_iterator" z t i) where
  mem := by simp
  obj := fun i h st b hb => by
    have e : b = it := by simpa using hb
    subst e
    obtain ⟨o, e, c, d⟩ := st
    exact ⟨o, e, fun v z => by rw [d] at z; cases z⟩
  keep := fun i h h' st k => by
    obtain ⟨o, e, c, d⟩ := st
    exact ⟨o, k it (by simp) o e, c, d⟩
  item := by
    intro X hP hw hK hc i pins s σ H E I hf st hg
    subst hP hw hK
    have hg' : i < z.cps.size := hg
    obtain ⟨f0, f1, f2, f3, f4, f5⟩ := hf it (by simp)
    refine wpAny_pyNext_ascii_item st (c := z.cps[i]) (by simp [hg']) fun h' st' sb => ?_
    have I1 : Inv X pins σ H { s with heap := h', toks := s.toks + 1 } := I.turned (fun b o hb e => (sb.2 b hb).trans e) f0 f1 f3 f4 f5
    obtain ⟨o, e, c, d⟩ := id st'
    exact ⟨_, rfl, go_of (s := { s with heap := h', toks := s.toks + 1 }) e c d (by decide) ⟨.str ⟨#[z.cps[i]]⟩, H, I1, ⟨_, rfl⟩, ⟨rfl, z.cps[i], by simp [hg'], rfl⟩, st', fun b hb => (hf b hb).1⟩⟩
  done := by
    intro X hP hw hK hc i pins s σ H E I hf st hg
    subst hP hw hK
    have hg' : z.cps.size ≤ i := hg
    obtain ⟨f0, f1, f2, f3, f4, f5⟩ := hf it (by simp)
    exact ascii_endH I.hd st (Array.getElem?_eq_none hg') fun h' eb => ⟨rfl, I.turned (t' := s.toks) (fun b o hb e => eb b o hb e) f0 f1 f3 f4 f5⟩
  self := fun _ _ _ _ _ st h => wpAny_pyIter_striter_ascii st h

section
variable {X : Cx} {tg : Expr}
def iText (tl : TE) : TI := fun σ H R => tl σ H fun v H1 => ∃ z : Str, v = .str z ∧ z.cps.all (· < 128) = true ∧ R (Itx z) H1
theorem pi_text {l : Expr} {tl : TE} (hl : PE X l tl) : PI X tg l (iText tl) := by
  intro pins s σ H R I h
  refine thn (hl pins s σ H _ I h) fun v s1 ⟨x, H1, I1, r1, q1⟩ => ?_
  obtain ⟨z, e, hz, q⟩ := q1
  subst e
  obtain ⟨t, rfl⟩ := r1
  refine wpAny_pyIter_ascii hz ?_
  refine ⟨s1.heap.objs.size, [s1.heap.objs.size], _, _, H1, rfl, I1.kept (t' := s1.toks) fun b o e => Heap.get?_push_of_some _ e, turn_text z t _, ⟨_, Heap.get?_push_size _ rfl, rfl, rfl⟩, fun b hb => ?_, q⟩
  have e : b = s1.heap.objs.size := by simpa using hb
  subst e
  exact I1.fpOk (Nat.le_refl _) (I1.hok.fresh (Nat.le_refl _))
/-! x[lo:hi] of a text -/
def rSlS : V → Option Int → Option Int → Hp → VK → Prop := fun x lo hi H Q => ∃ z : Str, x = .str z ∧ z.length ≤ sizeLine ∧ Q (.str (Txt.slice z lo hi)) H
theorem part_of {v : Value} {o : Option Int} (h : IsPart v o) : ∃ l : Option (Int × Tok), v = partValue l ∧ l.map (·.1) = o := by
  cases h with
  | none => exact ⟨none, rfl, rfl⟩
  | _ => exact ⟨some (_, _), rfl, rfl⟩
theorem sl_text : SlR X rSlS := by
  intro pins s σ H x v vl vu lo hi sl Q I rx hs pl pu h
  obtain ⟨z, rfl, hz, q⟩ := h
  obtain ⟨t, rfl⟩ := rx
  obtain ⟨l, rfl, rfl⟩ := part_of pl
  obtain ⟨u, rfl, rfl⟩ := part_of pu
  refine ⟨"str", _, slot_str_getitem.lookup, typeIs_str _ _ _, ?_⟩
  exact wpAny_getItem_str_slice (l := l) (u := u) (st := none) hs rfl (post_val_or_str ⟨Nat.le_trans (Txt.slice_le z _ _) hz, fun t' k => ⟨.str _, H, I.tok _, ⟨_, rfl⟩, q⟩⟩)
/-! find, index -/
def rFind : V → List V → Hp → VK → Prop := fun x vs H Q => ∃ z y : Str, x = .str z ∧ vs = [.str y] ∧ Q (.int (Txt.find z y)) H
theorem mt_find : MtR X "str.find" rFind := by
  intro pins s σ H x vs v us Q I rx rv h
  obtain ⟨z, y, rfl, rfl, q⟩ := h
  obtain ⟨t, rfl⟩ := rx
  obtain ⟨u, rfl, ru⟩ := rv.one
  obtain ⟨t2, rfl⟩ := ru
  exact SC.find ⟨.int _, H, I.tok _, ⟨_, rfl⟩, q⟩
def rIndexS : V → List V → Hp → VK → Prop := fun x vs H Q => ∃ (z y : Str) (i : Nat) (r : List Nat), x = .str z ∧ vs = [.str y] ∧ Builtin.Str.occurrences z y 0 z.length 1 = i :: r ∧ Q (.int i) H
theorem mt_indexS : MtR X "str.index" rIndexS := by
  intro pins s σ H x vs v us Q I rx rv h
  obtain ⟨z, y, i, r, rfl, rfl, ho, q⟩ := h
  obtain ⟨t, rfl⟩ := rx
  obtain ⟨u, rfl, ru⟩ := rv.one
  obtain ⟨t2, rfl⟩ := ru
  exact SC.index ho ⟨.int _, H, I.tok _, ⟨_, rfl⟩, q⟩
/-! sum(l) of ints -/
def rSum (K : PySem.W.Frag) (xs : List V) (H : Hp) (Q : VK) : Prop := ∃ (p : Addr) (ks : List Int), xs = [.ref p] ∧ SqL K H p (ks.map V.int) ∧ Q (.int ks.sum) H
theorem call_sum (hc : X.A.handled = none) : CallR X (.builtin "sum") (rSum X.K) := by
  intro pins s σ H xs us Q I r h
  obtain ⟨p, ks, rfl, hq, q⟩ := h
  obtain ⟨u, rfl, rx⟩ := vals1 r
  cases rx
  obtain ⟨its, r', pl, hz⟩ := I.list hq
  have hi := intsAre_of r'
  obtain ⟨ys, e⟩ := hi.allInts.items
  have hns : ks = ys.toList.map (·.1) := by rw [← hi.numsOf, ← nums_intItems, ← e]
  have hl := pl.isList
  rw [e] at hl
  refine sum_intListG hc hl fun h' tk t' hkp => ?_
  have hm : preSum (numAt ys) ys.size = ks.sum := by
    rw [hns, preSum_eq]
    congr 1
    rw [List.take_of_length_le (by simp)]
  rw [hm]
  exact ⟨.int ks.sum, H, I.kept (t' := tk) hkp, ⟨t', rfl⟩, q⟩
end
/-! a call of what an expression tells: one of two defs -/
section
variable {X : Cx} {CX : CXT} {k1 k2 : Nat} {f1 f2 : Addr} {fd1 fd2 : FuncData} {ps1 ps2 : List Str} {sp1 sp2 : Sp} {E : XK} {fe e : Expr} {es : List Expr} {te : TE} {t : TA} {pos : Pos}
theorem pe_callE2 (F1 : FnOk X.prog X.w X.K X.mg X.base CX k1 f1 fd1 ps1 sp1) (hr1 : Room k1 X.A) (hk1 : PySem.W.keepIn X.K (.ref f1) = true) (hb1 : Binds X.K fd1 ps1 [])
    (F2 : FnOk X.prog X.w X.K X.mg X.base CX k2 f2 fd2 ps2 sp2) (hr2 : Room k2 X.A) (hk2 : PySem.W.keepIn X.K (.ref f2) = true) (hb2 : Binds X.K fd2 ps2 []) (hx : Passes CX X E) (hfe : PE X fe te) (ha : PA X (e :: es) t)
    (hcm : Calm CX X.A := by first | assumption | exact Or.inl rfl | exact Or.inr (by assumption))
    (hev : eval (.Call fe (e :: es) [] pos) X.env = (do callWith pos (← eval fe X.env) [] (backTo pos (starEach (e :: es) X.env)) (backToKw pos (keywordEach [] X.env))) := by rfl)
    (he : starEach (e :: es) X.env = (false, eval e X.env) :: starEach es X.env := by rfl) (hpl : (backTo pos (starEach es X.env)).any (·.1) = false := by rfl) :
    PE X (.Call fe (e :: es) [] pos) (fun σ H Q => te σ H fun v H1 => (v = .ref f1 ∧ tCall sp1 [] E t σ H1 Q) ∨ (v = .ref f2 ∧ tCall sp2 [] E t σ H1 Q)) := by
  intro pins s σ H Q I h
  refine Call_ (thn (hfe pins s σ H _ I h) fun v s1 ⟨x, H1, I1, r1, q1⟩ => ?_) hev
  rcases q1 with ⟨e1, q⟩ | ⟨e1, q⟩
  · subst e1
    cases r1
    refine PySem.W.callWith_K (h₀ := X.base) I1.ok.mod.kin hk1 (thn (ha pos pins s1 σ H1 _ I1 q) fun us s2 ⟨vs, H2, I2, r, q⟩ => ⟨I2.kIn, ?_⟩) he hpl
    exact run_fn F1 hr1 hb1 .nil hx I2 r q hcm
  · subst e1
    cases r1
    refine PySem.W.callWith_K (h₀ := X.base) I1.ok.mod.kin hk2 (thn (ha pos pins s1 σ H1 _ I1 q) fun us s2 ⟨vs, H2, I2, r, q⟩ => ⟨I2.kIn, ?_⟩) he hpl
    exact run_fn F2 hr2 hb2 .nil hx I2 r q hcm
end
end L2
end
section
set_option Elab.async false
set_option linter.all false
set_option maxRecDepth 100000
set_option maxHeartbeats 4000000
/-! comprehensions with two names; zip -/
namespace L2
open PySem PySem.Spec PySem.Calls PyProof.Rows

/-- the context of a comprehension's block: x its own name, fj the names from around with their slots there -/
def blk2 (X : Cx) (sc : Scope) (cl : List (Str × Addr)) (fj : List (Str × Nat)) (x y : Str) (s₃ : Shared) (H₃ : Hp) (ex : List Addr) : Cx where
  prog := X.prog
  w := X.w
  K := X.K
  mg := X.mg
  base := X.base
  A := X.A
  N := x :: y :: fj.map (·.1)
  s₀ := s₃
  H₀ := H₃
  env := compEnvC sc cl s₃.heap.objs.size X.env
  outer := X.stack
  stack := X.stack
  ex := ex
  fn := fun _ => false
  calm := X.calm
  pn := []
  tr := []
  fx := []
  xe := fun _ _ => False
/-- what the text must have -/
structure LcOk2 (X : Cx) (sc : Scope) (cl : List (Str × Addr)) (fj : List (Str × Nat)) (x y : Str) : Prop where
  clos : closureFor sc X.env = pure cl
  cell : ∀ y ∈ sc.names, y.2 ≠ .cell
  kind : sc.kind = .function
  names : ∀ y ∈ sc.names, y.2 = .local → sc.names.lookup y.1 = some .local
  hx : sc.names.lookup x = some .local
  hy : sc.names.lookup y = some .local
  sub : ∀ p ∈ cl, X.env.cells.lookup p.1 = some p.2
  has : ∀ y ∈ sc.names, y.2 = .free → (cl.lookup y.1).isSome = true
  fr : ∀ p ∈ fj, X.N[p.2]? = some p.1 ∧ sc.names.lookup p.1 = some .free ∧ (X.env.scope.names.lookup p.1 = some .cell ∨ X.env.scope.names.lookup p.1 = some .free)
  nd : (x :: y :: fj.map (·.1)).Nodup
section
variable {X : Cx} {sc : Scope} {cl : List (Str × Addr)} {fj : List (Str × Nat)} {x y : Str} {pins : List (Addr × Obj)} {σ : St} {H : Hp} {s₃ : Shared} {ex : List Addr}
theorem LcOk2.sub' (O : LcOk2 X sc cl fj x y) {n : Str} {c : Addr} (h : cl.lookup n = some c) : X.env.cells.lookup n = some c := O.sub (n, c) (mem_of_lookup h)
theorem blk2_ok (O : LcOk2 X sc cl fj x y) (I : Inv X pins σ H s₃) (hx : ∀ b ∈ ex, FpOk X pins H b) (hb : ∀ b ∈ ex, ∃ o, s₃.heap.get? b = some o) : (blk2 X sc cl fj x y s₃ H ex).Ok where
  mod := I.ok.mod
  kind := O.kind
  glob := I.ok.glob
  blt := I.ok.blt
  above := Nat.le_refl _
  inj := fun a b c h1 h2 => I.ok.inj a b c (O.sub' h1) (O.sub' h2)
  has := fun y h => by
    have h' : ∃ k, ((relabel sc X.env).names).lookup y = some k ∧ (k = .cell ∨ k = .free) := by
      rcases h with h | h
      · exact ⟨_, h, .inl rfl⟩
      · exact ⟨_, h, .inr rfl⟩
    obtain ⟨k, h1, h2⟩ := h'
    obtain ⟨k0, m, z⟩ := relabel_in h1 h2
    have z' : k0 = .free := z.resolve_left (O.cell _ m)
    subst z'
    have q := O.has _ m rfl
    cases e : cl.lookup y with
    | none => rw [show cl.lookup (y, NameKind.free).1 = cl.lookup y from rfl, e] at q; cases q
    | some c => exact ⟨c, e⟩
  cab := fun _ _ h => by cases h
  hd := by
    rcases I.hdE with z | ⟨e, c, z1, z2⟩
    · exact .inl z
    · exact .inr ⟨e, c, z1, .inl z2⟩
  frames := I.ok.frames
  stk := .inl rfl
  exf := fun b h => by
    obtain ⟨o, e⟩ := hb b h
    obtain ⟨_, _, _, _, h4, _⟩ := hx b h
    exact ⟨Nat.ne_of_lt (Heap.lt_size e), fun y c hc => h4 y c (O.sub' hc)⟩
  bs := fun b o e => I.bs b o e
  bsz := Nat.le_trans I.ok.bsz I.sz
  noex := fun b o e h => by
    obtain ⟨_, _, _, h3, _, _⟩ := hx b h
    rcases h3 with z | z
    · exact I.ok.noex b o e z
    · exact absurd (Nat.lt_of_lt_of_le (Heap.lt_size (I.ok.bs b o e).1) z) (Nat.lt_irrefl _)
  exfs := fun b h z => by
    obtain ⟨_, h1, h2, _, _, _⟩ := hx b h
    exact (List.mem_cons.mp (I.stkSub b z)).elim h1 h2
  funs := I.stack
  frf := I.stkFree
theorem blk2_inv (O : LcOk2 X sc cl fj x y) (I : Inv X pins σ H s₃) (hx : ∀ b ∈ ex, FpOk X pins H b) (hb : ∀ b ∈ ex, ∃ o, s₃.heap.get? b = some o) {h₁ : Heap} {m₀ : Str → Option Value} {t : Nat}
    (hns : h₁.Ns s₃.heap.objs.size m₀) (hk : ∀ b o, s₃.heap.get? b = some o → h₁.get? b = some o) : Inv (blk2 X sc cl fj x y s₃ H ex) [] (none :: none :: frees σ fj) H { s₃ with heap := h₁, toks := t } where
  ok := blk2_ok O I hx hb
  os := rfl
  bare := I.bare
  base := Un.kept hk
  loc := by
    refine ⟨m₀, hns, fun i y' v e1 e2 _ => ?_⟩
    cases i with
    | zero => simp at e2
    | succ i =>
     cases i with
     | zero => simp at e2
     | succ i =>
      have e1' : (fj.map (·.1))[i]? = some y' := by
        have e : (x :: y :: fj.map (·.1))[i + 1 + 1]? = some y' := e1
        rw [List.getElem?_cons_succ, List.getElem?_cons_succ] at e
        exact e
      have e2' : (frees σ fj)[i]? = some (some v) := by simpa using e2
      rw [List.getElem?_map] at e1'
      cases hp : fj[i]? with
      | none => rw [hp] at e1'; cases e1'
      | some p =>
        rw [hp] at e1'
        have ey : p.1 = y' := Option.some.inj e1'
        subst ey
        unfold frees at e2'
        rw [List.getElem?_map, hp] at e2'
        have e3 : (σ[p.2]?).join = some v := Option.some.inj e2'
        have e4 : σ[p.2]? = some (some v) := by
          cases q : σ[p.2]? with
          | none => rw [q] at e3; cases e3
          | some w => rw [q] at e3; cases w with
            | none => cases e3
            | some w => cases e3; rfl
        obtain ⟨f1, f2, f3⟩ := O.fr p (List.mem_of_getElem? hp)
        obtain ⟨m, hn, hl⟩ := I.loc
        obtain ⟨u, r, l⟩ := hl p.2 p.1 v f1 e4 (.inr f3)
        refine ⟨u, r, ?_⟩
        rcases l with ⟨k, _⟩ | ⟨k, c, e, z⟩
        · exfalso
          have k' : X.env.scope.names.lookup p.1 = some .local := k
          rcases f3 with f3 | f3 <;> rw [f3] at k' <;> cases k'
        · have q := O.has _ (mem_of_lookup f2) rfl
          cases ec : cl.lookup p.1 with
          | none => rw [show cl.lookup (p.1, NameKind.free).1 = cl.lookup p.1 from rfl, ec] at q; cases q
          | some c' =>
            have e' := O.sub' ec
            rw [e] at e'
            cases e'
            exact .inr ⟨relabel_free f2, c, ec, z.keeps hk⟩
  cell := fun y c e => let ⟨v, z⟩ := I.cell y c (O.sub' e); ⟨v, z.keeps hk⟩
  free := I.hok.fresh (Nat.le_refl _)
  freeC := fun y c e => I.freeC y c (O.sub' e)
  pin := fun p hp => by cases hp
  hok := I.hok.kept hk
  len := by
    show (none :: none :: frees σ fj).length = (x :: y :: fj.map (·.1)).length
    simp [frees]
  tr := fun p hp => by cases hp
  fix := fun p hp => by cases hp
end

/-! ### [e for x in it if c] -/
/-- W: by the turn, a measure, the list so far and the heap -/
def tLc2 (g : TG) (wi : TI) (fj : List (Str × Nat)) (tc : TT) (te : TE) : TE := fun σ H Q => wi σ H fun J H1 => ∀ acc, H1 acc = none →
  ∃ W : Nat → Nat → List V → Hp → Prop, (∃ m, W 0 m [] (upd H1 acc (.lst []))) ∧ ∀ i m ys H, W i m ys H →
    (J.stop i H ∧ Q (.ref acc) H) ∨ (J.go i H ∧ ∀ x H', J.yld i H x H' → ∀ o1 o2, g x (o1 :: o2 :: frees σ fj) H' fun σ2 H4 => ∃ a b, σ2 = some a :: some b :: frees σ fj ∧ tc σ2 H4 fun b H2 =>
      if b = true then te σ2 H2 fun v H3 => H3 acc = some (.lst ys) ∧ ys.length < sizeLine ∧ ∃ m', m' < m ∧ W (i + 1) m' (ys ++ [v]) (upd H3 acc (.lst (ys ++ [v])))
      else ∃ m', m' < m ∧ W (i + 1) m' ys H2)
section
variable {X : Cx} {sc : Scope} {cl : List (Str × Addr)} {fj : List (Str × Nat)} {x y : Str} {px py pt pos : Pos} {kt : Nat} {elt iter : Expr} {ifs : List Expr} {wi : TI} {tc : TT} {te : TE}
theorem lc_core2 (O : LcOk2 X sc cl fj x y) (hc : X.calm = true) (hA : X.A.handled = none) (hi : PI X (.Tuple [.Name x px, .Name y py] kt pt) iter wi)
    (hf : ∀ s₃ H₃ ex, PF (blk2 X sc cl fj x y s₃ H₃ ex) ifs tc) (he : ∀ s₃ H₃ ex, PE (blk2 X sc cl fj x y s₃ H₃ ex) elt te)
    {pins : List (Addr × Obj)} {s : Shared} {σ : St} {H : Hp} {Q : VK} (I : Inv X pins σ H s) (h : tLc2 (gTup X.K 2 (gCons (gName 0) (gCons (gName 1) gNil))) wi fj tc te σ H Q) {RR : Value → Addr → Result → Shared → Prop}
    (hRR : ∀ a C s' H' m, Inv X pins σ H' s' → Q (.ref a) H' → s'.heap.Ns C m → H' C = none → C ≠ X.env.locals → X.s₀.heap.objs.size ≤ C →
      (∀ y c, X.env.cells.lookup y = some c → c ≠ C) → (∀ p ∈ X.pn ++ pins, p.1 ≠ C) → RR (.ref a) C (.ok .next) s') :
    wpAny (model X.prog X.w) X.A (eval iter X.env) (fun xv s₁ => wpAny (model X.prog X.w) X.A (pyIter xv) (fun it s₂ => wpAny (model X.prog X.w) X.A (newList []) (fun acc s₃ =>
      wpAny (model X.prog X.w) X.A (newFunctionEnv sc X.env.globals cl [] X.env.qual none .none (some X.env)) (fun cenv s₄ =>
        codeAny (model X.prog X.w) X.A (.compStart (.ListComp elt [⟨.Tuple [.Name x px, .Name y py] kt pt, iter, ifs, 0⟩] sc pos) 0 it acc { cenv with scope := relabel sc X.env }) (RR acc cenv.locals) s₄) X.xe s₃) X.xe s₂) X.xe s₁) X.xe s := by
  refine thn (hi pins s σ H _ I h) fun v s1 h1 => thn h1 fun itv s2 h2 => ?_
  obtain ⟨it, fp, tn, J, H2, e, I2, T, st2, f2, hW⟩ := h2
  subst e
  have hacc : H2 s2.heap.objs.size = none := I2.hok.fresh (Nat.le_refl _)
  obtain ⟨W, ⟨m0, w0⟩, turn⟩ := hW _ hacc
  have I3 : Inv X pins σ (upd H2 s2.heap.objs.size (.lst [])) { s2 with heap := s2.heap.push { cls := .type "list", data := .seq ([] : List Value).toArray } } := I2.lnew (t' := s2.toks) (ys := []) (its := []) .nil (Nat.zero_le _)
  have old3 : ∀ b o, s2.heap.get? b = some o → (s2.heap.push { cls := .type "list", data := .seq ([] : List Value).toArray }).get? b = some o := fun b o q => Heap.get?_push_of_some _ q
  have st3 := T.keep _ _ _ st2 fun b _ o q => old3 b o q
  have ob3 := T.obj _ _ st3
  have ob2 := T.obj _ _ st2
  have f3 : ∀ b ∈ fp, FpOk X pins (upd H2 s2.heap.objs.size (.lst [])) b := fun b hb => by
    obtain ⟨o, q, _⟩ := ob2 b hb
    obtain ⟨g0, g⟩ := f2 b hb
    exact ⟨by rw [upd_ne (Nat.ne_of_lt (Heap.lt_size q))]; exact g0, g⟩
  refine wpAny_newObj_type ?_
  generalize hS3 : ({ s2 with heap := s2.heap.push { cls := .type "list", data := .seq ([] : List Value).toArray } } : Shared) = s3 at I3 ⊢
  have st3' : tn 0 s3.heap := by rw [← hS3]; exact st3
  have ob3' : ∀ b ∈ fp, ∃ o, s3.heap.get? b = some o ∧ ∀ v, o.data ≠ .cell v := by rw [← hS3]; exact ob3
  generalize hH3 : upd H2 s2.heap.objs.size (.lst []) = H3 at I3 w0 f3
  generalize hac : s2.heap.objs.size = ac at turn ⊢
  clear hS3 st3 ob3 old3
  refine wpAny_newFunctionEnv O.cell (by intro y hy; cases hy) (fun h₁ hns₁ hsb₁ => ?_) O.kind
  have hk1 : ∀ b o, s3.heap.get? b = some o → h₁.get? b = some o := fun b o q => (hsb₁.2 b (Nat.ne_of_lt (Heap.lt_size q))).trans (Heap.get?_push_of_some _ q)
  have B := blk2_inv (t := s3.toks + ([] : List (Str × Value)).length) O I3 f3 (fun b hb => let ⟨o, q, _⟩ := ob3' b hb; ⟨o, q⟩) hns₁ hk1
  generalize hX : blk2 X sc cl fj x y s3 H3 fp = X' at B
  have hPF := hf s3 H3 fp
  have hPE := he s3 H3 fp
  rw [hX] at hPF hPE
  have eA : X'.A = X.A := by rw [← hX]; rfl
  have eP : X'.prog = X.prog := by rw [← hX]; rfl
  have eW : X'.w = X.w := by rw [← hX]; rfl
  have eK : X'.K = X.K := by rw [← hX]; rfl
  have eC : X'.calm = true := by rw [← hX]; exact hc
  have eE : X'.env = compEnvC sc cl s3.heap.objs.size X.env := by rw [← hX]; rfl
  have eX : X'.xe = fun _ _ => False := by rw [← hX]; rfl
  have eex : X'.ex = fp := by rw [← hX]; rfl
  have epn : X'.pn = [] := by rw [← hX]; rfl
  have eO : X'.outer = X.stack := by rw [← hX]; rfl
  have eS : X'.s₀ = s3 := by rw [← hX]; rfl
  have eH : X'.H₀ = H3 := by rw [← hX]; rfl
  have eN : X'.N = x :: y :: fj.map (·.1) := by rw [← hX]; rfl
  have eF : X'.fx = [] := by rw [← hX]; rfl
  have stat : ∀ {H' : Hp}, (∀ b ∈ fp, H' b = none) → ∀ b ∈ fp, FpOk X' [] H' b := fun {H'} hn b hb => by
    obtain ⟨o, q, _⟩ := ob3' b hb
    obtain ⟨_, g1, g2, g3, g4, g5⟩ := f3 b hb
    refine ⟨hn b hb, ?_, ?_, .inl (by rw [eex]; exact hb), ?_, ?_⟩
    · rw [eE]; exact Nat.ne_of_lt (Heap.lt_size q)
    · show b ∉ frs X'.outer
      rw [eO]
      exact fun z => (List.mem_cons.mp (I3.stkSub b z)).elim g1 g2
    · rw [eE]; exact fun y c hc' => g4 y c (O.sub' hc')
    · rw [epn]; intro p hp; cases hp
  have loop : codeAny (model X.prog X.w) X.A (.compLoop (.ListComp elt [⟨.Tuple [.Name x px, .Name y py] kt pt, iter, ifs, 0⟩] sc pos) 0 (.ref it) (.ref ac) (compEnvC sc cl s3.heap.objs.size X.env)) (RR (.ref ac) s3.heap.objs.size)
      { s3 with heap := h₁, toks := s3.toks + ([] : List (Str × Value)).length } := by
    refine compLoop_go (fun n s' => ∃ i o o' ys H', Inv X' [] (o :: o' :: frees σ fj) H' s' ∧ tn i s'.heap ∧ (∀ b ∈ fp, H' b = none) ∧ W i n ys H') ?_ m0
      ⟨0, none, none, [], H3, B, T.keep _ _ _ st3' fun b _ o q => hk1 b o q, fun b hb => (f3 b hb).1, w0⟩
    rintro n s4 ⟨i, o4, o4', ys, H4, J4, st4, fr4, w4⟩
    rw [← eE, ← eP, ← eW, ← eA]
    rcases turn i n ys H4 w4 with ⟨stop, q⟩ | ⟨go, step⟩
    · have T' : Turn X'.prog X'.w X'.K (.Tuple [.Name x px, .Name y py] kt pt) J fp it tn := by rw [eP, eW, eK]; exact T
      refine thn (T'.done X' rfl rfl rfl eC i [] s4 _ H4 _ J4 (stat fr4) st4 stop) fun r s5 ⟨hr, J5⟩ => ?_
      subst hr
      have hb5 := J5.base
      rw [eS, eH, eex, show X'.fs = frs X.stack by show frs X'.outer = _; rw [eO]] at hb5
      have ho5 := J5.os
      rw [eS] at ho5
      have hk5 := J5.hok
      rw [eP, eW] at hk5
      have I5 : Inv X pins σ H4 s5 := I3.call' (ch := fp) ho5 hb5 hk5 J5.bare fun b hb => by
        obtain ⟨_, g1, g2, g3, g4, g5⟩ := f3 b hb
        exact ⟨g3, g1, g4, g5⟩
      obtain ⟨m5, n5, _⟩ := J5.loc
      have fr5 := J5.free
      rw [eE] at n5 fr5
      refine hRR ac s3.heap.objs.size s5 H4 m5 I5 q n5 fr5 (Ne.symm (Nat.ne_of_lt I3.lt)) I3.sz (fun y c hc' => ?_) fun p hp => ?_
      · obtain ⟨_, oc, q', _⟩ := I3.cell y c hc'
        exact Nat.ne_of_lt (Heap.lt_size q')
      · exact Nat.ne_of_lt (Heap.lt_size (I3.pin p hp).1)
    · have T' : Turn X'.prog X'.w X'.K (.Tuple [.Name x px, .Name y py] kt pt) J fp it tn := by rw [eP, eW, eK]; exact T
      refine thn (T'.item X' rfl rfl rfl eC i [] s4 _ H4 _ J4 (stat fr4) st4 go) fun r s5 ⟨u, hr, h5⟩ => ?_
      subst hr
      refine thn h5 fun _ s6 ⟨xv, H6, J6, r6, y6, st6, fr6⟩ => ?_
      have J6' := J6.pinned (stat fr6) (T.obj _ _ st6)
      have lx : X'.env.scope.names.lookup x = some .local := by rw [eE]; exact lookup_relabel_local O.hx
      have ly : X'.env.scope.names.lookup y = some .local := by rw [eE]; exact lookup_relabel_local O.hy
      have hA' : X'.A.handled = none := by rw [eA]; exact hA
      have pg0 : PG X' (.Name x px) (gName 0) := pg_name (by rw [eN]; exact O.nd) (by rw [eN]; rfl) (.inl lx) (.inr lx) (by rw [eF]; intro p hp; cases hp)
      have pg1 : PG X' (.Name y py) (gName 1) := pg_name (by rw [eN]; exact O.nd) (by rw [eN]; rfl) (.inl ly) (.inr ly) (by rw [eF]; intro p hp; cases hp)
      have pg : PG X' (.Tuple [.Name x px, .Name y py] kt pt) (gTup X.K 2 (gCons (gName 0) (gCons (gName 1) gNil))) := by
        rw [← eK]
        exact pg_tup hA' (pgs_cons pg0 (pgs_cons pg1 pgs_nil))
      have q6 := step xv H6 y6 o4 o4'
      refine wpAny_mono (pg _ s6 _ H6 xv u _ J6' r6 q6) (fun _ s7 ⟨σ7, H7, J7, av, bv, e7, q7⟩ => ?_) (by rw [eX]; exact fun _ _ f => f)
      subst e7
      refine wpAny_mono (hPF _ s7 _ H7 _ J7 q7) (fun b s8 ⟨H8, J8, q8⟩ => ?_) (by rw [eX]; exact fun _ _ f => f)
      have back : ∀ {H9 : Hp} {s9 : Shared} {o9 o9' : Option V}, Inv X' ([] ++ pinsAt fp s6.heap) (o9 :: o9' :: frees σ fj) H9 s9 → Inv X' [] (o9 :: o9' :: frees σ fj) H9 s9 ∧ tn (i + 1) s9.heap ∧ ∀ b ∈ fp, H9 b = none := fun {H9 s9 o9 o9'} J9 => by
        refine ⟨J9.unpinned, T.keep _ _ _ st6 fun b hb o q => (J9.pin (b, o) (List.mem_append_right _ (List.mem_append_right _ (mem_pinsAt hb q)))).1, fun b hb => ?_⟩
        obtain ⟨o, q, d⟩ := T.obj _ _ st6 b hb
        exact (J9.pin (b, o) (List.mem_append_right _ (List.mem_append_right _ (mem_pinsAt hb q)))).2.1
      cases b with
      | false =>
        obtain ⟨m', hm, w8⟩ : ∃ m', m' < n ∧ W (i + 1) m' ys H8 := q8
        obtain ⟨b1, b2, b3⟩ := back J8
        exact ⟨m', hm, i + 1, some av, some bv, ys, H8, b1, b2, b3, w8⟩
      | true =>
        refine wpAny_mono (hPE _ s8 _ H8 _ J8 q8) (fun uv s9 ⟨v9, H9, J9, r9, ha9, hl9, m', hm, w9⟩ => ?_) (by rw [eX]; exact fun _ _ f => f)
        refine wpAny_mono (mt_append (X := X') _ s9 _ H9 (.ref ac) [v9] (.ref ac) [uv] (fun _ H' => H' = upd H9 ac (.lst (ys ++ [v9]))) J9 rfl (.cons r9 .nil) ⟨ac, ys, v9, rfl, rfl, ha9, hl9, rfl⟩)
          (fun _ s10 ⟨_, H10, J10, _, e10⟩ => ?_) (by rw [eX]; exact fun _ _ f => f)
        subst e10
        obtain ⟨b1, b2, b3⟩ := back J10
        exact ⟨m', hm, i + 1, some av, some bv, ys ++ [v9], _, b1, b2, b3, w9⟩
  exact codeAny_compStart_list loop (T.self _ 0 _ _ _ (T.keep _ _ _ st3' fun b _ o q => hk1 b o q) loop)
theorem pe_lc2 (O : LcOk2 X sc cl fj x y) (hc : X.calm = true) (hA : X.A.handled = none) (hi : PI X (.Tuple [.Name x px, .Name y py] kt pt) iter wi)
    (hf : ∀ s₃ H₃ ex, PF (blk2 X sc cl fj x y s₃ H₃ ex) ifs tc) (he : ∀ s₃ H₃ ex, PE (blk2 X sc cl fj x y s₃ H₃ ex) elt te)
    (hs : ∀ x, foldedSetIterable iter X.env x = pure x := by intro _; rfl) : PE X (.ListComp elt [⟨.Tuple [.Name x px, .Name y py] kt pt, iter, ifs, 0⟩] sc pos) (tLc2 (gTup X.K 2 (gCons (gName 0) (gCons (gName 1) gNil))) wi fj tc te) := by
  intro pins s σ H Q I h
  rw [eval_ListComp]
  refine wpAny_comprehension_free (use := none) rfl hs O.clos O.kind O.names (lc_core2 O hc hA hi hf he I h (RR := fun acc C => compPost (model X.prog X.w) X.A X.xe none (EP X pins σ Q) acc C) ?_)
  intro a C s' H' m I' q hn hC hL hz h2 h3
  exact ⟨m, hn, fun h' hs' => ⟨.ref a, H', I'.turned (t' := s'.toks) (fun b o hb e => (hs'.2 b hb).trans e) hC hL (.inr hz) h2 h3, rfl, q⟩⟩
end
end L2
end
section
set_option Elab.async false
set_option linter.all false
set_option maxRecDepth 100000
set_option maxHeartbeats 4000000
/-! zip of two: lists, tuples, texts -/
namespace L2
open PySem PySem.Spec PySem.Calls PyProof.Rows

section
variable {prog : Program} {w : World} {A : Around} {E : Value → Shared → Prop} {s : Shared}
theorem nextOf_tuple_item {it t : Addr} {i : Nat} {items : Array Value} {x : Value} {Q : Value → Shared → Prop} (hit : s.heap.IsTupleIter it t i)
    (ht : s.heap.IsTuple t items) (hx : items[i]? = some x)
    (hQ : ∀ h', h'.IsTupleIter it t (i + 1) → Heap.SameBut it s.heap h' → Q x { s with heap := h' }) :
    wpAny (model prog w) A (Builtin.SmallTypes.nextOf (.ref it)) Q E s := by
  obtain ⟨o, ho, hc, hd⟩ := id hit
  obtain ⟨ol, hol, _, nl, hdl⟩ := ht
  unfold Builtin.SmallTypes.nextOf
  refine wpAny_bind (wpAny_callSpecial?_slot (name := Str.ofString "__next__") hit.typeIs F.slot_tuple_iterator_next
    (wpAny_call_entry F.slot_tuple_iterator_next hit.typeIs F.entry_tuple_iterator_next ?_ (F.args_tuple_iterator_next_1 _)))
  show wpAny _ _ (field (.ref it) 0 >>= _) _ _ s
  refine wpAny_bind (wpAny_field ho hd (x := .ref t) rfl ?_)
  show wpAny _ _ (if (Value.ref t == Value.none) = true then _ else _) _ _ s
  rw [if_neg (show ¬ ((Value.ref t == Value.none) = true) from Bool.false_ne_true)]
  show wpAny _ _ (field (.ref it) 1 >>= _) _ _ s
  refine wpAny_bind (wpAny_field ho hd (x := .int i 0) rfl ?_)
  show wpAny _ _ (seqItems? (.ref t) >>= _) _ _ s
  refine wpAny_bind (wpAny_seqItems hol hdl ?_)
  simp only [Int.toNat_natCast, hx]
  refine wpAny_bind (wpAny_setField ho hd (by simp) (wpAny_pure ⟨x, rfl, wpAny_pure (hQ _ ?_ (Heap.SameBut.update ..))⟩))
  exact ⟨_, Heap.get?_update_self _ ho (Obj.isFreed_of_fields (Obj.data_mapFields hd _)), (Obj.cls_mapFields ..).trans hc, by
    rw [Obj.data_mapFields hd]; simp [rawInt]⟩
theorem nextOf_tuple_endH {it t : Addr} {i : Nat} {items : Array Value} {Q : Value → Shared → Prop} (hh : HdAt A s.heap) (hit : s.heap.IsTupleIter it t i) (ht : s.heap.IsTuple t items) (hx : items[i]? = none)
    (hE : ∀ h' e, Heap.ExtBut it s.heap h' → (∃ o, h'.get? e = some o ∧ o.cls = .type "StopIteration") → E (.ref e) { s with heap := h' }) :
    wpAny (model prog w) A (Builtin.SmallTypes.nextOf (.ref it)) Q E s := by
  obtain ⟨o, ho, hc, hd⟩ := id hit
  obtain ⟨ol, hol, _, nl, hdl⟩ := ht
  unfold Builtin.SmallTypes.nextOf
  refine wpAny_bind (wpAny_callSpecial?_slot (name := Str.ofString "__next__") hit.typeIs F.slot_tuple_iterator_next
    (wpAny_call_entry F.slot_tuple_iterator_next hit.typeIs F.entry_tuple_iterator_next ?_ (F.args_tuple_iterator_next_1 _)))
  show wpAny _ _ (field (.ref it) 0 >>= _) _ _ s
  refine wpAny_bind (wpAny_field ho hd (x := .ref t) rfl ?_)
  show wpAny _ _ (if (Value.ref t == Value.none) = true then _ else _) _ _ s
  rw [if_neg (show ¬ ((Value.ref t == Value.none) = true) from Bool.false_ne_true)]
  show wpAny _ _ (field (.ref it) 1 >>= _) _ _ s
  refine wpAny_bind (wpAny_field ho hd (x := .int i 0) rfl ?_)
  show wpAny _ _ (seqItems? (.ref t) >>= _) _ _ s
  refine wpAny_bind (wpAny_seqItems hol hdl ?_)
  simp only [Int.toNat_natCast, hx]
  refine wpAny_bind (wpAny_rule (wpAny_bind (wpAny_setField ho hd (by simp) ?_)))
  show wpAny _ _ (newExc (.type "StopIteration") [] >>= _) _ _ _
  refine wpAny_bind ?_
  simp only [newExc, newTuple]
  refine wpAny_bind (wpAny_newObj_type ?_ (by size_fits))
  refine wpAny_bind (m := firstArgMember _ _) (wpAny_of_eq (a := Value.none) (by first | rfl | (simp only [firstArgMember]; rfl)) ?_)
  refine wpAny_newObj_type ?_ (by size_fits)
  refine raiseNew_hd (HdAt.two (A := A.in1) (it := it) hh (fun b o' hb e => (Heap.SameBut.update ..).extBut b o' hb e) (fun oe vs e e2 => by rw [ho] at e; cases e; rw [hd] at e2; cases e2; exact ⟨by simp, by simp⟩)) (Heap.get?_push_size _ rfl) rfl (by simp; omega) fun h' sb ⟨o', _, ho', hc', _⟩ => ?_
  refine hE _ _ (fun b ob hb e => (sb.2 b ?_).trans (((Heap.SameBut.update ..).extBut.push _).push _ b ob hb e)) ⟨o', ho', hc'⟩
  exact Nat.ne_of_lt (Nat.lt_of_lt_of_le (Heap.lt_size e) (by rw [Heap.size_push, Heap.size_after_update]; exact Nat.le_succ _))

structure ZAp (z TI TO i1 i2 : Addr) : Prop where
  TIz : TI ≠ z
  TOz : TO ≠ z
  i1z : i1 ≠ z
  i2z : i2 ≠ z
  TITO : TI ≠ TO
  TIi1 : TI ≠ i1
  TIi2 : TI ≠ i2
  TOi1 : TO ≠ i1
  TOi2 : TO ≠ i2
  i12 : i1 ≠ i2
/-- a draw of one source, from any heap in J -/
def DrawsU (prog : Program) (w : World) (A : Around) (s : Shared) (J : Heap → Prop) (i : Addr) (q p : Obj → Prop) (r : Value → Prop) : Prop :=
  ∀ (h : Heap) (t : Nat) (Q : Value → Shared → Prop) (E : Value → Shared → Prop), J h → (∃ o, h.get? i = some o ∧ q o) →
    (∀ u h' t', r u → (∃ o, h'.get? i = some o ∧ p o) → Heap.SameBut i h h' → Q u { s with heap := h', toks := t' }) → wpAny (model prog w) A (Builtin.SmallTypes.nextOf (.ref i)) Q E { s with heap := h, toks := t }
def EndsU (prog : Program) (w : World) (A : Around) (s : Shared) (J : Heap → Prop) (i : Addr) (q : Obj → Prop) : Prop :=
  ∀ (h : Heap) (t : Nat) (Q : Value → Shared → Prop) (E : Value → Shared → Prop), J h → (∃ o, h.get? i = some o ∧ q o) →
    (∀ h' e, Heap.ExtBut i h h' → (∃ o, h'.get? e = some o ∧ o.cls = .type "StopIteration") → E (.ref e) { s with heap := h', toks := t }) → wpAny (model prog w) A (Builtin.SmallTypes.nextOf (.ref i)) Q E { s with heap := h, toks := t }
theorem zip_itemG {z TI TO i1 i2 : Addr} {a b : Value} {J : Heap → Prop} {q1 q2 p1 p2 : Obj → Prop} {r1 r2 : Value → Prop} {Q : Value → Shared → Prop} (D : ZAp z TI TO i1 i2)
    (jk : ∀ c h h', (c = z ∨ c = TO ∨ c = i1 ∨ c = i2) → J h → Heap.ExtBut c h h' → J h') (j0 : J s.heap)
    (hz : IsZip s.heap z TI TO .none) (hTI : IsPair s.heap TI (.ref i1) (.ref i2)) (hTO : IsPair s.heap TO a b)
    (a1 : ∃ o, s.heap.get? i1 = some o ∧ q1 o) (a2 : ∃ o, s.heap.get? i2 = some o ∧ q2 o) (n1 : DrawsU prog w A s J i1 q1 p1 r1) (n2 : DrawsU prog w A s J i2 q2 p2 r2)
    (hQ : ∀ h' t' u v, r1 u → r2 v → IsZip h' z TI TO (rawInt s.heap.objs.size) → IsPair h' TO u v → (∃ o, h'.get? i1 = some o ∧ p1 o) → (∃ o, h'.get? i2 = some o ∧ p2 o) → IsPair h' s.heap.objs.size u v → h'.objs.size = s.heap.objs.size + 1 →
      (∀ c o, c ≠ z → c ≠ TO → c ≠ i1 → c ≠ i2 → s.heap.get? c = some o → h'.get? c = some o) → Q (.ref s.heap.objs.size) { s with heap := h', toks := t' }) :
    wpAny (model prog w) A (Builtin.«zip.__next__» ⟨[.ref z], []⟩) (fun fin s' => ∃ v, fin = .done (.ret v) ∧ Q v s') E s := by
  obtain ⟨o1, ho1, hq1⟩ := a1
  obtain ⟨o2, ho2, hq2⟩ := a2
  show wpAny _ _ (field (.ref z) 2 >>= _) _ _ _
  refine wpAny_bind (wpAny_field hz rfl (x := .bool false) rfl ?_)
  show wpAny _ _ (field (.ref z) 3 >>= _) _ _ _
  refine wpAny_bind (wpAny_field hz rfl (x := .ref TI) rfl ?_)
  refine wpAny_bind (wpAny_seqItems hTI rfl ?_)
  show wpAny _ _ (Builtin.SmallTypes.ownedTupleIsFree (.ref z) >>= _) _ _ _
  refine wpAny_bind ?_
  unfold Builtin.SmallTypes.ownedTupleIsFree
  refine wpAny_bind (wpAny_field hz rfl (x := .none) rfl (wpAny_pure ?_))
  simp only [if_true]
  refine wpAny_bind (wpAny_rule ?_)
  refine wpAny_bind (wpAny_field hz rfl (x := .ref TO) rfl ?_)
  refine wpAny_bind (wpAny_setField_rec hz (by simp) fun h₁ hz₁ hs₁ => ?_)
  replace hs₁ : Heap.SameBut z s.heap h₁ := hs₁
  replace hz₁ : IsZip h₁ z TI TO .ellipsis := hz₁
  have j1 : J h₁ := jk z _ _ (.inl rfl) j0 hs₁.extBut
  refine wpAny_bind ?_
  simp only [List.zipIdx_cons, List.zipIdx_nil, List.forIn_cons, List.forIn_nil]

  refine wpAny_bind (wpAny_bind (wpAny_onRaise ?_))
  show wpAny _ _ (Builtin.SmallTypes.nextOf (.ref i1) >>= _) _ _ _
  refine wpAny_bind (n1 h₁ s.toks _ _ j1 ⟨o1, hs₁.extBut _ _ D.i1z ho1, hq1⟩ fun x h₂ t₂ hx h1₂ hs₂ => wpAny_pure ?_)
  have j2 : J h₂ := jk i1 _ _ (.inr (.inr (.inl rfl))) j1 hs₂.extBut
  have hTO₂ : IsPair h₂ TO a b := hs₂.extBut _ _ D.TOi1 (hs₁.extBut _ _ D.TOz hTO)
  refine wpAny_bind (wpAny_seqItems (s := { s with heap := h₂, toks := t₂ }) hTO₂ rfl ?_)
  refine wpAny_bind (wpAny_updateSeq_pair (s := { s with heap := h₂, toks := t₂ }) hTO₂ fun h₃ hTO₃ hs₃ => ?_)
  replace hs₃ : Heap.SameBut TO h₂ h₃ := hs₃
  replace hTO₃ : IsPair h₃ TO x b := hTO₃
  have j3 : J h₃ := jk TO _ _ (.inr (.inl rfl)) j2 hs₃.extBut
  refine wpAny_bind (wpAny_letGo (wpAny_pure ?_))

  refine wpAny_bind (wpAny_bind (wpAny_onRaise ?_))
  show wpAny _ _ (Builtin.SmallTypes.nextOf (.ref i2) >>= _) _ _ _
  refine wpAny_bind (n2 h₃ t₂ _ _ j3 ⟨o2, hs₃.extBut _ _ D.TOi2.symm (hs₂.extBut _ _ D.i12.symm (hs₁.extBut _ _ D.i2z ho2)), hq2⟩ fun y h₄ t₄ hy h2₄ hs₄ => wpAny_pure ?_)
  have hTO₄ : IsPair h₄ TO x b := hs₄.extBut _ _ D.TOi2 hTO₃
  refine wpAny_bind (wpAny_seqItems (s := { s with heap := h₄, toks := t₄ }) hTO₄ rfl ?_)
  refine wpAny_bind (wpAny_updateSeq_pair (s := { s with heap := h₄, toks := t₄ }) hTO₄ fun h₅ hTO₅ hs₅ => ?_)
  replace hs₅ : Heap.SameBut TO h₄ h₅ := hs₅
  replace hTO₅ : IsPair h₅ TO x y := hTO₅
  refine wpAny_bind (wpAny_letGo (wpAny_pure (wpAny_pure ?_)))

  refine wpAny_bind (wpAny_seqItems (s := { s with heap := h₅, toks := t₄ }) hTO₅ rfl ?_)
  refine wpAny_bind (wpAny_newTuple ?_)
  have hsz : h₅.objs.size = s.heap.objs.size := by rw [hs₅.1, hs₄.1, hs₃.1, hs₂.1, hs₁.1]
  have hz₅ : IsZip h₅ z TI TO .ellipsis := hs₅.extBut _ _ D.TOz.symm (hs₄.extBut _ _ D.i2z.symm (hs₃.extBut _ _ D.TOz.symm (hs₂.extBut _ _ D.i1z.symm hz₁)))
  have hk₅ : ∀ c o, c ≠ z → c ≠ TO → c ≠ i1 → c ≠ i2 → s.heap.get? c = some o → h₅.get? c = some o := fun c o c1 c2 c3 c4 e =>
    hs₅.extBut _ _ c2 (hs₄.extBut _ _ c4 (hs₃.extBut _ _ c2 (hs₂.extBut _ _ c3 (hs₁.extBut _ _ c1 e))))
  obtain ⟨o1', g1, hp1⟩ := h1₂
  obtain ⟨o2', g2, hp2⟩ := h2₄
  have h1₅ : h₅.get? i1 = some o1' := hs₅.extBut _ _ D.TOi1.symm (hs₄.extBut _ _ D.i12 (hs₃.extBut _ _ D.TOi1.symm g1))
  have h2₅ : h₅.get? i2 = some o2' := hs₅.extBut _ _ D.TOi2.symm g2
  have hzlt : z < h₅.objs.size := Heap.lt_size hz₅
  show wpAny _ _ (Builtin.SmallTypes.ownedTupleHandOut (.ref z) (.ref h₅.objs.size) >>= _) _ _ _
  refine wpAny_bind ?_
  unfold Builtin.SmallTypes.ownedTupleHandOut
  have hz₆ : IsZip (h₅.push { cls := .type "tuple", data := .seq #[x, y] }) z TI TO .ellipsis := Heap.get?_push_of_some _ hz₅
  refine wpAny_bind (wpAny_setField_rec (s := { s with heap := h₅.push { cls := .type "tuple", data := .seq #[x, y] }, toks := t₄ }) hz₆ (by simp) fun h₇ hz₇ hs₇ => ?_)
  replace hz₇ : IsZip h₇ z TI TO (rawInt h₅.objs.size) := hz₇
  refine wpAny_setField_rec (s := { s with heap := h₇, toks := t₄ }) hz₇ (by simp) fun h₈ hz₈ hs₈ => ?_
  replace hz₈ : IsZip h₈ z TI TO (rawInt h₅.objs.size) := hz₈
  have up : ∀ c o, c ≠ z → h₅.get? c = some o → h₈.get? c = some o := fun c o c1 e => hs₈.extBut _ _ c1 (hs₇.extBut _ _ c1 (Heap.get?_push_of_some _ e))
  have hT₈ : IsPair h₈ h₅.objs.size x y := hs₈.extBut _ _ (Nat.ne_of_gt hzlt) (hs₇.extBut _ _ (Nat.ne_of_gt hzlt) (Heap.get?_push_size _ rfl))
  have hz8 : h₈.objs.size = h₅.objs.size + 1 := by rw [hs₈.1, hs₇.1, Heap.size_push]
  rw [hsz] at hz₈ hT₈ hz8
  refine wpAny_pure ⟨_, rfl, ?_⟩
  show Q (.ref h₅.objs.size) _
  rw [hsz]
  exact hQ h₈ t₄ x y hx hy hz₈ (up _ _ D.TOz hTO₅) ⟨o1', up _ _ D.i1z h1₅, hp1⟩ ⟨o2', up _ _ D.i2z h2₅, hp2⟩ hT₈ hz8 fun c o c1 c2 c3 c4 e => up c o c1 (hk₅ c o c1 c2 c3 c4 e)
theorem zip_endG {z TI TO i1 i2 : Addr} {a b : Value} {J : Heap → Prop} {q1 q2 p1 : Obj → Prop} {r1 : Value → Prop} {Q : Fin → Shared → Prop} (D : ZAp z TI TO i1 i2)
    (jk : ∀ c h h', (c = z ∨ c = TO ∨ c = i1 ∨ c = i2) → J h → Heap.ExtBut c h h' → J h') (j0 : J s.heap)
    (hz : IsZip s.heap z TI TO .none) (hTI : IsPair s.heap TI (.ref i1) (.ref i2)) (hTO : IsPair s.heap TO a b)
    (a1 : ∃ o, s.heap.get? i1 = some o ∧ q1 o) (a2 : ∃ o, s.heap.get? i2 = some o ∧ q2 o) (n : EndsU prog w A s J i1 q1 ∨ (DrawsU prog w A s J i1 q1 p1 r1 ∧ EndsU prog w A s J i2 q2))
    (hE : ∀ h' t' e, J h' → (∃ o, h'.get? e = some o ∧ o.cls = .type "StopIteration") → E (.ref e) { s with heap := h', toks := t' }) :
    wpAny (model prog w) A (Builtin.«zip.__next__» ⟨[.ref z], []⟩) Q E s := by
  obtain ⟨o1, ho1, hq1⟩ := a1
  obtain ⟨o2, ho2, hq2⟩ := a2
  show wpAny _ _ (field (.ref z) 2 >>= _) _ _ _
  refine wpAny_bind (wpAny_field hz rfl (x := .bool false) rfl ?_)
  show wpAny _ _ (field (.ref z) 3 >>= _) _ _ _
  refine wpAny_bind (wpAny_field hz rfl (x := .ref TI) rfl ?_)
  refine wpAny_bind (wpAny_seqItems hTI rfl ?_)
  show wpAny _ _ (Builtin.SmallTypes.ownedTupleIsFree (.ref z) >>= _) _ _ _
  refine wpAny_bind ?_
  unfold Builtin.SmallTypes.ownedTupleIsFree
  refine wpAny_bind (wpAny_field hz rfl (x := .none) rfl (wpAny_pure ?_))
  simp only [if_true]
  refine wpAny_bind (wpAny_rule ?_)
  refine wpAny_bind (wpAny_field hz rfl (x := .ref TO) rfl ?_)
  refine wpAny_bind (wpAny_setField_rec hz (by simp) fun h₁ hz₁ hs₁ => ?_)
  replace hs₁ : Heap.SameBut z s.heap h₁ := hs₁
  replace hz₁ : IsZip h₁ z TI TO .ellipsis := hz₁
  have j1 : J h₁ := jk z _ _ (.inl rfl) j0 hs₁.extBut
  refine wpAny_bind ?_
  simp only [List.zipIdx_cons, List.zipIdx_nil, List.forIn_cons, List.forIn_nil]
  refine wpAny_bind (wpAny_bind (wpAny_onRaise ?_))
  show wpAny _ _ (Builtin.SmallTypes.nextOf (.ref i1) >>= _) _ _ _
  rcases n with n1 | ⟨n1, n2⟩
  · refine wpAny_bind (n1 h₁ s.toks _ _ j1 ⟨o1, hs₁.extBut _ _ D.i1z ho1, hq1⟩ fun h₂ e hs₂ he => ?_)
    obtain ⟨oe, hoe, hce⟩ := he
    have hz₂ : IsZip h₂ z TI TO .ellipsis := hs₂ _ _ D.i1z.symm hz₁
    have hez : e ≠ z := fun x => by subst x; rw [hz₂] at hoe; cases hoe; simp at hce
    refine wpAny_setField_rec (s := { s with heap := h₂ }) hz₂ (by simp) fun h₃ _ hs₃ => ?_
    replace hs₃ : Heap.SameBut z h₂ h₃ := hs₃
    exact hE h₃ s.toks e (jk z _ _ (.inl rfl) (jk i1 _ _ (.inr (.inr (.inl rfl))) j1 hs₂) hs₃.extBut) ⟨oe, hs₃.extBut _ _ hez hoe, hce⟩
  · refine wpAny_bind (n1 h₁ s.toks _ _ j1 ⟨o1, hs₁.extBut _ _ D.i1z ho1, hq1⟩ fun x h₂ t₂ hx h1₂ hs₂ => wpAny_pure ?_)
    have j2 : J h₂ := jk i1 _ _ (.inr (.inr (.inl rfl))) j1 hs₂.extBut
    have hTO₂ : IsPair h₂ TO a b := hs₂.extBut _ _ D.TOi1 (hs₁.extBut _ _ D.TOz hTO)
    refine wpAny_bind (wpAny_seqItems (s := { s with heap := h₂, toks := t₂ }) hTO₂ rfl ?_)
    refine wpAny_bind (wpAny_updateSeq_pair (s := { s with heap := h₂, toks := t₂ }) hTO₂ fun h₃ hTO₃ hs₃ => ?_)
    replace hs₃ : Heap.SameBut TO h₂ h₃ := hs₃
    have j3 : J h₃ := jk TO _ _ (.inr (.inl rfl)) j2 hs₃.extBut
    refine wpAny_bind (wpAny_letGo (wpAny_pure ?_))
    refine wpAny_bind (wpAny_bind (wpAny_onRaise ?_))
    show wpAny _ _ (Builtin.SmallTypes.nextOf (.ref i2) >>= _) _ _ _
    refine wpAny_bind (n2 h₃ t₂ _ _ j3 ⟨o2, hs₃.extBut _ _ D.TOi2.symm (hs₂.extBut _ _ D.i12.symm (hs₁.extBut _ _ D.i2z ho2)), hq2⟩ fun h₄ e hs₄ he => ?_)
    obtain ⟨oe, hoe, hce⟩ := he
    have hz₄ : IsZip h₄ z TI TO .ellipsis := hs₄ _ _ D.i2z.symm (hs₃.extBut _ _ D.TOz.symm (hs₂.extBut _ _ D.i1z.symm hz₁))
    have hez : e ≠ z := fun x => by subst x; rw [hz₄] at hoe; cases hoe; simp at hce
    refine wpAny_setField_rec (s := { s with heap := h₄, toks := t₂ }) hz₄ (by simp) fun h₅ _ hs₅ => ?_
    replace hs₅ : Heap.SameBut z h₄ h₅ := hs₅
    exact hE h₅ t₂ e (jk z _ _ (.inl rfl) (jk i2 _ _ (.inr (.inr (.inr rfl))) j3 hs₄) hs₅.extBut) ⟨oe, hs₅.extBut _ _ hez hoe, hce⟩
end
/-! the sources -/
inductive ZS
  | lst (a : Addr)
  | tup (a : Addr)
  | txt (z : Str) (t : Tok)
def ZS.has (K : PySem.W.Frag) (H : Hp) : ZS → List V → Prop
  | .lst a, xs => SqL K H a xs
  | .tup a, xs => SqT K H a xs
  | .txt z _, xs => xs = z.cps.toList.map fun c => V.str ⟨#[c]⟩
def ZS.it (q : ZS) (k : Nat) : Obj → Prop := match q with
  | .lst a => fun o => o.cls = .type "list_iterator" ∧ o.data = .fields #[.ref a, .int k 0]
  | .tup a => fun o => o.cls = .type "tuple_iterator" ∧ o.data = .fields #[.ref a, .int k 0]
  | .txt z t => fun o => o.cls = .type "str_ascii_iterator" ∧ o.data = .fields #[.str z t, .int k 0]
section
variable {X : Cx} {pins : List (Addr × Obj)} {σ : St} {H : Hp} {s : Shared}
def ZJ (X : Cx) (pins : List (Addr × Obj)) (σ : St) (H : Hp) (s : Shared) (h : Heap) : Prop := ∀ t, Inv X pins σ H { s with heap := h, toks := t }
theorem ZJ.keeps {b : Addr} {h h' : Heap} (f : FpOk X pins H b) (j : ZJ X pins σ H s h) (e : Heap.ExtBut b h h') : ZJ X pins σ H s h' := by
  obtain ⟨f0, f1, f2, f3, f4, f5⟩ := f
  exact fun t => (j t).turned (t' := t) (fun c o hc q => e c o hc q) f0 f1 f3 f4 f5
theorem ZS.inj {q : ZS} {xs ys : List V} (I : Inv X pins σ H s) (h : q.has X.K H xs) (h' : q.has X.K H ys) : xs = ys := by
  cases q with
  | lst l => exact I.list_inj h h'
  | tup l => exact I.tuple_inj h h'
  | txt z t =>
    have h1 : xs = z.cps.toList.map fun c => V.str ⟨#[c]⟩ := h
    have h2 : ys = z.cps.toList.map fun c => V.str ⟨#[c]⟩ := h'
    rw [h1, h2]
theorem ZS.draws {q : ZS} {i : Addr} {k : Nat} {xs : List V} {x : V} {A : Around} (hx : q.has X.K H xs) (e : xs[k]? = some x) :
    DrawsU X.prog X.w A s (ZJ X pins σ H s) i (q.it k) (q.it (k + 1)) (RelV x) := by
  intro h t Q E j a f
  have I := j t
  cases q with
  | lst l =>
    obtain ⟨its, rv, p, hz⟩ := I.list hx
    obtain ⟨u, hu, ru⟩ := rv.get e
    exact wpAny_nextOf_list_item (s := { s with heap := h, toks := t }) a p.isList (x := u) (by simpa using hu) fun h' st' sb => f u h' t ru st' sb
  | tup l =>
    obtain ⟨its, rv, p, hz⟩ := I.tuple hx
    obtain ⟨u, hu, ru⟩ := rv.get e
    exact nextOf_tuple_item (s := { s with heap := h, toks := t }) a (show h.IsTuple l its.toArray from p) (x := u) (by simpa using hu) fun h' st' sb => f u h' t ru st' sb
  | txt z tz =>
    have hx' : xs = z.cps.toList.map fun c => V.str ⟨#[c]⟩ := hx
    rw [hx', List.getElem?_map] at e
    cases hc : z.cps.toList[k]? with
    | none => rw [hc] at e; cases e
    | some c =>
      rw [hc] at e
      cases e
      exact wpAny_nextOf_ascii_item (s := { s with heap := h, toks := t }) a (c := c) (by simpa using hc) fun h' st' sb => f _ h' _ ⟨_, rfl⟩ st' sb
theorem ZS.ends {q : ZS} {i : Addr} {k : Nat} {xs : List V} {A : Around} (hA : A.handled = X.A.handled) (hx : q.has X.K H xs) (e : xs.length ≤ k) :
    EndsU X.prog X.w A s (ZJ X pins σ H s) i (q.it k) := by
  intro h t Q E j a f
  have I := j t
  have hh : HdAt A h := by
    have hd := I.hd
    unfold HdAt at hd ⊢
    rw [hA]
    exact hd
  cases q with
  | lst l =>
    obtain ⟨its, rv, p, hz⟩ := I.list hx
    have hl := rv.length
    exact nextOf_endH (s := { s with heap := h, toks := t }) hh a p.isList (by simp; omega) fun h' e eb he => f h' e eb he
  | tup l =>
    obtain ⟨its, rv, p, hz⟩ := I.tuple hx
    have hl := rv.length
    exact nextOf_tuple_endH (s := { s with heap := h, toks := t }) hh a (show h.IsTuple l its.toArray from p) (by simp; omega) fun h' e eb he => f h' e eb he
  | txt z tz =>
    have hx' : xs = z.cps.toList.map fun c => V.str ⟨#[c]⟩ := hx
    have hl : xs.length = z.cps.size := by rw [hx']; simp
    exact nextOf_ascii_endH (s := { s with heap := h, toks := t }) hh a (Array.getElem?_eq_none (by omega)) fun h' e eb he => f h' e eb he
end
/-- (x0, y0), (x1, y1), ..: each a new tuple -/
def Itz (K : PySem.W.Frag) (a b : ZS) : It :=
  ⟨fun i H => ∃ xs ys x y, a.has K H xs ∧ b.has K H ys ∧ xs[i]? = some x ∧ ys[i]? = some y, fun i H v H' => ∃ p x y, v = .ref p ∧ H p = none ∧ H' = upd H p (.tup [x, y]) ∧ (∀ xs, a.has K H xs → xs[i]? = some x) ∧ ∀ ys, b.has K H ys → ys[i]? = some y,
    fun i H => ∃ xs ys, a.has K H xs ∧ b.has K H ys ∧ (xs.length ≤ i ∨ (i < xs.length ∧ ys.length ≤ i))⟩
def zipAt (z TI TO i1 i2 : Addr) (a b : ZS) (k : Nat) (h : Heap) : Prop := IsZip h z TI TO .none ∧ IsPair h TI (.ref i1) (.ref i2) ∧ (∃ u v, IsPair h TO u v) ∧ (∃ o, h.get? i1 = some o ∧ a.it k o) ∧ ∃ o, h.get? i2 = some o ∧ b.it k o
theorem ZS.nocell {q : ZS} {k : Nat} {o : Obj} (h : q.it k o) : ∀ v, o.data ≠ .cell v := by
  intro v z
  cases q <;> (obtain ⟨_, d⟩ := h; rw [d] at z; cases z)
theorem turn_zip {P : Program} {w : World} {K : PySem.W.Frag} {elts : List Expr} {x1} {pos : Pos} (z TI TO i1 i2 : Addr) (a b : ZS) (D : ZAp z TI TO i1 i2) :
    Turn P w K (.Tuple elts x1 pos) (Itz K a b) [z, TI, TO, i1, i2] z (zipAt z TI TO i1 i2 a b) where
  mem := by simp
  obj := fun i h st c hc => by
    obtain ⟨hz, hTI, ⟨u, v, hTO⟩, ⟨o1, g1, d1⟩, o2, g2, d2⟩ := st
    simp only [List.mem_cons, List.not_mem_nil, or_false] at hc
    rcases hc with rfl | rfl | rfl | rfl | rfl
    · exact ⟨_, hz, fun v q => by have q' : Data.fields _ = Data.cell v := q; cases q'⟩
    · exact ⟨_, hTI, fun v q => by have q' : Data.seq _ _ = Data.cell v := q; cases q'⟩
    · exact ⟨_, hTO, fun v q => by have q' : Data.seq _ _ = Data.cell v := q; cases q'⟩
    · exact ⟨o1, g1, ZS.nocell d1⟩
    · exact ⟨o2, g2, ZS.nocell d2⟩
  keep := fun i h h' st k => by
    obtain ⟨hz, hTI, ⟨u, v, hTO⟩, ⟨o1, g1, d1⟩, o2, g2, d2⟩ := st
    exact ⟨k z (by simp) _ hz, k TI (by simp) _ hTI, ⟨u, v, k TO (by simp) _ hTO⟩, ⟨o1, k i1 (by simp) _ g1, d1⟩, o2, k i2 (by simp) _ g2, d2⟩
  item := by
    intro X hP hw hK hc i pins s σ H E I hf st hg
    subst hP hw hK
    obtain ⟨hz, hTI, ⟨u0, v0, hTO⟩, a1, a2⟩ := st
    obtain ⟨xs, ys, x, y, hxs, hys, hx, hy⟩ := hg
    have fz := hf z (by simp)
    have fO := hf TO (by simp)
    have f1 := hf i1 (by simp)
    have f2 := hf i2 (by simp)
    have j0 : ZJ X pins σ H s s.heap := fun t => I.tok t
    have jk : ∀ c h h', (c = z ∨ c = TO ∨ c = i1 ∨ c = i2) → ZJ X pins σ H s h → Heap.ExtBut c h h' → ZJ X pins σ H s h' := by
      rintro c h h' (rfl | rfl | rfl | rfl) j e
      · exact j.keeps fz e
      · exact j.keeps fO e
      · exact j.keeps f1 e
      · exact j.keeps f2 e
    have hT : s.TypeIs (.ref z) "zip" := ⟨_, hz, rfl⟩
    unfold pyNext
    refine wpAny_bind (wpAny_attempt (wpAny_callSpecial?_slot (name := Str.ofString "__next__") hT F.slot_zip_next
      (wpAny_call_entry F.slot_zip_next hT F.entry_zip_next
        (zip_itemG D jk j0 hz hTI hTO a1 a2 (ZS.draws hxs hx) (ZS.draws hys hy) fun h' t' u v ru rv b1 b2 b3 b4 b5 b6 b7 => wpAny_pure ?_) (F.args_zip_next_1 _))))
    refine ⟨_, rfl, wpAny_letOwnedTupleGo_zip (s := { s with heap := h', toks := t' }) b1 fun h2 hz2 hs2 => ?_⟩
    replace hs2 : Heap.SameBut z h' h2 := hs2
    have hzl : z < s.heap.objs.size := Heap.lt_size hz
    have hTOl : TO < s.heap.objs.size := Heap.lt_size hTO
    obtain ⟨o1, g1, d1⟩ := a1
    obtain ⟨o2, g2, d2⟩ := a2
    have hi1 : i1 < s.heap.objs.size := Heap.lt_size g1
    have hi2 : i2 < s.heap.objs.size := Heap.lt_size g2
    obtain ⟨p1, k1, e1⟩ := b3
    obtain ⟨p2, k2, e2⟩ := b4
    have k1' : h2.get? i1 = some p1 := hs2.extBut _ _ D.i1z k1
    have k2' : h2.get? i2 = some p2 := hs2.extBut _ _ D.i2z k2
    have kO' : IsPair h2 TO u v := hs2.extBut _ _ D.TOz b2
    have kI' : IsPair h2 TI (.ref i1) (.ref i2) := hs2.extBut _ _ D.TIz (b7 _ _ D.TIz D.TITO D.TIi1 D.TIi2 hTI)
    have kp' : IsPair h2 s.heap.objs.size u v := hs2.extBut _ _ (Nat.ne_of_gt hzl) b5
    have hall : ∀ c o, c ≠ z → c ≠ TO → c ≠ i1 → c ≠ i2 → s.heap.get? c = some o → h2.get? c = some o := fun c o c1 c2 c3 c4 e => hs2.extBut _ _ c1 (b7 c o c1 c2 c3 c4 e)
    have hfr : H s.heap.objs.size = none := I.hok.fresh (Nat.le_refl _)
    -- one place after the other, then the new tuple
    have step : ∀ (c : Addr) (oc : Obj) (h1 : Heap), FpOk X pins H c → ZJ X pins σ H s h1 → (∃ o', h1.get? c = some o') → oc.isFreed = false → ∃ h2' : Heap, ZJ X pins σ H s h2' ∧ h2'.get? c = some oc ∧ h2'.objs.size = h1.objs.size ∧ ∀ b o, b ≠ c → (h2'.get? b = some o ↔ h1.get? b = some o) := by
      intro c oc h1 fc j ⟨o', e'⟩ hnf
      refine ⟨h1.update c (fun _ => oc), j.keeps fc (Heap.SameBut.update ..).extBut, Heap.get?_update_self (fun _ => oc) e' hnf, Heap.size_update .., fun b o hb => ?_⟩
      rw [Heap.get?_update_other _ _ (Ne.symm hb)]
    obtain ⟨m1, j1, q1, z1, w1⟩ := step z _ s.heap fz j0 ⟨_, hz⟩ (show ({ cls := .type "zip", dict := none, data := .fields #[.none, .bool false, .bool false, .ref TI, .ref TO], slots := #[] } : Obj).isFreed = false from rfl)
    obtain ⟨m2, j2, q2, z2, w2⟩ := step TO { cls := .type "tuple", data := .seq #[u, v] } m1 fO j1 ⟨_, (w1 _ _ D.TOz).mpr hTO⟩ rfl
    obtain ⟨m3, j3, q3, z3, w3⟩ := step i1 p1 m2 f1 j2 ⟨_, (w2 _ _ D.TOi1.symm).mpr ((w1 _ _ D.i1z).mpr g1)⟩ ((Heap.get?_some_iff.mp k1').2)
    obtain ⟨m4, j4, q4, z4, w4⟩ := step i2 p2 m3 f2 j3 ⟨_, (w3 _ _ D.i12.symm).mpr ((w2 _ _ D.TOi2.symm).mpr ((w1 _ _ D.i2z).mpr g2))⟩ ((Heap.get?_some_iff.mp k2').2)
    have fin : ∀ c o, m4.get? c = some o → h2.get? c = some o := fun c o q => by
      by_cases c4 : c = i2
      · subst c4; rw [q4] at q; cases q; exact k2'
      have q := (w4 _ _ c4).mp q
      by_cases c3 : c = i1
      · subst c3; rw [q3] at q; cases q; exact k1'
      have q := (w3 _ _ c3).mp q
      by_cases c2 : c = TO
      · subst c2; rw [q2] at q; cases q; exact kO'
      have q := (w2 _ _ c2).mp q
      by_cases c1 : c = z
      · subst c1; rw [q1] at q; cases q; exact hz2
      exact hall c o c1 c2 c3 c4 ((w1 _ _ c1).mp q)
    have I3 : Inv X pins σ (upd H s.heap.objs.size (.tup [x, y])) { s with heap := h2, toks := t' } :=
      (j4 s.toks).laid (a := s.heap.objs.size) (t' := t') fin (by show m4.objs.size ≤ _; rw [z4, z3, z2, z1]; exact Nat.le_refl _)
        (show ObjOk X.prog X.w _ h2 _ (.tup [x, y]) from ⟨by rw [sizeLine_eq]; simp, [u, v], .cons ru (.cons rv .nil), ⟨_, kp', rfl, _, rfl⟩⟩)
    refine ⟨.ref s.heap.objs.size, _, I3, rfl, ⟨_, x, y, rfl, hfr, rfl, fun xs' h' => by rw [ZS.inj I h' hxs]; exact hx, fun ys' h' => by rw [ZS.inj I h' hys]; exact hy⟩, ⟨hz2, kI', ⟨u, v, kO'⟩, ⟨p1, k1', e1⟩, p2, k2', e2⟩, fun c hc => ?_⟩
    have hc' : c ≠ s.heap.objs.size := by
      simp only [List.mem_cons, List.not_mem_nil, or_false] at hc
      rcases hc with rfl | rfl | rfl | rfl | rfl
      · exact Nat.ne_of_lt hzl
      · exact Nat.ne_of_lt (Heap.lt_size hTI)
      · exact Nat.ne_of_lt hTOl
      · exact Nat.ne_of_lt hi1
      · exact Nat.ne_of_lt hi2
    show upd H s.heap.objs.size _ c = none
    rw [upd_ne hc']
    exact (hf c hc).1
  done := by
    intro X hP hw hK hc i pins s σ H E I hf st hg
    subst hP hw hK
    obtain ⟨hz, hTI, ⟨u0, v0, hTO⟩, a1, a2⟩ := st
    obtain ⟨xs, ys, hxs, hys, hend⟩ := hg
    have fz := hf z (by simp)
    have fO := hf TO (by simp)
    have f1 := hf i1 (by simp)
    have f2 := hf i2 (by simp)
    have j0 : ZJ X pins σ H s s.heap := fun t => I.tok t
    have jk : ∀ c h h', (c = z ∨ c = TO ∨ c = i1 ∨ c = i2) → ZJ X pins σ H s h → Heap.ExtBut c h h' → ZJ X pins σ H s h' := by
      rintro c h h' (rfl | rfl | rfl | rfl) j e
      · exact j.keeps fz e
      · exact j.keeps fO e
      · exact j.keeps f1 e
      · exact j.keeps f2 e
    have hT : s.TypeIs (.ref z) "zip" := ⟨_, hz, rfl⟩
    unfold pyNext
    refine wpAny_bind (wpAny_attempt (wpAny_callSpecial?_slot (name := Str.ofString "__next__") hT F.slot_zip_next
      (wpAny_call_entry F.slot_zip_next hT F.entry_zip_next (zip_endG (p1 := a.it (i + 1)) (r1 := fun _ => True) D jk j0 hz hTI hTO a1 a2 ?_ fun h' t' e hj he => ?_) (F.args_zip_next_1 _))))
    · rcases hend with hl | ⟨hi, hl⟩
      · exact .inl (ZS.ends rfl hxs hl)
      · refine .inr ⟨fun h t Q E j a f => ZS.draws hxs (List.getElem?_eq_getElem hi) h t Q E j a fun u h' t' _ c1 c2 => f u h' t' trivial c1 c2, ZS.ends rfl hys hl⟩
    · obtain ⟨o, ho, hc⟩ := he
      refine wpAny_bind (wpAny_isInstance (s := { s with heap := h', toks := t' }) (T := "StopIteration") (b := true) ⟨o, ho, hc⟩ isSubtype_stop ?_)
      exact wpAny_pure ⟨rfl, hj t'⟩
  self := fun _ _ _ _ _ st h => wpAny_pyIter_zip st.1 h
/-! zip(a, b) made -/
theorem boot_zip : bootBuiltins "zip" = some (.type "zip") := by decide +kernel
theorem zap_new (n : Nat) : ZAp (n + 4) (n + 2) (n + 3) n (n + 1) := by
  constructor <;> (intro z; have z' : (_ : Nat) = _ := z; omega)
abbrev zstH1 (h : Heap) (x : Str) (t : Tok) : Heap := h.push { cls := .type "str_ascii_iterator", data := .fields #[.str x t, .int 0 0] }
abbrev zstH2 (h : Heap) (x : Str) (t : Tok) (l : Addr) : Heap := (zstH1 h x t).push { cls := .type "tuple_iterator", data := .fields #[.ref l, .int 0 0] }
abbrev zstH3 (h : Heap) (x : Str) (t : Tok) (l : Addr) : Heap := (zstH2 h x t l).push { cls := .type "tuple", data := .seq #[.ref h.objs.size, .ref (zstH1 h x t).objs.size] }
abbrev zstH4 (h : Heap) (x : Str) (t : Tok) (l : Addr) : Heap := (zstH3 h x t l).push { cls := .type "tuple", data := .seq #[.none, .none] }
abbrev zstH5 (h : Heap) (x : Str) (t : Tok) (l : Addr) : Heap := (zstH4 h x t l).push { cls := .type "zip", data := .fields #[.none, .bool false, .bool false, .ref (zstH2 h x t l).objs.size, .ref (zstH3 h x t l).objs.size] }
theorem meets_zip_newST (x : Str) (t : Tok) (l : Addr) (ys : Array Value) :
    Meets (Builtin.«zip.__new__» ⟨[.type "zip", .str x t, .ref l], []⟩) (fun _ R s => x.cps.all (· < 128) = true ∧ s.heap.IsTuple l ys ∧
      R (.ok (.ret (.ref (zstH4 s.heap x t l).objs.size))) { s with heap := zstH5 s.heap x t l }) :=
  .of_wp fun prog w A R s h => by
    obtain ⟨hp, g, d, tk, os⟩ := s; obtain ⟨hx, hl2, h⟩ := h
    have hsub := sub_zip
    have hL2 : Heap.IsTuple (Shared.heap ⟨hp.push { cls := .type "str_ascii_iterator", data := .fields #[.str x t, .int 0 0] }, g, d, tk, os⟩) l ys := let ⟨o, ho, r⟩ := hl2; ⟨o, Heap.get?_push_of_some _ ho, r⟩
    wp_walk using wpAny_pyIter_ascii hx, wpAny_pyIter_tuple hL2
    exact ⟨_, rfl, h⟩
section
variable {prog : Program} {w : World} {A : Around} {E : Value → Shared → Prop} {s : Shared}
theorem call_zip_st {x : Str} {t : Tok} {l : Addr} {ys : Array Value} {Q : Value → Shared → Prop} (hx : x.cps.all (· < 128) = true) (hl2 : s.heap.IsTuple l ys)
    (h : ∀ h', IsZip h' (s.heap.objs.size + 4) (s.heap.objs.size + 2) (s.heap.objs.size + 3) .none → IsPair h' (s.heap.objs.size + 2) (.ref s.heap.objs.size) (.ref (s.heap.objs.size + 1)) →
      IsPair h' (s.heap.objs.size + 3) .none .none → h'.IsStrIter s.heap.objs.size "str_ascii_iterator" x t 0 → h'.IsTupleIter (s.heap.objs.size + 1) l 0 → h'.objs.size = s.heap.objs.size + 5 →
      (∀ c o, s.heap.get? c = some o → h'.get? c = some o) → Q (.ref (s.heap.objs.size + 4)) { s with heap := h' }) :
    wpAny (model prog w) A (call (.type "zip") [.str x t, .ref l]) Q E s := by
  refine callType_new F.called_zip (by decide) (F.typeCall_zip_2 _ _) (F.newCall_zip_2 _ _) (fun obj => F.args_object_init_3 obj _ _) F.entry_zip_new
    (meets_zip_newST x t l ys) ⟨hx, hl2, ?_⟩
  have z1 : (zstH1 s.heap x t).objs.size = s.heap.objs.size + 1 := Heap.size_push ..
  have z2 : (zstH2 s.heap x t l).objs.size = s.heap.objs.size + 2 := by rw [Heap.size_push, z1]
  have z3 : (zstH3 s.heap x t l).objs.size = s.heap.objs.size + 3 := by rw [Heap.size_push, z2]
  have z4 : (zstH4 s.heap x t l).objs.size = s.heap.objs.size + 4 := by rw [Heap.size_push, z3]
  have z5 : (zstH5 s.heap x t l).objs.size = s.heap.objs.size + 5 := by rw [Heap.size_push, z4]
  have g5 : (zstH5 s.heap x t l).get? (zstH4 s.heap x t l).objs.size = some _ := Heap.get?_push_size _ rfl
  have g4 : (zstH5 s.heap x t l).get? (zstH3 s.heap x t l).objs.size = some _ := Heap.get?_push_of_some _ (Heap.get?_push_size _ rfl)
  have g3 : (zstH5 s.heap x t l).get? (zstH2 s.heap x t l).objs.size = some _ := Heap.get?_push_of_some _ (Heap.get?_push_of_some _ (Heap.get?_push_size _ rfl))
  have g2 : (zstH5 s.heap x t l).get? (zstH1 s.heap x t).objs.size = some _ := Heap.get?_push_of_some _ (Heap.get?_push_of_some _ (Heap.get?_push_of_some _ (Heap.get?_push_size _ rfl)))
  have g1 : (zstH5 s.heap x t l).get? s.heap.objs.size = some _ := Heap.get?_push_of_some _ (Heap.get?_push_of_some _ (Heap.get?_push_of_some _ (Heap.get?_push_of_some _ (Heap.get?_push_size _ rfl))))
  show _ ∧ _
  rw [z2, z3, z4] at g5
  rw [z1, z2] at g3
  rw [z3] at g4
  rw [z1] at g2
  rw [z4]
  exact ⟨⟨_, g5, rfl⟩, h _ g5 g3 g4 ⟨_, g1, rfl, rfl⟩ ⟨_, g2, rfl, rfl⟩ z5 fun c o x =>
    Heap.get?_push_of_some _ (Heap.get?_push_of_some _ (Heap.get?_push_of_some _ (Heap.get?_push_of_some _ (Heap.get?_push_of_some _ x))))⟩
end
section
variable {X : Cx} {elts : List Expr} {pos : Pos}
theorem zip_fp {pins : List (Addr × Obj)} {σ : St} {H : Hp} {s : Shared} (I : Inv X pins σ H s) : ∀ b ∈ [s.heap.objs.size + 4, s.heap.objs.size + 2, s.heap.objs.size + 3, s.heap.objs.size, s.heap.objs.size + 1], FpOk X pins H b := by
  intro b hb
  have hb' : s.heap.objs.size ≤ b := by
    simp only [List.mem_cons, List.not_mem_nil, or_false] at hb
    rcases hb with rfl | rfl | rfl | rfl | rfl
    · exact Nat.le_add_right _ _
    · exact Nat.le_add_right _ _
    · exact Nat.le_add_right _ _
    · exact Nat.le_refl _
    · exact Nat.le_add_right _ _
  exact I.fpOk hb' (I.hok.fresh hb')
def iZipL (K : PySem.W.Frag) (ta : TA) : TI := fun σ H R => ta σ H fun vs H1 => ∃ a b, vs = [.ref a, .ref b] ∧ (∃ xs, SqL K H1 a xs) ∧ (∃ ys, SqL K H1 b ys) ∧ R (Itz K (.lst a) (.lst b)) H1
def iZipT (K : PySem.W.Frag) (ta : TA) : TI := fun σ H R => ta σ H fun vs H1 => ∃ z b, vs = [.str z, .ref b] ∧ z.cps.all (· < 128) = true ∧ (∃ ys, SqT K H1 b ys) ∧ ∀ t, R (Itz K (.txt z t) (.tup b)) H1
theorem pi_zipT {l m : Expr} {ta : TA} {x1} {p cpos : Pos} (hg : Gl X "zip") (hm : X.mg "zip" = none) (ha : PA X [l, m] ta) (he : starEach [l, m] X.env = (false, eval l X.env) :: starEach [m] X.env := by rfl) (hpl : (backTo cpos (starEach [m] X.env)).any (·.1) = false := by rfl) :
    PI X (.Tuple elts x1 pos) (.Call (.Name "zip" p) [l, m] [] cpos) (iZipT X.K ta) := by
  intro pins s σ H R I h
  refine Call_ (ld_blt I hg hm boot_zip (PyProof.Rows.callWith_type1 (thn (ha cpos pins s σ H _ I h) fun us s1 ⟨vs, H1, I1, r1, q1⟩ => ?_) he hpl))
  obtain ⟨z, b, e, hzx, ⟨ys, hy⟩, q⟩ := q1
  subst e
  obtain ⟨u, v, rfl, rx, ry⟩ := Vals.two r1
  obtain ⟨t, rfl⟩ := rx
  cases ry
  obtain ⟨its2, rv2, pl2, hz2⟩ := I1.tuple hy
  refine call_zip_st hzx (show s1.heap.IsTuple b its2.toArray from pl2) fun h' hzp hTI hTO hi1 hi2 hsz hk => ?_
  refine wpAny_pyIter_zip (s := { s1 with heap := h' }) hzp ?_
  exact ⟨s1.heap.objs.size + 4, _, _, _, H1, rfl, I1.kept (t' := s1.toks) hk, turn_zip _ (s1.heap.objs.size + 2) (s1.heap.objs.size + 3) s1.heap.objs.size (s1.heap.objs.size + 1) (.txt z t) (.tup b) (zap_new _), ⟨hzp, hTI, ⟨_, _, hTO⟩, hi1, hi2⟩, zip_fp I1, q t⟩
end
end L2
end
section
set_option Elab.async false
set_option linter.all false
set_option maxRecDepth 100000
set_option maxHeartbeats 4000000
/-! comprehensions whose parts tell values and make nothing that is kept -/
namespace BK
open PySem L2
theorem lc_pure {It0 : It} {fj : List (Str × Nat)} {tc : TT} {te : TE} {σ : St} {H : Hp} {Q : Addr → Hp → Prop} (xs : List V) (hn : xs.length ≤ 1000) (hgo : ∀ i H', i < xs.length → Same H H' → It0.go i H') (hstop : ∀ H', Same H H' → It0.stop xs.length H')
    (hy : ∀ i H1 x H', i < xs.length → Same H H1 → It0.yld i H1 x H' → H' = H1 ∧ xs[i]? = some x) (p : V → Bool) (f : V → V)
    (ht : ∀ x H' (Qf : Bool → Hp → Prop), x ∈ xs → Same H H' → (∀ H3, Same H' H3 → Qf (p x) H3) → tc (some x :: frees σ fj) H' Qf)
    (hs : ∀ x H' (Qf : VK), x ∈ xs → p x = true → Same H H' → (∀ H3, Same H' H3 → Qf (f x) H3) → te (some x :: frees σ fj) H' Qf)
    (hd : ∀ acc H', H acc = none → Same H H' → H' acc = some (.lst ((xs.filter p).map f)) → Q acc H') :
    ∀ acc, H acc = none → ∃ W : Nat → Nat → List V → Hp → Prop, (∃ m, W 0 m [] (upd H acc (.lst []))) ∧ ∀ i m ys H, W i m ys H →
      (It0.stop i H ∧ Q acc H) ∨ (It0.go i H ∧ ∀ x H', It0.yld i H x H' → tc (some x :: frees σ fj) H' fun b H2 =>
        if b = true then te (some x :: frees σ fj) H2 fun v H3 => H3 acc = some (.lst ys) ∧ ys.length < sizeLine ∧ ∃ m', m' < m ∧ W (i + 1) m' (ys ++ [v]) (upd H3 acc (.lst (ys ++ [v])))
        else ∃ m', m' < m ∧ W (i + 1) m' ys H2) := by
  intro acc hacc
  refine ⟨fun i m ys H' => m = xs.length - i ∧ i ≤ xs.length ∧ ys = ((xs.take i).filter p).map f ∧ H' acc = some (.lst ys) ∧ Same H H', ⟨xs.length, by simp, Nat.zero_le _, by simp, upd_same, same_new hacc _⟩, ?_⟩
  rintro i m ys H' ⟨rfl, hi, rfl, h1, s1⟩
  by_cases hx : i < xs.length
  · refine .inr ⟨hgo i H' hx s1, fun v H2 hv' => ?_⟩
    obtain ⟨rfl, hv⟩ := hy i H' v H2 hx s1 hv'
    have hm := List.mem_of_getElem? hv
    have lt : (((xs.take i).filter p).map f).length < sizeLine := small1000 (by
      rw [List.length_map]
      have := List.length_filter_le p (xs.take i)
      rw [List.length_take] at this
      omega)
    have tk : xs.take (i + 1) = xs.take i ++ [v] := by rw [List.take_add_one, hv]; rfl
    refine ht v _ _ hm s1 fun H3 s3 => ?_
    cases e : p v with
    | false =>
      refine iteF ⟨xs.length - (i + 1), by omega, rfl, hx, ?_, s3 _ _ h1, s1.trans s3⟩
      rw [tk, List.filter_append, List.filter_cons, if_neg (by rw [e]; exact Bool.false_ne_true), List.filter_nil, List.append_nil]
    | true =>
      refine iteT (hs v _ _ hm e (s1.trans s3) fun H4 s4 => ?_)
      refine ⟨s4 _ _ (s3 _ _ h1), lt, xs.length - (i + 1), by omega, rfl, hx, ?_, upd_same, same_upd hacc ((s1.trans s3).trans s4) _⟩
      rw [tk, List.filter_append, List.filter_cons, if_pos e, List.filter_nil, List.map_append]
      rfl
  · have e : i = xs.length := by omega
    subst e
    refine .inl ⟨hstop H' s1, hd acc H' hacc s1 ?_⟩
    rw [List.take_length] at h1
    exact h1
section
variable {K : PySem.W.Frag} {fj : List (Str × Nat)} {tc : TT} {te : TE} {σ : St} {H : Hp} {Q : Addr → Hp → Prop}
theorem lc_pureL {a : Addr} {xs : List V} (hn : xs.length ≤ 1000) (ha : SqL K H a xs) (p : V → Bool) (f : V → V)
    (ht : ∀ x H' (Qf : Bool → Hp → Prop), x ∈ xs → Same H H' → (∀ H3, Same H' H3 → Qf (p x) H3) → tc (some x :: frees σ fj) H' Qf)
    (hs : ∀ x H' (Qf : VK), x ∈ xs → p x = true → Same H H' → (∀ H3, Same H' H3 → Qf (f x) H3) → te (some x :: frees σ fj) H' Qf)
    (hd : ∀ acc H', H acc = none → Same H H' → H' acc = some (.lst ((xs.filter p).map f)) → Q acc H') :
    ∀ acc, H acc = none → ∃ W : Nat → Nat → List V → Hp → Prop, (∃ m, W 0 m [] (upd H acc (.lst []))) ∧ ∀ i m ys H, W i m ys H →
      ((Itl K a).stop i H ∧ Q acc H) ∨ ((Itl K a).go i H ∧ ∀ x H', (Itl K a).yld i H x H' → tc (some x :: frees σ fj) H' fun b H2 =>
        if b = true then te (some x :: frees σ fj) H2 fun v H3 => H3 acc = some (.lst ys) ∧ ys.length < sizeLine ∧ ∃ m', m' < m ∧ W (i + 1) m' (ys ++ [v]) (upd H3 acc (.lst (ys ++ [v])))
        else ∃ m', m' < m ∧ W (i + 1) m' ys H2) :=
  lc_pure xs hn (fun i H' hi s => ⟨xs, xs[i], s.seq ha, List.getElem?_eq_getElem hi⟩) (fun H' s => ⟨xs, s.seq ha, Nat.le_refl _⟩) (fun i H1 x H' _ s y => ⟨y.1, y.2 xs (s.seq ha)⟩) p f ht hs hd
theorem lc_pureT {a : Addr} {xs : List V} (hn : xs.length ≤ 1000) (ha : ∀ H', Same H H' → SqT K H' a xs) (p : V → Bool) (f : V → V)
    (ht : ∀ x H' (Qf : Bool → Hp → Prop), x ∈ xs → Same H H' → (∀ H3, Same H' H3 → Qf (p x) H3) → tc (some x :: frees σ fj) H' Qf)
    (hs : ∀ x H' (Qf : VK), x ∈ xs → p x = true → Same H H' → (∀ H3, Same H' H3 → Qf (f x) H3) → te (some x :: frees σ fj) H' Qf)
    (hd : ∀ acc H', H acc = none → Same H H' → H' acc = some (.lst ((xs.filter p).map f)) → Q acc H') :
    ∀ acc, H acc = none → ∃ W : Nat → Nat → List V → Hp → Prop, (∃ m, W 0 m [] (upd H acc (.lst []))) ∧ ∀ i m ys H, W i m ys H →
      ((Itt K a).stop i H ∧ Q acc H) ∨ ((Itt K a).go i H ∧ ∀ x H', (Itt K a).yld i H x H' → tc (some x :: frees σ fj) H' fun b H2 =>
        if b = true then te (some x :: frees σ fj) H2 fun v H3 => H3 acc = some (.lst ys) ∧ ys.length < sizeLine ∧ ∃ m', m' < m ∧ W (i + 1) m' (ys ++ [v]) (upd H3 acc (.lst (ys ++ [v])))
        else ∃ m', m' < m ∧ W (i + 1) m' ys H2) :=
  lc_pure xs hn (fun i H' hi s => ⟨xs, xs[i], ha _ s, List.getElem?_eq_getElem hi⟩) (fun H' s => ⟨xs, ha _ s, Nat.le_refl _⟩) (fun i H1 x H' _ s y => ⟨y.1, y.2 xs (ha _ s)⟩) p f ht hs hd
theorem lc_pureX {z : Str} {cs : List Nat} (hz : z.cps = cs.toArray) (hn : cs.length ≤ 1000) (p : V → Bool) (f : V → V)
    (ht : ∀ x H' (Qf : Bool → Hp → Prop), x ∈ cs.map (fun c => V.str ⟨#[c]⟩) → Same H H' → (∀ H3, Same H' H3 → Qf (p x) H3) → tc (some x :: frees σ fj) H' Qf)
    (hs : ∀ x H' (Qf : VK), x ∈ cs.map (fun c => V.str ⟨#[c]⟩) → p x = true → Same H H' → (∀ H3, Same H' H3 → Qf (f x) H3) → te (some x :: frees σ fj) H' Qf)
    (hd : ∀ acc H', H acc = none → Same H H' → H' acc = some (.lst (((cs.map fun c => V.str ⟨#[c]⟩).filter p).map f)) → Q acc H') :
    ∀ acc, H acc = none → ∃ W : Nat → Nat → List V → Hp → Prop, (∃ m, W 0 m [] (upd H acc (.lst []))) ∧ ∀ i m ys H, W i m ys H →
      ((Itx z).stop i H ∧ Q acc H) ∨ ((Itx z).go i H ∧ ∀ x H', (Itx z).yld i H x H' → tc (some x :: frees σ fj) H' fun b H2 =>
        if b = true then te (some x :: frees σ fj) H2 fun v H3 => H3 acc = some (.lst ys) ∧ ys.length < sizeLine ∧ ∃ m', m' < m ∧ W (i + 1) m' (ys ++ [v]) (upd H3 acc (.lst (ys ++ [v])))
        else ∃ m', m' < m ∧ W (i + 1) m' ys H2) := by
  have hsz : z.cps.size = cs.length := by rw [hz]; simp
  refine lc_pure (cs.map fun c => V.str ⟨#[c]⟩) (by rw [List.length_map]; exact hn) (fun i H' hi s => by show i < z.cps.size; rw [List.length_map] at hi; omega) (fun H' s => by show z.cps.size ≤ _; rw [List.length_map]; omega) (fun i H1 x H' _ s y => ⟨y.1, ?_⟩) p f ht hs hd
  obtain ⟨_, c, hc, rfl⟩ := y
  rw [hz] at hc
  rw [List.getElem?_map]
  have hc' : cs[i]? = some c := by simpa using hc
  rw [hc']
  rfl
end
/-- the one sign of a text -/
def chrV : V → Nat
  | .str z => z.cps.getD 0 0
  | _ => 0
theorem filter_all {α : Type} (xs : List α) : (xs.filter fun _ => true) = xs := List.filter_eq_self.mpr fun _ _ => rfl
/-- [e for x, y in zip(a, b)], e a value of both -/
theorem lc2_map {K : PySem.W.Frag} {a b : ZS} {xs ys : List V} {fj : List (Str × Nat)} {te : TE} {σ : St} {H : Hp} {Q : Addr → Hp → Prop} (hn : xs.length ≤ 1000) (ha : ∀ H', Same H H' → a.has K H' xs) (hb : ∀ H', Same H H' → b.has K H' ys)
    (f : V → V → V) (hs : ∀ (i : Nat) x y H' (Qf : VK), xs[i]? = some x → ys[i]? = some y → Same H H' → (∀ H3, Same H' H3 → Qf (f x y) H3) → te (some x :: some y :: frees σ fj) H' Qf)
    (hd : ∀ acc H', H acc = none → Same H H' → H' acc = some (.lst (List.zipWith f xs ys)) → Q acc H') :
    ∀ acc, H acc = none → ∃ W : Nat → Nat → List V → Hp → Prop, (∃ m, W 0 m [] (upd H acc (.lst []))) ∧ ∀ i m zs H, W i m zs H →
      ((Itz K a b).stop i H ∧ Q acc H) ∨ ((Itz K a b).go i H ∧ ∀ x H', (Itz K a b).yld i H x H' → ∀ o1 o2, gTup K 2 (gCons (gName 0) (gCons (gName 1) gNil)) x (o1 :: o2 :: frees σ fj) H' fun σ2 H4 => ∃ a b, σ2 = some a :: some b :: frees σ fj ∧ tYes σ2 H4 fun b H2 =>
        if b = true then te σ2 H2 fun v H3 => H3 acc = some (.lst zs) ∧ zs.length < sizeLine ∧ ∃ m', m' < m ∧ W (i + 1) m' (zs ++ [v]) (upd H3 acc (.lst (zs ++ [v])))
        else ∃ m', m' < m ∧ W (i + 1) m' zs H2) := by
  intro acc hacc
  refine ⟨fun i m zs H' => m = xs.length - i ∧ i ≤ xs.length ∧ i ≤ ys.length ∧ zs = (List.zipWith f xs ys).take i ∧ H' acc = some (.lst zs) ∧ Same H H', ⟨xs.length, by simp, Nat.zero_le _, Nat.zero_le _, by simp, upd_same, same_new hacc _⟩, ?_⟩
  rintro i m zs H' ⟨rfl, hi, hj, rfl, h1, s1⟩
  by_cases hx : i < xs.length
  · by_cases hy : i < ys.length
    · have ex : xs[i]? = some xs[i] := List.getElem?_eq_getElem hx
      have ey : ys[i]? = some ys[i] := List.getElem?_eq_getElem hy
      refine .inr ⟨⟨xs, ys, _, _, ha _ s1, hb _ s1, ex, ey⟩, fun v H2 hv o1 o2 => ?_⟩
      obtain ⟨p, x, y, rfl, hp, rfl, gx, gy⟩ := hv
      have e1 := (gx xs (ha _ s1)).symm.trans ex
      have e2 := (gy ys (hb _ s1)).symm.trans ey
      cases e1
      cases e2
      refine ⟨p, [xs[i], ys[i]], rfl, SqT.of upd_same, rfl, xs[i], [ys[i]], rfl, ys[i], [], rfl, rfl, xs[i], ys[i], rfl, ?_⟩
      dsimp only [tYes]
      rw [if_pos rfl]
      have s2 : Same H (upd H' p (.tup [xs[i], ys[i]])) := s1.trans (same_new hp _)
      refine hs i _ _ _ _ ex ey s2 fun H3 s3 => ?_
      have h3 : H3 acc = some (.lst ((List.zipWith f xs ys).take i)) := s3 _ _ (by rw [upd_ne (ne_of_none h1 hp)]; exact h1)
      refine ⟨h3, small1000 (by rw [List.length_take]; simp; omega), xs.length - (i + 1), by omega, rfl, hx, hy, ?_, upd_same, same_upd hacc (s2.trans s3) _⟩
      rw [List.take_add_one]
      congr 1
      rw [List.getElem?_zipWith, ex, ey]
      rfl
    · refine .inl ⟨⟨xs, ys, ha _ s1, hb _ s1, .inr ⟨hx, by omega⟩⟩, hd acc H' hacc s1 ?_⟩
      rw [List.take_of_length_le (by simp; omega)] at h1
      exact h1
  · refine .inl ⟨⟨xs, ys, ha _ s1, hb _ s1, .inl (by omega)⟩, hd acc H' hacc s1 ?_⟩
    rw [List.take_of_length_le (by simp; omega)] at h1
    exact h1
end BK
namespace L2
open PySem
section
variable {es : List Expr} {env : Env}
theorem star_con {v i p} : starEach (.Constant v i p :: es) env = (false, eval (.Constant v i p) env) :: starEach es env := rfl
theorem star_tup {v i p} : starEach (.Tuple v i p :: es) env = (false, eval (.Tuple v i p) env) :: starEach es env := rfl
theorem star_lst {v p} : starEach (.List v p :: es) env = (false, eval (.List v p) env) :: starEach es env := rfl
theorem star_dic {v i p} : starEach (.Dict v i p :: es) env = (false, eval (.Dict v i p) env) :: starEach es env := rfl
theorem star_nam {v p} : starEach (.Name v p :: es) env = (false, eval (.Name v p) env) :: starEach es env := rfl
end
/-- x = [..][i], alone in its block: for displays of written constants alone, whose reading runs long else -/
theorem ps_setIx {X : Cx} {i : Nat} {x : Str} {L idx : Expr} {p1 p2 p3 : Pos} {tl ti : TE} (hN : X.N.Nodup) (hi : X.N[i]? = some x) (hx : Loc X.env.scope x) (hL : PE X L tl) (hI : PE X idx ti) (hix : PlainIx idx)
    (hs : swapsWith (.Subscript L idx p2) (some (.Name x p1)) p3.line X.env = pure false) (hf : X.fn x = true ∨ X.env.scope.names.lookup x = some .local) (hfx : ∀ p ∈ X.fx, p.1 ≠ x) :
    PSs X [.Assign [.Name x p1] (.Subscript L idx p2) p3] (tAsg (tOp (rIxL X.K) tl ti) (gName i)) := pss_one (ps_set hN hi hx (pe_ix ix_list hL hI hix) hs hf hfx)
end L2
end
section
set_option Elab.async false
set_option linter.all false
set_option maxRecDepth 100000
set_option maxHeartbeats 4000000
namespace K15
open PySem L2 BK
def top (i : Nat) : Stmt := PySem.Challenge.pw_blockkeep_k15_names_in_words.main.body.getD i (.Pass ⟨0, 0, 0, 0⟩)
abbrev s__law_cell_at : Stmt := top 32
theorem sc__law_cell_at : FnScope ["_law_script", "_law_k"] ["_law_script", "_law_k"] (defScope s__law_cell_at) := ⟨rfl, rfl, rfl, by decide +kernel, rfl, by decide +kernel, by decide +kernel⟩
abbrev s__law_letter : Stmt := top 33
theorem sc__law_letter : FnScope ["_law_number"] ["_law_number"] (defScope s__law_letter) := ⟨rfl, rfl, rfl, by decide +kernel, rfl, by decide +kernel, by decide +kernel⟩
abbrev s__law_sign : Stmt := top 34
theorem sc__law_sign : FnScope ["_law_cell", "_law_signs"] ["_law_cell"] (defScope s__law_sign) := ⟨rfl, rfl, rfl, by decide +kernel, rfl, by decide +kernel, by decide +kernel⟩
abbrev s__law_text : Stmt := top 35
theorem sc__law_text : FnScope ["_law_script", "_law_size", "_law_step", "_law_text_here", "_law_at"] ["_law_script"] (defScope s__law_text) := ⟨rfl, rfl, rfl, by decide +kernel, rfl, by decide +kernel, by decide +kernel⟩
abbrev s__law_good : Stmt := top 36
theorem sc__law_good : FnScope ["_law_thing"] ["_law_thing"] (defScope s__law_good) := ⟨rfl, rfl, rfl, by decide +kernel, rfl, by decide +kernel, by decide +kernel⟩
abbrev s_is_name : Stmt := top 26
theorem sc_is_name : FnScope ["thing"] ["thing"] (defScope s_is_name) := ⟨rfl, rfl, rfl, by decide +kernel, rfl, by decide +kernel, by decide +kernel⟩
abbrev s__law_drawn : Stmt := top 41
theorem sc__law_drawn : FnScope ["_law_script", "_law_words_here", "_law_cell", "_law_word", "_law_step"] ["_law_script"] (defScope s__law_drawn) := ⟨rfl, rfl, rfl, by decide +kernel, rfl, by decide +kernel, by decide +kernel⟩
abbrev s_word_of : Stmt := top 29
theorem sc_word_of : FnScope ["letters"] ["letters"] (defScope s_word_of) := ⟨rfl, rfl, rfl, by decide +kernel, rfl, by decide +kernel, by decide +kernel⟩
abbrev s_name_words : Stmt := top 27
theorem sc_name_words : FnScope ["name", "step"] ["name"] (defScope s_name_words) := ⟨rfl, rfl, rfl, by decide +kernel, rfl, by decide +kernel, by decide +kernel⟩
abbrev s_letters_of : Stmt := top 30
theorem sc_letters_of : FnScope ["word", "places"] ["word"] (defScope s_letters_of) := ⟨rfl, rfl, rfl, by decide +kernel, rfl, by decide +kernel, by decide +kernel⟩
abbrev s_name_of : Stmt := top 28
theorem sc_name_of : FnScope ["words", "name"] ["words"] (defScope s_name_of) := ⟨rfl, rfl, rfl, by decide +kernel, rfl, by decide +kernel, by decide +kernel⟩
abbrev s__law_kind : Stmt := top 39
theorem sc__law_kind : FnScope ["_law_error"] ["_law_error"] (defScope s__law_kind) := ⟨rfl, rfl, rfl, by decide +kernel, rfl, by decide +kernel, by decide +kernel⟩
abbrev s__law_asked : Stmt := top 40
theorem sc__law_asked : FnScope ["_law_which", "_law_thing", "_law_caught", "_law_found", "_law_error"] ["_law_which", "_law_thing"] (defScope s__law_asked) := ⟨rfl, rfl, rfl, by decide +kernel, rfl, by decide +kernel, by decide +kernel⟩
abbrev s__law_words : Stmt := top 37
theorem sc__law_words : FnScope ["_law_name_here", "_law_numbers", "_law_words_here", "_law_at", "_law_word"] ["_law_name_here"] (defScope s__law_words) := ⟨rfl, rfl, rfl, by decide +kernel, rfl, by decide +kernel, by decide +kernel⟩
abbrev s__law_name : Stmt := top 38
theorem sc__law_name : FnScope ["_law_words_here", "_law_name_here", "_law_numbers", "_law_word", "_law_number"] ["_law_words_here"] (defScope s__law_name) := ⟨rfl, rfl, rfl, by decide +kernel, rfl, by decide +kernel, by decide +kernel⟩
abbrev s_law : Stmt := top 42
theorem sc_law : FnScope ["_law_script", "_law_thing", "_law_due", "_law_found", "_law_words_here", "_law_word", "_law_told", "_law_handed", "_law_name_here"] ["_law_script"] (defScope s_law) := ⟨rfl, rfl, rfl, by decide +kernel, rfl, by decide +kernel, by decide +kernel⟩
/-- the addresses of the text's classes and methods -/
structure Ad where
  cKeepError : Addr
  cBadRow : Addr
  cNoBlock : Addr
  cStopped : Addr
  cBadDisk : Addr
  cNoRoom : Addr
  cTooMuch : Addr
  cBadLog : Addr
  cNoNode : Addr
  cNoNodes : Addr
  cTooLong : Addr
  cOutOfPlace : Addr
  cBadName : Addr
  cBadPath : Addr
  cNotFolder : Addr
  cNotFile : Addr
  cNoName : Addr
  cNameThere : Addr
  cNotEmpty : Addr
  cWithin : Addr
  cBadOrder : Addr
  gWEIGHTS : Addr
structure Txt (K : PySem.W.Frag) (mg : Str → Option Value) (a : Ad) : Prop where
  isinstance : mg "isinstance" = none
  int : mg "int" = none
  bool : mg "bool" = none
  str : mg "str" = none
  list : mg "list" = none
  len : mg "len" = none
  all : mg "all" = none
  sum : mg "sum" = none
  zip : mg "zip" = none
  range : mg "range" = none
  ValueError : mg "ValueError" = none
  cLETTERS : ∃ t, mg "LETTERS" = some (.str "abcdefghijklmnopqrstuvwxyz" t)
  cMOST_LETTERS : ∃ t, mg "MOST_LETTERS" = some (.int 12 t)
  gWEIGHTS : mg "WEIGHTS" = some (.ref a.gWEIGHTS)
  wWEIGHTS : ∀ H : Hp, SqT K H a.gWEIGHTS [.int 19683, .int 729, .int 27, .int 1]
  mKeepError : mg "KeepError" = some (.ref a.cKeepError)
  mBadRow : mg "BadRow" = some (.ref a.cBadRow)
  mNoBlock : mg "NoBlock" = some (.ref a.cNoBlock)
  mStopped : mg "Stopped" = some (.ref a.cStopped)
  mBadDisk : mg "BadDisk" = some (.ref a.cBadDisk)
  mNoRoom : mg "NoRoom" = some (.ref a.cNoRoom)
  mTooMuch : mg "TooMuch" = some (.ref a.cTooMuch)
  mBadLog : mg "BadLog" = some (.ref a.cBadLog)
  mNoNode : mg "NoNode" = some (.ref a.cNoNode)
  mNoNodes : mg "NoNodes" = some (.ref a.cNoNodes)
  mTooLong : mg "TooLong" = some (.ref a.cTooLong)
  mOutOfPlace : mg "OutOfPlace" = some (.ref a.cOutOfPlace)
  mBadName : mg "BadName" = some (.ref a.cBadName)
  mBadPath : mg "BadPath" = some (.ref a.cBadPath)
  mNotFolder : mg "NotFolder" = some (.ref a.cNotFolder)
  mNotFile : mg "NotFile" = some (.ref a.cNotFile)
  mNoName : mg "NoName" = some (.ref a.cNoName)
  mNameThere : mg "NameThere" = some (.ref a.cNameThere)
  mNotEmpty : mg "NotEmpty" = some (.ref a.cNotEmpty)
  mWithin : mg "Within" = some (.ref a.cWithin)
  mBadOrder : mg "BadOrder" = some (.ref a.cBadOrder)
  xBadName : PySem.W.excIn K a.cBadName veMro "ValueError.__new__" = true
  eBadName : ExcK K a.cBadName
  kKeepError : CatK K a.cKeepError
  sBadName_KeepError : PySem.W.mroIn K a.cBadName (.ref a.cKeepError) = some true
  qBadName_BadName : PySem.W.kitOne K (.ref a.cBadName) (.ref a.cBadName) = some true
  qBadName_ValueError : PySem.W.kitOne K (.ref a.cBadName) (.type "ValueError") = some true
  qBadName_BadRow : PySem.W.kitOne K (.ref a.cBadName) (.ref a.cBadRow) = some false
  qBadName_NoBlock : PySem.W.kitOne K (.ref a.cBadName) (.ref a.cNoBlock) = some false
  qBadName_Stopped : PySem.W.kitOne K (.ref a.cBadName) (.ref a.cStopped) = some false
  qBadName_BadDisk : PySem.W.kitOne K (.ref a.cBadName) (.ref a.cBadDisk) = some false
  qBadName_NoRoom : PySem.W.kitOne K (.ref a.cBadName) (.ref a.cNoRoom) = some false
  qBadName_TooMuch : PySem.W.kitOne K (.ref a.cBadName) (.ref a.cTooMuch) = some false
  qBadName_BadLog : PySem.W.kitOne K (.ref a.cBadName) (.ref a.cBadLog) = some false
  qBadName_NoNode : PySem.W.kitOne K (.ref a.cBadName) (.ref a.cNoNode) = some false
  qBadName_NoNodes : PySem.W.kitOne K (.ref a.cBadName) (.ref a.cNoNodes) = some false
  qBadName_TooLong : PySem.W.kitOne K (.ref a.cBadName) (.ref a.cTooLong) = some false
  qBadName_OutOfPlace : PySem.W.kitOne K (.ref a.cBadName) (.ref a.cOutOfPlace) = some false
  qBadName_BadPath : PySem.W.kitOne K (.ref a.cBadName) (.ref a.cBadPath) = some false
  qBadName_NotFolder : PySem.W.kitOne K (.ref a.cBadName) (.ref a.cNotFolder) = some false
  qBadName_NotFile : PySem.W.kitOne K (.ref a.cBadName) (.ref a.cNotFile) = some false
  qBadName_NoName : PySem.W.kitOne K (.ref a.cBadName) (.ref a.cNoName) = some false
  qBadName_NameThere : PySem.W.kitOne K (.ref a.cBadName) (.ref a.cNameThere) = some false
  qBadName_NotEmpty : PySem.W.kitOne K (.ref a.cBadName) (.ref a.cNotEmpty) = some false
  qBadName_Within : PySem.W.kitOne K (.ref a.cBadName) (.ref a.cWithin) = some false
  qBadName_BadOrder : PySem.W.kitOne K (.ref a.cBadName) (.ref a.cBadOrder) = some false
/-- a def that keeps its promise, by its name; a method -/
def Df (P : Program) (w : World) (K : PySem.W.Frag) (mg : Str → Option Value) (base : Heap) (CX : CXT) (n : Nat) (x : Str) (ps : List Str) (sp : Sp) : Prop :=
  ∃ f fd, FnOk P w K mg base CX n f fd ps sp ∧ Binds K fd ps [] ∧ PySem.W.keepIn K (.ref f) = true ∧ mg x = some (.ref f)
def Mf (P : Program) (w : World) (K : PySem.W.Frag) (mg : Str → Option Value) (base : Heap) (CX : CXT) (n : Nat) (f : Addr) (ps : List Str) (sp : Sp) : Prop :=
  ∃ fd, FnOk P w K mg base CX n f fd ps sp ∧ Binds K fd ps []
end K15
end
section
set_option Elab.async false
set_option linter.all false
set_option maxRecDepth 100000
set_option maxHeartbeats 4000000
namespace K15
open PySem L2 BK
def isLet (c : Nat) : Bool := decide (97 ≤ c) && decide (c ≤ 122)
def goodT (cs : List Nat) : Bool := (decide (1 ≤ cs.length) && decide (cs.length ≤ 12)) && cs.all isLet
def num (c : Nat) : Int := (c : Int) - 97 + 1
def wordVal (cs : List Nat) : Int := (List.zipWith (fun (c : Nat) (w : Int) => num c * w) cs [19683, 729, 27, 1]).sum
def wordsOf (cs : List Nat) : List Int := [wordVal (cs.take 4), wordVal ((cs.drop 4).take 4), wordVal ((cs.drop 8).take 4)]
def digs (w : Int) : List Int := [w / 19683 % 27, w / 729 % 27, w / 27 % 27, w / 1 % 27]
def letD (d : Int) : Nat := 96 + d.toNat
def lettersOf (w : Int) : List Nat := ((digs w).filter fun d => decide (d > 0)).map letD
def flat (ws : List Int) : List Nat := (ws.map lettersOf).flatten
def nameOk (ws : List Int) : Bool := goodT (flat ws) && decide (wordsOf (flat ws) = ws)
theorem isLet_iff {c : Nat} : isLet c = true ↔ 97 ≤ c ∧ c ≤ 122 := by
  unfold isLet
  rw [Bool.and_eq_true, decide_eq_true_iff, decide_eq_true_iff]
def at0 (l : List Int) (i : Nat) : Int := l.getD i 0
def val4 (l : List Int) (k : Nat) : Int := at0 l k * 19683 + at0 l (k + 1) * 729 + at0 l (k + 2) * 27 + at0 l (k + 3)
theorem wordVal4 (l : List Nat) : wordVal (l.take 4) = val4 (l.map num) 0 := by
  match l with
  | [] => simp [wordVal, val4, at0]
  | [a] => simp [wordVal, val4, at0]
  | [a, b] => simp [wordVal, val4, at0]
  | [a, b, c] => simp [wordVal, val4, at0]; omega
  | a :: b :: c :: d :: r => simp [wordVal, val4, at0]; omega
theorem at0_drop (l : List Int) (k i : Nat) : at0 (l.drop k) i = at0 l (k + i) := by
  unfold at0
  rw [List.getD_eq_getElem?_getD, List.getD_eq_getElem?_getD, List.getElem?_drop]
theorem val4_drop (l : List Int) (k : Nat) : val4 (l.drop k) 0 = val4 l k := by
  unfold val4
  rw [at0_drop, at0_drop, at0_drop, at0_drop]
  simp
theorem at0_pad (l : List Int) (k i : Nat) : at0 (l ++ List.replicate k 0) i = at0 l i := by
  unfold at0
  rw [List.getD_eq_getElem?_getD, List.getD_eq_getElem?_getD]
  by_cases h : i < l.length
  · rw [List.getElem?_append_left h]
  · rw [List.getElem?_append_right (by omega), List.getElem?_eq_none (l := l) (by omega), List.getElem?_replicate]
    split <;> rfl
theorem val4_pad (l : List Int) (k i : Nat) : val4 (l ++ List.replicate k 0) i = val4 l i := by
  unfold val4
  rw [at0_pad, at0_pad, at0_pad, at0_pad]
theorem wordsOf_eq (cs : List Nat) : wordsOf cs = [val4 (cs.map num) 0, val4 (cs.map num) 4, val4 (cs.map num) 8] := by
  unfold wordsOf
  rw [wordVal4, wordVal4, wordVal4, List.map_drop, List.map_drop, val4_drop, val4_drop]
/-- numbers of letters -/
def Dg (l : List Int) : Prop := ∀ d ∈ l, 0 ≤ d ∧ d < 27
theorem at0_dg {l : List Int} (h : Dg l) (i : Nat) : 0 ≤ at0 l i ∧ at0 l i < 27 := by
  unfold at0
  rw [List.getD_eq_getElem?_getD]
  by_cases hi : i < l.length
  · rw [List.getElem?_eq_getElem hi]
    exact h _ (List.getElem_mem hi)
  · rw [List.getElem?_eq_none (by omega)]
    exact ⟨by decide, by decide⟩
theorem val4_le {l : List Int} (h : Dg l) (k : Nat) : 0 ≤ val4 l k ∧ val4 l k ≤ 531440 := by
  have h0 := at0_dg h k
  have h1 := at0_dg h (k + 1)
  have h2 := at0_dg h (k + 2)
  have h3 := at0_dg h (k + 3)
  unfold val4
  omega
/-- the digits of a word -/
def dgs (w : Int) : List Int := [w / 19683, w / 729 % 27, w / 27 % 27, w % 27]
theorem digs_eq {w : Int} (h0 : 0 ≤ w) (h1 : w ≤ 531440) : digs w = dgs w := by
  unfold digs dgs
  rw [Int.emod_eq_of_lt (a := w / 19683) (by omega) (by omega), Int.ediv_one]
theorem digs_dg (w : Int) : Dg (digs w) := by
  intro d hd
  unfold digs at hd
  simp only [List.mem_cons, List.not_mem_nil, or_false] at hd
  rcases hd with rfl | rfl | rfl | rfl <;> omega
theorem dgs_val {l : List Int} (h : Dg l) (k : Nat) : dgs (val4 l k) = [at0 l k, at0 l (k + 1), at0 l (k + 2), at0 l (k + 3)] := by
  have h0 := at0_dg h k
  have h1 := at0_dg h (k + 1)
  have h2 := at0_dg h (k + 2)
  have h3 := at0_dg h (k + 3)
  unfold dgs val4
  generalize at0 l k = a at *
  generalize at0 l (k + 1) = b at *
  generalize at0 l (k + 2) = c at *
  generalize at0 l (k + 3) = d at *
  have e1 : (a * 19683 + b * 729 + c * 27 + d) / 19683 = a := by omega
  have e2 : (a * 19683 + b * 729 + c * 27 + d) / 729 % 27 = b := by omega
  have e3 : (a * 19683 + b * 729 + c * 27 + d) / 27 % 27 = c := by omega
  have e4 : (a * 19683 + b * 729 + c * 27 + d) % 27 = d := by omega
  rw [e1, e2, e3, e4]
theorem val_dgs {w : Int} (h0 : 0 ≤ w) : (dgs w)[0]! * 19683 + (dgs w)[1]! * 729 + (dgs w)[2]! * 27 + (dgs w)[3]! = w := by
  show w / 19683 * 19683 + w / 729 % 27 * 729 + w / 27 % 27 * 27 + w % 27 = w
  omega
def pos (d : Int) : Bool := decide (d > 0)
theorem flat_eq (ws : List Int) : flat ws = (((ws.map digs).flatten).filter pos).map letD := by
  unfold flat
  induction ws with
  | nil => rfl
  | cons w ws ih => simp only [List.map_cons, List.flatten_cons, List.filter_append, List.map_append, ih]; rfl
theorem num_letD {d : Int} (h : 0 < d) : num (letD d) = d := by
  unfold num letD
  omega
theorem letD_let {d : Int} (h : 0 < d) (h2 : d < 27) : isLet (letD d) = true := by
  rw [isLet_iff]
  unfold letD
  omega
theorem map_num_letD {l : List Int} (h : ∀ d ∈ l, 0 < d) : (l.map letD).map num = l := by
  rw [List.map_map]
  conv => rhs; rw [← List.map_id l]
  exact List.map_congr_left fun d hd => num_letD (h d hd)
def strip (l : List Int) : List Int := (l.reverse.dropWhile fun d => decide (d = 0)).reverse
theorem strip_rep (k : Nat) : ∀ (l : List Int), strip (l ++ List.replicate k 0) = strip l := by
  intro l
  unfold strip
  rw [List.reverse_append, List.reverse_replicate]
  congr 1
  induction k with
  | zero => rfl
  | succ k ih => rw [List.replicate_succ, List.cons_append, List.dropWhile_cons]; simpa using ih
theorem strip_self {l : List Int} (h : l = [] ∨ l.getLast? ≠ some 0) : strip l = l := by
  unfold strip
  cases e : l.reverse with
  | nil => simp at e; subst e; rfl
  | cons x r =>
    have hl : l = (x :: r).reverse := by rw [← e, List.reverse_reverse]
    have hx : x ≠ 0 := by
      rcases h with h | h
      · subst h; simp at e
      · intro z; subst z; apply h; rw [hl]; simp
    rw [List.dropWhile_cons, if_neg (by simpa using hx), ← e, List.reverse_reverse]
theorem strip_nz {l : List Int} (h : (0 : Int) ∉ l) : strip l = l := by
  refine strip_self ?_
  by_cases hl : l = []
  · exact .inl hl
  · exact .inr fun z => h (List.mem_of_getLast? z)
theorem filter_pos {l : List Int} (h : ∀ d ∈ l, 0 ≤ d) (h0 : (0 : Int) ∉ l) : l.filter pos = l := by
  rw [List.filter_eq_self]
  intro d hd
  have := h d hd
  have : d ≠ 0 := fun z => h0 (z ▸ hd)
  unfold pos
  exact decide_eq_true (by omega)
theorem filter_zeros (k : Nat) : (List.replicate k (0 : Int)).filter pos = [] := by
  rw [List.filter_eq_nil_iff]
  intro d hd
  rw [List.eq_of_mem_replicate hd]
  decide
theorem flat_good {D : List Int} (hd : Dg D) (hl : D.length ≤ 12) : goodT ((D.filter pos).map letD) = decide (1 ≤ (D.filter pos).length) := by
  unfold goodT
  rw [List.length_map, decide_eq_true (show (D.filter pos).length ≤ 12 from Nat.le_trans (List.length_filter_le _ _) hl), Bool.and_true]
  have : ((D.filter pos).map letD).all isLet = true := by
    rw [List.all_eq_true]
    intro c hc
    obtain ⟨d, h1, rfl⟩ := List.mem_map.mp hc
    obtain ⟨h2, h3⟩ := List.mem_filter.mp h1
    exact letD_let (of_decide_eq_true h3) (hd d h2).2
  rw [this, Bool.and_true]
theorem list3 {ws : List Int} (h : ws.length = 3) : ∃ a b c, ws = [a, b, c] := by
  match ws, h with
  | [a, b, c], _ => exact ⟨a, b, c, rfl⟩
theorem vals_flat {ws : List Int} (h : ws.length = 3) (h0 : ∀ w ∈ ws, 0 ≤ w) : ws = [val4 ((ws.map dgs).flatten) 0, val4 ((ws.map dgs).flatten) 4, val4 ((ws.map dgs).flatten) 8] := by
  obtain ⟨a, b, c, rfl⟩ := list3 h
  have ha := val_dgs (h0 a (by simp))
  have hb := val_dgs (h0 b (by simp))
  have hc := val_dgs (h0 c (by simp))
  have e : (([a, b, c] : List Int).map dgs).flatten = [a / 19683, a / 729 % 27, a / 27 % 27, a % 27, b / 19683, b / 729 % 27, b / 27 % 27, b % 27, c / 19683, c / 729 % 27, c / 27 % 27, c % 27] := rfl
  rw [e]
  have e1 : ∀ x y z w x' y' z' w' x'' y'' z'' w'' : Int, [val4 [x, y, z, w, x', y', z', w', x'', y'', z'', w''] 0, val4 [x, y, z, w, x', y', z', w', x'', y'', z'', w''] 4, val4 [x, y, z, w, x', y', z', w', x'', y'', z'', w''] 8] = [x * 19683 + y * 729 + z * 27 + w, x' * 19683 + y' * 729 + z' * 27 + w', x'' * 19683 + y'' * 729 + z'' * 27 + w''] := fun _ _ _ _ _ _ _ _ _ _ _ _ => rfl
  rw [e1]
  have ha' : a / 19683 * 19683 + a / 729 % 27 * 729 + a / 27 % 27 * 27 + a % 27 = a := ha
  have hb' : b / 19683 * 19683 + b / 729 % 27 * 729 + b / 27 % 27 * 27 + b % 27 = b := hb
  have hc' : c / 19683 * 19683 + c / 729 % 27 * 729 + c / 27 % 27 * 27 + c % 27 = c := hc
  rw [ha', hb', hc']
theorem digs_all {ws : List Int} (h : ∀ w ∈ ws, 0 ≤ w ∧ w ≤ 531440) : ws.map digs = ws.map dgs := List.map_congr_left fun w hw => digs_eq (h w hw).1 (h w hw).2
theorem dg_flat (ws : List Int) : Dg ((ws.map digs).flatten) := by
  intro d hd
  obtain ⟨l, h1, h2⟩ := List.mem_flatten.mp hd
  obtain ⟨w, _, rfl⟩ := List.mem_map.mp h1
  exact digs_dg w d h2
theorem flat_len {ws : List Int} (h : ws.length = 3) : ((ws.map digs).flatten).length = 12 := by
  obtain ⟨a, b, c, rfl⟩ := list3 h
  rfl
/-- a word that is too great -/
theorem not_ok_big {ws : List Int} {w : Int} (hw : w ∈ ws) (h : 531440 < w) (hl : ws.length = 3) : nameOk ws = false := by
  unfold nameOk
  rw [Bool.and_eq_false_iff]
  right
  refine decide_eq_false fun e => ?_
  rw [wordsOf_eq] at e
  have hd : Dg ((flat ws).map num) := by
    intro d hd
    rw [flat_eq] at hd
    obtain ⟨c, h1, rfl⟩ := List.mem_map.mp hd
    obtain ⟨d, h2, rfl⟩ := List.mem_map.mp h1
    obtain ⟨h3, h4⟩ := List.mem_filter.mp h2
    rw [num_letD (of_decide_eq_true h4)]
    exact dg_flat ws d h3
  rw [← e] at hw
  simp only [List.mem_cons, List.not_mem_nil, or_false] at hw
  have k0 := val4_le hd 0
  have k4 := val4_le hd 4
  have k8 := val4_le hd 8
  omega
theorem ok_iff {ws S : List Int} {k : Nat} (hl : ws.length = 3) (h : ∀ w ∈ ws, 0 ≤ w ∧ w ≤ 531440) (hS : (ws.map dgs).flatten = S ++ List.replicate k 0) (hlast : S = [] ∨ S.getLast? ≠ some 0) :
    nameOk ws = (decide ((0 : Int) ∉ S) && decide (S ≠ [])) ∧ (nameOk ws = true → flat ws = S.map letD) := by
  have hD : (ws.map digs).flatten = S ++ List.replicate k 0 := by rw [digs_all h]; exact hS
  have hdg := dg_flat ws
  have hlen := flat_len hl
  rw [hD] at hdg hlen
  have hSd : Dg S := fun d hd => hdg d (List.mem_append_left _ hd)
  have hf : flat ws = (S.filter pos).map letD := by rw [flat_eq, hD, List.filter_append, filter_zeros, List.append_nil]
  have hg : goodT (flat ws) = decide (1 ≤ (S.filter pos).length) := by rw [hf]; exact flat_good hSd (by rw [List.length_append] at hlen; omega)
  by_cases h0 : (0 : Int) ∈ S
  · have no : nameOk ws = false := by
      cases e : nameOk ws with
      | false => rfl
      | true =>
        exfalso
        unfold nameOk at e
        rw [Bool.and_eq_true] at e
        have e2 := of_decide_eq_true e.2
        have hp : ∀ d ∈ S.filter pos, 0 < d := fun d hd => of_decide_eq_true (List.mem_filter.mp hd).2
        rw [hf, wordsOf_eq, map_num_letD hp] at e2
        have hF : Dg (S.filter pos) := fun d hd => hSd d (List.mem_filter.mp hd).1
        have e3 : (ws.map dgs).flatten = [at0 (S.filter pos) 0, at0 (S.filter pos) 1, at0 (S.filter pos) 2, at0 (S.filter pos) 3, at0 (S.filter pos) 4, at0 (S.filter pos) 5, at0 (S.filter pos) 6, at0 (S.filter pos) 7, at0 (S.filter pos) 8, at0 (S.filter pos) 9, at0 (S.filter pos) 10, at0 (S.filter pos) 11] := by
          rw [← e2]
          show dgs _ ++ (dgs _ ++ (dgs _ ++ [])) = _
          rw [dgs_val hF, dgs_val hF, dgs_val hF]
          rfl
        have hFl : (S.filter pos).length ≤ 12 := Nat.le_trans (List.length_filter_le _ _) (by rw [List.length_append] at hlen; omega)
        have e4 : ∀ F : List Int, F.length ≤ 12 → [at0 F 0, at0 F 1, at0 F 2, at0 F 3, at0 F 4, at0 F 5, at0 F 6, at0 F 7, at0 F 8, at0 F 9, at0 F 10, at0 F 11] = F ++ List.replicate (12 - F.length) 0 := by
          intro F hF
          apply List.ext_getElem?
          intro i
          have q := at0_pad F (12 - F.length) i
          unfold at0 at q
          rw [List.getD_eq_getElem?_getD, List.getD_eq_getElem?_getD] at q
          by_cases hi : i < 12
          · have z : (F ++ List.replicate (12 - F.length) 0)[i]? = some (F[i]?.getD 0) := by
              rw [← q, List.getElem?_eq_getElem (by simp; omega)]; rfl
            rw [z]
            rcases (show i = 0 ∨ i = 1 ∨ i = 2 ∨ i = 3 ∨ i = 4 ∨ i = 5 ∨ i = 6 ∨ i = 7 ∨ i = 8 ∨ i = 9 ∨ i = 10 ∨ i = 11 by omega) with rfl | rfl | rfl | rfl | rfl | rfl | rfl | rfl | rfl | rfl | rfl | rfl <;> (unfold at0; simp)
          · rw [List.getElem?_eq_none (by simp; omega), List.getElem?_eq_none (by simp; omega)]
        rw [e4 _ hFl, hS] at e3
        have hz : (0 : Int) ∉ S.filter pos := fun z => absurd (hp 0 z) (by omega)
        have := congrArg strip e3
        rw [strip_rep, strip_rep, strip_self hlast, strip_nz hz] at this
        rw [this] at h0
        exact hz h0
    rw [no]
    simp [h0]
  · have hfs : S.filter pos = S := filter_pos (fun d hd => (hSd d hd).1) h0
    rw [hfs] at hf hg
    refine ⟨?_, fun _ => hf⟩
    unfold nameOk
    rw [hg, decide_eq_true (show (0 : Int) ∉ S from h0), Bool.true_and]
    have hw : wordsOf (flat ws) = ws := by
      rw [hf, wordsOf_eq, map_num_letD fun d hd => by
        have a1 := (hSd d hd).1
        have a2 : d ≠ 0 := fun z => h0 (z ▸ hd)
        omega]
      conv => rhs; rw [vals_flat hl fun w hw => (h w hw).1, hS]
      rw [val4_pad, val4_pad, val4_pad]
    rw [decide_eq_true hw, Bool.and_true]
    cases S with
    | nil => rfl
    | cons x r => simp
theorem bt_str : bootBuiltins "str" = some (.type "str") := by decide +kernel
theorem bt_sum : bootBuiltins "sum" = some (.builtin "sum") := by decide +kernel
def mkS (cs : List Nat) : Str := ⟨cs.toArray⟩
abbrev abc : Str := "abcdefghijklmnopqrstuvwxyz"
theorem abc_list : abc.cps.toList = List.range' 97 26 := by decide +kernel
theorem abc_len : abc.length = 26 := by decide +kernel
theorem abc_at {i : Int} (h0 : 0 ≤ i) (h1 : i < 26) : atI abc.cps.toList i = some (97 + i.toNat) := by
  rw [abc_list, show i = ((i.toNat : Nat) : Int) by omega]
  refine atI_nat ?_
  rw [List.getElem?_range' (by omega)]
  simp
  omega
theorem occ_all : (List.range 128).all (fun c => decide (Builtin.Str.occurrences abc ⟨#[c]⟩ 0 abc.length 1 = if isLet c = true then [c - 97] else [])) = true := by decide +kernel
theorem occ_abc {c : Nat} (h : c < 128) : Builtin.Str.occurrences abc ⟨#[c]⟩ 0 abc.length 1 = if isLet c = true then [c - 97] else [] :=
  of_decide_eq_true (List.all_eq_true.mp occ_all c (List.mem_range.mpr h))
theorem find_abc {c : Nat} (h : isLet c = true) : Txt.find abc ⟨#[c]⟩ = (c : Int) - 97 := by
  have h' := isLet_iff.mp h
  unfold Txt.find
  rw [occ_abc (by omega), if_pos h]
  show ((c - 97 : Nat) : Int) = _
  omega
section
variable {P : Program} {w : World} {K : PySem.W.Frag} {mg : Str → Option Value} {base : Heap} {f : Addr} {fd : FuncData} {a : Ad}
def NotS (K : PySem.W.Frag) (H : Hp) (v : V) : Prop := ∃ t, TyOf K H v t ∧ PySem.W.kitOne K t (.type "str") = some false
theorem NotS.same {H H' : Hp} {v : V} (h : NotS K H v) (s : Same H H') : NotS K H' v := by
  obtain ⟨t, ty, e⟩ := h
  exact ⟨t, tyof_same s ty, e⟩
theorem isStr {H : Hp} (x : Str) : ∃ t, TyOf K H (.str x) t ∧ PySem.W.kitOne K t (.type "str") = some true := ⟨_, .str x, by kernel_rfl⟩
theorem mkS_len (cs : List Nat) : (mkS cs).length = cs.length := by simp [mkS, Str.length]
theorem mkS_ascii {cs : List Nat} (h : ∀ c ∈ cs, c < 128) : (mkS cs).cps.all (· < 128) = true := by
  show cs.toArray.all _ = true
  rw [List.all_toArray, List.all_eq_true]
  exact fun c hc => decide_eq_true (h c hc)
def TextOr (K : PySem.W.Frag) (H : Hp) (v : V) (b : Bool) : Prop := (∃ cs, v = .str (mkS cs) ∧ cs.length ≤ 20 ∧ (∀ c ∈ cs, c < 128) ∧ b = goodT cs) ∨ (NotS K H v ∧ b = false)
def spIsName (K : PySem.W.Frag) (_ : Ad) : Sp := fun vs H Q _ => ∃ v b, vs = [v] ∧ TextOr K H v b ∧ ∀ H', Same H H' → Q (.bl b) H'
theorem ok_is_name (F : Fun K "is_name" "is_name" s_is_name f fd) (T : Txt K mg a)  : FnOk P w K mg base CX0 1 f fd ["thing"] (spIsName K a) := by
  have nd := sc_is_name.nd
  refine F.ok sc_is_name (fun vs H Q E h => ?_) (fun cdv A outer s H vs Q E hr h => ?_)
  · obtain ⟨v, b, rfl, _⟩ := h
    rfl
  obtain ⟨v, b, rfl, ha, q⟩ := h
  refine ⟨_, (pss_cons (ps_if (PW.pt (pw_or (pt_not (pt_val (pe_callB (call_isinst (T := "str")) rfl T.isinstance bt_isinstance (pa_cons (pv 0) (pa_cons (pe_bltn (v := .ty "str") rfl T.str bt_str rfl) pa_nil))))) (pw_or1 (pt_not (pt_chain op_le op_le pe_int (pe_callB call_len_str rfl T.len bt_len (pa_cons (pv 0) pa_nil)) (pe_glob (v := .int 12) rfl T.cMOST_LETTERS.choose_spec ⟨_, rfl⟩)))))) (pss_one (ps_ret pe_bl)) pss_nil)
    (pss_one (ps_ret (pe_callB (call_all rfl) rfl T.all bt_all (pa_cons (pe_lc (cl := []) (fj := []) (by exact ⟨rfl, by decide +kernel, rfl, by decide +kernel, rfl, fun _ h => (by cases h), by decide +kernel, fun _ h => (by cases h), by decide +kernel⟩) rfl (pi_text (pv 0)) (fun _ _ _ => pf_nil) (fun _ _ _ => (pe_cmpR op_in_str (pv 0) (pe_glob (v := .str "abcdefghijklmnopqrstuvwxyz") rfl T.cLETTERS.choose_spec ⟨_, rfl⟩) (by rfl)))) pa_nil))))), ?_⟩
  rcases ha with ⟨cs, rfl, hl, ha, rfl⟩ | ⟨⟨t, ty, e⟩, rfl⟩
  case inr => exact ⟨_, rfl, _, t, false, rfl, ty, e, _, rfl, iteT' (by rfl) (iteT (q _ (Same.refl _)))⟩
  obtain ⟨t, ty, e⟩ := isStr (K := K) (H := H) (mkS cs)
  refine ⟨_, rfl, _, t, true, rfl, ty, e, _, rfl, iteF' (by rfl) ?_⟩
  have hlz : (mkS cs).length ≤ sizeLine := by rw [mkS_len]; exact small (by omega)
  refine ⟨_, rfl, _, rfl, hlz, _, _, rfl, rfl, _, rfl, ?_⟩
  rw [mkS_len]
  by_cases c1 : 1 ≤ cs.length
  · refine iteT' (decide_eq_true (by omega)) ⟨_, _, rfl, rfl, _, rfl, ?_⟩
    by_cases c2 : cs.length ≤ 12
    · refine iteF' (by rw [show decide ((cs.length : Int) ≤ 12) = true from decide_eq_true (by omega)]; rfl) ?_
      refine ⟨_, rfl, mkS cs, rfl, mkS_ascii ha, lc_pureX (cs := cs) rfl (by omega) (fun _ => true) (fun v => .bl (isLet (chrV v))) (fun x H' Qf _ _ k => k H' (Same.refl _)) (fun x H' Qf hx _ s' k => ?_) (fun acc H' n' s' h' => ?_)⟩
      · obtain ⟨c, hc, rfl⟩ := List.mem_map.mp hx
        refine ⟨_, rfl, _, _, rfl, rfl, ?_⟩
        have e : (!(Builtin.Str.occurrences abc ⟨#[c]⟩ 0 abc.length 1).isEmpty) = isLet c := by
          rw [occ_abc (ha c hc)]
          cases isLet c <;> rfl
        have k' := k H' (Same.refl _)
        rw [show isLet (chrV (.str ⟨#[c]⟩)) = isLet c from rfl, ← e] at k'
        exact k'
      · rw [filter_all, List.map_map] at h'
        refine ⟨acc, cs.map isLet, rfl, SqL.of (by rw [h', List.map_map]; rfl), ?_⟩
        have := q H' s'
        rw [show goodT cs = ((cs.map isLet).all id) by unfold goodT; rw [decide_eq_true c1, decide_eq_true c2, List.all_map]; rfl] at this
        exact this
    · refine iteT' (by rw [show decide ((cs.length : Int) ≤ 12) = false from decide_eq_false (by omega)]; rfl) ?_
      have := q H (Same.refl _)
      rw [show goodT cs = false by unfold goodT; rw [decide_eq_false c2, Bool.and_false]; rfl] at this
      exact this
  · refine iteF' (decide_eq_false (by omega)) ⟨_, rfl, iteT' (by rfl) ?_⟩
    have := q H (Same.refl _)
    rw [show goodT cs = false by unfold goodT; rw [decide_eq_false c1]; rfl] at this
    exact this
/-! ### word_of, letters_of -/
def spWordOf (K : PySem.W.Frag) (_ : Ad) : Sp := fun vs H Q _ => ∃ cs, vs = [.str (mkS cs)] ∧ cs.length ≤ 20 ∧ (∀ c ∈ cs, isLet c = true) ∧ ∀ H', Same H H' → Q (.int (wordVal cs)) H'
theorem isLet_lt {c : Nat} (h : isLet c = true) : c < 128 := by have := isLet_iff.mp h; omega
theorem ok_word_of (F : Fun K "word_of" "word_of" s_word_of f fd) (T : Txt K mg a)  : FnOk P w K mg base (CXE P w) 1 f fd ["letters"] (spWordOf K a) := by
  have nd := sc_word_of.nd
  refine F.okE sc_word_of (fun vs H Q E h => ?_) (fun cdv A outer s H vs Q E hr hA h => ?_)
  · obtain ⟨cs, rfl, _⟩ := h
    rfl
  obtain ⟨cs, rfl, hl, ha, q⟩ := h
  refine ⟨_, (pss_one (ps_ret (pe_callB (call_sum hA) rfl T.sum bt_sum (pa_cons (pe_lc2 (cl := []) (fj := []) (by exact ⟨rfl, by decide +kernel, rfl, by decide +kernel, rfl, rfl, fun _ h => (by cases h), by decide +kernel, fun _ h => (by cases h), by decide +kernel⟩) rfl hA (pi_zipT rfl T.zip (pa_cons (pv 0) (pa_cons (pe_glob (v := .ref a.gWEIGHTS) rfl T.gWEIGHTS rfl) pa_nil))) (fun _ _ _ => pf_nil) (fun _ _ _ => (pe_op op_mul (pe_op op_add (pe_bmK (K := K) rfl PySem.F.plainAttrs_str PySem.F.slot_str_find PySem.F.type_str_find mt_find (pe_glob (v := .str "abcdefghijklmnopqrstuvwxyz") rfl T.cLETTERS.choose_spec ⟨_, rfl⟩) (pa_cons (pv 0) pa_nil)) pe_int) (pv 1)))) pa_nil)))), ?_⟩
  refine ⟨_, rfl, mkS cs, _, rfl, mkS_ascii fun c hc => isLet_lt (ha c hc), ⟨_, T.wWEIGHTS H⟩, fun t => ?_⟩
  refine lc2_map (xs := cs.map fun c => V.str ⟨#[c]⟩) (ys := [.int 19683, .int 729, .int 27, .int 1]) (by rw [List.length_map]; omega) (fun H' _ => by show _ = _; simp [mkS]) (fun H' _ => T.wWEIGHTS H')
    (fun x y => match x, y with | .str z, .int m => .int (num (z.cps.getD 0 0) * m) | _, _ => .non) (fun i x y H' Qf hx hy s' k => ?_) (fun acc H' n' s' h' => ?_)
  · rw [List.getElem?_map] at hx
    cases hc : cs[i]? with
    | none => rw [hc] at hx; cases hx
    | some c =>
      rw [hc] at hx
      cases hx
      obtain ⟨m, rfl, hm⟩ : ∃ m : Int, y = .int m ∧ 0 ≤ m ∧ m ≤ 19683 := by
        have := List.mem_of_getElem? hy
        simp only [List.mem_cons, List.not_mem_nil, or_false] at this
        rcases this with rfl | rfl | rfl | rfl <;> exact ⟨_, rfl, by decide, by decide⟩
      have hcl := ha c (List.mem_of_getElem? hc)
      have hc2 := isLet_iff.mp hcl
      refine ⟨rfl, _, rfl, abc, _, rfl, rfl, _, _, rfl, rfl, _, rfl, _, _, rfl, rfl, .inr ⟨by omega, by omega⟩, ?_⟩
      rw [find_abc hcl]
      exact k H' (Same.refl _)
  · refine ⟨acc, List.zipWith (fun (c : Nat) (m : Int) => num c * m) cs [19683, 729, 27, 1], rfl, SqL.of ?_, q H' s'⟩
    rw [h', List.map_zipWith]
    congr 2
    rw [List.zipWith_map_left]
    apply List.ext_getElem?
    intro i
    match cs with
    | [] => rfl
    | [a] => rfl
    | [a, b] => rfl
    | [a, b, c] => rfl
    | a :: b :: c :: d :: r => simp
def spLettersOf (K : PySem.W.Frag) (_ : Ad) : Sp := fun vs H Q _ => ∃ x : Int, vs = [.int x] ∧ ∀ H', Same H H' → Q (.str (mkS (lettersOf x))) H'
def intV : V → Int
  | .int i => i
  | _ => 0
theorem join_mk (ls : List (List Nat)) : Txt.join ("" : Str) (ls.map mkS) = mkS ls.flatten := by
  have e0 : ("" : Str).cps = #[] := by decide +kernel
  have key : ∀ (ls : List (List Nat)) (acc : Array Nat), (ls.map mkS).foldl (fun acc p => acc ++ ("" : Str).cps ++ p.cps) acc = acc ++ ls.flatten.toArray := by
    intro ls
    induction ls with
    | nil => intro acc; simp
    | cons l ls ih => intro acc; rw [List.map_cons, List.foldl_cons, ih, e0]; simp [mkS]
  cases ls with
  | nil => rfl
  | cons l ls =>
    show (⟨(ls.map mkS).foldl (fun acc p => acc ++ ("" : Str).cps ++ p.cps) (mkS l).cps⟩ : Str) = _
    rw [key]
    simp [mkS]
theorem empty_len : ("" : Str).length = 0 := by decide +kernel
theorem join_fits (ls : List (List Nat)) (k m : Nat) (hk : ls.length ≤ k) (hm : ∀ l ∈ ls, l.length ≤ m) (h : k * m ≤ 16777216) : ((ls.map mkS).map (·.length)).sum + (ls.map mkS).length * ("" : Str).length ≤ 16777216 := by
  rw [empty_len, Nat.mul_zero, Nat.add_zero, List.map_map]
  have e : ((ls.map ((·.length) ∘ mkS)).sum) ≤ ls.length * m := by
    clear hk h
    induction ls with
    | nil => simp
    | cons l ls ih =>
      rw [List.map_cons, List.sum_cons, List.length_cons, Nat.succ_mul]
      have h1 := ih fun l hl => hm l (List.mem_cons_of_mem _ hl)
      have h2 := hm l (List.mem_cons_self ..)
      have h3 : ((·.length) ∘ mkS) l = l.length := mkS_len l
      omega
  have : ls.length * m ≤ k * m := Nat.mul_le_mul_right m hk
  omega
theorem ok_letters_of (F : Fun K "letters_of" "letters_of" s_letters_of f fd) (T : Txt K mg a)  : FnOk P w K mg base (CXE P w) 1 f fd ["word"] (spLettersOf K a) := by
  have nd := sc_letters_of.nd
  refine F.okE sc_letters_of (fun vs H Q E h => ?_) (fun cdv A outer s H vs Q E hr hA h => ?_)
  · obtain ⟨x, rfl, _⟩ := h
    rfl
  obtain ⟨x, rfl, q⟩ := h
  refine ⟨_, (pss_cons (ps_setLc (j := 1) (cl := [("word", s.heap.objs.size + 1)]) (fj := [("word", 0)]) (by exact LcOk.of ["word"] rfl (by decide +kernel) rfl (by decide +kernel) rfl (fun p h => (by rw [List.mem_singleton.mp h]; rfl)) rfl (by decide +kernel) (fun p h => (by rw [List.mem_singleton.mp h]; exact ⟨rfl, rfl, .inl rfl⟩)) (by decide +kernel)) rfl nd rfl (by first | exact Or.inl rfl | exact Or.inr rfl) (pi_tup (pe_glob (v := .ref a.gWEIGHTS) rfl T.gWEIGHTS rfl)) (fun _ _ _ => pf_nil) (fun _ _ _ => (pe_op op_mod (pe_op op_fdiv (pv 1) (pv 0)) (pe_op op_add (pe_callB call_len_str rfl T.len bt_len (pa_cons (pe_glob (v := .str "abcdefghijklmnopqrstuvwxyz") rfl T.cLETTERS.choose_spec ⟨_, rfl⟩) pa_nil)) pe_int))))
    (pss_one (ps_ret (pe_bm PySem.F.plainAttrs_str PySem.F.slot_str_join PySem.F.type_str_join mt_join pe_str (pa_cons (pe_lc (cl := []) (fj := []) (by exact ⟨rfl, by decide +kernel, rfl, by decide +kernel, rfl, fun _ h => (by cases h), by decide +kernel, fun _ h => (by cases h), by decide +kernel⟩) rfl (pi_list (pv 1)) (fun _ _ _ => (pf_one (pt_cmpR op_gt (pv 0) pe_int (nomark _)))) (fun _ _ _ => (pe_ix ix_str (pe_glob (v := .str "abcdefghijklmnopqrstuvwxyz") rfl T.cLETTERS.choose_spec ⟨_, rfl⟩) (pe_op op_sub (pv 0) pe_int) (fun _ _ => rfl)))) pa_nil))))), ?_⟩
  refine ⟨_, rfl, ⟨_, T.wWEIGHTS H⟩, lc_pureT (xs := [.int 19683, .int 729, .int 27, .int 1]) (by decide) (fun H' _ => T.wWEIGHTS H') (fun _ => true) (fun v => .int (x / intV v % 27)) (fun _ H' Qf _ _ k => k H' (Same.refl _)) (fun v H' Qf hv _ s' k => ?_) (fun p H1 n1 s1 h1 => ?_)⟩
  · obtain ⟨m, rfl, hm⟩ : ∃ m : Int, v = .int m ∧ (0 < m ∧ m ≤ 19683) := by
      simp only [List.mem_cons, List.not_mem_nil, or_false] at hv
      rcases hv with rfl | rfl | rfl | rfl <;> exact ⟨_, rfl, by decide, by decide⟩
    refine ⟨_, rfl, _, rfl, _, _, rfl, rfl, ⟨by omega, by omega⟩, _, rfl, (by rw [abc_len]; exact small (by decide)), _, _, rfl, rfl, _, _, rfl, rfl, (by show (0 : Int) < _; rw [abc_len]; decide), ?_⟩
    rw [abc_len]
    exact k H' (Same.refl _)
  · rw [filter_all] at h1
    have h1' : H1 p = some (.lst ((digs x).map V.int)) := h1
    refine ⟨rfl, _, rfl, p, rfl, ⟨_, SqL.of h1'⟩, lc_pureL (xs := (digs x).map V.int) (by show 4 ≤ 1000; decide) (SqL.of h1') (fun v => decide (intV v > 0)) (fun v => .str ⟨#[letD (intV v)]⟩) (fun v H' Qf hv s' k => ?_) (fun v H' Qf hv hp s' k => ?_) (fun acc H2 n2 s2 h2 => ?_)⟩
    · obtain ⟨d, hd, rfl⟩ := List.mem_map.mp hv
      exact ⟨_, rfl, _, _, rfl, rfl, _, rfl, k H' (Same.refl _)⟩
    · obtain ⟨d, hd, rfl⟩ := List.mem_map.mp hv
      have h27 := digs_dg x d hd
      have hpos : d > 0 := of_decide_eq_true hp
      refine ⟨_, rfl, _, _, rfl, rfl, abc, _, _, rfl, rfl, (by rw [abc_len]; decide), abc_at (by omega) (by omega), ?_⟩
      rw [show 97 + (d - 1).toNat = letD (intV (.int d)) by show _ = 96 + d.toNat; omega]
      exact k H' (Same.refl _)
    · have e2 : ((((digs x).map V.int).filter fun v => decide (intV v > 0)).map fun v => V.str ⟨#[letD (intV v)]⟩) = (((lettersOf x).map fun c => [c]).map mkS).map V.str := by
        rw [List.filter_map, List.map_map, List.map_map, List.map_map]
        unfold lettersOf
        rw [List.map_map]
        rfl
      rw [e2] at h2
      have hll : (lettersOf x).length ≤ 4 := by
        unfold lettersOf
        rw [List.length_map]
        exact List.length_filter_le _ _
      refine ⟨_, acc, _, rfl, rfl, SqL.of h2, join_fits _ 4 1 (by rw [List.length_map]; exact hll) (fun l hl => by obtain ⟨c, _, rfl⟩ := List.mem_map.mp hl; exact Nat.le_refl _) (by decide), ?_⟩
      rw [join_mk, show ((lettersOf x).map fun c => [c]).flatten = lettersOf x by generalize lettersOf x = l; induction l with | nil => rfl | cons c l ih => rw [List.map_cons, List.flatten_cons, ih]; rfl]
      exact q H2 (s1.trans s2)
/-! ### slices -/
theorem range_idx {x y n : Nat} (hx : x ≤ n) (hy : y ≤ n) : sliceRange (x : Int) (y : Int) 1 = (List.range (y - x)).map (fun k => x + k) := by
  unfold sliceRange
  simp only [show ((1 : Int) > 0) = True from by simp, if_true]
  by_cases hlt : (x : Int) < y
  · have e3 : (((y : Int) - x + 1 - 1) / 1).toNat = y - x := by rw [Int.ediv_one]; omega
    simp only [hlt, if_true, e3]
    refine List.map_congr_left fun k _ => ?_
    omega
  · have : y - x = 0 := by omega
    simp [hlt, this]
def loN (n : Nat) : Option Nat → Nat
  | none => 0
  | some a => min a n
def hiN (n : Nat) : Option Nat → Nat
  | none => n
  | some a => min a n
theorem slice_mk (cs : List Nat) (lo hi : Option Nat) : Txt.slice (mkS cs) (lo.map Int.ofNat) (hi.map Int.ofNat) = mkS ((cs.drop (loN cs.length lo)).take (hiN cs.length hi - loN cs.length lo)) := by
  have hl : (mkS cs).length = cs.length := mkS_len cs
  have h1 : loN cs.length lo ≤ cs.length := by cases lo <;> simp [loN]; omega
  have h2 : hiN cs.length hi ≤ cs.length := by cases hi <;> simp [hiN]; omega
  have e : Builtin.Str.strSliceIndices (lo.map Int.ofNat) (hi.map Int.ofNat) 1 cs.length = (List.range (hiN cs.length hi - loN cs.length lo)).map (fun k => loN cs.length lo + k) := by
    rw [← range_idx h1 h2]
    unfold Builtin.Str.strSliceIndices
    simp only [show ((1 : Int) > 0) = True from by simp, if_true]
    congr 1
    · cases lo with
      | none => rfl
      | some a =>
        show max 0 (min (if Int.ofNat a < 0 then _ else Int.ofNat a) _) = ((min a cs.length : Nat) : Int)
        rw [if_neg (by simp)]
        simp only [Int.ofNat_eq_natCast]
        omega
    · cases hi with
      | none => rfl
      | some a =>
        show max 0 (min (if Int.ofNat a < 0 then _ else Int.ofNat a) _) = ((min a cs.length : Nat) : Int)
        rw [if_neg (by simp)]
        simp only [Int.ofNat_eq_natCast]
        omega
  have pk : (Builtin.Str.strSliceIndices (lo.map Int.ofNat) (hi.map Int.ofNat) 1 cs.length).filterMap ((mkS cs).cps[·]?) = (cs.drop (loN cs.length lo)).take (hiN cs.length hi - loN cs.length lo) := by
    rw [e]
    by_cases hle : loN cs.length lo ≤ hiN cs.length hi
    · have h := StrLaws.picks cs (hiN cs.length hi - loN cs.length lo) (loN cs.length lo) (by omega)
      simpa [mkS] using h
    · rw [show hiN cs.length hi - loN cs.length lo = 0 by omega]; simp
  unfold Txt.slice
  rw [hl]
  split
  · rename_i h
    have h' : (Builtin.Str.strSliceIndices (lo.map Int.ofNat) (hi.map Int.ofNat) 1 cs.length).length = cs.length := by simpa using h
    rw [e, List.length_map, List.length_range] at h'
    rw [show loN cs.length lo = 0 by omega, show hiN cs.length hi = cs.length by omega]
    simp
  · rw [pk]; rfl
theorem slice_to (cs : List Nat) (k : Nat) : Txt.slice (mkS cs) none (some (k : Int)) = mkS (cs.take k) := by
  have h := slice_mk cs none (some k)
  rw [show (cs.drop (loN cs.length none)).take (hiN cs.length (some k) - loN cs.length none) = cs.take k by
    show (cs.drop 0).take (min k cs.length - 0) = _
    rw [List.drop_zero, Nat.sub_zero]
    rcases Nat.le_total k cs.length with z | z
    · rw [Nat.min_eq_left z]
    · rw [Nat.min_eq_right z, List.take_length, List.take_of_length_le z]] at h
  exact h
theorem slice_from (cs : List Nat) (k : Nat) : Txt.slice (mkS cs) (some (k : Int)) none = mkS (cs.drop k) := by
  have h := slice_mk cs (some k) none
  rw [show (cs.drop (loN cs.length (some k))).take (hiN cs.length none - loN cs.length (some k)) = cs.drop k by
    show (cs.drop (min k cs.length)).take (cs.length - min k cs.length) = _
    rw [List.take_of_length_le (by rw [List.length_drop]; omega)]
    rcases Nat.le_total k cs.length with z | z
    · rw [Nat.min_eq_left z]
    · rw [Nat.min_eq_right z, List.drop_length, List.drop_eq_nil_of_le z]] at h
  exact h
theorem slice_mid (cs : List Nat) (k m : Nat) : Txt.slice (mkS cs) (some (k : Int)) (some ((k + m : Nat) : Int)) = mkS ((cs.drop k).take m) := by
  have h := slice_mk cs (some k) (some (k + m))
  rw [show (cs.drop (loN cs.length (some k))).take (hiN cs.length (some (k + m)) - loN cs.length (some k)) = (cs.drop k).take m by
    show (cs.drop (min k cs.length)).take (min (k + m) cs.length - min k cs.length) = _
    rcases Nat.le_total k cs.length with z | z
    · rw [Nat.min_eq_left z]
      rcases Nat.le_total (k + m) cs.length with z' | z'
      · rw [Nat.min_eq_left z', Nat.add_sub_cancel_left]
      · rw [Nat.min_eq_right z', List.take_of_length_le (by rw [List.length_drop]; omega), List.take_of_length_le (by rw [List.length_drop]; omega)]
    · rw [Nat.min_eq_right z, List.drop_length, List.drop_eq_nil_of_le z]; simp] at h
  exact h
/-! ### name_words, name_of -/
def spNameWords (K : PySem.W.Frag) (a : Ad) : Sp := fun vs H Q E => ∃ v b, vs = [v] ∧ TextOr K H v b ∧ (b = false → ∀ H', Same H H' → E (.ref a.cBadName) none H') ∧
  ∀ cs, v = .str (mkS cs) → b = true → goodT cs = true → ∀ p H', H p = none → Same H H' → H' p = some (.lst ((wordsOf cs).map V.int)) → Q (.ref p) H'
theorem good_is {cs : List Nat} (h : goodT cs = true) : 1 ≤ cs.length ∧ cs.length ≤ 12 ∧ ∀ c ∈ cs, isLet c = true := by
  unfold goodT at h
  rw [Bool.and_eq_true, Bool.and_eq_true, decide_eq_true_iff, decide_eq_true_iff, List.all_eq_true] at h
  exact ⟨h.1.1, h.1.2, h.2⟩
theorem ok_name_words (F : Fun K "name_words" "name_words" s_name_words f fd) (T : Txt K mg a) (D_is_name : Df P w K mg base CX0 1 "is_name" ["thing"] (spIsName K a)) (D_word_of : Df P w K mg base (CXE P w) 1 "word_of" ["letters"] (spWordOf K a)) : FnOk P w K mg base (CXE P w) 2 f fd ["name"] (spNameWords K a) := by
  obtain ⟨_, _, Gis_name, bis_name, kis_name, mis_name⟩ := D_is_name
  obtain ⟨_, _, Gword_of, bword_of, kword_of, mword_of⟩ := D_word_of
  have nd := sc_name_words.nd
  refine F.okE sc_name_words (fun vs H Q E h => ?_) (fun cdv A outer s H vs Q E hr hA h => ?_)
  · obtain ⟨v, b, rfl, _⟩ := h
    rfl
  obtain ⟨v, b, rfl, ha, q1, q2⟩ := h
  refine ⟨_, (pss_cons (ps_if (pt_not (pt_val (pe_call Gis_name (hr.mono (by decide)) rfl mis_name kis_name bis_name .nil pass0 (pa_cons (pv 0) pa_nil)))) (pss_one (ps_raise (out_fn (fun _ _ _ h => h)) rfl hA rfl T.mBadName T.xBadName (pa_cons pe_str pa_nil))) pss_nil)
    (pss_cons (ps_set (i := 1) nd rfl (by first | exact Or.inl rfl | exact Or.inr rfl) (pe_callB call_len_seq rfl T.len bt_len (pa_cons (pe_glob (v := .ref a.gWEIGHTS) rfl T.gWEIGHTS rfl) pa_nil)))
    (pss_one (ps_ret (pe_lc (cl := [("step", s.heap.objs.size + 2), ("name", s.heap.objs.size + 1)]) (fj := [("name", 0), ("step", 1)]) (by exact LcOk.of ["step", "name"] rfl (by decide +kernel) rfl (by decide +kernel) rfl (fun p h => (by simp only [List.mem_cons, List.not_mem_nil, or_false] at h; rcases h with rfl | rfl <;> rfl)) rfl (by decide +kernel) (fun p h => (by simp only [List.mem_cons, List.not_mem_nil, or_false] at h; rcases h with rfl | rfl <;> exact ⟨rfl, rfl, .inl rfl⟩)) (by decide +kernel)) rfl (L2.pi_range3 rfl T.range (pa_cons pe_int (pa_cons (pe_glob (v := .int 12) rfl T.cMOST_LETTERS.choose_spec ⟨_, rfl⟩) (pa_cons (pv 1) pa_nil)))) (fun _ _ _ => pf_nil) (fun _ _ _ => (pe_call Gword_of (hr.mono (by decide)) rfl mword_of kword_of bword_of .nil passesE0 (pa_cons (pe_slice sl_text (pv 1) (po_some (pv 0)) (po_some (pe_op op_add (pv 0) (pv 2)))) pa_nil) (hcm := (.inr hA))))))))), ?_⟩
  refine ⟨_, rfl, v, b, rfl, ha, fun H1 s1 => ⟨_, rfl, ?_⟩⟩
  cases b with
  | false => exact iteT' (by rfl) ⟨(by show 1 ≤ 1000; decide), q1 rfl H1 s1⟩
  | true =>
    refine iteF' (by rfl) ?_
    rcases ha with ⟨cs, rfl, hl, ha, hg⟩ | ⟨_, z⟩
    case inr => cases z
    obtain ⟨g1, g2, g3⟩ := good_is hg.symm
    have q := q2 cs rfl rfl hg.symm
    refine ⟨_, _, rfl, .inr (T.wWEIGHTS H1), ?_⟩
    refine ⟨_, rfl, 0, 12, 4, 3, rfl, by decide, by decide, by decide +kernel, by decide +kernel, lc_pure (It0 := Its 0 4 3) [.int 0, .int 4, .int 8] (by decide) (fun i H' hi _ => hi) (fun H' _ => Nat.le_refl _) (fun i H1 x H' hi _ y => ⟨y.1, ?_⟩) (fun _ => true)
      (fun v => .int (wordVal ((cs.drop (intV v).toNat).take 4))) (fun _ H' Qf _ _ k => k H' (Same.refl _)) (fun v H' Qf hv _ s' k => ?_) (fun p H2 n2 s2 h2 => ?_)⟩
    · obtain ⟨_, rfl⟩ := y
      have hi' : i < 3 := hi
      rcases (show i = 0 ∨ i = 1 ∨ i = 2 by omega) with rfl | rfl | rfl <;> rfl
    · obtain ⟨m, rfl⟩ : ∃ m : Nat, v = .int m := by
        simp only [List.mem_cons, List.not_mem_nil, or_false] at hv
        rcases hv with rfl | rfl | rfl
        · exact ⟨0, rfl⟩
        · exact ⟨4, rfl⟩
        · exact ⟨8, rfl⟩
      refine ⟨_, rfl, _, rfl, _, rfl, _, rfl, _, rfl, _, _, rfl, rfl, _, rfl, mkS cs, rfl, (by rw [mkS_len]; exact small (by omega)), ?_⟩
      rw [show Txt.slice (mkS cs) (some (m : Int)) (some ((m : Int) + (([V.int 19683, V.int 729, V.int 27, V.int 1] : List V).length : Int))) = mkS ((cs.drop m).take 4) from slice_mid cs m 4]
      refine ⟨_, rfl, ?_, fun c hc => g3 c (List.mem_of_mem_drop (List.mem_of_mem_take hc)), fun H3 s3 => k H3 s3⟩
      rw [List.length_take]
      omega
    · rw [filter_all] at h2
      exact q p H2 (s1.free n2) (s1.trans s2) h2
def spNameOf (K : PySem.W.Frag) (a : Ad) : Sp := fun vs H Q E => ∃ (p : Addr) (ws : List Int), vs = [.ref p] ∧ H p = some (.lst (ws.map V.int)) ∧ ws.length = 3 ∧ (nameOk ws = true → ∀ H', Same H H' → Q (.str (mkS (flat ws))) H') ∧
  (nameOk ws = false → ∀ H', Same H H' → E (.ref a.cBadName) none H')
theorem flat_lt (ws : List Int) : ∀ c ∈ flat ws, isLet c = true := by
  intro c hc
  rw [flat_eq] at hc
  obtain ⟨d, h1, rfl⟩ := List.mem_map.mp hc
  obtain ⟨h2, h3⟩ := List.mem_filter.mp h1
  exact letD_let (of_decide_eq_true h3) (dg_flat ws d h2).2
theorem flat_le {ws : List Int} (h : ws.length = 3) : (flat ws).length ≤ 12 := by
  rw [flat_eq, List.length_map]
  have := List.length_filter_le pos ((ws.map digs).flatten)
  rw [flat_len h] at this
  exact this
theorem letters_le (x : Int) : (lettersOf x).length ≤ 4 := by
  unfold lettersOf
  rw [List.length_map]
  exact List.length_filter_le _ _
theorem ok_name_of (F : Fun K "name_of" "name_of" s_name_of f fd) (T : Txt K mg a) (D_name_words : Df P w K mg base (CXE P w) 2 "name_words" ["name"] (spNameWords K a)) (D_letters_of : Df P w K mg base (CXE P w) 1 "letters_of" ["word"] (spLettersOf K a)) : FnOk P w K mg base (CXE P w) 3 f fd ["words"] (spNameOf K a) := by
  obtain ⟨_, _, Gname_words, bname_words, kname_words, mname_words⟩ := D_name_words
  obtain ⟨_, _, Gletters_of, bletters_of, kletters_of, mletters_of⟩ := D_letters_of
  have nd := sc_name_of.nd
  refine F.okE sc_name_of (fun vs H Q E h => ?_) (fun cdv A outer s H vs Q E hr hA h => ?_)
  · obtain ⟨p, ws, rfl, _⟩ := h
    rfl
  obtain ⟨p, ws, rfl, hp, h3, q1, q2⟩ := h
  refine ⟨_, (pss_cons (ps_set (i := 1) nd rfl (by first | exact Or.inl rfl | exact Or.inr rfl) (pe_bm PySem.F.plainAttrs_str PySem.F.slot_str_join PySem.F.type_str_join mt_join pe_str (pa_cons (pe_lc (cl := []) (fj := []) (by exact ⟨rfl, by decide +kernel, rfl, by decide +kernel, rfl, fun _ h => (by cases h), by decide +kernel, fun _ h => (by cases h), by decide +kernel⟩) rfl (pi_list (pv 0)) (fun _ _ _ => pf_nil) (fun _ _ _ => (pe_call Gletters_of (hr.mono (by decide)) rfl mletters_of kletters_of bletters_of .nil passesE0 (pa_cons (pv 0) pa_nil) (hcm := (.inr hA))))) pa_nil)))
    (pss_cons (ps_if (pt_cmpR (op_neD hr.units) (pe_call Gname_words (hr.mono (by decide)) rfl mname_words kname_words bname_words .nil (passes_fn (fun _ _ _ h => h)) (pa_cons (pv 1) pa_nil) (hcm := (.inr hA))) (pv 0) (nomark _)) (pss_one (ps_raise (out_fn (fun _ _ _ h => h)) rfl hA rfl T.mBadName T.xBadName (pa_cons pe_str pa_nil))) pss_nil)
    (pss_one (ps_ret (pv 1))))), ?_⟩
  refine ⟨rfl, _, rfl, p, rfl, ⟨_, SqL.of hp⟩, lc_pureL (xs := ws.map V.int) (by rw [List.length_map]; omega) (SqL.of hp) (fun _ => true) (fun v => .str (mkS (lettersOf (intV v)))) (fun _ H' Qf _ _ k => k H' (Same.refl _)) (fun v H' Qf hv _ s' k => ?_) (fun acc H1 n1 s1 h1 => ?_)⟩
  · obtain ⟨x, hx, rfl⟩ := List.mem_map.mp hv
    exact ⟨_, rfl, x, rfl, fun H3 s3 => k H3 s3⟩
  rw [filter_all, List.map_map, show (ws.map ((fun v => V.str (mkS (lettersOf (intV v)))) ∘ V.int)) = ((ws.map lettersOf).map mkS).map V.str by rw [List.map_map, List.map_map]; rfl] at h1
  refine ⟨_, acc, _, rfl, rfl, SqL.of h1, join_fits _ 3 4 (by rw [List.length_map]; omega) (fun l hl => by obtain ⟨x, _, rfl⟩ := List.mem_map.mp hl; exact letters_le x) (by decide), ?_⟩
  rw [join_mk]
  have hp1 := s1 _ _ hp
  refine ⟨_, rfl, _, goodT (flat ws), rfl, .inl ⟨flat ws, rfl, Nat.le_trans (flat_le h3) (by decide), fun c hc => isLet_lt (flat_lt ws c hc), rfl⟩, fun hb H2 s2 => ?_, fun cs ecs _ hg r H2 nr s2 hr => ?_⟩
  · refine q2 ?_ H2 (s1.trans s2)
    unfold nameOk
    rw [hb]; rfl
  · have ecs' : cs = flat ws := by
      have := V.str.inj ecs
      have := congrArg (fun z : Str => z.cps.toList) this
      unfold flat
      simpa [mkS] using this.symm
    subst ecs'
    refine ⟨_, rfl, .list ((wordsOf (flat ws)).map PyData.int), .list (ws.map PyData.int), .lst (SqL.of hr) (dvs_ints _), .lst (SqL.of (s2 _ _ hp1)) (dvs_ints _), PySem.W.ke_shaped_ints _, PySem.W.ke_shaped_ints _, _, rfl, ?_⟩
    rw [eqv_ints]
    by_cases e : wordsOf (flat ws) = ws
    · refine iteF' (by simp [e]) ⟨_, rfl, q1 ?_ H2 (s1.trans s2)⟩
      unfold nameOk
      rw [hg, decide_eq_true e]; rfl
    · refine iteT' (by simp [e]) ⟨(by show 1 ≤ 1000; decide), q2 ?_ H2 (s1.trans s2)⟩
      unfold nameOk
      rw [decide_eq_false e, Bool.and_false]
end
end K15
end
section
set_option Elab.async false
set_option linter.all false
set_option maxRecDepth 100000
set_option maxHeartbeats 4000000
namespace K15
open PySem L2 BK
section
variable {P : Program} {w : World} {K : PySem.W.Frag} {mg : Str → Option Value} {base : Heap} {f : Addr} {fd : FuncData} {a : Ad}
/-! ### _law_cell_at -/
def cell (ns : List Int) (k : Int) : Int := ns.getD k.toNat 0
def spCell (K : PySem.W.Frag) (_ : Ad) : Sp := fun vs H Q _ => ∃ (p : Addr) (ns : List Int) (k : Int), vs = [.ref p, .int k] ∧ SqL K H p (ns.map V.int) ∧ 0 ≤ k ∧ Q (.int (cell ns k)) H
theorem ok__law_cell_at (F : Fun K "_law_cell_at" "_law_cell_at" s__law_cell_at f fd) (T : Txt K mg a)  : FnOk P w K mg base CX0 1 f fd ["_law_script", "_law_k"] (spCell K a) := by
  have nd := sc__law_cell_at.nd
  refine F.ok sc__law_cell_at (fun vs H Q E h => ?_) (fun cdv A outer s H vs Q E hr h => ?_)
  · obtain ⟨p, ns, k, rfl, _⟩ := h
    rfl
  obtain ⟨p, ns, k, rfl, hS, h0, q⟩ := h
  refine ⟨_, (pss_cons (ps_if (pt_cmpR op_lt (pv 1) (pe_callB call_len_seq rfl T.len bt_len (pa_cons (pv 0) pa_nil)) (nomark _)) (pss_one (ps_ret (pe_ix ix_list (pv 0) (pv 1) (fun _ _ => rfl)))) pss_nil)
    (pss_one (ps_ret pe_int))), ?_⟩
  refine ⟨_, rfl, _, rfl, p, _, rfl, .inl hS, _, _, rfl, rfl, _, rfl, ?_⟩
  refine ite2 (fun c => ?_) (fun c => ?_)
  · have c' : k < (((ns.map V.int).length : Nat) : Int) := of_decide_eq_true c
    rw [List.length_map] at c'
    have hk : k.toNat < ns.length := by omega
    have e : atI (ns.map V.int) ((k.toNat : Nat) : Int) = some (.int ns[k.toNat]) := atI_nat (by rw [List.getElem?_map, List.getElem?_eq_getElem hk]; rfl)
    rw [show ((k.toNat : Nat) : Int) = k by omega] at e
    refine ⟨_, rfl, _, rfl, p, _, k, _, rfl, rfl, hS, e, ?_⟩
    rw [show ns[k.toNat] = cell ns k by unfold cell; rw [List.getD_eq_getElem?_getD, List.getElem?_eq_getElem hk]; rfl]
    exact q
  · have c' : ¬ k < (((ns.map V.int).length : Nat) : Int) := of_decide_eq_false (Bool.eq_false_iff.mpr c)
    rw [List.length_map] at c'
    rw [show cell ns k = 0 by unfold cell; rw [List.getD_eq_getElem?_getD, List.getElem?_eq_none (by omega)]; rfl] at q
    exact q

/-! ### _law_letter, _law_sign, _law_text -/
theorem abc_small : abc.length ≤ sizeLine := by rw [abc_len]; exact small (by decide)
def letter (n : Int) : Nat := 97 + (n % 26).toNat
theorem letter_let (n : Int) : isLet (letter n) = true := by
  rw [isLet_iff]
  unfold letter
  omega
def spLetter (_ : PySem.W.Frag) (_ : Ad) : Sp := fun vs H Q _ => ∃ n : Int, vs = [.int n] ∧ Q (.str (mkS [letter n])) H
theorem ok__law_letter (F : Fun K "_law_letter" "_law_letter" s__law_letter f fd) (T : Txt K mg a)  : FnOk P w K mg base CX0 1 f fd ["_law_number"] (spLetter K a) := by
  have nd := sc__law_letter.nd
  refine F.ok sc__law_letter (fun vs H Q E h => ?_) (fun cdv A outer s H vs Q E hr h => ?_)
  · obtain ⟨n, rfl, _⟩ := h
    rfl
  obtain ⟨n, rfl, q⟩ := h
  refine ⟨_, (pss_one (ps_ret (pe_ix ix_str pe_str (pe_op op_mod (pv 0) pe_int) (fun _ _ => rfl)))), ?_⟩
  exact ⟨_, rfl, _, _, rfl, rfl, (by show (0 : Int) < 26; decide), abc, _, _, rfl, rfl, abc_small, abc_at (by omega) (by omega), q⟩
abbrev sgn : Str := " !\"#$&'()*+,-./0123456789:;<=>?@ABCDEFGHIJKLMNOPQRSTUVWXYZ[\\]^_`{|}~\n\t"
theorem sgn_len : sgn.length = 70 := by decide +kernel
theorem sgn_list : sgn.cps.toList.length = 70 := by decide +kernel
theorem sgn_lt : sgn.cps.toList.all (· < 128) = true := by decide +kernel
theorem sgn_at {i : Int} (h0 : 0 ≤ i) (h1 : i < 70) : ∃ c, atI sgn.cps.toList i = some c ∧ c < 128 := by
  obtain ⟨k, rfl⟩ : ∃ k : Nat, i = (k : Int) := ⟨i.toNat, by omega⟩
  have hi : k < sgn.cps.toList.length := by rw [sgn_list]; omega
  exact ⟨sgn.cps.toList[k], atI_nat (List.getElem?_eq_getElem hi), of_decide_eq_true (List.all_eq_true.mp sgn_lt _ (List.getElem_mem hi))⟩
def spSign (_ : PySem.W.Frag) (_ : Ad) : Sp := fun vs H Q _ => ∃ n : Int, vs = [.int n] ∧ ∀ c, c < 128 → Q (.str (mkS [c])) H
theorem ok__law_sign (F : Fun K "_law_sign" "_law_sign" s__law_sign f fd) (T : Txt K mg a)  : FnOk P w K mg base CX0 1 f fd ["_law_cell"] (spSign K a) := by
  have nd := sc__law_sign.nd
  refine F.ok sc__law_sign (fun vs H Q E h => ?_) (fun cdv A outer s H vs Q E hr h => ?_)
  · obtain ⟨n, rfl, _⟩ := h
    rfl
  obtain ⟨n, rfl, q⟩ := h
  refine ⟨_, (pss_cons (ps_set (i := 1) nd rfl (by first | exact Or.inl rfl | exact Or.inr rfl) pe_str)
    (pss_one (ps_ret (pe_ix ix_str (pv 1) (pe_op op_mod (pv 0) (pe_callB call_len_str rfl T.len bt_len (pa_cons (pv 1) pa_nil))) (fun _ _ => rfl))))), ?_⟩
  obtain ⟨c, hc, hl⟩ := sgn_at (i := n % 70) (by omega) (by omega)
  have hz : sgn.length ≤ sizeLine := by rw [sgn_len]; exact small (by decide)
  refine ⟨_, rfl, _, rfl, _, rfl, sgn, rfl, hz, _, _, rfl, rfl, (by show (0 : Int) < _; rw [sgn_len]; decide), sgn, _, c, rfl, rfl, hz, ?_, q c hl⟩
  rw [sgn_len]
  exact hc
theorem mkS_app (x y : List Nat) : mkS x ++ mkS y = mkS (x ++ y) := by
  show Str.append (mkS x) (mkS y) = _
  unfold Str.append mkS
  simp
def spText (K : PySem.W.Frag) (_ : Ad) : Sp := fun vs H Q _ => ∃ (sc : Addr) (ns : List Int), vs = [.ref sc] ∧ SqL K H sc (ns.map V.int) ∧ ∀ cs, cs.length ≤ 20 → (∀ c ∈ cs, c < 128) → ∀ H', Same H H' → Q (.str (mkS cs)) H'
def putC (cs : List Nat) (k c : Nat) : List Nat := cs.take k ++ [c] ++ cs.drop (k + 1)
theorem putC_len (cs : List Nat) (k c : Nat) : (putC cs k c).length ≤ cs.length + 1 := by
  unfold putC
  rw [List.length_append, List.length_append, List.length_take, List.length_drop]
  simp only [List.length_singleton]
  omega
theorem putC_lt {cs : List Nat} {k c : Nat} (h : ∀ c ∈ cs, c < 128) (hc : c < 128) : ∀ x ∈ putC cs k c, x < 128 := by
  intro x hx
  unfold putC at hx
  rw [List.mem_append, List.mem_append] at hx
  rcases hx with (hx | hx) | hx
  · exact h x (List.mem_of_mem_take hx)
  · rw [List.mem_singleton.mp hx]; exact hc
  · exact h x (List.mem_of_mem_drop hx)
theorem ok__law_text (F : Fun K "_law_text" "_law_text" s__law_text f fd) (T : Txt K mg a) (D__law_cell_at : Df P w K mg base CX0 1 "_law_cell_at" ["_law_script", "_law_k"] (spCell K a)) (D__law_letter : Df P w K mg base CX0 1 "_law_letter" ["_law_number"] (spLetter K a)) (D__law_sign : Df P w K mg base CX0 1 "_law_sign" ["_law_cell"] (spSign K a)) : FnOk P w K mg base (CXE P w) 2 f fd ["_law_script"] (spText K a) := by
  obtain ⟨_, _, Gl_cell_at, bl_cell_at, kl_cell_at, ml_cell_at⟩ := D__law_cell_at
  obtain ⟨_, _, Gl_letter, bl_letter, kl_letter, ml_letter⟩ := D__law_letter
  obtain ⟨_, _, Gl_sign, bl_sign, kl_sign, ml_sign⟩ := D__law_sign
  have nd := sc__law_text.nd
  refine F.okE sc__law_text (fun vs H Q E h => ?_) (fun cdv A outer s H vs Q E hr hA h => ?_)
  · obtain ⟨sc, ns, rfl, _⟩ := h
    rfl
  obtain ⟨sc, ns, rfl, hS, q⟩ := h
  refine ⟨_, (pss_cons (ps_set (i := 1) nd rfl (by first | exact Or.inl rfl | exact Or.inr rfl) (pe_op op_mod (pe_call Gl_cell_at (hr.mono (by decide)) rfl ml_cell_at kl_cell_at bl_cell_at .nil pass0 (pa_cons (pv 0) (pa_cons pe_int pa_nil))) pe_int))
    (pss_cons (ps_set (i := 2) nd rfl (by first | exact Or.inl rfl | exact Or.inr rfl) (pe_op op_mul (pe_op op_mod (pe_op op_fdiv (pe_call Gl_cell_at (hr.mono (by decide)) rfl ml_cell_at kl_cell_at bl_cell_at .nil pass0 (pa_cons (pv 0) (pa_cons pe_int pa_nil))) pe_int) pe_int) (pe_op op_add pe_int (pe_op op_mod (pe_op op_fdiv (pe_call Gl_cell_at (hr.mono (by decide)) rfl ml_cell_at kl_cell_at bl_cell_at .nil pass0 (pa_cons (pv 0) (pa_cons pe_int pa_nil))) pe_int) pe_int))))
    (pss_cons (ps_set (i := 3) nd rfl (by first | exact Or.inl rfl | exact Or.inr rfl) (pe_bm PySem.F.plainAttrs_str PySem.F.slot_str_join PySem.F.type_str_join mt_join pe_str (pa_cons (pe_lc (cl := [("_law_step", s.heap.objs.size + 2), ("_law_script", s.heap.objs.size + 1)]) (fj := [("_law_script", 0), ("_law_step", 2)]) (by exact LcOk.of ["_law_step", "_law_script"] rfl (by decide +kernel) rfl (by decide +kernel) rfl (fun p h => (by simp only [List.mem_cons, List.not_mem_nil, or_false] at h; rcases h with rfl | rfl <;> rfl)) rfl (by decide +kernel) (fun p h => (by simp only [List.mem_cons, List.not_mem_nil, or_false] at h; rcases h with rfl | rfl <;> exact ⟨rfl, rfl, .inl rfl⟩)) (by decide +kernel)) rfl (pi_range1 rfl T.range (pa_cons (pv 1) pa_nil)) (fun _ _ _ => pf_nil) (fun _ _ _ => (pe_call Gl_letter (hr.mono (by decide)) rfl ml_letter kl_letter bl_letter .nil pass0 (pa_cons (pe_op op_add (pe_call Gl_cell_at (hr.mono (by decide)) rfl ml_cell_at kl_cell_at bl_cell_at .nil pass0 (pa_cons (pv 1) (pa_cons pe_int pa_nil))) (pe_op op_mul (pv 0) (pv 2))) pa_nil)))) pa_nil)))
    (pss_cons (ps_if (pt_cmpR op_gt (pv 1) pe_int (nomark _)) (pss_cons (ps_set (i := 4) nd rfl (by first | exact Or.inl rfl | exact Or.inr rfl) (pe_op op_mod (pe_op op_fdiv (pe_call Gl_cell_at (hr.mono (by decide)) rfl ml_cell_at kl_cell_at bl_cell_at .nil pass0 (pa_cons (pv 0) (pa_cons pe_int pa_nil))) pe_int) (pv 1)))
    (pss_one (ps_set (i := 3) nd rfl (by first | exact Or.inl rfl | exact Or.inr rfl) (pe_op op_add_str (pe_op op_add_str (pe_slice sl_text (pv 3) po_none (po_some (pv 4))) (pe_call Gl_letter (hr.mono (by decide)) rfl ml_letter kl_letter bl_letter .nil pass0 (pa_cons (pe_call Gl_cell_at (hr.mono (by decide)) rfl ml_cell_at kl_cell_at bl_cell_at .nil pass0 (pa_cons (pv 0) (pa_cons pe_int pa_nil))) pa_nil))) (pe_slice sl_text (pv 3) (po_some (pe_op op_add (pv 4) pe_int)) po_none))))) pss_nil)
    (pss_cons (ps_if (pt_cmpR op_eq (pe_op op_mod (pe_call Gl_cell_at (hr.mono (by decide)) rfl ml_cell_at kl_cell_at bl_cell_at .nil pass0 (pa_cons (pv 0) (pa_cons pe_int pa_nil))) pe_int) pe_int (nomark _)) (pss_cons (ps_set (i := 4) nd rfl (by first | exact Or.inl rfl | exact Or.inr rfl) (pe_op op_mod (pe_op op_fdiv (pe_call Gl_cell_at (hr.mono (by decide)) rfl ml_cell_at kl_cell_at bl_cell_at .nil pass0 (pa_cons (pv 0) (pa_cons pe_int pa_nil))) pe_int) (pe_op op_add (pv 1) pe_int)))
    (pss_one (ps_set (i := 3) nd rfl (by first | exact Or.inl rfl | exact Or.inr rfl) (pe_op op_add_str (pe_op op_add_str (pe_slice sl_text (pv 3) po_none (po_some (pv 4))) (pe_call Gl_sign (hr.mono (by decide)) rfl ml_sign kl_sign bl_sign .nil pass0 (pa_cons (pe_call Gl_cell_at (hr.mono (by decide)) rfl ml_cell_at kl_cell_at bl_cell_at .nil pass0 (pa_cons (pv 0) (pa_cons pe_int pa_nil))) pa_nil))) (pe_slice sl_text (pv 3) (po_some (pe_op op_add (pv 4) pe_int)) po_none))))) pss_nil)
    (pss_one (ps_ret (pv 3)))))))), ?_⟩
  refine ⟨_, rfl, sc, ns, 0, rfl, hS, by decide, _, _, rfl, rfl, (by show (0 : Int) < 15; decide), ?_⟩
  obtain ⟨sz, esz, hsz⟩ : ∃ k : Nat, cell ns 0 % 15 = (k : Int) ∧ k < 15 := ⟨(cell ns 0 % 15).toNat, by omega, by omega⟩
  dsimp (config := { proj := false, iota := false, eta := false, zeta := false }) only
  rw [esz]
  refine ⟨_, rfl, sc, ns, 1, rfl, hS, by decide, _, _, rfl, rfl, ⟨by decide, by decide⟩, _, _, rfl, rfl, (by show (0 : Int) < 2; decide), _, rfl, sc, ns, 1, rfl, hS, by decide, _, _, rfl, rfl, ⟨by decide, by decide⟩, _, _, rfl, rfl, (by show (0 : Int) < 25; decide), _, _, rfl, rfl, _, _, rfl, rfl, .inl ⟨by omega, by omega⟩, ?_⟩
  dsimp (config := { proj := false, iota := false, eta := false, zeta := false }) only
  generalize cell ns 1 / 26 % 2 * (1 + cell ns 1 / 52 % 25) = st
  refine ⟨rfl, _, rfl, (sz : Int), rfl, by omega, by omega, lc_pure (It0 := Itr 0 (sz : Int).toNat) ((List.range sz).map fun (i : Nat) => V.int (0 + (i : Int))) (by rw [List.length_map, List.length_range]; omega)
    (fun i H' hi _ => by show i < _; rw [List.length_map, List.length_range] at hi; omega) (fun H' _ => by show (sz : Int).toNat ≤ _; rw [List.length_map, List.length_range]; omega) (fun i H1 x H' hi _ y => ⟨y.1, ?_⟩) (fun _ => true)
    (fun v => .str (mkS [letter (cell ns 1 + intV v * st)])) (fun _ H' Qf _ _ k => k H' (Same.refl _)) (fun v H' Qf hv _ s' k => ?_) (fun acc H1 n1 s1 h1 => ?_)⟩
  · obtain ⟨_, rfl⟩ := y
    rw [List.length_map, List.length_range] at hi
    rw [List.getElem?_map, List.getElem?_range hi]
    rfl
  · obtain ⟨i, hi, rfl⟩ := List.mem_map.mp hv
    have hi' := List.mem_range.mp hi
    exact ⟨_, rfl, sc, ns, 1, rfl, s'.seq hS, by decide, _, rfl, _, rfl, _, _, rfl, rfl, .inl ⟨by omega, by omega⟩, _, _, rfl, rfl, _, rfl, k H' (Same.refl _)⟩
  rw [filter_all, List.map_map] at h1
  obtain ⟨cs0, e0, l0⟩ : ∃ ds : List Nat, ((List.range sz).map ((fun v => V.str (mkS [letter (cell ns 1 + intV v * st)])) ∘ fun (i : Nat) => V.int (0 + (i : Int)))) = ((ds.map fun c => [c]).map mkS).map V.str ∧ ds.length = sz ∧ ∀ c ∈ ds, c < 128 := by
    refine ⟨(List.range sz).map fun (i : Nat) => letter (cell ns 1 + (0 + (i : Int)) * st), by rw [List.map_map, List.map_map, List.map_map]; rfl, by simp, fun c hc => ?_⟩
    obtain ⟨i, _, rfl⟩ := List.mem_map.mp hc
    exact isLet_lt (letter_let _)
  rw [e0] at h1
  refine ⟨_, acc, _, rfl, rfl, SqL.of h1, join_fits _ 15 1 (by rw [List.length_map]; omega) (fun l hl => by obtain ⟨c, _, rfl⟩ := List.mem_map.mp hl; exact Nat.le_refl _) (by decide), ?_⟩
  rw [join_mk, show (cs0.map fun c => [c]).flatten = cs0 by clear e0 l0 h1; induction cs0 with | nil => rfl | cons c l ih => rw [List.map_cons, List.flatten_cons, ih]; rfl]
  obtain ⟨l0, a0⟩ := l0
  have hS1 := s1.seq hS
  have hlz : ∀ cs : List Nat, cs.length ≤ 40 → (mkS cs).length ≤ sizeLine := fun cs h => by rw [mkS_len]; exact small (by omega)
  have two : ∀ x y : List Nat, x.length + y.length ≤ 40 → (mkS x).length + (mkS y).length ≤ sizeLine := fun x y h => by rw [mkS_len, mkS_len]; exact small (by omega)
  refine ⟨_, rfl, _, _, rfl, rfl, _, rfl, ?_⟩
  generalize hT : tSeq (tIfS _ _ _) _ = TL
  have fin : ∀ (cs : List Nat) (o : Option V), cs.length ≤ 18 → (∀ c ∈ cs, c < 128) → TL { nx := fun _ H' => Q .non H', rt := Q } [some (.ref sc), some (.int sz), some (.int st), some (.str (mkS cs)), o] H1 := by
    intro cs o hl hc
    rw [← hT]
    refine ⟨_, rfl, sc, ns, 3, rfl, hS1, by decide, _, _, rfl, rfl, (by show (0 : Int) < 3; decide), rfl, _, rfl, ?_⟩
    by_cases c3 : cell ns 3 % 3 = 1
    · refine iteT' (by rw [dec_V]; exact decide_eq_true c3) ?_
      refine ⟨_, rfl, sc, ns, 3, rfl, hS1, by decide, _, _, rfl, rfl, ⟨by decide, by decide⟩, _, rfl, _, _, rfl, rfl, _, _, rfl, rfl, (by show (0 : Int) < (sz : Int) + 1; omega), ?_⟩
      obtain ⟨k, ek⟩ : ∃ k : Nat, cell ns 3 / 3 % ((sz : Int) + 1) = (k : Int) := ⟨(cell ns 3 / 3 % ((sz : Int) + 1)).toNat, by have := Int.emod_nonneg (cell ns 3 / 3) (show (sz : Int) + 1 ≠ 0 by omega); omega⟩
      dsimp (config := { proj := false, iota := false, eta := false, zeta := false }) only
      rw [ek]
      refine ⟨_, rfl, _, rfl, _, rfl, mkS cs, rfl, hlz cs (by omega), ?_⟩
      rw [slice_to]
      refine ⟨_, rfl, sc, ns, 4, rfl, hS1, by decide, _, rfl, fun c hc' => ⟨_, _, rfl, rfl, two _ _ (by rw [List.length_take]; simp only [List.length_singleton]; omega), ?_⟩⟩
      rw [mkS_app]
      refine ⟨_, rfl, _, rfl, _, _, rfl, rfl, _, rfl, mkS cs, rfl, hlz cs (by omega), ?_⟩
      rw [show (k : Int) + 1 = ((k + 1 : Nat) : Int) by omega, slice_from]
      refine ⟨_, _, rfl, rfl, two _ _ (by rw [List.length_append, List.length_take, List.length_drop]; simp only [List.length_singleton]; omega), ?_⟩
      rw [mkS_app]
      exact ⟨_, rfl, q (putC cs k c) (by have := putC_len cs k c; omega) (putC_lt hc hc') H1 s1⟩
    · exact iteF' (by rw [dec_V]; exact decide_eq_false c3) ⟨_, rfl, q cs (by omega) hc H1 s1⟩
  by_cases hz : 0 < sz
  · refine iteT' (decide_eq_true (by omega)) ?_
    refine ⟨_, rfl, sc, ns, 2, rfl, hS1, by decide, _, _, rfl, rfl, ⟨by decide, by decide⟩, _, rfl, _, _, rfl, rfl, (by show (0 : Int) < (sz : Int); omega), ?_⟩
    obtain ⟨k, ek⟩ : ∃ k : Nat, cell ns 2 / 26 % (sz : Int) = (k : Int) := ⟨(cell ns 2 / 26 % (sz : Int)).toNat, by have := Int.emod_nonneg (cell ns 2 / 26) (show (sz : Int) ≠ 0 by omega); omega⟩
    dsimp (config := { proj := false, iota := false, eta := false, zeta := false }) only
    rw [ek]
    refine ⟨_, rfl, _, rfl, _, rfl, mkS cs0, rfl, hlz cs0 (by omega), ?_⟩
    rw [slice_to]
    refine ⟨_, rfl, sc, ns, 2, rfl, hS1, by decide, _, rfl, _, _, rfl, rfl, two _ _ (by rw [List.length_take]; simp only [List.length_singleton]; omega), ?_⟩
    rw [mkS_app]
    refine ⟨_, rfl, _, rfl, _, _, rfl, rfl, _, rfl, mkS cs0, rfl, hlz cs0 (by omega), ?_⟩
    rw [show (k : Int) + 1 = ((k + 1 : Nat) : Int) by omega, slice_from]
    refine ⟨_, _, rfl, rfl, two _ _ (by rw [List.length_append, List.length_take, List.length_drop]; simp only [List.length_singleton]; omega), ?_⟩
    rw [mkS_app]
    exact fin (putC cs0 k (letter (cell ns 2))) _ (by have := putC_len cs0 k (letter (cell ns 2)); omega) (putC_lt a0 (isLet_lt (letter_let _)))
  · exact iteF' (decide_eq_false (by omega)) (fin cs0 _ (by omega) a0)
/-! ### _law_good -/
theorem dvs_strs {H : Hp} : ∀ R : List Str, DVs K H (R.map V.str) (R.map PyData.str)
  | [] => .nil
  | x :: r => .cons (.str x) (dvs_strs r)
theorem shaped_strs (R : List Str) (hR : ∀ x ∈ R, PyData.strOk x = true) : SeqAt.shaped (.list (R.map PyData.str)) = true := by
  have h1 : PyData.canLayAll0 (R.map PyData.str) = true := by
    induction R with
    | nil => rfl
    | cons x r ih => rw [List.map_cons, PyData.canLayAll0, ih fun y hy => hR y (List.mem_cons_of_mem _ hy), PyData.canLay0, hR x (List.mem_cons_self ..)]; rfl
  have h2 : PyData.depthAll (R.map PyData.str) ≤ 1 := by
    clear h1 hR
    induction R with
    | nil => simp [PyData.depthAll]
    | cons x r ih => rw [List.map_cons, PyData.depthAll]; simp only [PyData.depth]; omega
  exact shaped_list h1 h2
theorem strOk_all : (List.range 128).all (fun c => PyData.strOk ⟨#[c]⟩) = true := by decide +kernel
theorem strOk_c {c : Nat} (h : c < 128) : PyData.strOk ⟨#[c]⟩ = true := List.all_eq_true.mp strOk_all c (List.mem_range.mpr h)
theorem eqv_nil (ds : List PyData) : PyData.eqv (.list ds) (.list []) = ds.isEmpty := by
  rw [PyData.eqv]
  cases ds with
  | nil => rw [PyData.eqvAll]; rfl
  | cons d r => rw [PyData.eqvAll]; rfl
abbrev spGood (K : PySem.W.Frag) (a : Ad) : Sp := spIsName K a
theorem ok__law_good (F : Fun K "_law_good" "_law_good" s__law_good f fd) (T : Txt K mg a)  : FnOk P w K mg base CX0 1 f fd ["_law_thing"] (spGood K a) := by
  have nd := sc__law_good.nd
  refine F.ok sc__law_good (fun vs H Q E h => ?_) (fun cdv A outer s H vs Q E hr h => ?_)
  · obtain ⟨v, b, rfl, _⟩ := h
    rfl
  obtain ⟨v, b, rfl, ha, q⟩ := h
  refine ⟨_, (pss_cons (ps_if (PW.pt (pw_or (pt_not (pt_val (pe_callB (call_isinst (T := "str")) rfl T.isinstance bt_isinstance (pa_cons (pv 0) (pa_cons (pe_bltn (v := .ty "str") rfl T.str bt_str rfl) pa_nil))))) (pw_or1 (pt_not (pt_chain op_le op_le pe_int (pe_callB call_len_str rfl T.len bt_len (pa_cons (pv 0) pa_nil)) pe_int))))) (pss_one (ps_ret pe_bl)) pss_nil)
    (pss_one (ps_ret (pe_cmpR (op_eqD hr.units) (pe_lc (cl := []) (fj := []) (by exact ⟨rfl, by decide +kernel, rfl, by decide +kernel, rfl, fun _ h => (by cases h), by decide +kernel, fun _ h => (by cases h), by decide +kernel⟩) rfl (pi_text (pv 0)) (fun _ _ _ => (pf_one (pt_cmpR op_notin_str (pv 0) pe_str (by rfl)))) (fun _ _ _ => (pv 0))) (pe_lst pa_nil) (nomark _))))), ?_⟩
  rcases ha with ⟨cs, rfl, hl, ha, rfl⟩ | ⟨⟨t, ty, e⟩, rfl⟩
  case inr => exact ⟨_, rfl, _, t, false, rfl, ty, e, _, rfl, iteT' (by rfl) (iteT (q _ (Same.refl _)))⟩
  obtain ⟨t, ty, e⟩ := isStr (K := K) (H := H) (mkS cs)
  refine ⟨_, rfl, _, t, true, rfl, ty, e, _, rfl, iteF' (by rfl) ?_⟩
  have hlz : (mkS cs).length ≤ sizeLine := by rw [mkS_len]; exact small (by omega)
  refine ⟨_, rfl, _, rfl, hlz, _, _, rfl, rfl, _, rfl, ?_⟩
  rw [mkS_len]
  by_cases c1 : 1 ≤ cs.length
  · refine iteT' (decide_eq_true (by omega)) ⟨_, _, rfl, rfl, _, rfl, ?_⟩
    by_cases c2 : cs.length ≤ 12
    · refine iteF' (by rw [show decide ((cs.length : Int) ≤ 12) = true from decide_eq_true (by omega)]; rfl) ?_
      refine ⟨_, rfl, mkS cs, rfl, mkS_ascii ha, lc_pureX (cs := cs) rfl (by omega) (fun v => !isLet (chrV v)) (fun v => v) (fun x H' Qf hx s' k => ?_) (fun x H' Qf hx _ s' k => ⟨_, rfl, k H' (Same.refl _)⟩) (fun acc H' n' s' h' => ?_)⟩
      · obtain ⟨c, hc, rfl⟩ := List.mem_map.mp hx
        refine ⟨_, rfl, _, _, rfl, rfl, _, rfl, ?_⟩
        have e : (!(!(Builtin.Str.occurrences abc ⟨#[c]⟩ 0 abc.length 1).isEmpty)) = !isLet c := by
          rw [occ_abc (ha c hc)]
          cases isLet c <;> rfl
        have k' := k H' (Same.refl _)
        rw [show (!isLet (chrV (.str ⟨#[c]⟩))) = !isLet c from rfl, ← e] at k'
        exact k'
      · have e3 : (((cs.map fun c => V.str ⟨#[c]⟩).filter fun v => !isLet (chrV v)).map fun v => v) = ((cs.filter fun c => !isLet c).map fun c => (⟨#[c]⟩ : Str)).map V.str := by
          rw [List.map_id', List.filter_map, List.map_map]
          rfl
        rw [e3] at h'
        refine ⟨Nat.zero_le _, fun l nl => ⟨.list (((cs.filter fun c => !isLet c).map fun c => (⟨#[c]⟩ : Str)).map PyData.str), .list [], .lst (SqL.of (same_new nl _ _ _ h')) (dvs_strs _), .lst (SqL.of upd_same) .nil, shaped_strs _ (fun x hx => by obtain ⟨c, h1, rfl⟩ := List.mem_map.mp hx; exact strOk_c (ha c (List.mem_filter.mp h1).1)), shaped_strs [] (fun x hx => by cases hx), ?_⟩⟩
        have := q _ (s'.trans (same_new nl (.lst [])))
        rw [show goodT cs = PyData.eqv (.list (((cs.filter fun c => !isLet c).map fun c => (⟨#[c]⟩ : Str)).map PyData.str)) (.list []) by
          rw [eqv_nil]
          unfold goodT
          rw [decide_eq_true c1, decide_eq_true c2, Bool.true_and, Bool.true_and]
          clear h' e3 this hl ha c1 c2 hlz ty e q
          induction cs with
          | nil => rfl
          | cons c r ih => rw [List.all_cons, List.filter_cons]; cases hc : isLet c <;> simp [hc, ih]] at this
        exact this
    · refine iteT' (by rw [show decide ((cs.length : Int) ≤ 12) = false from decide_eq_false (by omega)]; rfl) ?_
      have := q H (Same.refl _)
      rw [show goodT cs = false by unfold goodT; rw [decide_eq_false c2, Bool.and_false]; rfl] at this
      exact this
  · refine iteF' (decide_eq_false (by omega)) ⟨_, rfl, iteT' (by rfl) ?_⟩
    have := q H (Same.refl _)
    rw [show goodT cs = false by unfold goodT; rw [decide_eq_false c1]; rfl] at this
    exact this
/-! ### _law_words -/
def spWords (K : PySem.W.Frag) (_ : Ad) : Sp := fun vs H Q _ => ∃ cs, vs = [.str (mkS cs)] ∧ goodT cs = true ∧ ∀ p H', H p = none → Same H H' → H' p = some (.lst ((wordsOf cs).map V.int)) → Q (.ref p) H'
theorem ok__law_words (F : Fun K "_law_words" "_law_words" s__law_words f fd) (T : Txt K mg a)  : FnOk P w K mg base CX0 1 f fd ["_law_name_here"] (spWords K a) := by
  have nd := sc__law_words.nd
  refine F.ok sc__law_words (fun vs H Q E h => ?_) (fun cdv A outer s H vs Q E hr h => ?_)
  · obtain ⟨cs, rfl, _⟩ := h
    rfl
  obtain ⟨cs, rfl, hg, q⟩ := h
  obtain ⟨g1, g2, g3⟩ := good_is hg
  refine ⟨_, (pss_cons (ps_set (i := 1) nd rfl (by first | exact Or.inl rfl | exact Or.inr rfl) (pe_op op_cat (pe_lc (cl := []) (fj := []) (by exact ⟨rfl, by decide +kernel, rfl, by decide +kernel, rfl, fun _ h => (by cases h), by decide +kernel, fun _ h => (by cases h), by decide +kernel⟩) rfl (pi_text (pv 0)) (fun _ _ _ => pf_nil) (fun _ _ _ => (pe_op op_add (pe_bmK (K := K) rfl PySem.F.plainAttrs_str PySem.F.slot_str_index PySem.F.type_str_index mt_indexS pe_str (pa_cons (pv 0) pa_nil)) pe_int))) (pe_op op_rep (pe_lst (pa_cons pe_int pa_nil)) (pe_op op_sub pe_int (pe_callB call_len_str rfl T.len bt_len (pa_cons (pv 0) pa_nil))))))
    (pss_cons (ps_set (i := 2) nd rfl (by first | exact Or.inl rfl | exact Or.inr rfl) (pe_lst pa_nil))
    (pss_cons (ps_for PassesOwn.never rfl (pi_tup (pe_tup (pa_cons pe_int (pa_cons pe_int (pa_cons pe_int pa_nil))))) (pg_name (i := 3) nd rfl (by first | exact Or.inl rfl | exact Or.inr rfl)) (pss_cons (ps_set (i := 4) nd rfl (by first | exact Or.inl rfl | exact Or.inr rfl) (pe_op op_add (pe_op op_mul (pe_ix ix_list (pv 1) (pv 3) (fun _ _ => rfl)) pe_int) (pe_op op_mul (pe_ix ix_list (pv 1) (pe_op op_add (pv 3) pe_int) (fun _ _ => rfl)) pe_int)))
    (pss_one (ps_expr (pe_bm PySem.F.plainAttrs_list PySem.F.slot_list_append PySem.F.type_list_append mt_append (pv 2) (pa_cons (pe_op op_add (pe_op op_add (pv 4) (pe_op op_mul (pe_ix ix_list (pv 1) (pe_op op_add (pv 3) pe_int) (fun _ _ => rfl)) pe_int)) (pe_ix ix_list (pv 1) (pe_op op_add (pv 3) pe_int) (fun _ _ => rfl))) pa_nil))))))
    (pss_one (ps_ret (pv 2)))))), ?_⟩
  have hlz : (mkS cs).length ≤ sizeLine := by rw [mkS_len]; exact small (by omega)
  refine ⟨_, rfl, mkS cs, rfl, mkS_ascii fun c hc => isLet_lt (g3 c hc), lc_pureX (cs := cs) rfl (by omega) (fun _ => true) (fun v => .int (num (chrV v))) (fun _ H' Qf _ _ k => k H' (Same.refl _)) (fun x H' Qf hx _ s' k => ?_) (fun acc H1 n1 s1 h1 => ?_)⟩
  · obtain ⟨c, hc, rfl⟩ := List.mem_map.mp hx
    have hcl := g3 c hc
    have hc2 := isLet_iff.mp hcl
    refine ⟨rfl, _, rfl, abc, _, c - 97, [], rfl, rfl, (by rw [occ_abc (isLet_lt hcl), if_pos hcl]), _, _, rfl, rfl, ?_⟩
    have k' := k H' (Same.refl _)
    rw [show num (chrV (.str ⟨#[c]⟩)) = ((c - 97 : Nat) : Int) + 1 by show (c : Int) - 97 + 1 = _; omega] at k'
    exact k'
  rw [filter_all, List.map_map] at h1
  refine ⟨(by show 1 ≤ sizeLine; decide), fun l1 m1 => ?_⟩
  have t1 := same_new m1 (.lst [.int 0])
  refine ⟨_, rfl, mkS cs, rfl, hlz, _, _, rfl, rfl, l1, _, [.int 0], rfl, rfl, upd_same, ?_, ?_, ?_, fun l2 m2 => ?_⟩
  · rw [mkS_len]; omega
  · rw [mkS_len]; omega
  · rw [mkS_len]; exact small (by show 1 * _ ≤ _; omega)
  have e2 : (List.replicate (12 - ((mkS cs).length : Int)).toNat [V.int 0]).flatten = (List.replicate (12 - cs.length) (0 : Int)).map V.int := by
    rw [mkS_len, show (12 - (cs.length : Int)).toNat = 12 - cs.length by omega]
    generalize 12 - cs.length = n
    induction n with
    | zero => rfl
    | succ n ih => rw [List.replicate_succ, List.flatten_cons, ih, List.replicate_succ]; rfl
  rw [e2]
  have t2 := t1.trans (same_new m2 (.lst ((List.replicate (12 - cs.length) (0 : Int)).map V.int)))
  refine ⟨acc, l2, _, _, rfl, rfl, t2 _ _ h1, upd_same, small (by simp; omega), fun l3 m3 => ?_⟩
  obtain ⟨N, eN⟩ : ∃ N : List Int, N = cs.map num ++ List.replicate (12 - cs.length) 0 := ⟨_, rfl⟩
  have e3 : (cs.map ((fun v => V.int (num (chrV v))) ∘ fun c => V.str ⟨#[c]⟩)) ++ (List.replicate (12 - cs.length) (0 : Int)).map V.int = N.map V.int := by
    rw [eN, List.map_append, List.map_map]
    rfl
  have hN12 : N.length = 12 := by rw [eN, List.length_append, List.length_map, List.length_replicate]; omega
  have hW : wordsOf cs = [val4 N 0, val4 N 4, val4 N 8] := by rw [wordsOf_eq, eN, val4_pad, val4_pad, val4_pad]
  rw [e3]
  have t3 := (s1.trans t2).trans (same_new m3 (.lst (N.map V.int)))
  have h3 : (upd (upd (upd H1 l1 (.lst [.int 0])) l2 (.lst ((List.replicate (12 - cs.length) (0 : Int)).map V.int))) l3 (.lst (N.map V.int))) l3 = some (.lst (N.map V.int)) := upd_same
  generalize (upd (upd (upd H1 l1 (.lst [.int 0])) l2 (.lst ((List.replicate (12 - cs.length) (0 : Int)).map V.int))) l3 (.lst (N.map V.int))) = H3 at t3 h3 ⊢
  refine ⟨Nat.zero_le _, fun wl nwl => ⟨(by show 3 ≤ sizeLine; decide), fun tp ntp => ?_⟩⟩
  have t4 := t3.trans ((same_new nwl (.lst [])).trans (same_new ntp (.tup [.int 0, .int 4, .int 8])))
  have h4 : (upd (upd H3 wl (.lst [])) tp (.tup [.int 0, .int 4, .int 8])) l3 = some (.lst (N.map V.int)) := same_new ntp (.tup [.int 0, .int 4, .int 8]) _ _ (same_new nwl (.lst []) _ _ h3)
  have hw4 : (upd (upd H3 wl (.lst [])) tp (.tup [.int 0, .int 4, .int 8])) wl = some (.lst []) := same_new ntp (.tup [.int 0, .int 4, .int 8]) _ _ upd_same
  have ht4 := upd_same (H := upd H3 wl (.lst [])) (a := tp) (o := .tup [.int 0, .int 4, .int 8])
  have nw : H wl = none := t3.free nwl
  generalize (upd (upd H3 wl (.lst [])) tp (.tup [.int 0, .int 4, .int 8])) = H4 at t4 h4 hw4 ht4 ⊢
  have ne1 : l3 ≠ wl := ne_of h4 hw4 (fun z => by
    have := HO.lst.inj (Option.some.inj (congrArg some z))
    have := congrArg List.length this
    rw [List.length_map, hN12] at this
    cases this)
  have ne2 : tp ≠ wl := ne_of ht4 hw4 (fun z => by cases z)
  have hat : ∀ z : Int, 0 ≤ z → z < 12 → atI (N.map V.int) z = some (.int (at0 N z.toNat)) := by
    intro z h0 h1
    rw [show z = ((z.toNat : Nat) : Int) by omega]
    refine atI_nat ?_
    rw [Int.toNat_natCast, List.getElem?_map, List.getElem?_eq_getElem (by omega)]
    unfold at0
    rw [List.getD_eq_getElem?_getD, List.getElem?_eq_getElem (by omega)]
    rfl
  refine ⟨tp, rfl, ⟨_, SqT.of ht4⟩, for_tup (xs := [.int 0, .int 4, .int 8]) (fun i σ' H' => (∃ o3 o4, σ' = [some (.str (mkS cs)), some (.ref l3), some (.ref wl), o3, o4]) ∧ H' wl = some (.lst (((wordsOf cs).take i).map V.int)) ∧ Chg [wl] H4 H')
    ⟨⟨_, _, rfl⟩, hw4, Chg.of (Same.refl _)⟩ (fun i σ' H' hi ⟨_, _, c⟩ => SqT.of (c _ _ ht4 (by simp only [List.mem_singleton]; exact ne2))) ?_ ?_⟩
  · rintro i x σ' H' hx ⟨⟨o3, o4, rfl⟩, hw, c⟩
    have hN : H' l3 = some (.lst (N.map V.int)) := c _ _ h4 (by simp only [List.mem_singleton]; exact ne1)
    obtain ⟨z, rfl, hz, ez⟩ : ∃ z : Int, x = .int z ∧ (0 ≤ z ∧ z < 9) ∧ (wordsOf cs)[i]? = some (at0 N z.toNat * 19683 + at0 N (z + 1).toNat * 729 + at0 N (z + 2).toNat * 27 + at0 N (z + 3).toNat) := by
      rw [hW]
      have hi : i < 3 := by
        rcases Nat.lt_or_ge i 3 with z | z
        · exact z
        · rw [List.getElem?_eq_none (by simpa using z)] at hx; cases hx
      rcases (show i = 0 ∨ i = 1 ∨ i = 2 by omega) with rfl | rfl | rfl <;> (cases hx; exact ⟨_, rfl, ⟨by decide, by decide⟩, rfl⟩)
    refine ⟨_, rfl, _, rfl, l3, _, _, _, rfl, rfl, SqL.of hN, hat _ (by omega) (by omega), _, _, rfl, rfl, .inr ⟨by decide, by decide⟩, _, rfl, _, rfl, _, _, rfl, rfl, l3, _, _, _, rfl, rfl, SqL.of hN, hat _ (by omega) (by omega), _, _, rfl, rfl, .inr ⟨by decide, by decide⟩, _, _, rfl, rfl, ?_⟩
    refine ⟨_, rfl, .inl ⟨rfl, _, SqL.of hw⟩, _, rfl, _, rfl, _, rfl, _, _, rfl, rfl, l3, _, _, _, rfl, rfl, SqL.of hN, hat _ (by omega) (by omega), _, _, rfl, rfl, .inr ⟨by decide, by decide⟩, _, _, rfl, rfl, _, rfl, _, rfl, _, _, rfl, rfl, l3, _, _, _, rfl, rfl, SqL.of hN, hat _ (by omega) (by omega), _, _, rfl, rfl, wl, _, _, rfl, rfl, hw, small1000 (by rw [List.length_map, List.length_take]; have : (wordsOf cs).length = 3 := rfl; omega), ?_⟩
    refine ⟨⟨_, _, rfl⟩, ?_, c.upd (by simp) _⟩
    rw [upd_same, List.take_add_one, ez, List.map_append]
    rfl
  · rintro σ' H' ⟨⟨o3, o4, rfl⟩, hw, c⟩
    refine ⟨_, rfl, q wl H' nw (fun b o e => c b o (t4 _ _ e) (by simp only [List.mem_singleton]; exact ne_of_none e nw)) ?_⟩
    rw [hw]
    rfl
end
end K15
end
section
set_option Elab.async false
set_option linter.all false
set_option maxRecDepth 100000
set_option maxHeartbeats 4000000
namespace K15
open PySem L2 BK
section
variable {P : Program} {w : World} {K : PySem.W.Frag} {mg : Str → Option Value} {base : Heap} {f : Addr} {fd : FuncData} {a : Ad}
/-! ### _law_name -/
def spName (K : PySem.W.Frag) (_ : Ad) : Sp := fun vs H Q _ => ∃ (p : Addr) (ws : List Int), vs = [.ref p] ∧ H p = some (.lst (ws.map V.int)) ∧ ws.length = 3 ∧ (∀ x ∈ ws, 0 ≤ x) ∧ (nameOk ws = true → ∀ H', Same H H' → Q (.str (mkS (flat ws))) H') ∧ (nameOk ws = false → ∀ H', Same H H' → Q .non H')
theorem empty_mk : ("" : Str) = mkS [] := by decide +kernel
theorem letter_d {d : Int} (h0 : 0 < d) (h1 : d < 27) : letter (d - 1) = letD d := by
  unfold letter letD
  omega
theorem ok__law_name (F : Fun K "_law_name" "_law_name" s__law_name f fd) (T : Txt K mg a) (D__law_letter : Df P w K mg base CX0 1 "_law_letter" ["_law_number"] (spLetter K a)) : FnOk P w K mg base CX0 2 f fd ["_law_words_here"] (spName K a) := by
  obtain ⟨_, _, Gl_letter, bl_letter, kl_letter, ml_letter⟩ := D__law_letter
  have nd := sc__law_name.nd
  refine F.ok sc__law_name (fun vs H Q E h => ?_) (fun cdv A outer s H vs Q E hr h => ?_)
  · obtain ⟨p, ws, rfl, _⟩ := h
    rfl
  obtain ⟨p, ws, rfl, hp, hl3, h0, q1, q2⟩ := h
  refine ⟨_, (pss_cons (ps_set (i := 1) nd rfl (by first | exact Or.inl rfl | exact Or.inr rfl) pe_str)
    (pss_cons (ps_set (i := 2) nd rfl (by first | exact Or.inl rfl | exact Or.inr rfl) (pe_lst pa_nil))
    (pss_cons (ps_for PassesOwn.never rfl (pi_list (pv 0)) (pg_name (i := 3) nd rfl (by first | exact Or.inl rfl | exact Or.inr rfl)) (pss_cons (ps_if (pt_cmpR op_gt (pv 3) pe_int (nomark _)) (pss_one (ps_ret pe_non)) pss_nil)
    (pss_one (ps_set (i := 2) nd rfl (by first | exact Or.inl rfl | exact Or.inr rfl) (pe_op op_cat (pv 2) (pe_lst (pa_cons (pe_op op_fdiv (pv 3) pe_int) (pa_cons (pe_op op_mod (pe_op op_fdiv (pv 3) pe_int) pe_int) (pa_cons (pe_op op_mod (pe_op op_fdiv (pv 3) pe_int) pe_int) (pa_cons (pe_op op_mod (pv 3) pe_int) pa_nil))))))))))
    (pss_cons (ps_while PassesOwn.never (PW.pt (pw_and (pt_cmpR op_gt (pe_callB call_len_seq rfl T.len bt_len (pa_cons (pv 2) pa_nil)) pe_int (nomark _)) (pw_and1 (pt_cmpR op_eq (pe_ix ix_list (pv 2) (pe_un un_neg pe_int) (fun _ _ => rfl)) pe_int (nomark _))))) (pss_one (ps_expr (pe_bm0 PySem.F.plainAttrs_list PySem.F.slot_list_pop PySem.F.type_list_pop mt_pop (pv 2)))))
    (pss_cons (ps_for PassesOwn.never rfl (pi_list (pv 2)) (pg_name (i := 4) nd rfl (by first | exact Or.inl rfl | exact Or.inr rfl)) (pss_cons (ps_if (pt_cmpR op_eq (pv 4) pe_int (nomark _)) (pss_one (ps_ret pe_non)) pss_nil)
    (pss_one (ps_set (i := 1) nd rfl (by first | exact Or.inl rfl | exact Or.inr rfl) (pe_op op_add_str (pv 1) (pe_call Gl_letter (hr.mono (by decide)) rfl ml_letter kl_letter bl_letter .nil pass0 (pa_cons (pe_op op_sub (pv 4) pe_int) pa_nil)))))))
    (pss_one (ps_ret (pe_ix ix_list (pe_lst (pa_cons (pv 1) (pa_cons pe_non pa_nil))) (pe_callTy call_int1 rfl T.int bt_int (pa_cons (pe_cmpR op_eq (pv 1) pe_str (nomark _)) pa_nil)) (fun _ _ => rfl))))))))), ?_⟩
  refine ⟨Nat.zero_le _, fun r0 nr0 => ?_⟩
  have s0 := same_new nr0 (.lst [])
  refine ⟨_, rfl, p, rfl, ⟨_, SqL.of (s0 _ _ hp)⟩, for_list (xs := ws.map V.int) (fun i σ' H' => ∃ r o3, σ' = [some (.ref p), some (.str ""), some (.ref r), o3, none] ∧ H' r = some (.lst ((((ws.take i).map dgs).flatten).map V.int)) ∧ H r = none ∧ Same H H' ∧ ∀ x ∈ ws.take i, x ≤ 531440)
    ⟨r0, none, rfl, upd_same, nr0, s0, fun x hx => by simp at hx⟩ (fun i σ' H' hi ⟨_, _, _, _, _, s, _⟩ => SqL.of (s _ _ hp)) ?_ ?_⟩
  · rintro i x σ' H' hx ⟨r, o3, rfl, hr0, nr, s, hle⟩
    rw [List.getElem?_map] at hx
    cases hw : ws[i]? with
    | none => rw [hw] at hx; cases hx
    | some y =>
      rw [hw] at hx
      cases hx
      have hy := List.mem_of_getElem? hw
      refine ⟨_, rfl, _, _, rfl, rfl, _, rfl, ite2 (fun c => ?_) (fun c => ?_)⟩
      · exact q2 (not_ok_big hy (of_decide_eq_true c) hl3) H' s
      have hyl : y ≤ 531440 := by have := of_decide_eq_false (Bool.eq_false_iff.mpr c); omega
      refine ⟨_, rfl, _, rfl, _, _, rfl, rfl, ⟨by decide, by decide⟩, _, rfl, _, _, rfl, rfl, ⟨by decide, by decide⟩, _, _, rfl, rfl, (by show (0 : Int) < 27; decide), _, rfl, _, _, rfl, rfl, ⟨by decide, by decide⟩, _, _, rfl, rfl, (by show (0 : Int) < 27; decide), _, rfl, _, _, rfl, rfl, (by show (0 : Int) < 27; decide), (by show 4 ≤ sizeLine; decide), fun l nl => ?_⟩
      have s2 := s.trans (same_new nl (.lst ((dgs y).map V.int)))
      refine ⟨r, l, _, _, rfl, rfl, same_new nl _ _ _ hr0, upd_same, small ?_, fun r2 nr2 => ?_⟩
      · have hi : i < ws.length := by
          rcases Nat.lt_or_ge i ws.length with z | z
          · exact z
          · rw [List.getElem?_eq_none z] at hw; cases hw
        have hlen : (((ws.take i).map dgs).flatten).length ≤ 12 := by
          obtain ⟨a1, b1, c1, rfl⟩ := list3 hl3
          rcases (show i = 0 ∨ i = 1 ∨ i = 2 by simp at hi; omega) with rfl | rfl | rfl <;> simp [dgs]
        rw [List.length_map]
        show _ + 4 ≤ _
        omega
      refine ⟨r2, some (.int y), rfl, ?_, s2.free nr2, s2.trans (same_new nr2 _), fun x hx => ?_⟩
      · rw [upd_same, List.take_add_one, hw, List.map_append, List.flatten_append, List.map_append]
        simp [dgs]
      · rw [List.take_add_one, hw] at hx
        rcases List.mem_append.mp hx with hx | hx
        · exact hle x hx
        · have : x = y := by simpa using hx
          rw [this]; exact hyl
  rintro σ' H' ⟨r, o3, rfl, hr0, nr, s, hle⟩
  rw [List.length_map, List.take_length] at hr0 hle
  have hb : ∀ x ∈ ws, 0 ≤ x ∧ x ≤ 531440 := fun x hx => ⟨h0 x hx, hle x hx⟩
  have hD12 : ((ws.map dgs).flatten).length = 12 := by
    obtain ⟨a1, b1, c1, rfl⟩ := list3 hl3
    rfl
  refine ⟨fun n σ2 H2 => ∃ S k, σ2 = [some (.ref p), some (.str ""), some (.ref r), o3, none] ∧ (ws.map dgs).flatten = S ++ List.replicate k 0 ∧ H2 r = some (.lst (S.map V.int)) ∧ n = S.length ∧ Same H H2, ⟨_, (ws.map dgs).flatten, 0, rfl, by simp, hr0, rfl, s⟩, ?_⟩
  rintro n σ2 H2 ⟨S, k, rfl, hD, hr2, rfl, s2⟩
  refine ⟨_, rfl, r, _, rfl, .inl (SqL.of hr2), _, _, rfl, rfl, _, rfl, ?_⟩
  rw [List.length_map]
  have hSl : S.length ≤ 12 := by rw [hD, List.length_append] at hD12; omega
  have hSd : Dg S := fun d hd => by
    have := dg_flat ws d (by rw [digs_all hb, hD]; exact List.mem_append_left _ hd)
    exact this
  generalize hT : tSeq (tFor _ _ _) _ = TL
  have tail : (S = [] ∨ S.getLast? ≠ some 0) → TL { nx := fun _ H' => Q .non H', rt := Q } [some (.ref p), some (.str ""), some (.ref r), o3, none] H2 := by
    intro hlast
    obtain ⟨hok, hfl⟩ := ok_iff hl3 hb hD hlast
    rw [← hT]
    refine ⟨_, rfl, r, rfl, ⟨_, SqL.of hr2⟩, for_list (xs := S.map V.int) (fun i σ3 H3 => (∃ o4, σ3 = [some (.ref p), some (.str (mkS ((S.take i).map letD))), some (.ref r), o3, o4]) ∧ H3 = H2 ∧ (0 : Int) ∉ S.take i)
      ⟨⟨none, by rw [empty_mk]; rfl⟩, rfl, by simp⟩ (fun i σ3 H3 hi ⟨_, e, _⟩ => by rw [e]; exact SqL.of hr2) ?_ ?_⟩
    · rintro i x σ3 H3 hx ⟨⟨o4, rfl⟩, rfl, hz⟩
      rw [List.getElem?_map] at hx
      cases hw : S[i]? with
      | none => rw [hw] at hx; cases hx
      | some d =>
        rw [hw] at hx
        cases hx
        have hd := List.mem_of_getElem? hw
        have hdd := hSd d hd
        refine ⟨_, rfl, rfl, _, rfl, ?_⟩
        by_cases d0 : d = 0
        · refine iteT' (by rw [dec_V]; exact decide_eq_true d0) (q2 ?_ _ s2)
          rw [hok]
          subst d0
          simp [hd]
        · refine iteF' (by rw [dec_V]; exact decide_eq_false d0) ?_
          refine ⟨_, rfl, _, rfl, _, _, rfl, rfl, _, rfl, _, _, rfl, rfl, ?_, ?_⟩
          · rw [mkS_len, mkS_len, List.length_map, List.length_take]; exact small (by simp only [List.length_singleton]; omega)
          rw [mkS_app, letter_d (by omega) hdd.2]
          refine ⟨⟨some (.int d), ?_⟩, rfl, ?_⟩
          · rw [List.take_add_one, hw, List.map_append]; rfl
          · rw [List.take_add_one, hw]
            simp only [Option.toList_some, List.mem_append, List.mem_singleton, not_or]
            exact ⟨hz, fun e => d0 e.symm⟩
    · rintro σ3 H3 ⟨⟨o4, rfl⟩, rfl, hz⟩
      rw [List.length_map, List.take_length] at hz ⊢
      refine ⟨_, rfl, (by show 2 ≤ sizeLine; decide), fun l nl => ?_⟩
      have s3 := s2.trans (same_new nl (.lst [V.str (mkS (S.map letD)), V.non]))
      by_cases hS : S = []
      · subst hS
        refine ⟨_, rfl, rfl, .inr ⟨_, rfl, l, _, _, .non, rfl, rfl, SqL.of upd_same, ?_, q2 (by rw [hok]; rfl) _ s3⟩⟩
        rw [empty_mk]
        rfl
      · have hne : decide (V.str (mkS (S.map letD)) = V.str "") = false := by
          refine decide_eq_false fun e => hS ?_
          rw [empty_mk] at e
          have := congrArg (fun z : Str => z.cps.toList.length) (V.str.inj e)
          simp [mkS] at this
          exact this
        have hok' : nameOk ws = true := by rw [hok, decide_eq_true hz, decide_eq_true hS]; rfl
        refine ⟨_, rfl, rfl, .inr ⟨_, rfl, l, _, _, .str (mkS (S.map letD)), rfl, rfl, SqL.of upd_same, ?_, ?_⟩⟩
        · rw [hne]; rfl
        · have := q1 hok' _ s3
          rw [hfl hok'] at this
          exact this
  by_cases hS : S = []
  · subst hS
    exact iteF' (by rfl) (iteF (tail (.inl rfl)))
  · obtain ⟨S', y, hSy⟩ := List.eq_nil_or_concat S |>.resolve_left hS
    rw [List.concat_eq_append] at hSy
    subst hSy
    have hl1 : (S' ++ [y]).length = S'.length + 1 := by rw [List.length_append]; rfl
    refine iteT' (decide_eq_true (by show ((S' ++ [y]).length : Int) > 0; omega)) ?_
    have hat : atI ((S' ++ [y]).map V.int) (-1) = some (.int y) := by
      rw [List.map_append]
      exact atI_last _ _
    refine ⟨_, rfl, _, rfl, r, _, _, .int y, rfl, rfl, SqL.of hr2, hat, rfl, _, rfl, ?_⟩
    by_cases y0 : y = 0
    · refine iteT' (by rw [dec_V]; exact decide_eq_true y0) ?_
      subst y0
      refine ⟨fun σ3 H3 => σ3 = [some (.ref p), some (.str ""), some (.ref r), o3, none] ∧ H3 = upd H2 r (.lst (S'.map V.int)), fun σ3 H3 ⟨e1, e2⟩ => ⟨S'.length, by omega, S', k + 1, e1, ?_, by rw [e2]; exact upd_same, rfl, by rw [e2]; exact same_upd nr s2 _⟩, ?_⟩
      · rw [hD, List.append_assoc, List.replicate_succ]
        rfl
      refine ⟨_, rfl, .inl ⟨rfl, _, SqL.of hr2⟩, r, _, .int 0, rfl, rfl, hr2, ?_, rfl, ?_⟩
      · rw [List.length_map, hl1, List.map_append]
        simp
      · rw [List.map_append]
        simp
    · exact iteF' (by rw [dec_V]; exact decide_eq_false y0) (tail (.inr (by simp [y0])))
end
end K15
end
section
set_option Elab.async false
set_option linter.all false
set_option maxRecDepth 100000
set_option maxHeartbeats 4000000
namespace K15
open PySem L2 BK
section
variable {P : Program} {w : World} {K : PySem.W.Frag} {mg : Str → Option Value} {base : Heap} {f : Addr} {fd : FuncData} {a : Ad}
/-! ### _law_kind -/
def spKind (K : PySem.W.Frag) (a : Ad) : Sp := fun vs H Q _ => ∃ e, vs = [.ref e] ∧ H e = some (.exc (.ref a.cBadName)) ∧ ∀ H', Same H H' → Q (.str "bad") H'
theorem ok__law_kind (F : Fun K "_law_kind" "_law_kind" s__law_kind f fd) (T : Txt K mg a)  : FnOk P w K mg base CX0 1 f fd ["_law_error"] (spKind K a) := by
  have nd := sc__law_kind.nd
  refine F.ok sc__law_kind (fun vs H Q E h => ?_) (fun cdv A outer s H vs Q E hr h => ?_)
  · obtain ⟨e, rfl, _⟩ := h
    rfl
  obtain ⟨e, rfl, he, q⟩ := h
  refine ⟨_, (pss_cons (ps_if (pt_val (pe_callB call_isinstT rfl T.isinstance bt_isinstance (pa_cons (pv 0) (pa_cons (pe_tup (pa_cons (pe_glob (v := .ref a.cBadRow) rfl T.mBadRow rfl) (pa_cons (pe_glob (v := .ref a.cNoBlock) rfl T.mNoBlock rfl) (pa_cons (pe_glob (v := .ref a.cStopped) rfl T.mStopped rfl) (pa_cons (pe_glob (v := .ref a.cBadDisk) rfl T.mBadDisk rfl) (pa_cons (pe_glob (v := .ref a.cNoRoom) rfl T.mNoRoom rfl) (pa_cons (pe_glob (v := .ref a.cTooMuch) rfl T.mTooMuch rfl) (pa_cons (pe_glob (v := .ref a.cBadLog) rfl T.mBadLog rfl) (pa_cons (pe_glob (v := .ref a.cNoNode) rfl T.mNoNode rfl) (pa_cons (pe_glob (v := .ref a.cNoNodes) rfl T.mNoNodes rfl) (pa_cons (pe_glob (v := .ref a.cTooLong) rfl T.mTooLong rfl) pa_nil))))))))))) pa_nil)))) (pss_one (ps_ret pe_str)) pss_nil)
    (pss_cons (ps_if (pt_val (pe_callB call_isinstT rfl T.isinstance bt_isinstance (pa_cons (pv 0) (pa_cons (pe_tup (pa_cons (pe_glob (v := .ref a.cOutOfPlace) rfl T.mOutOfPlace rfl) (pa_cons (pe_glob (v := .ref a.cBadPath) rfl T.mBadPath rfl) (pa_cons (pe_glob (v := .ref a.cNotFolder) rfl T.mNotFolder rfl) (pa_cons (pe_glob (v := .ref a.cNotFile) rfl T.mNotFile rfl) (pa_cons (pe_glob (v := .ref a.cNoName) rfl T.mNoName rfl) (pa_cons (pe_glob (v := .ref a.cNameThere) rfl T.mNameThere rfl) (pa_cons (pe_glob (v := .ref a.cNotEmpty) rfl T.mNotEmpty rfl) (pa_cons (pe_glob (v := .ref a.cWithin) rfl T.mWithin rfl) (pa_cons (pe_glob (v := .ref a.cBadOrder) rfl T.mBadOrder rfl) pa_nil)))))))))) pa_nil)))) (pss_one (ps_ret pe_str)) pss_nil)
    (pss_one (ps_ret (pe_ix ix_list (pe_lst (pa_cons pe_str (pa_cons pe_str pa_nil))) (pe_callTy call_int1 rfl T.int bt_int (pa_cons (pe_and (pe_callB (call_isinstC (C := a.cBadName)) rfl T.isinstance bt_isinstance (pa_cons (pv 0) (pa_cons (pe_glob (v := .ref a.cBadName) rfl T.mBadName rfl) pa_nil))) (pe_one (pe_callB (call_isinst (T := "ValueError")) rfl T.isinstance bt_isinstance (pa_cons (pv 0) (pa_cons (pe_bltn (v := .ty "ValueError") rfl T.ValueError bt_ValueError rfl) pa_nil))))) pa_nil)) (fun _ _ => rfl)))))), ?_⟩
  have ty : ∀ {H' : Hp}, Same H H' → TyOf K H' (.ref e) (.ref a.cBadName) := fun s => .exc (s _ _ he) T.eBadName
  have k1 : PySem.W.kitAny K (.ref a.cBadName) ([a.cBadRow, a.cNoBlock, a.cStopped, a.cBadDisk, a.cNoRoom, a.cTooMuch, a.cBadLog, a.cNoNode, a.cNoNodes, a.cTooLong].map Value.ref) = some false := by
    simp only [List.map_cons, List.map_nil, PySem.W.kitAny, T.qBadName_BadRow, T.qBadName_NoBlock, T.qBadName_Stopped, T.qBadName_BadDisk, T.qBadName_NoRoom, T.qBadName_TooMuch, T.qBadName_BadLog, T.qBadName_NoNode, T.qBadName_NoNodes, T.qBadName_TooLong]
  have k2 : PySem.W.kitAny K (.ref a.cBadName) ([a.cOutOfPlace, a.cBadPath, a.cNotFolder, a.cNotFile, a.cNoName, a.cNameThere, a.cNotEmpty, a.cWithin, a.cBadOrder].map Value.ref) = some false := by
    simp only [List.map_cons, List.map_nil, PySem.W.kitAny, T.qBadName_OutOfPlace, T.qBadName_BadPath, T.qBadName_NotFolder, T.qBadName_NotFile, T.qBadName_NoName, T.qBadName_NameThere, T.qBadName_NotEmpty, T.qBadName_Within, T.qBadName_BadOrder]
  refine ⟨_, rfl, (by show 10 ≤ sizeLine; decide), fun t1 m1 => ?_⟩
  have s1 := same_new m1 (.tup ([a.cBadRow, a.cNoBlock, a.cStopped, a.cBadDisk, a.cNoRoom, a.cTooMuch, a.cBadLog, a.cNoNode, a.cNoNodes, a.cTooLong].map V.ref))
  refine ⟨_, t1, _, .ref a.cBadName, false, rfl, upd_same, ty s1, k1, _, rfl, iteF' (by rfl) ?_⟩
  refine ⟨_, rfl, (by show 9 ≤ sizeLine; decide), fun t2 m2 => ?_⟩
  have s2 := s1.trans (same_new m2 (.tup ([a.cOutOfPlace, a.cBadPath, a.cNotFolder, a.cNotFile, a.cNoName, a.cNameThere, a.cNotEmpty, a.cWithin, a.cBadOrder].map V.ref)))
  refine ⟨_, t2, _, .ref a.cBadName, false, rfl, upd_same, ty s2, k2, _, rfl, iteF' (by rfl) ?_⟩
  refine ⟨(by show 2 ≤ sizeLine; decide), fun l nl => ?_⟩
  have s3 := s2.trans (same_new nl (.lst [.str "other", .str "bad"]))
  exact ⟨_, rfl, _, .ref a.cBadName, true, rfl, ty s3, T.qBadName_BadName, _, rfl, iteT ⟨_, rfl, _, .ref a.cBadName, true, rfl, ty s3, T.qBadName_ValueError, .inr ⟨true, rfl, l, _, _, .str "bad", rfl, rfl, SqL.of upd_same, rfl, q _ s3⟩⟩⟩
/-! ### _law_asked -/
def spAsked (K : PySem.W.Frag) (a : Ad) : Sp := fun vs H Q _ =>
  (∃ v b, vs = [.int 0, v] ∧ TextOr K H v b ∧ (b = false → ∀ p H', Same H H' → H' p = some (.tup [.str "refused", .str "bad"]) → Q (.ref p) H') ∧
    ∀ cs, v = .str (mkS cs) → b = true → goodT cs = true → ∀ p r H', H r = none → Same H H' → H' r = some (.lst ((wordsOf cs).map V.int)) → H' p = some (.tup [.str "told", .ref r]) → Q (.ref p) H') ∨
  (∃ (p0 : Addr) (ws : List Int), vs = [.int 1, .ref p0] ∧ H p0 = some (.lst (ws.map V.int)) ∧ ws.length = 3 ∧ (nameOk ws = true → ∀ p H', Same H H' → H' p = some (.tup [.str "told", .str (mkS (flat ws))]) → Q (.ref p) H') ∧
    (nameOk ws = false → ∀ p H', Same H H' → H' p = some (.tup [.str "refused", .str "bad"]) → Q (.ref p) H'))
theorem TextOr.same {H H' : Hp} {v : V} {b : Bool} (h : TextOr K H v b) (s : Same H H') : TextOr K H' v b := by
  rcases h with h | ⟨h, e⟩
  · exact .inl h
  · exact .inr ⟨h.same s, e⟩
theorem ok__law_asked (F : Fun K "_law_asked" "_law_asked" s__law_asked f fd) (T : Txt K mg a) (D_name_words : Df P w K mg base (CXE P w) 2 "name_words" ["name"] (spNameWords K a)) (D_name_of : Df P w K mg base (CXE P w) 3 "name_of" ["words"] (spNameOf K a)) (D__law_kind : Df P w K mg base CX0 1 "_law_kind" ["_law_error"] (spKind K a)) : FnOk P w K mg base (CXE P w) 4 f fd ["_law_which", "_law_thing"] (spAsked K a) := by
  obtain ⟨_, _, Gname_words, bname_words, kname_words, mname_words⟩ := D_name_words
  obtain ⟨_, _, Gname_of, bname_of, kname_of, mname_of⟩ := D_name_of
  obtain ⟨_, _, Gl_kind, bl_kind, kl_kind, ml_kind⟩ := D__law_kind
  have nd := sc__law_asked.nd
  refine F.okE sc__law_asked (fun vs H Q E h => ?_) (fun cdv A outer s H vs Q E hr hA h => ?_)
  · rcases h with ⟨v, b, rfl, _⟩ | ⟨p0, ws, rfl, _⟩ <;> rfl
  refine ⟨_, (pss_cons (ps_set (i := 2) nd rfl (by first | exact Or.inl rfl | exact Or.inr rfl) pe_non)
    (pss_cons (ps_set (i := 3) nd rfl (by first | exact Or.inl rfl | exact Or.inr rfl) pe_non)
    (pss_cons (ps_try (i := 4) ["_law_found"] rfl rfl rfl rfl nd rfl rfl rfl T.mKeepError T.kKeepError (fun Ex pn fx xe hfx O => (pss_one (ps_set (i := 3) nd rfl (by first | exact Or.inl rfl | exact Or.inr rfl) (pe_callE2 Gname_words (hr.mono (by decide)) kname_words bname_words Gname_of (hr.mono (by decide)) kname_of bname_of (passes_out O rfl rfl) (pe_ix (ix_listK (K := K) rfl) (pe_lst (pa_cons (pe_glob (v := .ref _) rfl mname_words rfl) (pa_cons (pe_glob (v := .ref _) rfl mname_of rfl) pa_nil))) (pv 0) (fun _ _ => rfl)) (pa_cons (pv 1) pa_nil) (hcm := (.inr hA))) (hfx := fun p h z => hfx p h (by rw [z]; simp))))) (fun e c pn => (pss_one (ps_set (i := 2) nd rfl (by first | exact Or.inl rfl | exact Or.inr rfl) (pv 4)))))
    (pss_cons (ps_if (pt_cmpR op_notN (pv 2) pe_non (nomark _)) (pss_one (ps_ret (pe_tup (pa_cons pe_str (pa_cons (pe_call Gl_kind (hr.mono (by decide)) rfl ml_kind kl_kind bl_kind .nil pass0 (pa_cons (pv 2) pa_nil)) pa_nil))))) pss_nil)
    (pss_one (ps_ret (pe_tup (pa_cons pe_str (pa_cons (pv 3) pa_nil))))))))), ?_⟩
  rcases h with ⟨v, b, rfl, ha, q1, q2⟩ | ⟨p0, ws, rfl, hp, h3, q1, q2⟩
  · refine ⟨(by show 2 ≤ sizeLine; decide), fun l nl => ?_⟩
    have s1 : ∀ o : HO, Same H (upd H l o) := fun o => same_new nl o
    refine ⟨_, rfl, l, _, _, _, rfl, rfl, SqL.of upd_same, rfl, .inl ⟨rfl, _, rfl, v, b, rfl, ha.same (s1 _), fun hb H2 s2 => ?_, fun cs ev hb hg r H2 nr s2 hr => ?_⟩⟩
    · refine ⟨⟨_, rfl, T.sBadName_KeepError⟩, fun e ne => ⟨_, rfl, _, rfl, rfl, _, rfl, iteT' (by rfl) ?_⟩⟩
      refine ⟨_, rfl, e, rfl, upd_same, fun H3 s3 => ⟨(by show 2 ≤ sizeLine; decide), fun p np => ?_⟩⟩
      exact q1 hb p _ (((((s1 _).trans s2).trans (same_new ne _)).trans s3).trans (same_new np _)) upd_same
    · refine ⟨_, rfl, rfl, _, rfl, iteF' (by rfl) ⟨_, rfl, (by show 2 ≤ sizeLine; decide), fun p np => ?_⟩⟩
      exact q2 cs ev hb hg p r _ ((s1 _).free nr) (((s1 _).trans s2).trans (same_new np _)) (same_new np _ _ _ hr) upd_same
  · refine ⟨(by show 2 ≤ sizeLine; decide), fun l nl => ?_⟩
    have s1 : ∀ o : HO, Same H (upd H l o) := fun o => same_new nl o
    refine ⟨_, rfl, l, _, _, _, rfl, rfl, SqL.of upd_same, rfl, .inr ⟨rfl, _, rfl, p0, ws, rfl, s1 _ _ _ hp, h3, fun hb H2 s2 => ?_, fun hb H2 s2 => ?_⟩⟩
    · refine ⟨_, rfl, rfl, _, rfl, iteF' (by rfl) ⟨_, rfl, (by show 2 ≤ sizeLine; decide), fun p np => ?_⟩⟩
      exact q1 hb p _ (((s1 _).trans s2).trans (same_new np _)) upd_same
    · refine ⟨⟨_, rfl, T.sBadName_KeepError⟩, fun e ne => ⟨_, rfl, _, rfl, rfl, _, rfl, iteT' (by rfl) ?_⟩⟩
      refine ⟨_, rfl, e, rfl, upd_same, fun H3 s3 => ⟨(by show 2 ≤ sizeLine; decide), fun p np => ?_⟩⟩
      exact q2 hb p _ (((((s1 _).trans s2).trans (same_new ne _)).trans s3).trans (same_new np _)) upd_same
/-! ### _law_drawn -/
def OkW (ws : List Int) : Prop := ws.length = 3 ∧ ∀ x ∈ ws, 0 ≤ x
def spDrawn (K : PySem.W.Frag) (_ : Ad) : Sp := fun vs H Q _ => ∃ (sc : Addr) (ns : List Int), vs = [.ref sc] ∧ SqL K H sc (ns.map V.int) ∧ ∀ p ws H', H p = none → Same H H' → OkW ws → H' p = some (.lst (ws.map V.int)) → Q (.ref p) H'
theorem OkW.set {ws : List Int} (h : OkW ws) (k : Nat) {x : Int} (hx : 0 ≤ x) : OkW (ws.set k x) := by
  refine ⟨by rw [List.length_set]; exact h.1, fun y hy => ?_⟩
  rcases List.mem_or_eq_of_mem_set hy with z | z
  · exact h.2 y z
  · rw [z]; exact hx
theorem ixN3 {k : Nat} (h : k < 3) : ixN 3 (k : Int) = some k := by
  unfold ixN
  rw [if_pos (by omega), if_pos (by omega)]
  simp
theorem ok__law_drawn (F : Fun K "_law_drawn" "_law_drawn" s__law_drawn f fd) (T : Txt K mg a) (D__law_cell_at : Df P w K mg base CX0 1 "_law_cell_at" ["_law_script", "_law_k"] (spCell K a)) : FnOk P w K mg base CX0 2 f fd ["_law_script"] (spDrawn K a) := by
  obtain ⟨_, _, Gl_cell_at, bl_cell_at, kl_cell_at, ml_cell_at⟩ := D__law_cell_at
  have nd := sc__law_drawn.nd
  refine F.ok sc__law_drawn (fun vs H Q E h => ?_) (fun cdv A outer s H vs Q E hr h => ?_)
  · obtain ⟨sc, ns, rfl, _⟩ := h
    rfl
  obtain ⟨sc, ns, rfl, hS, q⟩ := h
  refine ⟨_, (pss_cons (ps_setLc (j := 1) (cl := [("_law_script", s.heap.objs.size + 1)]) (fj := [("_law_script", 0)]) (by exact LcOk.of ["_law_script"] rfl (by decide +kernel) rfl (by decide +kernel) rfl (fun p h => (by rw [List.mem_singleton.mp h]; rfl)) rfl (by decide +kernel) (fun p h => (by rw [List.mem_singleton.mp h]; exact ⟨rfl, rfl, .inl rfl⟩)) (by decide +kernel)) rfl nd rfl (by first | exact Or.inl rfl | exact Or.inr rfl) (pi_range1 rfl T.range (pa_cons pe_int pa_nil)) (fun _ _ _ => pf_nil) (fun _ _ _ => (pe_op op_mod (pe_call Gl_cell_at (hr.mono (by decide)) rfl ml_cell_at kl_cell_at bl_cell_at .nil pass0 (pa_cons (pv 1) (pa_cons (pe_op op_add pe_int (pv 0)) pa_nil))) pe_int)))
    (pss_cons (ps_set (i := 2) nd rfl (by first | exact Or.inl rfl | exact Or.inr rfl) (pe_call Gl_cell_at (hr.mono (by decide)) rfl ml_cell_at kl_cell_at bl_cell_at .nil pass0 (pa_cons (pv 0) (pa_cons pe_int pa_nil))))
    (pss_cons (ps_if (pt_cmpR op_eq (pe_op op_mod (pv 2) pe_int) pe_int (nomark _)) (pss_one (ps_asg (pe_op op_add pe_int (pe_op op_mod (pe_op op_fdiv (pv 2) pe_int) pe_int)) (pg_sub (pv 1) (pe_op op_mod (pe_op op_fdiv (pv 2) pe_int) pe_int) set_list))) pss_nil)
    (pss_cons (ps_if (pt_cmpR op_eq (pe_op op_mod (pv 2) pe_int) pe_int (nomark _)) (pss_one (ps_asg pe_int (pg_sub (pv 1) (pe_op op_mod (pe_op op_fdiv (pv 2) pe_int) pe_int) set_list))) pss_nil)
    (pss_cons (ps_if (pt_cmpR op_eq (pe_op op_mod (pv 2) pe_int) pe_int (nomark _)) (pss_cons (ps_set (i := 3) nd rfl (by first | exact Or.inl rfl | exact Or.inr rfl) (pe_ix ix_list (pv 1) (pe_op op_mod (pe_op op_fdiv (pv 2) pe_int) pe_int) (fun _ _ => rfl)))
    (pss_cons (ps_set (i := 4) nd rfl (by first | exact Or.inl rfl | exact Or.inr rfl) (pe_ix ix_list (by with_reducible exact (pe_lst (pa_cons pe_int (pa_cons pe_int (pa_cons pe_int (pa_cons pe_int pa_nil (hs := star_con)) (hs := star_con)) (hs := star_con)) (hs := star_con)))) (pe_op op_mod (pe_op op_fdiv (pv 2) pe_int) pe_int) (fun _ _ => rfl)))
    (pss_one (ps_asg (pe_op op_sub (pv 3) (pe_op op_mul (pe_op op_mod (pe_op op_fdiv (pv 3) (pv 4)) pe_int) (pv 4))) (pg_sub (pv 1) (pe_op op_mod (pe_op op_fdiv (pv 2) pe_int) pe_int) set_list))))) pss_nil)
    (pss_one (ps_ret (pv 1)))))))), ?_⟩
  refine ⟨3, rfl, by decide, by decide, lc_ints (n := 3) (by decide) (fun i : Nat => cell ns (5 + (0 + (i : Int))) % 531441) (fun i H1 Qf hi s1 k => ?_) (fun r H1 nr s1 hr' => ?_)⟩
  · exact ⟨_, rfl, _, rfl, _, _, rfl, rfl, sc, ns, _, rfl, s1.seq hS, by omega, _, _, rfl, rfl, (by show (0 : Int) < 531441; decide), k _ (Same.refl _)⟩
  have hS1 := s1.seq hS
  obtain ⟨ws, ew, hw⟩ : ∃ ws, ws = (List.range 3).map (fun i : Nat => cell ns (5 + (0 + (i : Int))) % 531441) ∧ OkW ws := ⟨_, rfl, rfl, fun x hx => by
    obtain ⟨i, _, rfl⟩ := List.mem_map.mp hx
    omega⟩
  rw [← ew] at hr'
  refine ⟨_, rfl, sc, ns, 8, rfl, hS1, by decide, ?_⟩
  generalize cell ns 8 = c
  obtain ⟨k, ek, hk⟩ : ∃ k : Nat, c / 4 % 3 = (k : Int) ∧ k < 3 := ⟨(c / 4 % 3).toNat, by omega, by omega⟩
  have hix : ∀ ws : List Int, OkW ws → ixN (ws.map V.int).length (c / 4 % 3) = some k := fun ws h => by
    rw [List.length_map, h.1, ek]
    exact ixN3 hk
  have hst : ∀ (ws : List Int) (x : Int), (ws.map V.int).set k (.int x) = (ws.set k x).map V.int := fun ws x => by rw [List.map_set]
  refine ⟨_, rfl, _, _, rfl, rfl, (by show (0 : Int) < 4; decide), rfl, _, rfl, ?_⟩
  generalize hT : tSeq (tIfS _ _ _) _ = TL
  have m2 : ∀ (ws : List Int) (H2 : Hp), OkW ws → H2 r = some (.lst (ws.map V.int)) → Same H H2 → TL { nx := fun _ H' => Q .non H', rt := Q } [some (.ref sc), some (.ref r), some (.int c), none, none] H2 := by
    intro ws H2 hw hr2 s2
    rw [← hT]
    refine ⟨_, rfl, _, _, rfl, rfl, (by show (0 : Int) < 4; decide), rfl, _, rfl, ?_⟩
    generalize hT2 : tSeq (tIfS _ _ _) _ = TL2
    have m3 : ∀ (ws : List Int) (H2 : Hp), OkW ws → H2 r = some (.lst (ws.map V.int)) → Same H H2 → TL2 { nx := fun _ H' => Q .non H', rt := Q } [some (.ref sc), some (.ref r), some (.int c), none, none] H2 := by
      intro ws H2 hw hr2 s2
      rw [← hT2]
      refine ⟨_, rfl, _, _, rfl, rfl, (by show (0 : Int) < 4; decide), rfl, _, rfl, ?_⟩
      by_cases c3 : c % 4 = 3
      case neg => exact iteF' (by rw [dec_V]; exact decide_eq_false c3) ⟨_, rfl, q r ws H2 nr s2 hw hr2⟩
      refine iteT' (by rw [dec_V]; exact decide_eq_true c3) ?_
      have hkl : k < ws.length := by rw [hw.1]; exact hk
      have hat : atI (ws.map V.int) (c / 4 % 3) = some (.int ws[k]) := by
        rw [ek]
        exact atI_nat (by rw [List.getElem?_map, List.getElem?_eq_getElem hkl]; rfl)
      have h0 := hw.2 _ (List.getElem_mem hkl)
      refine ⟨_, rfl, _, rfl, _, _, rfl, rfl, ⟨by decide, by decide⟩, _, _, rfl, rfl, (by show (0 : Int) < 3; decide), r, _, _, .int ws[k], rfl, rfl, SqL.of hr2, hat, ?_⟩
      refine ⟨(by show 4 ≤ sizeLine; decide), fun l nl => ?_⟩
      obtain ⟨st, est, hst4, hnn⟩ : ∃ st : Int, atI [V.int 19683, V.int 729, V.int 27, V.int 1] (c / 12 % 4) = some (.int st) ∧ (0 < st ∧ st ≤ 19683) ∧ 0 ≤ ws[k] - ws[k] / st % 27 * st := by
        generalize ws[k] = x at h0
        rcases (show c / 12 % 4 = 0 ∨ c / 12 % 4 = 1 ∨ c / 12 % 4 = 2 ∨ c / 12 % 4 = 3 by omega) with e | e | e | e <;> rw [e]
        · exact ⟨19683, rfl, by decide, by omega⟩
        · exact ⟨729, rfl, by decide, by omega⟩
        · exact ⟨27, rfl, by decide, by omega⟩
        · exact ⟨1, rfl, by decide, by omega⟩
      refine ⟨_, rfl, _, _, rfl, rfl, ⟨by decide, by decide⟩, _, _, rfl, rfl, (by show (0 : Int) < 4; decide), l, _, _, .int st, rfl, rfl, SqL.of upd_same, est, ?_⟩
      have hr3 := same_new nl (.lst [V.int 19683, V.int 729, V.int 27, V.int 1]) _ _ hr2
      refine ⟨_, rfl, _, rfl, _, rfl, _, _, rfl, rfl, ⟨by omega, by omega⟩, _, _, rfl, rfl, (by show (0 : Int) < 27; decide), _, rfl, _, _, rfl, rfl, .inl ⟨by omega, by omega⟩, _, _, rfl, rfl, _, rfl, _, rfl, _, _, rfl, rfl, ⟨by decide, by decide⟩, _, _, rfl, rfl, (by show (0 : Int) < 3; decide), r, _, _, k, rfl, rfl, hr3, hix ws hw, ?_⟩
      rw [hst]
      exact ⟨_, rfl, q r _ _ nr (same_upd nr (s2.trans (same_new nl _)) _) (hw.set k hnn) upd_same⟩
    by_cases c2 : c % 4 = 2
    · refine iteT' (by rw [dec_V]; exact decide_eq_true c2) ?_
      refine ⟨_, rfl, _, rfl, _, _, rfl, rfl, ⟨by decide, by decide⟩, _, _, rfl, rfl, (by show (0 : Int) < 3; decide), r, _, _, k, rfl, rfl, hr2, hix ws hw, ?_⟩
      rw [hst]
      exact m3 _ _ (hw.set k (by decide)) upd_same (same_upd nr s2 _)
    · exact iteF' (by rw [dec_V]; exact decide_eq_false c2) (m3 ws H2 hw hr2 s2)
  by_cases c1 : c % 4 = 1
  · refine iteT' (by rw [dec_V]; exact decide_eq_true c1) ?_
    refine ⟨_, rfl, _, _, rfl, rfl, ⟨by decide, by decide⟩, _, _, rfl, rfl, (by show (0 : Int) < 999468559; decide), _, _, rfl, rfl, _, rfl, _, rfl, _, _, rfl, rfl, ⟨by decide, by decide⟩, _, _, rfl, rfl, (by show (0 : Int) < 3; decide), r, _, _, k, rfl, rfl, hr', hix ws hw, ?_⟩
    rw [hst]
    exact m2 _ _ (hw.set k (by omega)) upd_same (same_upd nr s1 _)
  · exact iteF' (by rw [dec_V]; exact decide_eq_false c1) (m2 ws H1 hw hr' s1)
end
end K15
end
section
set_option Elab.async false
set_option linter.all false
set_option maxRecDepth 100000
set_option maxHeartbeats 4000000
namespace K15
open PySem L2 BK
section
variable {P : Program} {w : World} {K : PySem.W.Frag} {mg : Str → Option Value} {base : Heap} {f : Addr} {fd : FuncData} {a : Ad}
def spLaw (K : PySem.W.Frag) : Sp := fun vs H Q _ => ∃ (p : Addr) (ns : List Int), vs = [.ref p] ∧ SqL K H p (ns.map V.int) ∧ ns.length ≤ 63 ∧ ∀ H', Q (.bl true) H'
abbrev spLawA (K : PySem.W.Frag) (_ : Ad) : Sp := spLaw K
theorem odd_of {H : Hp} (t1 l1 d1 t2 : Addr) (h1 : H t1 = some (.tup [.str "a"])) (h2 : H l1 = some (.lst [.str "a"])) (h3 : H d1 = some (.dK [])) (h4 : H t2 = some (.tup [])) (c : Int) (h0 : 0 ≤ c) (h8 : c < 8) :
    ∃ v, atI [.non, .int 5, .bl true, .ref t1, .ref l1, .ref d1, .ref t2, .int 0] c = some v ∧ NotS K H v := by
  rcases (show c = 0 ∨ c = 1 ∨ c = 2 ∨ c = 3 ∨ c = 4 ∨ c = 5 ∨ c = 6 ∨ c = 7 by omega) with e | e | e | e | e | e | e | e <;> subst e
  · exact ⟨_, rfl, _, .non, by kernel_rfl⟩
  · exact ⟨_, rfl, _, .int _, by kernel_rfl⟩
  · exact ⟨_, rfl, _, .bl _, by kernel_rfl⟩
  · exact ⟨_, rfl, _, .tup h1, by kernel_rfl⟩
  · exact ⟨_, rfl, _, .lst h2, by kernel_rfl⟩
  · exact ⟨_, rfl, _, .dK h3, by kernel_rfl⟩
  · exact ⟨_, rfl, _, .tup h4, by kernel_rfl⟩
  · exact ⟨_, rfl, _, .int _, by kernel_rfl⟩
def badD : PyData := .tuple [.str "refused", .str "bad"]
theorem bad_shaped : SeqAt.shaped badD = true := by decide +kernel
theorem bad_eqv : PyData.eqv badD badD = true := by decide +kernel
theorem bad_dv {H : Hp} {p : Addr} (h : H p = some (.tup [.str "refused", .str "bad"])) : DV K H (.ref p) badD := .tup (SqT.of h) (.cons (.str _) (.cons (.str _) .nil))
theorem words_pos {cs : List Nat} (h : goodT cs = true) : OkW (wordsOf cs) := by
  obtain ⟨_, _, g3⟩ := good_is h
  have hd : Dg (cs.map num) := fun d hd => by
    obtain ⟨c, hc, rfl⟩ := List.mem_map.mp hd
    have := isLet_iff.mp (g3 c hc)
    unfold num
    omega
  refine ⟨rfl, fun x hx => ?_⟩
  rw [wordsOf_eq] at hx
  simp only [List.mem_cons, List.not_mem_nil, or_false] at hx
  rcases hx with rfl | rfl | rfl
  · exact (val4_le hd 0).1
  · exact (val4_le hd 4).1
  · exact (val4_le hd 8).1
theorem ok_law (F : Fun K "law" "law" s_law f fd) (T : Txt K mg a) (D__law_text : Df P w K mg base (CXE P w) 2 "_law_text" ["_law_script"] (spText K a)) (D__law_good : Df P w K mg base CX0 1 "_law_good" ["_law_thing"] (spGood K a)) (D_is_name : Df P w K mg base CX0 1 "is_name" ["thing"] (spIsName K a)) (D__law_drawn : Df P w K mg base CX0 2 "_law_drawn" ["_law_script"] (spDrawn K a)) (D__law_asked : Df P w K mg base (CXE P w) 4 "_law_asked" ["_law_which", "_law_thing"] (spAsked K a)) (D__law_words : Df P w K mg base CX0 1 "_law_words" ["_law_name_here"] (spWords K a)) (D__law_name : Df P w K mg base CX0 2 "_law_name" ["_law_words_here"] (spName K a)) (D__law_cell_at : Df P w K mg base CX0 1 "_law_cell_at" ["_law_script", "_law_k"] (spCell K a)) : FnOk P w K mg base (CXE P w) 5 f fd ["_law_script"] (spLawA K a) := by
  obtain ⟨_, _, Gl_text, bl_text, kl_text, ml_text⟩ := D__law_text
  obtain ⟨_, _, Gl_good, bl_good, kl_good, ml_good⟩ := D__law_good
  obtain ⟨_, _, Gis_name, bis_name, kis_name, mis_name⟩ := D_is_name
  obtain ⟨_, _, Gl_drawn, bl_drawn, kl_drawn, ml_drawn⟩ := D__law_drawn
  obtain ⟨_, _, Gl_asked, bl_asked, kl_asked, ml_asked⟩ := D__law_asked
  obtain ⟨_, _, Gl_words, bl_words, kl_words, ml_words⟩ := D__law_words
  obtain ⟨_, _, Gl_name, bl_name, kl_name, ml_name⟩ := D__law_name
  obtain ⟨_, _, Gl_cell_at, bl_cell_at, kl_cell_at, ml_cell_at⟩ := D__law_cell_at
  have nd := sc_law.nd
  refine F.okE sc_law (fun vs H Q E h => ?_) (fun cdv A outer s H vs Q E hr hA h => ?_)
  · obtain ⟨sc, ns, rfl, _⟩ := h
    rfl
  obtain ⟨sc, ns, rfl, hS, h63, q⟩ := h
  refine ⟨_, (pss_cons (ps_set (i := 1) nd rfl (by first | exact Or.inl rfl | exact Or.inr rfl) (pe_call Gl_text (hr.mono (by decide)) rfl ml_text kl_text bl_text .nil (passes_fn (fun _ _ _ h => h)) (pa_cons (pv 0) pa_nil) (hcm := (.inr hA))))
    (pss_cons (ps_if (PW.pt (pw_and (pt_cmpR op_eq (pe_op op_mod (pe_call Gl_cell_at (hr.mono (by decide)) rfl ml_cell_at kl_cell_at bl_cell_at .nil pass0 (pa_cons (pv 0) (pa_cons pe_int pa_nil))) pe_int) pe_int (nomark _)) (pw_and1 (pt_cmpR op_eq (pe_op op_mod (pe_call Gl_cell_at (hr.mono (by decide)) rfl ml_cell_at kl_cell_at bl_cell_at .nil pass0 (pa_cons (pv 0) (pa_cons pe_int pa_nil))) pe_int) pe_int (nomark _))))) (by
      with_reducible refine' ps_setIx (i := 1) ?ca ?cb ?cc ?cd ?ce ?cf ?cg ?ch ?ck
      (case cd => with_reducible exact (pe_lst (pa_cons pe_non (pa_cons pe_int (pa_cons pe_bl (pa_cons (pe_tup (pa_cons pe_str pa_nil (hs := star_con))) (pa_cons (pe_lst (pa_cons pe_str pa_nil (hs := star_con))) (pa_cons pe_dict0 (pa_cons (pe_tup pa_nil) (pa_cons pe_int pa_nil (hs := star_con)) (hs := star_tup)) (hs := star_dic)) (hs := star_lst)) (hs := star_tup)) (hs := star_con)) (hs := star_con)) (hs := star_con))))
      (case ce => exact (pe_op op_mod (pe_op op_fdiv (pe_call Gl_cell_at (hr.mono (by decide)) rfl ml_cell_at kl_cell_at bl_cell_at .nil pass0 (pa_cons (pv 0) (pa_cons pe_int pa_nil))) pe_int) pe_int))
      (case ca => exact nd)
      (case cb => rfl)
      (case cc => first | exact Or.inl rfl | exact Or.inr rfl)
      (case cf => exact (fun _ _ => rfl))
      (case cg => rfl)
      (case ch => first | exact .inl rfl | exact .inr rfl)
      (case ck => exact fun p h => absurd (show p ∈ ([] : List (Str × Value)) from h) (by simp))) pss_nil)
    (pss_cons (ps_set (i := 2) nd rfl (by first | exact Or.inl rfl | exact Or.inr rfl) (pe_call Gl_good (hr.mono (by decide)) rfl ml_good kl_good bl_good .nil pass0 (pa_cons (pv 1) pa_nil)))
    (pss_cons (ps_set (i := 3) nd rfl (by first | exact Or.inl rfl | exact Or.inr rfl) (pe_call Gis_name (hr.mono (by decide)) rfl mis_name kis_name bis_name .nil pass0 (pa_cons (pv 1) pa_nil)))
    (pss_cons (ps_if (PW.pt (pw_or (pt_not (pt_val (pe_callB (call_isinst (T := "bool")) rfl T.isinstance bt_isinstance (pa_cons (pv 3) (pa_cons (pe_bltn (v := .ty "bool") rfl T.bool bt_bool rfl) pa_nil))))) (pw_or1 (pt_cmpR op_ne (pv 3) (pv 2) (nomark _))))) (pss_one (ps_ret pe_bl)) pss_nil)
    (pss_cons (ps_set (i := 4) nd rfl (by first | exact Or.inl rfl | exact Or.inr rfl) (pe_call Gl_drawn (hr.mono (by decide)) rfl ml_drawn kl_drawn bl_drawn .nil pass0 (pa_cons (pv 0) pa_nil)))
    (pss_cons (ps_asg (pe_call Gl_asked (hr.mono (by decide)) rfl ml_asked kl_asked bl_asked .nil (passes_fn (fun _ _ _ h => h)) (pa_cons pe_int (pa_cons (pv 1) pa_nil)) (hcm := (.inr hA))) (pg_tup hA (pgs_cons (pg_name (i := 5) nd rfl (by first | exact Or.inl rfl | exact Or.inr rfl)) (pgs_cons (pg_name (i := 6) nd rfl (by first | exact Or.inl rfl | exact Or.inr rfl)) pgs_nil))))
    (pss_cons (ps_if (PW.pt (pw_and (pt_not (pt_val (pv 2))) (pw_and1 (pt_cmpR (op_neD hr.units) (pe_tup (pa_cons (pv 5) (pa_cons (pv 6) pa_nil))) (pe_tup (pa_cons pe_str (pa_cons pe_str pa_nil))) (nomark _))))) (pss_one (ps_ret pe_bl)) pss_nil)
    (pss_cons (ps_if (pt_val (pv 2)) (pss_cons (ps_set (i := 4) nd rfl (by first | exact Or.inl rfl | exact Or.inr rfl) (pe_call Gl_words (hr.mono (by decide)) rfl ml_words kl_words bl_words .nil pass0 (pa_cons (pv 1) pa_nil)))
    (pss_cons (ps_if (PW.pt (pw_or (pt_cmpR op_ne (pv 5) pe_str (nomark _)) (pw_or (pt_not (pt_val (pe_callB (call_isinst (T := "list")) rfl T.isinstance bt_isinstance (pa_cons (pv 6) (pa_cons (pe_bltn (v := .ty "list") rfl T.list bt_list rfl) pa_nil))))) (pw_or1 (pt_cmpR (op_neD hr.units) (pv 6) (pv 4) (nomark _)))))) (pss_one (ps_ret pe_bl)) pss_nil)
    (pss_one (ps_if (pt_cmpR (op_neD hr.units) (pe_lc (cl := []) (fj := []) (by exact ⟨rfl, by decide +kernel, rfl, by decide +kernel, rfl, fun _ h => (by cases h), by decide +kernel, fun _ h => (by cases h), by decide +kernel⟩) rfl (pi_list (pv 6)) (fun _ _ _ => (pf_one (pt_val (pe_callB (call_isinstK (K := K) (T := "bool") rfl) rfl T.isinstance bt_isinstance (pa_cons (pv 0) (pa_cons (pe_bltn (v := .ty "bool") rfl T.bool bt_bool rfl) pa_nil)))))) (fun _ _ _ => (pv 0))) (pe_lst pa_nil) (nomark _)) (pss_one (ps_ret pe_bl)) pss_nil)))) pss_nil)
    (pss_cons (ps_set (i := 7) nd rfl (by first | exact Or.inl rfl | exact Or.inr rfl) (pe_callTy call_list_of rfl T.list bt_list (pa_cons (pv 4) pa_nil)))
    (pss_cons (ps_asg (pe_call Gl_asked (hr.mono (by decide)) rfl ml_asked kl_asked bl_asked .nil (passes_fn (fun _ _ _ h => h)) (pa_cons pe_int (pa_cons (pv 7) pa_nil)) (hcm := (.inr hA))) (pg_tup hA (pgs_cons (pg_name (i := 5) nd rfl (by first | exact Or.inl rfl | exact Or.inr rfl)) (pgs_cons (pg_name (i := 8) nd rfl (by first | exact Or.inl rfl | exact Or.inr rfl)) pgs_nil))))
    (pss_cons (ps_if (pt_cmpR (op_neD hr.units) (pv 7) (pv 4) (nomark _)) (pss_one (ps_ret pe_bl)) pss_nil)
    (pss_cons (ps_if (pt_cmpR op_isN (pe_call Gl_name (hr.mono (by decide)) rfl ml_name kl_name bl_name .nil pass0 (pa_cons (pv 4) pa_nil)) pe_non (nomark _)) (pss_one (ps_ret (pe_cmpR (op_eqD hr.units) (pe_tup (pa_cons (pv 5) (pa_cons (pv 8) pa_nil))) (pe_tup (pa_cons pe_str (pa_cons pe_str pa_nil))) (nomark _)))) pss_nil)
    (pss_one (ps_ret (pe_and (pe_cmpR op_eq (pv 5) pe_str (nomark _)) (pe_and (pe_callB (call_isinst (T := "str")) rfl T.isinstance bt_isinstance (pa_cons (pv 8) (pa_cons (pe_bltn (v := .ty "str") rfl T.str bt_str rfl) pa_nil))) (pe_one (pe_cmpR op_eq (pv 8) (pe_call Gl_name (hr.mono (by decide)) rfl ml_name kl_name bl_name .nil pass0 (pa_cons (pv 4) pa_nil)) (nomark _)))))))))))))))))))), ?_⟩
  refine ⟨_, rfl, sc, ns, rfl, hS, fun cs0 hl0 hc0 H1 s1 => ?_⟩
  have hS1 := s1.seq hS
  refine ⟨_, rfl, sc, ns, 3, rfl, hS1, by decide, _, _, rfl, rfl, (by show (0 : Int) < 3; decide), rfl, _, rfl, ?_⟩
  generalize hT : tSeq (tAsg (tCall (spGood K a) _ _ _) (gName 2)) _ = TL
  have main : ∀ (v : V) (b : Bool) (H2 : Hp), TextOr K H2 v b → Same H H2 → TL { nx := fun _ H' => Q .non H', rt := Q } [some (.ref sc), some v, none, none, none, none, none, none, none] H2 := by
    intro v b H2 hv s2
    rw [← hT]
    generalize hT2 : tSeq (tAsg _ (gName 7)) _ = TL2
    have tail : ∀ (p : Addr) (ws : List Int) (H2 : Hp) (o1 o2 o3 o5 o6 : Option V), OkW ws → H2 p = some (.lst (ws.map V.int)) → TL2 { nx := fun _ H' => Q .non H', rt := Q } [some (.ref sc), o1, o2, o3, some (.ref p), o5, o6, none, none] H2 := by
      intro p ws H2 o1 o2 o3 o5 o6 hw hp
      rw [← hT2]
      refine ⟨_, rfl, p, _, rfl, .inl (SqL.of hp), fun hd nhd => ?_⟩
      have u1 := same_new nhd (.lst (ws.map V.int))
      have hp1 := u1 _ _ hp
      have hh1 := upd_same (H := H2) (a := hd) (o := .lst (ws.map V.int))
      generalize upd H2 hd (.lst (ws.map V.int)) = H3 at u1 hp1 hh1 ⊢
      have dv : ∀ {H' : Hp}, Same H3 H' → DV K H' (.ref hd) (.list (ws.map PyData.int)) ∧ DV K H' (.ref p) (.list (ws.map PyData.int)) := fun s => ⟨.lst (SqL.of (s _ _ hh1)) (dvs_ints _), .lst (SqL.of (s _ _ hp1)) (dvs_ints _)⟩
      refine ⟨_, rfl, .inr ⟨hd, ws, rfl, hh1, hw.1, fun ok pp H4 s4 hpp => ?_, fun ok pp H4 s4 hpp => ?_⟩⟩
      · refine ⟨pp, _, rfl, SqT.of hpp, rfl, _, _, rfl, _, _, rfl, rfl, ?_⟩
        obtain ⟨d1, d2⟩ := dv s4
        refine ⟨_, rfl, _, rfl, _, _, d1, d2, PySem.W.ke_shaped_ints _, PySem.W.ke_shaped_ints _, _, rfl, iteF' (by rw [eqv_ints]; simp) ?_⟩
        refine ⟨_, rfl, p, ws, rfl, s4 _ _ hp1, hw.1, hw.2, fun _ H5 s5 => ?_, fun no => by rw [ok] at no; cases no⟩
        refine ⟨rfl, _, rfl, iteF' (by rfl) ?_⟩
        refine ⟨_, rfl, rfl, _, rfl, iteT' (by decide +kernel) ?_⟩
        obtain ⟨t, ty, e⟩ := isStr (K := K) (H := H5) (mkS (flat ws))
        refine ⟨_, rfl, _, t, true, rfl, ty, e, _, rfl, iteT ?_⟩
        refine ⟨_, rfl, _, rfl, p, ws, rfl, s5 _ _ (s4 _ _ hp1), hw.1, hw.2, fun _ H6 s6 => ⟨rfl, ?_⟩, fun no => by rw [ok] at no; cases no⟩
        rw [decide_eq_true rfl]
        exact q _
      · refine ⟨pp, _, rfl, SqT.of hpp, rfl, _, _, rfl, _, _, rfl, rfl, ?_⟩
        obtain ⟨d1, d2⟩ := dv s4
        refine ⟨_, rfl, _, rfl, _, _, d1, d2, PySem.W.ke_shaped_ints _, PySem.W.ke_shaped_ints _, _, rfl, iteF' (by rw [eqv_ints]; simp) ?_⟩
        refine ⟨_, rfl, p, ws, rfl, s4 _ _ hp1, hw.1, hw.2, (fun no => by rw [ok] at no; cases no), fun _ H5 s5 => ?_⟩
        refine ⟨rfl, _, rfl, iteT' (by rfl) ?_⟩
        refine ⟨_, rfl, _, rfl, (by show 2 ≤ sizeLine; decide), fun t1 m1 => ⟨(by show 2 ≤ sizeLine; decide), fun t2 m2 => ?_⟩⟩
        refine ⟨badD, badD, bad_dv (same_new m2 _ _ _ upd_same), bad_dv upd_same, bad_shaped, bad_shaped, ?_⟩
        rw [bad_eqv]
        exact q _
    refine ⟨_, rfl, v, b, rfl, hv, fun H3 s3 => ?_⟩
    refine ⟨_, rfl, v, b, rfl, hv.same s3, fun H4 s4 => ?_⟩
    have hv4 := (hv.same s3).same s4
    have s24 := (s2.trans s3).trans s4
    obtain ⟨t, ty, _, e2, _⟩ := (Kd.bl b : Kd K H4 (.bl b))
    refine ⟨_, rfl, _, t, _, rfl, ty, e2, _, rfl, iteF' (by rfl) ⟨_, rfl, _, rfl, rfl, _, rfl, iteF' (by simp) ?_⟩⟩
    refine ⟨_, rfl, sc, ns, rfl, s24.seq hS, fun p ws H5 np s5 hw hp => ?_⟩
    refine ⟨_, rfl, .inl ⟨v, b, rfl, hv4.same s5, fun hb pp H6 s6 hpp => ?_, fun cs ev hb hg pp r H6 nr s6 hr hpp => ?_⟩⟩
    · subst hb
      refine ⟨pp, _, rfl, SqT.of hpp, rfl, _, _, rfl, _, _, rfl, rfl, ?_⟩
      refine ⟨_, rfl, _, rfl, iteT' (by rfl) ⟨_, rfl, _, rfl, (by show 2 ≤ sizeLine; decide), fun t1 m1 => ⟨(by show 2 ≤ sizeLine; decide), fun t2 m2 => ?_⟩⟩⟩
      refine ⟨badD, badD, bad_dv (same_new m2 _ _ _ upd_same), bad_dv upd_same, bad_shaped, bad_shaped, _, rfl, iteF' (by rw [bad_eqv]; rfl) ?_⟩
      refine ⟨_, rfl, _, rfl, iteF' (by rfl) ?_⟩
      exact tail p ws _ _ _ _ _ _ hw (same_new m2 _ _ _ (same_new m1 _ _ _ (s6 _ _ hp)))
    · subst hb ev
      refine ⟨pp, _, rfl, SqT.of hpp, rfl, _, _, rfl, _, _, rfl, rfl, ?_⟩
      refine ⟨_, rfl, _, rfl, iteF' (by rfl) (iteF ?_)⟩
      refine ⟨_, rfl, _, rfl, iteT' (by rfl) ?_⟩
      refine ⟨_, rfl, cs, rfl, hg, fun wl H7 nwl s7 hwl => ?_⟩
      have hr7 := s7 _ _ hr
      obtain ⟨t, ty, _, _, e3⟩ := (Kd.lst hr7 : Kd K H7 (.ref r))
      have isl : isL H7 (.ref r) = true := by show isLH (H7 r) = _; rw [hr7]; rfl
      refine ⟨_, rfl, rfl, _, rfl, iteF' (by decide +kernel) ⟨_, rfl, _, t, _, rfl, ty, e3, _, rfl, iteF' (by rw [isl]; rfl) ?_⟩⟩
      refine ⟨_, rfl, _, rfl, .list ((wordsOf cs).map PyData.int), .list ((wordsOf cs).map PyData.int), .lst (SqL.of hr7) (dvs_ints _), .lst (SqL.of hwl) (dvs_ints _), PySem.W.ke_shaped_ints _, PySem.W.ke_shaped_ints _, _, rfl, iteF' (by rw [eqv_ints]; simp) ?_⟩
      refine ⟨_, rfl, r, rfl, ⟨_, SqL.of hr7⟩, lc_pureL (xs := (wordsOf cs).map V.int) (by show 3 ≤ 1000; decide) (SqL.of hr7) (fun _ => false) (fun v => v) (fun x H' Qf hx s' k => ?_) (fun x H' Qf hx hn s' k => by cases hn) (fun acc H8 n8 s8 h8 => ?_)⟩
      · obtain ⟨i, _, rfl⟩ := List.mem_map.mp hx
        obtain ⟨t, ty, _, e2, _⟩ := (Kd.int i : Kd K H' (.int i))
        exact ⟨_, rfl, _, t, _, rfl, ty, e2, _, rfl, k H' (Same.refl _)⟩
      · have e0 : (((wordsOf cs).map V.int).filter fun _ => false) = [] := List.filter_eq_nil_iff.mpr fun _ _ => by simp
        rw [e0] at h8
        refine ⟨Nat.zero_le _, fun l9 n9 => ⟨.list [], .list [], .lst (SqL.of (same_new n9 _ _ _ h8)) .nil, .lst (SqL.of upd_same) .nil, by decide +kernel, by decide +kernel, _, rfl, iteF' (by decide +kernel) ?_⟩⟩
        exact tail wl (wordsOf cs) _ _ _ _ _ _ (words_pos hg) (same_new n9 _ _ _ (s8 _ _ hwl))
  have plain := main _ _ H1 (.inl ⟨cs0, rfl, hl0, hc0, rfl⟩) s1
  by_cases c3 : cell ns 3 % 3 = 2
  case neg => exact iteF' (by rw [dec_V]; exact decide_eq_false c3) (iteF plain)
  refine iteT' (by rw [dec_V]; exact decide_eq_true c3) ⟨_, rfl, sc, ns, 4, rfl, hS1, by decide, _, _, rfl, rfl, (by show (0 : Int) < 3; decide), rfl, _, rfl, ?_⟩
  by_cases c4 : cell ns 4 % 3 = 1
  case neg => exact iteF' (by rw [dec_V]; exact decide_eq_false c4) plain
  refine iteT' (by rw [dec_V]; exact decide_eq_true c4) ?_
  refine ⟨(by show 1 ≤ sizeLine; decide), fun t1 m1 => ⟨(by show 1 ≤ sizeLine; decide), fun l1 n1 => fun d1 k1 => ⟨Nat.zero_le _, fun t2 m2 => ⟨(by show 8 ≤ sizeLine; decide), fun L nL => ?_⟩⟩⟩⟩
  have w1 := same_new m1 (.tup [.str "a"])
  have w2 := same_new n1 (.lst [.str "a"])
  have w3 := same_new k1 (.dK [])
  have w4 := same_new m2 (.tup [])
  have w5 := same_new nL (.lst [.non, .int 5, .bl true, .ref t1, .ref l1, .ref d1, .ref t2, .int 0])
  obtain ⟨v, hat, hns⟩ := odd_of (K := K) t1 l1 d1 t2 (w5 _ _ (w4 _ _ (w3 _ _ (w2 _ _ upd_same)))) (w5 _ _ (w4 _ _ (w3 _ _ upd_same))) (w5 _ _ (w4 _ _ upd_same)) (w5 _ _ upd_same) (cell ns 4 / 3 % 8) (by omega) (by omega)
  have wA := (((w1.trans w2).trans w3).trans w4).trans w5
  refine ⟨_, rfl, sc, ns, 4, rfl, wA.seq hS1, by decide, _, _, rfl, rfl, ⟨by decide, by decide⟩, _, _, rfl, rfl, (by show (0 : Int) < 8; decide), L, _, _, v, rfl, rfl, SqL.of upd_same, hat, ?_⟩
  exact main v false _ (.inr ⟨hns, rfl⟩) (s1.trans wA)
end
end K15
end
section
set_option Elab.async false
set_option linter.all false
set_option maxRecDepth 100000
set_option maxHeartbeats 4000000
namespace K15
open PySem L2 BK
theorem all_mk {l : PySem.W.OpenLaw} {w : World} {K : PySem.W.Frag} {h : Heap} {mg : Str → Option Value} {fa : Addr} {cKeepError cBadRow cNoBlock cStopped cBadDisk cNoRoom cTooMuch cBadLog cNoNode cNoNodes cTooLong cOutOfPlace cBadName cBadPath cNotFolder cNotFile cNoName cNameThere cNotEmpty cWithin cBadOrder gWEIGHTS : Addr} (X : K.In h) (G : h.Ns mainGlobals mg) (hfa : mg "law" = some (.ref fa))
    {odWEIGHTS : Option Addr} {nnWEIGHTS : Nat} {slWEIGHTS : Array (Option Value)}
    {tLETTERS tMOST_LETTERS tWEIGHTS0 tWEIGHTS1 tWEIGHTS2 tWEIGHTS3 : Tok}
    {od1 an1 : Option Addr} {sl1 : Array (Option Value)} {oc1 kV1 dc1 pm1 cd1 ct1 : Value} {f1 : Addr}
    {od2 an2 : Option Addr} {sl2 : Array (Option Value)} {oc2 kV2 dc2 pm2 cd2 ct2 : Value} {f2 : Addr}
    {od3 an3 : Option Addr} {sl3 : Array (Option Value)} {oc3 kV3 dc3 pm3 cd3 ct3 : Value} {f3 : Addr}
    {od4 an4 : Option Addr} {sl4 : Array (Option Value)} {oc4 kV4 dc4 pm4 cd4 ct4 : Value} {f4 : Addr}
    {od5 an5 : Option Addr} {sl5 : Array (Option Value)} {oc5 kV5 dc5 pm5 cd5 ct5 : Value} {f5 : Addr}
    {od6 an6 : Option Addr} {sl6 : Array (Option Value)} {oc6 kV6 dc6 pm6 cd6 ct6 : Value} {f6 : Addr}
    {od7 an7 : Option Addr} {sl7 : Array (Option Value)} {oc7 kV7 dc7 pm7 cd7 ct7 : Value} {f7 : Addr}
    {od8 an8 : Option Addr} {sl8 : Array (Option Value)} {oc8 kV8 dc8 pm8 cd8 ct8 : Value} {f8 : Addr}
    {od9 an9 : Option Addr} {sl9 : Array (Option Value)} {oc9 kV9 dc9 pm9 cd9 ct9 : Value} {f9 : Addr}
    {od10 an10 : Option Addr} {sl10 : Array (Option Value)} {oc10 kV10 dc10 pm10 cd10 ct10 : Value} {f10 : Addr}
    {od11 an11 : Option Addr} {sl11 : Array (Option Value)} {oc11 kV11 dc11 pm11 cd11 ct11 : Value} {f11 : Addr}
    {od12 an12 : Option Addr} {sl12 : Array (Option Value)} {oc12 kV12 dc12 pm12 cd12 ct12 : Value} {f12 : Addr}
    {od13 an13 : Option Addr} {sl13 : Array (Option Value)} {oc13 kV13 dc13 pm13 cd13 ct13 : Value} {f13 : Addr}
    {od14 an14 : Option Addr} {sl14 : Array (Option Value)} {oc14 kV14 dc14 pm14 cd14 ct14 : Value} {f14 : Addr}
    {od15 an15 : Option Addr} {sl15 : Array (Option Value)} {oc15 kV15 dc15 pm15 cd15 ct15 : Value} {f15 : Addr}
    {od16 an16 : Option Addr} {sl16 : Array (Option Value)} {oc16 kV16 dc16 pm16 cd16 ct16 : Value} {f16 : Addr}
    (n_WEIGHTS : PySem.W.nsIn K mainGlobals "WEIGHTS" = some (some (.ref gWEIGHTS)))
    (n_KeepError : PySem.W.nsIn K mainGlobals "KeepError" = some (some (.ref cKeepError)))
    (n_BadRow : PySem.W.nsIn K mainGlobals "BadRow" = some (some (.ref cBadRow)))
    (n_NoBlock : PySem.W.nsIn K mainGlobals "NoBlock" = some (some (.ref cNoBlock)))
    (n_Stopped : PySem.W.nsIn K mainGlobals "Stopped" = some (some (.ref cStopped)))
    (n_BadDisk : PySem.W.nsIn K mainGlobals "BadDisk" = some (some (.ref cBadDisk)))
    (n_NoRoom : PySem.W.nsIn K mainGlobals "NoRoom" = some (some (.ref cNoRoom)))
    (n_TooMuch : PySem.W.nsIn K mainGlobals "TooMuch" = some (some (.ref cTooMuch)))
    (n_BadLog : PySem.W.nsIn K mainGlobals "BadLog" = some (some (.ref cBadLog)))
    (n_NoNode : PySem.W.nsIn K mainGlobals "NoNode" = some (some (.ref cNoNode)))
    (n_NoNodes : PySem.W.nsIn K mainGlobals "NoNodes" = some (some (.ref cNoNodes)))
    (n_TooLong : PySem.W.nsIn K mainGlobals "TooLong" = some (some (.ref cTooLong)))
    (n_OutOfPlace : PySem.W.nsIn K mainGlobals "OutOfPlace" = some (some (.ref cOutOfPlace)))
    (n_BadName : PySem.W.nsIn K mainGlobals "BadName" = some (some (.ref cBadName)))
    (n_BadPath : PySem.W.nsIn K mainGlobals "BadPath" = some (some (.ref cBadPath)))
    (n_NotFolder : PySem.W.nsIn K mainGlobals "NotFolder" = some (some (.ref cNotFolder)))
    (n_NotFile : PySem.W.nsIn K mainGlobals "NotFile" = some (some (.ref cNotFile)))
    (n_NoName : PySem.W.nsIn K mainGlobals "NoName" = some (some (.ref cNoName)))
    (n_NameThere : PySem.W.nsIn K mainGlobals "NameThere" = some (some (.ref cNameThere)))
    (n_NotEmpty : PySem.W.nsIn K mainGlobals "NotEmpty" = some (some (.ref cNotEmpty)))
    (n_Within : PySem.W.nsIn K mainGlobals "Within" = some (some (.ref cWithin)))
    (n_BadOrder : PySem.W.nsIn K mainGlobals "BadOrder" = some (some (.ref cBadOrder)))
    (a1 : PySem.W.nsIn K mainGlobals "_law_cell_at" = some (some (.ref f1)))
    (a2 : PySem.W.nsIn K mainGlobals "_law_letter" = some (some (.ref f2)))
    (a3 : PySem.W.nsIn K mainGlobals "_law_sign" = some (some (.ref f3)))
    (a4 : PySem.W.nsIn K mainGlobals "_law_text" = some (some (.ref f4)))
    (a5 : PySem.W.nsIn K mainGlobals "_law_good" = some (some (.ref f5)))
    (a6 : PySem.W.nsIn K mainGlobals "is_name" = some (some (.ref f6)))
    (a7 : PySem.W.nsIn K mainGlobals "_law_drawn" = some (some (.ref f7)))
    (a8 : PySem.W.nsIn K mainGlobals "word_of" = some (some (.ref f8)))
    (a9 : PySem.W.nsIn K mainGlobals "name_words" = some (some (.ref f9)))
    (a10 : PySem.W.nsIn K mainGlobals "letters_of" = some (some (.ref f10)))
    (a11 : PySem.W.nsIn K mainGlobals "name_of" = some (some (.ref f11)))
    (a12 : PySem.W.nsIn K mainGlobals "_law_kind" = some (some (.ref f12)))
    (a13 : PySem.W.nsIn K mainGlobals "_law_asked" = some (some (.ref f13)))
    (a14 : PySem.W.nsIn K mainGlobals "_law_words" = some (some (.ref f14)))
    (a15 : PySem.W.nsIn K mainGlobals "_law_name" = some (some (.ref f15)))
    (a16 : PySem.W.nsIn K mainGlobals "law" = some (some (.ref f16)))
    (z_isinstance : PySem.W.nsIn K mainGlobals "isinstance" = some none)
    (z_int : PySem.W.nsIn K mainGlobals "int" = some none)
    (z_bool : PySem.W.nsIn K mainGlobals "bool" = some none)
    (z_str : PySem.W.nsIn K mainGlobals "str" = some none)
    (z_list : PySem.W.nsIn K mainGlobals "list" = some none)
    (z_len : PySem.W.nsIn K mainGlobals "len" = some none)
    (z_all : PySem.W.nsIn K mainGlobals "all" = some none)
    (z_sum : PySem.W.nsIn K mainGlobals "sum" = some none)
    (z_zip : PySem.W.nsIn K mainGlobals "zip" = some none)
    (z_range : PySem.W.nsIn K mainGlobals "range" = some none)
    (z_ValueError : PySem.W.nsIn K mainGlobals "ValueError" = some none)
    (v_LETTERS : PySem.W.nsIn K mainGlobals "LETTERS" = some (some (.str "abcdefghijklmnopqrstuvwxyz" tLETTERS)))
    (v_MOST_LETTERS : PySem.W.nsIn K mainGlobals "MOST_LETTERS" = some (some (.int 12 tMOST_LETTERS)))
    (w_WEIGHTS : K.lookup gWEIGHTS = some ⟨.type "tuple", odWEIGHTS, .seq #[.int 19683 tWEIGHTS0, .int 729 tWEIGHTS1, .int 27 tWEIGHTS2, .int 1 tWEIGHTS3] nnWEIGHTS, slWEIGHTS⟩)
    (x_BadName : PySem.W.excIn K cBadName veMro "ValueError.__new__" = true)
    (g0_BadName : PySem.W.findIn K (.ref cBadName) "__getattribute__" = some (some (.builtin "BaseException.__getattribute__")))
    (g1_BadName : PySem.W.findIn K (.ref cBadName) "__getattr__" = some none)
    (g2_BadName : PySem.W.findIn K (.ref cBadName) "__class__" = some (some (.builtin "object.__class__")))
    (g3_BadName : PySem.W.mroIn K cBadName (.type "BaseException") = some true)
    (g4_BadName : PySem.W.mroIn K cBadName (.type "object") = some true)
    (g5_BadName : PySem.W.findObj K cBadName none "__class__" = some (.bind (.builtin "getset_descriptor.__get__") (.builtin "object.__class__")))
    (g6_BadName : (PySem.W.clsIn K cBadName).isSome = true)
    (h0_KeepError : (match K.lookup cKeepError with | some ⟨.type "type", _, .cls _, _⟩ => true | _ => false) = true)
    (h1_KeepError : PySem.W.mroIn K cKeepError (.type "BaseException") = some true)
    (s_BadName_KeepError : PySem.W.mroIn K cBadName (.ref cKeepError) = some true)
    (q_BadName_BadName : PySem.W.kitOne K (.ref cBadName) (.ref cBadName) = some true)
    (q_BadName_ValueError : PySem.W.kitOne K (.ref cBadName) (.type "ValueError") = some true)
    (q_BadName_BadRow : PySem.W.kitOne K (.ref cBadName) (.ref cBadRow) = some false)
    (q_BadName_NoBlock : PySem.W.kitOne K (.ref cBadName) (.ref cNoBlock) = some false)
    (q_BadName_Stopped : PySem.W.kitOne K (.ref cBadName) (.ref cStopped) = some false)
    (q_BadName_BadDisk : PySem.W.kitOne K (.ref cBadName) (.ref cBadDisk) = some false)
    (q_BadName_NoRoom : PySem.W.kitOne K (.ref cBadName) (.ref cNoRoom) = some false)
    (q_BadName_TooMuch : PySem.W.kitOne K (.ref cBadName) (.ref cTooMuch) = some false)
    (q_BadName_BadLog : PySem.W.kitOne K (.ref cBadName) (.ref cBadLog) = some false)
    (q_BadName_NoNode : PySem.W.kitOne K (.ref cBadName) (.ref cNoNode) = some false)
    (q_BadName_NoNodes : PySem.W.kitOne K (.ref cBadName) (.ref cNoNodes) = some false)
    (q_BadName_TooLong : PySem.W.kitOne K (.ref cBadName) (.ref cTooLong) = some false)
    (q_BadName_OutOfPlace : PySem.W.kitOne K (.ref cBadName) (.ref cOutOfPlace) = some false)
    (q_BadName_BadPath : PySem.W.kitOne K (.ref cBadName) (.ref cBadPath) = some false)
    (q_BadName_NotFolder : PySem.W.kitOne K (.ref cBadName) (.ref cNotFolder) = some false)
    (q_BadName_NotFile : PySem.W.kitOne K (.ref cBadName) (.ref cNotFile) = some false)
    (q_BadName_NoName : PySem.W.kitOne K (.ref cBadName) (.ref cNoName) = some false)
    (q_BadName_NameThere : PySem.W.kitOne K (.ref cBadName) (.ref cNameThere) = some false)
    (q_BadName_NotEmpty : PySem.W.kitOne K (.ref cBadName) (.ref cNotEmpty) = some false)
    (q_BadName_Within : PySem.W.kitOne K (.ref cBadName) (.ref cWithin) = some false)
    (q_BadName_BadOrder : PySem.W.kitOne K (.ref cBadName) (.ref cBadOrder) = some false)
    (l1 : K.lookup f1 = some ⟨oc1, od1, .func (PySem.W.fnOf "_law_cell_at" "_law_cell_at" (defArgs s__law_cell_at) (defBody s__law_cell_at) (defScope s__law_cell_at) .none kV1 dc1 pm1 an1 cd1 ct1), sl1⟩)
    (c1 : PySem.W.codeIn K cd1 "_law_cell_at" = true)
    (k1 : PySem.W.keepIn K (.ref f1) = true)
    (l2 : K.lookup f2 = some ⟨oc2, od2, .func (PySem.W.fnOf "_law_letter" "_law_letter" (defArgs s__law_letter) (defBody s__law_letter) (defScope s__law_letter) .none kV2 dc2 pm2 an2 cd2 ct2), sl2⟩)
    (c2 : PySem.W.codeIn K cd2 "_law_letter" = true)
    (k2 : PySem.W.keepIn K (.ref f2) = true)
    (l3 : K.lookup f3 = some ⟨oc3, od3, .func (PySem.W.fnOf "_law_sign" "_law_sign" (defArgs s__law_sign) (defBody s__law_sign) (defScope s__law_sign) .none kV3 dc3 pm3 an3 cd3 ct3), sl3⟩)
    (c3 : PySem.W.codeIn K cd3 "_law_sign" = true)
    (k3 : PySem.W.keepIn K (.ref f3) = true)
    (l4 : K.lookup f4 = some ⟨oc4, od4, .func (PySem.W.fnOf "_law_text" "_law_text" (defArgs s__law_text) (defBody s__law_text) (defScope s__law_text) .none kV4 dc4 pm4 an4 cd4 ct4), sl4⟩)
    (c4 : PySem.W.codeIn K cd4 "_law_text" = true)
    (k4 : PySem.W.keepIn K (.ref f4) = true)
    (l5 : K.lookup f5 = some ⟨oc5, od5, .func (PySem.W.fnOf "_law_good" "_law_good" (defArgs s__law_good) (defBody s__law_good) (defScope s__law_good) .none kV5 dc5 pm5 an5 cd5 ct5), sl5⟩)
    (c5 : PySem.W.codeIn K cd5 "_law_good" = true)
    (k5 : PySem.W.keepIn K (.ref f5) = true)
    (l6 : K.lookup f6 = some ⟨oc6, od6, .func (PySem.W.fnOf "is_name" "is_name" (defArgs s_is_name) (defBody s_is_name) (defScope s_is_name) .none kV6 dc6 pm6 an6 cd6 ct6), sl6⟩)
    (c6 : PySem.W.codeIn K cd6 "is_name" = true)
    (k6 : PySem.W.keepIn K (.ref f6) = true)
    (l7 : K.lookup f7 = some ⟨oc7, od7, .func (PySem.W.fnOf "_law_drawn" "_law_drawn" (defArgs s__law_drawn) (defBody s__law_drawn) (defScope s__law_drawn) .none kV7 dc7 pm7 an7 cd7 ct7), sl7⟩)
    (c7 : PySem.W.codeIn K cd7 "_law_drawn" = true)
    (k7 : PySem.W.keepIn K (.ref f7) = true)
    (l8 : K.lookup f8 = some ⟨oc8, od8, .func (PySem.W.fnOf "word_of" "word_of" (defArgs s_word_of) (defBody s_word_of) (defScope s_word_of) .none kV8 dc8 pm8 an8 cd8 ct8), sl8⟩)
    (c8 : PySem.W.codeIn K cd8 "word_of" = true)
    (k8 : PySem.W.keepIn K (.ref f8) = true)
    (l9 : K.lookup f9 = some ⟨oc9, od9, .func (PySem.W.fnOf "name_words" "name_words" (defArgs s_name_words) (defBody s_name_words) (defScope s_name_words) .none kV9 dc9 pm9 an9 cd9 ct9), sl9⟩)
    (c9 : PySem.W.codeIn K cd9 "name_words" = true)
    (k9 : PySem.W.keepIn K (.ref f9) = true)
    (l10 : K.lookup f10 = some ⟨oc10, od10, .func (PySem.W.fnOf "letters_of" "letters_of" (defArgs s_letters_of) (defBody s_letters_of) (defScope s_letters_of) .none kV10 dc10 pm10 an10 cd10 ct10), sl10⟩)
    (c10 : PySem.W.codeIn K cd10 "letters_of" = true)
    (k10 : PySem.W.keepIn K (.ref f10) = true)
    (l11 : K.lookup f11 = some ⟨oc11, od11, .func (PySem.W.fnOf "name_of" "name_of" (defArgs s_name_of) (defBody s_name_of) (defScope s_name_of) .none kV11 dc11 pm11 an11 cd11 ct11), sl11⟩)
    (c11 : PySem.W.codeIn K cd11 "name_of" = true)
    (k11 : PySem.W.keepIn K (.ref f11) = true)
    (l12 : K.lookup f12 = some ⟨oc12, od12, .func (PySem.W.fnOf "_law_kind" "_law_kind" (defArgs s__law_kind) (defBody s__law_kind) (defScope s__law_kind) .none kV12 dc12 pm12 an12 cd12 ct12), sl12⟩)
    (c12 : PySem.W.codeIn K cd12 "_law_kind" = true)
    (k12 : PySem.W.keepIn K (.ref f12) = true)
    (l13 : K.lookup f13 = some ⟨oc13, od13, .func (PySem.W.fnOf "_law_asked" "_law_asked" (defArgs s__law_asked) (defBody s__law_asked) (defScope s__law_asked) .none kV13 dc13 pm13 an13 cd13 ct13), sl13⟩)
    (c13 : PySem.W.codeIn K cd13 "_law_asked" = true)
    (k13 : PySem.W.keepIn K (.ref f13) = true)
    (l14 : K.lookup f14 = some ⟨oc14, od14, .func (PySem.W.fnOf "_law_words" "_law_words" (defArgs s__law_words) (defBody s__law_words) (defScope s__law_words) .none kV14 dc14 pm14 an14 cd14 ct14), sl14⟩)
    (c14 : PySem.W.codeIn K cd14 "_law_words" = true)
    (k14 : PySem.W.keepIn K (.ref f14) = true)
    (l15 : K.lookup f15 = some ⟨oc15, od15, .func (PySem.W.fnOf "_law_name" "_law_name" (defArgs s__law_name) (defBody s__law_name) (defScope s__law_name) .none kV15 dc15 pm15 an15 cd15 ct15), sl15⟩)
    (c15 : PySem.W.codeIn K cd15 "_law_name" = true)
    (k15 : PySem.W.keepIn K (.ref f15) = true)
    (l16 : K.lookup f16 = some ⟨oc16, od16, .func (PySem.W.fnOf "law" "law" (defArgs s_law) (defBody s_law) (defScope s_law) .none kV16 dc16 pm16 an16 cd16 ct16), sl16⟩)
    (c16 : PySem.W.codeIn K cd16 "law" = true)
    (k16 : PySem.W.keepIn K (.ref f16) = true) :
    ∃ fd : FuncData, (∀ (s : Shared) (v : Value), BindsTo s fd ⟨[v], []⟩ [("_law_script", v)]) ∧ ∀ base : Heap, K.In base → base.Ns mainGlobals mg → FnOk l.prog w K mg base (CXE l.prog w) 5 fa fd ["_law_script"] (spLaw K) := by
  have e := hfa.symm.trans (PySem.W.mg_of X G a16)
  cases e
  have T : Txt K mg (⟨cKeepError, cBadRow, cNoBlock, cStopped, cBadDisk, cNoRoom, cTooMuch, cBadLog, cNoNode, cNoNodes, cTooLong, cOutOfPlace, cBadName, cBadPath, cNotFolder, cNotFile, cNoName, cNameThere, cNotEmpty, cWithin, cBadOrder, gWEIGHTS⟩ : Ad) := ⟨PySem.W.mg_none_of X G z_isinstance, PySem.W.mg_none_of X G z_int, PySem.W.mg_none_of X G z_bool, PySem.W.mg_none_of X G z_str, PySem.W.mg_none_of X G z_list, PySem.W.mg_none_of X G z_len, PySem.W.mg_none_of X G z_all, PySem.W.mg_none_of X G z_sum, PySem.W.mg_none_of X G z_zip, PySem.W.mg_none_of X G z_range, PySem.W.mg_none_of X G z_ValueError, ⟨_, PySem.W.mg_of X G v_LETTERS⟩, ⟨_, PySem.W.mg_of X G v_MOST_LETTERS⟩, PySem.W.mg_of X G n_WEIGHTS, fun H => .inr ⟨_, _, _, w_WEIGHTS, rfl, rfl, (by show 4 ≤ sizeLine; decide), (.cons ⟨_, rfl⟩ (.cons ⟨_, rfl⟩ (.cons ⟨_, rfl⟩ (.cons ⟨_, rfl⟩ .nil))))⟩, PySem.W.mg_of X G n_KeepError, PySem.W.mg_of X G n_BadRow, PySem.W.mg_of X G n_NoBlock, PySem.W.mg_of X G n_Stopped, PySem.W.mg_of X G n_BadDisk, PySem.W.mg_of X G n_NoRoom, PySem.W.mg_of X G n_TooMuch, PySem.W.mg_of X G n_BadLog, PySem.W.mg_of X G n_NoNode, PySem.W.mg_of X G n_NoNodes, PySem.W.mg_of X G n_TooLong, PySem.W.mg_of X G n_OutOfPlace, PySem.W.mg_of X G n_BadName, PySem.W.mg_of X G n_BadPath, PySem.W.mg_of X G n_NotFolder, PySem.W.mg_of X G n_NotFile, PySem.W.mg_of X G n_NoName, PySem.W.mg_of X G n_NameThere, PySem.W.mg_of X G n_NotEmpty, PySem.W.mg_of X G n_Within, PySem.W.mg_of X G n_BadOrder, x_BadName, ⟨g0_BadName, g1_BadName, g2_BadName, g3_BadName, g4_BadName, g5_BadName, g6_BadName⟩, ⟨h0_KeepError, h1_KeepError⟩, s_BadName_KeepError, q_BadName_BadName, q_BadName_ValueError, q_BadName_BadRow, q_BadName_NoBlock, q_BadName_Stopped, q_BadName_BadDisk, q_BadName_NoRoom, q_BadName_TooMuch, q_BadName_BadLog, q_BadName_NoNode, q_BadName_NoNodes, q_BadName_TooLong, q_BadName_OutOfPlace, q_BadName_BadPath, q_BadName_NotFolder, q_BadName_NotFile, q_BadName_NoName, q_BadName_NameThere, q_BadName_NotEmpty, q_BadName_Within, q_BadName_BadOrder⟩
  have F1 := fun_mk (st := s__law_cell_at) l1 c1 k1
  have b1 := F1.binds (ps := ["_law_script", "_law_k"]) fun _ _ _ _ _ _ us hl => match us, hl with | [_, _], _ => rfl
  have F2 := fun_mk (st := s__law_letter) l2 c2 k2
  have b2 := F2.binds (ps := ["_law_number"]) fun _ _ _ _ _ _ us hl => match us, hl with | [_], _ => rfl
  have F3 := fun_mk (st := s__law_sign) l3 c3 k3
  have b3 := F3.binds (ps := ["_law_cell"]) fun _ _ _ _ _ _ us hl => match us, hl with | [_], _ => rfl
  have F4 := fun_mk (st := s__law_text) l4 c4 k4
  have b4 := F4.binds (ps := ["_law_script"]) fun _ _ _ _ _ _ us hl => match us, hl with | [_], _ => rfl
  have F5 := fun_mk (st := s__law_good) l5 c5 k5
  have b5 := F5.binds (ps := ["_law_thing"]) fun _ _ _ _ _ _ us hl => match us, hl with | [_], _ => rfl
  have F6 := fun_mk (st := s_is_name) l6 c6 k6
  have b6 := F6.binds (ps := ["thing"]) fun _ _ _ _ _ _ us hl => match us, hl with | [_], _ => rfl
  have F7 := fun_mk (st := s__law_drawn) l7 c7 k7
  have b7 := F7.binds (ps := ["_law_script"]) fun _ _ _ _ _ _ us hl => match us, hl with | [_], _ => rfl
  have F8 := fun_mk (st := s_word_of) l8 c8 k8
  have b8 := F8.binds (ps := ["letters"]) fun _ _ _ _ _ _ us hl => match us, hl with | [_], _ => rfl
  have F9 := fun_mk (st := s_name_words) l9 c9 k9
  have b9 := F9.binds (ps := ["name"]) fun _ _ _ _ _ _ us hl => match us, hl with | [_], _ => rfl
  have F10 := fun_mk (st := s_letters_of) l10 c10 k10
  have b10 := F10.binds (ps := ["word"]) fun _ _ _ _ _ _ us hl => match us, hl with | [_], _ => rfl
  have F11 := fun_mk (st := s_name_of) l11 c11 k11
  have b11 := F11.binds (ps := ["words"]) fun _ _ _ _ _ _ us hl => match us, hl with | [_], _ => rfl
  have F12 := fun_mk (st := s__law_kind) l12 c12 k12
  have b12 := F12.binds (ps := ["_law_error"]) fun _ _ _ _ _ _ us hl => match us, hl with | [_], _ => rfl
  have F13 := fun_mk (st := s__law_asked) l13 c13 k13
  have b13 := F13.binds (ps := ["_law_which", "_law_thing"]) fun _ _ _ _ _ _ us hl => match us, hl with | [_, _], _ => rfl
  have F14 := fun_mk (st := s__law_words) l14 c14 k14
  have b14 := F14.binds (ps := ["_law_name_here"]) fun _ _ _ _ _ _ us hl => match us, hl with | [_], _ => rfl
  have F15 := fun_mk (st := s__law_name) l15 c15 k15
  have b15 := F15.binds (ps := ["_law_words_here"]) fun _ _ _ _ _ _ us hl => match us, hl with | [_], _ => rfl
  have F16 := fun_mk (st := s_law) l16 c16 k16
  refine ⟨PySem.W.fnOf "law" "law" (defArgs s_law) (defBody s_law) (defScope s_law) .none kV16 dc16 pm16 an16 cd16 ct16, fun s v => .of_eq rfl, fun base _ _ => ?_⟩
  have D__law_cell_at : Df l.prog w K mg base CX0 1 "_law_cell_at" ["_law_script", "_law_k"] (spCell K (⟨cKeepError, cBadRow, cNoBlock, cStopped, cBadDisk, cNoRoom, cTooMuch, cBadLog, cNoNode, cNoNodes, cTooLong, cOutOfPlace, cBadName, cBadPath, cNotFolder, cNotFile, cNoName, cNameThere, cNotEmpty, cWithin, cBadOrder, gWEIGHTS⟩ : Ad)) := ⟨_, _, ok__law_cell_at F1 T , b1, k1, PySem.W.mg_of X G a1⟩
  have D__law_letter : Df l.prog w K mg base CX0 1 "_law_letter" ["_law_number"] (spLetter K (⟨cKeepError, cBadRow, cNoBlock, cStopped, cBadDisk, cNoRoom, cTooMuch, cBadLog, cNoNode, cNoNodes, cTooLong, cOutOfPlace, cBadName, cBadPath, cNotFolder, cNotFile, cNoName, cNameThere, cNotEmpty, cWithin, cBadOrder, gWEIGHTS⟩ : Ad)) := ⟨_, _, ok__law_letter F2 T , b2, k2, PySem.W.mg_of X G a2⟩
  have D__law_sign : Df l.prog w K mg base CX0 1 "_law_sign" ["_law_cell"] (spSign K (⟨cKeepError, cBadRow, cNoBlock, cStopped, cBadDisk, cNoRoom, cTooMuch, cBadLog, cNoNode, cNoNodes, cTooLong, cOutOfPlace, cBadName, cBadPath, cNotFolder, cNotFile, cNoName, cNameThere, cNotEmpty, cWithin, cBadOrder, gWEIGHTS⟩ : Ad)) := ⟨_, _, ok__law_sign F3 T , b3, k3, PySem.W.mg_of X G a3⟩
  have D__law_text : Df l.prog w K mg base (CXE l.prog w) 2 "_law_text" ["_law_script"] (spText K (⟨cKeepError, cBadRow, cNoBlock, cStopped, cBadDisk, cNoRoom, cTooMuch, cBadLog, cNoNode, cNoNodes, cTooLong, cOutOfPlace, cBadName, cBadPath, cNotFolder, cNotFile, cNoName, cNameThere, cNotEmpty, cWithin, cBadOrder, gWEIGHTS⟩ : Ad)) := ⟨_, _, ok__law_text F4 T D__law_cell_at D__law_letter D__law_sign, b4, k4, PySem.W.mg_of X G a4⟩
  have D__law_good : Df l.prog w K mg base CX0 1 "_law_good" ["_law_thing"] (spGood K (⟨cKeepError, cBadRow, cNoBlock, cStopped, cBadDisk, cNoRoom, cTooMuch, cBadLog, cNoNode, cNoNodes, cTooLong, cOutOfPlace, cBadName, cBadPath, cNotFolder, cNotFile, cNoName, cNameThere, cNotEmpty, cWithin, cBadOrder, gWEIGHTS⟩ : Ad)) := ⟨_, _, ok__law_good F5 T , b5, k5, PySem.W.mg_of X G a5⟩
  have D_is_name : Df l.prog w K mg base CX0 1 "is_name" ["thing"] (spIsName K (⟨cKeepError, cBadRow, cNoBlock, cStopped, cBadDisk, cNoRoom, cTooMuch, cBadLog, cNoNode, cNoNodes, cTooLong, cOutOfPlace, cBadName, cBadPath, cNotFolder, cNotFile, cNoName, cNameThere, cNotEmpty, cWithin, cBadOrder, gWEIGHTS⟩ : Ad)) := ⟨_, _, ok_is_name F6 T , b6, k6, PySem.W.mg_of X G a6⟩
  have D__law_drawn : Df l.prog w K mg base CX0 2 "_law_drawn" ["_law_script"] (spDrawn K (⟨cKeepError, cBadRow, cNoBlock, cStopped, cBadDisk, cNoRoom, cTooMuch, cBadLog, cNoNode, cNoNodes, cTooLong, cOutOfPlace, cBadName, cBadPath, cNotFolder, cNotFile, cNoName, cNameThere, cNotEmpty, cWithin, cBadOrder, gWEIGHTS⟩ : Ad)) := ⟨_, _, ok__law_drawn F7 T D__law_cell_at, b7, k7, PySem.W.mg_of X G a7⟩
  have D_word_of : Df l.prog w K mg base (CXE l.prog w) 1 "word_of" ["letters"] (spWordOf K (⟨cKeepError, cBadRow, cNoBlock, cStopped, cBadDisk, cNoRoom, cTooMuch, cBadLog, cNoNode, cNoNodes, cTooLong, cOutOfPlace, cBadName, cBadPath, cNotFolder, cNotFile, cNoName, cNameThere, cNotEmpty, cWithin, cBadOrder, gWEIGHTS⟩ : Ad)) := ⟨_, _, ok_word_of F8 T , b8, k8, PySem.W.mg_of X G a8⟩
  have D_name_words : Df l.prog w K mg base (CXE l.prog w) 2 "name_words" ["name"] (spNameWords K (⟨cKeepError, cBadRow, cNoBlock, cStopped, cBadDisk, cNoRoom, cTooMuch, cBadLog, cNoNode, cNoNodes, cTooLong, cOutOfPlace, cBadName, cBadPath, cNotFolder, cNotFile, cNoName, cNameThere, cNotEmpty, cWithin, cBadOrder, gWEIGHTS⟩ : Ad)) := ⟨_, _, ok_name_words F9 T D_is_name D_word_of, b9, k9, PySem.W.mg_of X G a9⟩
  have D_letters_of : Df l.prog w K mg base (CXE l.prog w) 1 "letters_of" ["word"] (spLettersOf K (⟨cKeepError, cBadRow, cNoBlock, cStopped, cBadDisk, cNoRoom, cTooMuch, cBadLog, cNoNode, cNoNodes, cTooLong, cOutOfPlace, cBadName, cBadPath, cNotFolder, cNotFile, cNoName, cNameThere, cNotEmpty, cWithin, cBadOrder, gWEIGHTS⟩ : Ad)) := ⟨_, _, ok_letters_of F10 T , b10, k10, PySem.W.mg_of X G a10⟩
  have D_name_of : Df l.prog w K mg base (CXE l.prog w) 3 "name_of" ["words"] (spNameOf K (⟨cKeepError, cBadRow, cNoBlock, cStopped, cBadDisk, cNoRoom, cTooMuch, cBadLog, cNoNode, cNoNodes, cTooLong, cOutOfPlace, cBadName, cBadPath, cNotFolder, cNotFile, cNoName, cNameThere, cNotEmpty, cWithin, cBadOrder, gWEIGHTS⟩ : Ad)) := ⟨_, _, ok_name_of F11 T D_name_words D_letters_of, b11, k11, PySem.W.mg_of X G a11⟩
  have D__law_kind : Df l.prog w K mg base CX0 1 "_law_kind" ["_law_error"] (spKind K (⟨cKeepError, cBadRow, cNoBlock, cStopped, cBadDisk, cNoRoom, cTooMuch, cBadLog, cNoNode, cNoNodes, cTooLong, cOutOfPlace, cBadName, cBadPath, cNotFolder, cNotFile, cNoName, cNameThere, cNotEmpty, cWithin, cBadOrder, gWEIGHTS⟩ : Ad)) := ⟨_, _, ok__law_kind F12 T , b12, k12, PySem.W.mg_of X G a12⟩
  have D__law_asked : Df l.prog w K mg base (CXE l.prog w) 4 "_law_asked" ["_law_which", "_law_thing"] (spAsked K (⟨cKeepError, cBadRow, cNoBlock, cStopped, cBadDisk, cNoRoom, cTooMuch, cBadLog, cNoNode, cNoNodes, cTooLong, cOutOfPlace, cBadName, cBadPath, cNotFolder, cNotFile, cNoName, cNameThere, cNotEmpty, cWithin, cBadOrder, gWEIGHTS⟩ : Ad)) := ⟨_, _, ok__law_asked F13 T D_name_words D_name_of D__law_kind, b13, k13, PySem.W.mg_of X G a13⟩
  have D__law_words : Df l.prog w K mg base CX0 1 "_law_words" ["_law_name_here"] (spWords K (⟨cKeepError, cBadRow, cNoBlock, cStopped, cBadDisk, cNoRoom, cTooMuch, cBadLog, cNoNode, cNoNodes, cTooLong, cOutOfPlace, cBadName, cBadPath, cNotFolder, cNotFile, cNoName, cNameThere, cNotEmpty, cWithin, cBadOrder, gWEIGHTS⟩ : Ad)) := ⟨_, _, ok__law_words F14 T , b14, k14, PySem.W.mg_of X G a14⟩
  have D__law_name : Df l.prog w K mg base CX0 2 "_law_name" ["_law_words_here"] (spName K (⟨cKeepError, cBadRow, cNoBlock, cStopped, cBadDisk, cNoRoom, cTooMuch, cBadLog, cNoNode, cNoNodes, cTooLong, cOutOfPlace, cBadName, cBadPath, cNotFolder, cNotFile, cNoName, cNameThere, cNotEmpty, cWithin, cBadOrder, gWEIGHTS⟩ : Ad)) := ⟨_, _, ok__law_name F15 T D__law_letter, b15, k15, PySem.W.mg_of X G a15⟩
  exact ok_law F16 T D__law_text D__law_good D_is_name D__law_drawn D__law_asked D__law_words D__law_name D__law_cell_at
theorem walk {l : PySem.W.OpenLaw} {q : Program} {loose : List Str} {XP : (Str → Option Value) → Heap → Prop} {YP : World → Heap → Prop} {d : DefRec} {K : Params → PySem.W.Frag} (hn : l.most = some 63) (hdf : d.params.defaults = [])
    (hY : ∀ (w : World) (h : Heap), YP w h → (K w.params).In h)
    (F : ∀ (w : World) (mg : Str → Option Value) (fa : Addr) (h : Heap), (K w.params).In h → h.Ns mainGlobals mg → mg d.name = some (.ref fa) →
      ∃ fd : FuncData, (∀ (s : Shared) (u : Value), BindsTo s fd ⟨[u], []⟩ [("_law_script", u)]) ∧ ∀ base : Heap, (K w.params).In base → base.Ns mainGlobals mg → FnOk l.prog w (K w.params) mg base (CXE l.prog w) 5 fa fd ["_law_script"] (spLaw (K w.params))) :
    PySem.W.WalkO q loose XP YP l.row.toRowW d [] (fun f vs => PySem.call f vs) :=
  L2.walk_of (n := 63) (k := 5) (x := "_law_script") (CX := fun w => CXE l.prog w) (sp := fun w => spLaw (K w.params)) hn (by decide) hdf ⟨by decide, by decide⟩ hY F (fun _ _ a ns hl _ hS => ⟨a, ns, rfl, hS, hl, fun _ => rfl⟩) fun _ _ _ _ _ z => cxe0 z
end K15
def PySem.W.Fast.tw7048565183823688934 : Nat := 0
def PySem.W.Fast.tw5880872284207011869 : Nat := 0
def PySem.W.Fast.tw11171329706949633041 : Nat := 0
def PySem.W.Fast.tw9090579224417778175 : Nat := 0
def PySem.W.Fast.tw14584221907376494251 : Nat := 0
def PySem.W.Fast.tw12947602775428467206 : Nat := 0
def PySem.W.Fast.tw1102552402930978668 : Nat := 0
def PySem.W.Fast.tw15936280876383768520 : Nat := 0
def PySem.W.Fast.tw16237614069000862763 : Nat := 0
def PySem.W.Fast.tw16157657050833345038 : Nat := 0
def PySem.W.Fast.tw9051820811088141332 : Nat := 0
def PySem.W.Fast.tw8417813478027510953 : Nat := 0
def PySem.W.Fast.tw11251424012940140724 : Nat := 0
def PySem.W.Fast.tw5493975151900535867 : Nat := 0
def PySem.W.Fast.tw14843700672609800966 : Nat := 0
def PySem.W.Fast.tw16874565073501916243 : Nat := 0
def PySem.W.Fast.tw8929913307091811617 : Nat := 0
def PySem.W.Fast.tw10782523922506086795 : Nat := 0
def PySem.W.Fast.tw18148295584880926154 : Nat := 0
def PySem.W.Fast.tw7295984149016177083 : Nat := 0
def PySem.W.Fast.tw4692286233673047751 : Nat := 0
def PySem.W.Fast.tw14856506892881611426 : Nat := 0
def PySem.W.Fast.tw12859853222475763554 : Nat := 0
def PySem.W.Fast.tw5694880250297217420 : Nat := 0
def PySem.W.Fast.tw2365516286024333489 : Nat := 0
def PySem.W.Fast.tw5127288457153096471 : Nat := 0
def PySem.W.Fast.tw18263424668969548237 : Nat := 0
def PySem.W.Fast.tw17060540752735145861 : Nat := 0
open PySem PySem.W PyProof.Rows
set_option maxRecDepth 100000 in
set_option maxHeartbeats 0 in
theorem PySem.Challenge.cw_blockkeep_k15_names_in_words_holds : PySem.Challenge.rw_blockkeep_k15_names_in_words.Holds := by
  w_on; o_law; k_head; (case hw => w_witness2)
  k_fill
  refine K15.walk (l := PySem.Challenge.rw_blockkeep_k15_names_in_words) rfl rfl (fun w h Y => PySem.W.kIn_of Y) ?F
  case F =>
    intro w mg fa h KX G hmg
    refine' K15.all_mk KX G hmg ?h_n_WEIGHTS ?h_n_KeepError ?h_n_BadRow ?h_n_NoBlock ?h_n_Stopped ?h_n_BadDisk ?h_n_NoRoom ?h_n_TooMuch ?h_n_BadLog ?h_n_NoNode ?h_n_NoNodes ?h_n_TooLong ?h_n_OutOfPlace ?h_n_BadName ?h_n_BadPath ?h_n_NotFolder ?h_n_NotFile ?h_n_NoName ?h_n_NameThere ?h_n_NotEmpty ?h_n_Within ?h_n_BadOrder ?h_a1 ?h_a2 ?h_a3 ?h_a4 ?h_a5 ?h_a6 ?h_a7 ?h_a8 ?h_a9 ?h_a10 ?h_a11 ?h_a12 ?h_a13 ?h_a14 ?h_a15 ?h_a16 ?h_z_isinstance ?h_z_int ?h_z_bool ?h_z_str ?h_z_list ?h_z_len ?h_z_all ?h_z_sum ?h_z_zip ?h_z_range ?h_z_ValueError ?h_v_LETTERS ?h_v_MOST_LETTERS ?h_w_WEIGHTS ?h_x_BadName ?h_g0_BadName ?h_g1_BadName ?h_g2_BadName ?h_g3_BadName ?h_g4_BadName ?h_g5_BadName ?h_g6_BadName ?h_h0_KeepError ?h_h1_KeepError ?h_s_BadName_KeepError ?h_q_BadName_BadName ?h_q_BadName_ValueError ?h_q_BadName_BadRow ?h_q_BadName_NoBlock ?h_q_BadName_Stopped ?h_q_BadName_BadDisk ?h_q_BadName_NoRoom ?h_q_BadName_TooMuch ?h_q_BadName_BadLog ?h_q_BadName_NoNode ?h_q_BadName_NoNodes ?h_q_BadName_TooLong ?h_q_BadName_OutOfPlace ?h_q_BadName_BadPath ?h_q_BadName_NotFolder ?h_q_BadName_NotFile ?h_q_BadName_NoName ?h_q_BadName_NameThere ?h_q_BadName_NotEmpty ?h_q_BadName_Within ?h_q_BadName_BadOrder ?h_l1 ?h_c1 ?h_k1 ?h_l2 ?h_c2 ?h_k2 ?h_l3 ?h_c3 ?h_k3 ?h_l4 ?h_c4 ?h_k4 ?h_l5 ?h_c5 ?h_k5 ?h_l6 ?h_c6 ?h_k6 ?h_l7 ?h_c7 ?h_k7 ?h_l8 ?h_c8 ?h_k8 ?h_l9 ?h_c9 ?h_k9 ?h_l10 ?h_c10 ?h_k10 ?h_l11 ?h_c11 ?h_k11 ?h_l12 ?h_c12 ?h_k12 ?h_l13 ?h_c13 ?h_k13 ?h_l14 ?h_c14 ?h_k14 ?h_l15 ?h_c15 ?h_k15 ?h_l16 ?h_c16 ?h_k16
    (case h_n_WEIGHTS => k_is)
    (case h_n_KeepError => k_is)
    (case h_n_BadRow => k_is)
    (case h_n_NoBlock => k_is)
    (case h_n_Stopped => k_is)
    (case h_n_BadDisk => k_is)
    (case h_n_NoRoom => k_is)
    (case h_n_TooMuch => k_is)
    (case h_n_BadLog => k_is)
    (case h_n_NoNode => k_is)
    (case h_n_NoNodes => k_is)
    (case h_n_TooLong => k_is)
    (case h_n_OutOfPlace => k_is)
    (case h_n_BadName => k_is)
    (case h_n_BadPath => k_is)
    (case h_n_NotFolder => k_is)
    (case h_n_NotFile => k_is)
    (case h_n_NoName => k_is)
    (case h_n_NameThere => k_is)
    (case h_n_NotEmpty => k_is)
    (case h_n_Within => k_is)
    (case h_n_BadOrder => k_is)
    (case h_a1 => k_is)
    (case h_a2 => k_is)
    (case h_a3 => k_is)
    (case h_a4 => k_is)
    (case h_a5 => k_is)
    (case h_a6 => k_is)
    (case h_a7 => k_is)
    (case h_a8 => k_is)
    (case h_a9 => k_is)
    (case h_a10 => k_is)
    (case h_a11 => k_is)
    (case h_a12 => k_is)
    (case h_a13 => k_is)
    (case h_a14 => k_is)
    (case h_a15 => k_is)
    (case h_a16 => k_is)
    (case h_z_isinstance => k_is)
    (case h_z_int => k_is)
    (case h_z_bool => k_is)
    (case h_z_str => k_is)
    (case h_z_list => k_is)
    (case h_z_len => k_is)
    (case h_z_all => k_is)
    (case h_z_sum => k_is)
    (case h_z_zip => k_is)
    (case h_z_range => k_is)
    (case h_z_ValueError => k_is)
    (case h_v_LETTERS => k_is)
    (case h_v_MOST_LETTERS => k_is)
    (case h_w_WEIGHTS => k_is)
    (case h_x_BadName => k_exc)
    (case h_g0_BadName => k_is)
    (case h_g1_BadName => k_is)
    (case h_g2_BadName => k_is)
    (case h_g3_BadName => k_is)
    (case h_g4_BadName => k_is)
    (case h_g5_BadName => kernel_rfl)
    (case h_g6_BadName => kernel_rfl)
    (case h_h0_KeepError => kernel_rfl)
    (case h_h1_KeepError => k_is)
    (case h_s_BadName_KeepError => k_is)
    (case h_q_BadName_BadName => kernel_rfl)
    (case h_q_BadName_ValueError => kernel_rfl)
    (case h_q_BadName_BadRow => kernel_rfl)
    (case h_q_BadName_NoBlock => kernel_rfl)
    (case h_q_BadName_Stopped => kernel_rfl)
    (case h_q_BadName_BadDisk => kernel_rfl)
    (case h_q_BadName_NoRoom => kernel_rfl)
    (case h_q_BadName_TooMuch => kernel_rfl)
    (case h_q_BadName_BadLog => kernel_rfl)
    (case h_q_BadName_NoNode => kernel_rfl)
    (case h_q_BadName_NoNodes => kernel_rfl)
    (case h_q_BadName_TooLong => kernel_rfl)
    (case h_q_BadName_OutOfPlace => kernel_rfl)
    (case h_q_BadName_BadPath => kernel_rfl)
    (case h_q_BadName_NotFolder => kernel_rfl)
    (case h_q_BadName_NotFile => kernel_rfl)
    (case h_q_BadName_NoName => kernel_rfl)
    (case h_q_BadName_NameThere => kernel_rfl)
    (case h_q_BadName_NotEmpty => kernel_rfl)
    (case h_q_BadName_Within => kernel_rfl)
    (case h_q_BadName_BadOrder => kernel_rfl)
    (case h_l1 => k_is)
    (case h_c1 => k_is)
    (case h_k1 => k_is)
    (case h_l2 => k_is)
    (case h_c2 => k_is)
    (case h_k2 => k_is)
    (case h_l3 => k_is)
    (case h_c3 => k_is)
    (case h_k3 => k_is)
    (case h_l4 => k_is)
    (case h_c4 => k_is)
    (case h_k4 => k_is)
    (case h_l5 => k_is)
    (case h_c5 => k_is)
    (case h_k5 => k_is)
    (case h_l6 => k_is)
    (case h_c6 => k_is)
    (case h_k6 => k_is)
    (case h_l7 => k_is)
    (case h_c7 => k_is)
    (case h_k7 => k_is)
    (case h_l8 => k_is)
    (case h_c8 => k_is)
    (case h_k8 => k_is)
    (case h_l9 => k_is)
    (case h_c9 => k_is)
    (case h_k9 => k_is)
    (case h_l10 => k_is)
    (case h_c10 => k_is)
    (case h_k10 => k_is)
    (case h_l11 => k_is)
    (case h_c11 => k_is)
    (case h_k11 => k_is)
    (case h_l12 => k_is)
    (case h_c12 => k_is)
    (case h_k12 => k_is)
    (case h_l13 => k_is)
    (case h_c13 => k_is)
    (case h_k13 => k_is)
    (case h_l14 => k_is)
    (case h_c14 => k_is)
    (case h_k14 => k_is)
    (case h_l15 => k_is)
    (case h_c15 => k_is)
    (case h_k15 => k_is)
    (case h_l16 => k_is)
    (case h_c16 => k_is)
    (case h_k16 => k_is)
end
