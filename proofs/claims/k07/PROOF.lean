import PyProof.Rows.All
import Wide.All
import OpenK.AllK
import Wide.FinOn
import Lean
import PyProof.EqAt
import PyProof.EqKinds
import PyProof.TupleCall
import PyProof.EqLayable
import PyProof.ConsumeWalk
import PySem.Challenge.RW_blockkeep_k07_logs_and_pairs_refused
section
set_option Elab.async false
set_option linter.all false
set_option maxRecDepth 100000
/-! THE HAND LAYER, for ints, bools, texts, own classes, LISTS and tuples (index, slices, in, append, pop ..), calls, loops. Paste it whole ahead of your own text; what your proof does not reach may be deleted. -/
namespace L2
open PySem PySem.Spec PyProof.Rows
/-- what an exception came out of: nothing, or one that came out of nothing -/
def Ctx (h : Heap) (e : Addr) (vs : Array Value) : Prop := vs[2]? = some .none ∨ ∃ (b : Addr) (ob : Obj) (vb : Array Value), vs[2]? = some (.ref b) ∧ b ≠ e ∧ h.get? b = some ob ∧ ob.data = .fields vb ∧ vb[2]? = some .none
/-- what is handled: nothing, or an exception that came out of one other at most -/
def HdAt (A : Around) (h : Heap) : Prop := A.handled = none ∨ ∃ (e : Addr) (oe : Obj) (vs : Array Value), A.handled = some (.ref e) ∧ h.get? e = some oe ∧ oe.data = .fields vs ∧ Ctx h e vs
/-- .. and all that is none of a -/
def HdOff (A : Around) (h : Heap) (a : Addr) : Prop := A.handled = none ∨ ∃ (e : Addr) (oe : Obj) (vs : Array Value), A.handled = some (.ref e) ∧ e ≠ a ∧ h.get? e = some oe ∧ oe.data = .fields vs ∧
  (vs[2]? = some .none ∨ ∃ (b : Addr) (ob : Obj) (vb : Array Value), vs[2]? = some (.ref b) ∧ b ≠ e ∧ b ≠ a ∧ h.get? b = some ob ∧ ob.data = .fields vb ∧ vb[2]? = some .none)
theorem entry_unchain : entryFor table "proto.unchain" = some Builtin.«proto.unchain» := entryFor_of_fast (by kernel_rfl)
section
variable {prog : Program} {w : World} {A : Around} {E : Value → Shared → Prop} {s : Shared}
theorem unchain_at {v o slow : Value} {t : Bool} {a : Addr} {oo : Obj} {vs : Array Value} {R : Result → Shared → Prop} (ho : o = .ref a) (hoe : s.heap.get? a = some oo) (hde : oo.data = .fields vs) (h2 : vs[2]? = some .none)
    (h : R (.ok (.ret .none)) s) : codeAny (model prog w) A (.builtin "proto.unchain" ⟨[v, o, slow, .bool t], []⟩) R s := by
  subst ho
  refine codeAny_builtin entry_unchain ?_
  unfold Builtin.«proto.unchain»
  refine wpAny_bind (wpAny_field hoe hde h2 ?_)
  rw [if_pos (by rfl)]
  refine wpAny_bind (wpAny_pure (wpAny_pure ?_))
  exact h
theorem raiseNew_hd {α : Type} {a : Addr} {o : Obj} {vs : Array Value} {Q : α → Shared → Prop} (hd : HdOff A s.heap a) (ho : s.heap.get? a = some o) (hdt : o.data = .fields vs) (h3 : 2 < vs.size)
    (h : ∀ h', Heap.SameBut a s.heap h' → (∃ o' v, h'.get? a = some o' ∧ o'.cls = o.cls ∧ o'.dict = o.dict ∧ o'.data = .fields (vs.setIfInBounds 2 v) ∧ (A.handled = none → h' = s.heap) ∧ ∀ e, A.handled = some (.ref e) → v = .ref e) → E (.ref a) { s with heap := h' }) : wpAny (model prog w) A (raiseNew (.ref a) : Sem α) Q E s := by
  unfold raiseNew
  refine wpAny_bind (wpAny_handled ?_)
  rcases hd with hn | ⟨e, oe, es, he, ne0, hoe, hde, h2⟩
  · rw [hn]
    have hx : vs.setIfInBounds 2 vs[2] = vs := Array.ext (by simp) fun i h1 h2 => by
      rw [Array.getElem_setIfInBounds]
      split
      · rename_i z; subst z; rfl
      · rfl
    exact wpAny_bind (wpAny_pure (wpAny_throw (h s.heap (Heap.SameBut.refl ..) ⟨o, vs[2], ho, rfl, rfl, by rw [hx]; exact hdt, fun _ => rfl, fun e he => by rw [hn] at he; cases he⟩)))
  · rw [he]
    have ne : (Value.ref e != Value.ref a) = true := by simp [ne0]
    dsimp only
    rw [if_pos ne]
    have fin : wpAny (model prog w) A (updateField a 2 (.ref e) >>= fun _ => throw (.ref a)) Q E s :=
      wpAny_bind (show wpAny _ _ (setField (.ref a) 2 (.ref e)) _ _ _ from wpAny_setField ho hdt h3 (wpAny_throw (h _ (Heap.SameBut.update ..)
        ⟨_, .ref e, Heap.get?_update_self _ ho (Obj.isFreed_of_fields (Obj.data_mapFields hdt _)), Obj.cls_mapFields .., (by unfold Obj.mapFields; split <;> rfl), Obj.data_mapFields hdt _, fun z => (by rw [he] at z; cases z), fun e' z => (by rw [he] at z; cases z; rfl)⟩)))
    refine wpAny_bind (wpAny_holding (wpAny_runValue ?_))
    rcases h2 with h2 | ⟨b, ob, vb, h2, hbe, hba, hob, hdb, hb2⟩
    · exact unchain_at rfl hoe hde h2 fin
    · refine codeAny_builtin entry_unchain ?_
      unfold Builtin.«proto.unchain»
      refine wpAny_bind (wpAny_field hoe hde h2 ?_)
      rw [if_neg (by simp), if_neg (by simp [hba]), if_neg (by simp [hbe])]
      refine wpAny_bind (wpAny_pure ?_)
      exact wpAny_pure ⟨Code.quiet_builtin _ (by decide +kernel), unchain_at rfl hob hdb hb2 fin⟩
theorem HdAt.two {A : Around} {h h' : Heap} {it : Addr} {o1 o2 : Obj} (x : HdAt A h) (k : ∀ b o, b ≠ it → h.get? b = some o → h'.get? b = some o) (hi : ∀ oe vs, h.get? it = some oe → oe.data = .fields vs → vs[2]? ≠ some .none ∧ ∀ b, vs[2]? ≠ some (.ref b)) :
    HdOff A ((h'.push o1).push o2) (h'.push o1).objs.size := by
  rcases x with x | ⟨e, oe, vs, a, b, c, d⟩
  · exact .inl x
  · have b' := k e oe (fun z => by
      have := hi oe vs (z ▸ b) c
      rcases d with d | ⟨b, _, _, d, _⟩
      · exact this.1 d
      · exact this.2 b d) b
    have nw : ∀ {c o}, h'.get? c = some o → c ≠ (h'.push o1).objs.size := fun {c o} z => by
      rw [Heap.size_push]
      exact Nat.ne_of_lt (Nat.lt_succ_of_lt (Heap.lt_size z))
    refine .inr ⟨e, oe, vs, a, nw b', Heap.get?_push_of_some _ (Heap.get?_push_of_some _ b'), c, ?_⟩
    rcases d with d | ⟨b, ob, vb, d1, d2, d3, d4, d5⟩
    · exact .inl d
    · have d3' := k b ob (fun z => (hi ob vb (z ▸ d3) d4).1 d5) d3
      exact .inr ⟨b, ob, vb, d1, d2, nw d3', Heap.get?_push_of_some _ (Heap.get?_push_of_some _ d3'), d4, d5⟩
theorem list_endH {it l : Addr} {i : Nat} {items : Array Value} {Q : Option Value → Shared → Prop} (hh : HdAt A s.heap)
    (hit : s.heap.IsListIter it l i) (hl : s.heap.IsList l items) (hx : items[i]? = none)
    (hQ : ∀ h', Heap.ExtBut it s.heap h' → Q none { s with heap := h' }) : wpAny (model prog w) A (pyNext (.ref it)) Q E s := by
  obtain ⟨o, ho, hc, hd⟩ := id hit
  obtain ⟨ol, hol, _, nl, hdl⟩ := hl
  unfold pyNext
  refine wpAny_bind (wpAny_attempt (wpAny_callSpecial?_slot (name := Str.ofString "__next__") hit.typeIs slot_listiter_next
    (wpAny_call_entry slot_listiter_next hit.typeIs entry_listiter_next ?_ (args_listiter_next _))))
  show wpAny _ _ (field (.ref it) 0 >>= _) _ _ s
  refine wpAny_bind (wpAny_field ho hd (x := .ref l) rfl ?_)
  show wpAny _ _ (if (Value.ref l == Value.none) = true then _ else _) _ _ s
  rw [if_neg (show ¬ ((Value.ref l == Value.none) = true) from Bool.false_ne_true)]
  show wpAny _ _ (field (.ref it) 1 >>= _) _ _ s
  refine wpAny_bind (wpAny_field ho hd (x := .int i 0) rfl ?_)
  show wpAny _ _ (seqItems? (.ref l) >>= _) _ _ s
  refine wpAny_bind (wpAny_seqItems hol hdl ?_)
  simp only [Int.toNat_natCast, hx]
  refine wpAny_bind (wpAny_rule (wpAny_bind (wpAny_setField ho hd (by simp) ?_)))
  show wpAny _ _ (newExc (.type "StopIteration") [] >>= _) _ _ _
  refine wpAny_bind ?_
  simp only [newExc, newTuple]
  refine wpAny_bind (wpAny_newObj_type ?_ (by size_fits))
  refine wpAny_bind (m := firstArgMember _ _) (wpAny_of_eq (a := Value.none) (by first | rfl | (simp only [firstArgMember]; rfl)) ?_)
  refine wpAny_newObj_type ?_ (by size_fits)
  refine raiseNew_hd (HdAt.two (A := A.in1) (it := it) hh (fun b o' hb e => (Heap.SameBut.update ..).extBut b o' hb e) (fun oe vs e e2 => by rw [ho] at e; cases e; rw [hd] at e2; cases e2; exact ⟨by simp, by simp⟩)) (Heap.get?_push_size _ rfl) rfl (by simp; omega) fun h' sb ⟨o', _, ho', hc', _⟩ => ?_
  refine wpAny_bind (wpAny_isInstance (T := "StopIteration") (b := true) ⟨_, ho', hc'⟩ isSubtype_stop ?_)
  refine wpAny_pure (hQ _ fun b ob hb e => (sb.2 b ?_).trans (((Heap.SameBut.update ..).extBut.push _).push _ b ob hb e))
  exact Nat.ne_of_lt (Nat.lt_of_lt_of_le (Heap.lt_size e) (by rw [Heap.size_push, Heap.size_after_update]; exact Nat.le_succ _))
theorem range_endH {it : Addr} {x left step : Int} {Q : Option Value → Shared → Prop} (hh : HdAt A s.heap) (hit : IsRangeIter s.heap it x left step) (hleft : left ≤ 0)
    (hQ : ∀ h', Heap.ExtBut it s.heap h' → Q none { s with heap := h' }) : wpAny (model prog w) A (pyNext (.ref it)) Q E s := by
  have hT : s.TypeIs (.ref it) "range_iterator" := ⟨_, hit, rfl⟩
  unfold pyNext
  refine wpAny_bind (wpAny_attempt (wpAny_callSpecial?_slot (name := Str.ofString "__next__") hT F.slot_range_iterator_next
    (wpAny_call_entry F.slot_range_iterator_next hT F.entry_range_iterator_next ?_ (F.args_range_iterator_next_1 _))))
  show wpAny _ _ (field (.ref it) 0 >>= _) _ _ s
  refine wpAny_bind (wpAny_field hit rfl (x := rawInt x) rfl ?_)
  show wpAny _ _ (field (.ref it) 1 >>= _) _ _ s
  refine wpAny_bind (wpAny_field hit rfl (x := rawInt left) rfl ?_)
  show wpAny _ _ (field (.ref it) 2 >>= _) _ _ s
  refine wpAny_bind (wpAny_field hit rfl (x := rawInt step) rfl ?_)
  show wpAny _ _ (if left ≤ 0 then _ else _) _ _ s
  rw [if_pos hleft]
  refine wpAny_bind (wpAny_rule ?_)
  refine wpAny_bind ?_
  show wpAny _ _ (newExc (.type "StopIteration") [] >>= _) _ _ _
  refine wpAny_bind ?_
  simp only [newExc, newTuple]
  refine wpAny_bind (wpAny_newObj_type ?_ (by size_fits))
  refine wpAny_bind (m := firstArgMember _ _) (wpAny_of_eq (a := Value.none) (by first | rfl | (simp only [firstArgMember]; rfl)) ?_)
  refine wpAny_newObj_type ?_ (by size_fits)
  refine raiseNew_hd (HdAt.two (A := A.in1) (it := it) hh (fun b o' hb e => e) (fun oe vs e e2 => by rw [show s.heap.get? it = some _ from hit] at e; cases e; cases e2; exact ⟨by simp [rawInt], by simp [rawInt]⟩)) (Heap.get?_push_size _ rfl) rfl (by simp; omega) fun h' sb ⟨o', _, ho', hc', _⟩ => ?_
  refine wpAny_bind (wpAny_isInstance (T := "StopIteration") (b := true) ⟨_, ho', hc'⟩ isSubtype_stop ?_)
  refine wpAny_pure (hQ _ fun b ob hb e => (sb.2 b ?_).trans (((Heap.ExtBut.refl it s.heap).push _).push _ b ob hb e))
  exact Nat.ne_of_lt (Nat.lt_of_lt_of_le (Heap.lt_size e) (by rw [Heap.size_push]; exact Nat.le_succ _))
end
section
variable {prog : Program} {w : World} {A : Around} {E : Value → Shared → Prop} {s : Shared} {K : PySem.W.Frag} {e D : Addr} {oe : Obj}
open PySem.Calls PySem.W in
theorem exc_class {Q : Option Value → Shared → Prop} (X : K.In s.heap) (I : PySem.W.InstAt s.heap e oe D none) (hga : findIn K (.ref D) "__getattribute__" = some (some (.builtin "BaseException.__getattribute__"))) (hk : findIn K (.ref D) "__getattr__" = some none)
    (ha : findIn K (.ref D) "__class__" = some (some (.builtin "object.__class__"))) (hB : mroIn K D (.type "BaseException") = some true) (hm : mroIn K D (.type "object") = some true)
    (hf : findObj K D none "__class__" = some (.bind (.builtin "getset_descriptor.__get__") (.builtin "object.__class__")))
    (h : Q (some (.ref D)) { s with toks := s.toks + 1 }) : wpAny (model prog w) A (getAttr? (.ref e) "__class__") Q E s := by
  obtain ⟨h0, g, d, t, os⟩ := s
  have L0 := I.type (M := model prog w)
  have L1 := looks_findIn (M := model prog w) X hga
  have L2 := looks_findIn (M := model prog w) X hk
  have L3 := looks_findIn (M := model prog w) X ha
  have L4 := looks_mroIn (M := model prog w) X hB
  unfold getAttr? getAttrBy? getAttrBy
  refine wpAny_bind (wpAny_mkText (wpAny_bind (wpAny_attempt (wpAny_holding (wpAny_bind (L0.at (wpAny_bind (L1.at ?_))))))))
  show wpAny _ _ (getAttrByItsOwn _ _ _ _ _ _) _ _ _
  unfold getAttrByItsOwn hookBefore
  rw [if_pos (show onTheHeap (Value.ref D) = true from rfl)]
  have L5 := looks_find (M := model prog w) X I hf
  refine wpAny_bind (L2.at (wpAny_bind (wpAny_attempt (wpAny_holding ?_))))
  unfold callGetattribute
  rw [if_neg (by decide)]
  unfold boundAndCalled
  refine wpAny_bind (wpAny_of_eq (PySem.F.attr_ValueError.ga.bind (.ref e)) ?_)
  refine wpAny_call (codeAny_call_builtin PySem.F.attr_ValueError.ga.plain F.entry_bexc_ga ?_)
  have hk' : builtinKind "BaseException.__getattribute__" = some .slot := by decide +kernel
  have hsplit : splitId "BaseException.__getattribute__" = some ("BaseException", "__getattribute__") := by decide +kernel
  have harg := F.args_bexc_ga (.ref e) (.str "__class__" t)
  simp only [checkBuiltinCall, hk', hsplit]
  refine wpAny_bind ?_
  unfold isInstance
  refine wpAny_bind (L0.at (L4.at ?_))
  rw [if_neg (by decide)]
  refine wpAny_of_eq harg ?_
  unfold Builtin.«object.__getattribute__»
  refine wpAny_bind (wpAny_pure (wpAny_bind (wpAny_pure (wpAny_bind (L0.at (wpAny_bind (L5.at ?_)))))))
  unfold Builtin.ObjectAttr.bindTo
  refine wpAny_bind (wpAny_holding (wpAny_call (PySem.W.class_get (ox := oe) (od := none) X I hm ?_)))
  refine wpAny_pure ?_
  exact handed_on rfl (wpAny_pure h)
/-- what the text must have of a class of exceptions -/
structure ExcK (K : PySem.W.Frag) (D : Addr) : Prop where
  ga : PySem.W.findIn K (.ref D) "__getattribute__" = some (some (.builtin "BaseException.__getattribute__"))
  gr : PySem.W.findIn K (.ref D) "__getattr__" = some none
  cl : PySem.W.findIn K (.ref D) "__class__" = some (some (.builtin "object.__class__"))
  bx : PySem.W.mroIn K D (.type "BaseException") = some true
  ob : PySem.W.mroIn K D (.type "object") = some true
  fd : PySem.W.findObj K D none "__class__" = some (.bind (.builtin "getset_descriptor.__get__") (.builtin "object.__class__"))
  is : (PySem.W.clsIn K D).isSome = true
open PySem.Calls PySem.W in
theorem kitx_exc (F : ExcK K D) : KitX K (.ref e) (.ref D) (fun h => ∃ oe, PySem.W.InstAt h e oe D none) where
  ty := fun _ _ _ ⟨_, I⟩ => I.type
  it := fun _ _ X _ => by
    obtain ⟨cdD, hcD⟩ := Option.isSome_iff_exists.mp F.is
    unfold clsIn at hcD
    split at hcD
    · rename_i c' d' cd' sl' ho
      intro A' Q' E' s' k q
      unfold isType loadHead
      exact wpAny_bind (wpAny_loadPart (k _ _ (X _ _ ho)) (wpAny_pure q))
    · cases hcD
  ne := fun h tp dd its n sl X htp => by
    obtain ⟨cdD, hcD⟩ := Option.isSome_iff_exists.mp F.is
    refine Bool.eq_false_iff.mpr fun q => ?_
    have e : D = tp := Value.ref.inj (beq_iff_eq.mp q)
    subst e
    unfold clsIn at hcD
    split at hcD
    · rename_i c' d' cd' sl' ho
      have z := (X _ _ ho).symm.trans htp
      cases z
    · cases hcD
  ca := fun X ⟨_, I⟩ k => exc_class X I F.ga F.gr F.cl F.bx F.ob F.fd k
end
end L2

namespace L2
open PySem PySem.Spec PyProof.Rows

/-- a key: an int or a str -/
abbrev Key := Sum Int Str
def keyIs : Key → Value → Bool
  | .inl k, v => Value.isInt k v
  | .inr x, v => Value.isStrOf x v
def keyH (w : World) : Key → Int
  | .inl k => hashInt k
  | .inr x => hashStr w x
theorem keyIs_shape : ∀ {k : Key} {v : Value}, keyIs k v = true → (∃ i t, k = Sum.inl i ∧ v = Value.int i t) ∨ (∃ x t, k = Sum.inr x ∧ v = Value.str x t)
  | .inl i, v, h => by
    obtain ⟨t, e⟩ := Value.isInt_shape (k := i) (v := v) h
    exact .inl ⟨i, t, rfl, e⟩
  | .inr x, v, h => by
    obtain ⟨t, e⟩ := Value.isStrOf_shape (x := x) (v := v) h
    exact .inr ⟨x, t, rfl, e⟩
theorem keyIs_int (i : Int) (t : Tok) : keyIs (.inl i) (.int i t) = true := by simp [keyIs, Value.isInt]
theorem keyIs_str (x : Str) (t : Tok) : keyIs (.inr x) (.str x t) = true := by simp [keyIs, Value.isStrOf]
theorem key_ll (a b : Int) : decide ((Sum.inl a : Key) = Sum.inl b) = (a == b) := by
  by_cases e : a = b
  · subst e; simp
  · have h : ¬ (Sum.inl a : Key) = Sum.inl b := fun q => e (Sum.inl.inj q)
    rw [decide_eq_false h]
    exact (beq_eq_false_iff_ne.mpr e).symm
theorem key_rr (a b : Str) : decide ((Sum.inr a : Key) = Sum.inr b) = decide (a = b) := by
  by_cases e : a = b
  · subst e; simp
  · have h : ¬ (Sum.inr a : Key) = Sum.inr b := fun q => e (Sum.inr.inj q)
    rw [decide_eq_false h, decide_eq_false e]
theorem key_lr (a : Int) (b : Str) : decide ((Sum.inl a : Key) = Sum.inr b) = false := decide_eq_false (fun q => nomatch q)
theorem key_rl (a : Str) (b : Int) : decide ((Sum.inr a : Key) = Sum.inl b) = false := decide_eq_false (fun q => nomatch q)

def mixKind (prog : Program) (w : World) : PySem.KeyKind prog w Key where
  is := keyIs
  hash := keyH w
  inj := fun v a b ha hb => by
    rcases keyIs_shape ha with ⟨i, t, rfl, rfl⟩ | ⟨x, t, rfl, rfl⟩
    · rcases keyIs_shape hb with ⟨j, u, rfl, e⟩ | ⟨y, u, rfl, e⟩
      · injection e with e1 _; rw [e1]
      · exact nomatch e
    · rcases keyIs_shape hb with ⟨j, u, rfl, e⟩ | ⟨y, u, rfl, e⟩
      · exact nomatch e
      · injection e with e1 _; rw [e1]
  byValue := fun k v h => by
    rcases keyIs_shape h with ⟨i, t, rfl, rfl⟩ | ⟨x, t, rfl, rfl⟩ <;> rfl
  pyHash := fun hv h => by
    rcases keyIs_shape hv with ⟨i, t, rfl, rfl⟩ | ⟨x, t, rfl, rfl⟩
    · exact wpAny_pyHash_int h
    · exact wpAny_pyHash_str h
  eqBool := fun hu hv h => by
    rcases keyIs_shape hu with ⟨i, t, rfl, rfl⟩ | ⟨x, t, rfl, rfl⟩
    · rcases keyIs_shape hv with ⟨j, u, rfl, rfl⟩ | ⟨y, u, rfl, rfl⟩
      · rw [key_ll] at h; exact wpAny_eqBool_int h
      · rw [key_lr] at h; exact SeqAt.EqAt.int_str i t y u _ _ _ _ h
    · rcases keyIs_shape hv with ⟨j, u, rfl, rfl⟩ | ⟨y, u, rfl, rfl⟩
      · rw [key_rl] at h; exact SeqAt.EqAt.str_int x t j u _ _ _ _ h
      · rw [key_rr] at h; exact wpAny_eqBool_str h
  «strs» := fun k x t v h => by
    rcases keyIs_shape h with ⟨i, u, rfl, e⟩ | ⟨y, u, rfl, e⟩
    · exact nomatch e
    · injection e with e1 _
      subst e1
      cases v <;> rfl

theorem mixKind_int (prog : Program) (w : World) (i : Int) (t : Tok) : (mixKind prog w).is (.inl i) (.int i t) = true := keyIs_int i t
theorem mixKind_str (prog : Program) (w : World) (x : Str) (t : Tok) : (mixKind prog w).is (.inr x) (.str x t) = true := keyIs_str x t
end L2

namespace L2
open PySem PySem.Spec PyProof.Rows

/-- a value, without the heap -/
inductive V where
  | non | bl (b : Bool) | int (i : Int) | str (x : Str) | byt (b : Array UInt8) | flt (b : UInt64) | ref (a : Addr) | ty (n : String)
  deriving DecidableEq

def RelV : V → Value → Prop
  | .non, u => u = Value.none
  | .bl b, u => u = Value.bool b
  | .int i, u => ∃ t, u = Value.int i t
  | .str x, u => ∃ t, u = Value.str x t
  | .byt b, u => ∃ t, u = Value.bytes b t
  | .flt b, u => ∃ t, u = Value.float b t
  | .ref a, u => u = Value.ref a
  | .ty n, u => u = Value.type n

abbrev Vals : List V → List Value → Prop := Paired RelV
theorem Vals.length {xs : List V} {us : List Value} (r : Vals xs us) : xs.length = us.length := Paired.length r
theorem Vals.get : ∀ {xs : List V} {us : List Value} {i : Nat} {x : V}, Vals xs us → xs[i]? = some x → ∃ u, us[i]? = some u ∧ RelV x u
  | _, _, _, _, .nil, e => by simp at e
  | _, _, 0, _, .cons r _, e => by simp at e; subst e; exact ⟨_, rfl, r⟩
  | _, _, i + 1, x, .cons _ t, e => by
    obtain ⟨u, h1, h2⟩ := Vals.get (i := i) (x := x) t (by simpa using e)
    exact ⟨u, by simpa using h1, h2⟩
theorem Vals.set {x : V} {u : Value} (r : RelV x u) : ∀ {xs : List V} {us : List Value} (i : Nat), Vals xs us → Vals (xs.set i x) (us.set i u)
  | _, _, _, .nil => .nil
  | _, _, 0, .cons _ t => .cons r t
  | _, _, i + 1, .cons q t => .cons q (Vals.set r i t)
theorem Vals.append : ∀ {xs ys : List V} {us ws : List Value}, Vals xs us → Vals ys ws → Vals (xs ++ ys) (us ++ ws)
  | _, _, _, _, .nil, s => s
  | _, _, _, _, .cons r t, s => .cons r (Vals.append t s)
theorem Vals.take : ∀ {xs : List V} {us : List Value} (n : Nat), Vals xs us → Vals (xs.take n) (us.take n)
  | _, _, 0, _ => .nil
  | _, _, _ + 1, .nil => .nil
  | _, _, n + 1, .cons r t => .cons r (Vals.take n t)
theorem Vals.drop : ∀ {xs : List V} {us : List Value} (n : Nat), Vals xs us → Vals (xs.drop n) (us.drop n)
  | _, _, 0, r => r
  | _, _, _ + 1, .nil => .nil
  | _, _, n + 1, .cons _ t => Vals.drop n t
def RelO : Option V → Option Value → Prop
  | some v, some u => RelV v u
  | none, none => True
  | _, _ => False
def KV {κ : Type} : List (κ × V) → List (κ × Value) → Prop := Paired fun (p : κ × V) (q : κ × Value) => p.1 = q.1 ∧ RelV p.2 q.2

/-- a key of a dict (00_mix): an int or a text -/
def kV : Key → V
  | .inl i => .int i
  | .inr x => .str x

/-- what stands at a tracked address -/
inductive HO where
  /-- a list -/
  | lst (xs : List V)
  /-- a tuple (never changes) -/
  | tup (xs : List V)
  /-- a dict whose keys are ints and texts; one whose keys are tuples of ints and texts (the empty one is both) -/
  | dK (kvs : List (Key × V)) | dT (kvs : List (List Key × V))
  /-- a set of ints: its members, its size -/
  | set (S : Int → Bool) (n : Nat)
  /-- an instance of the class at C, its dict at dx, its attributes -/
  | ins (C dx : Addr) (fs : List (Str × V))
  /-- the dict of the instance at x -/
  | own (x : Addr)
  /-- the dict of an exception -/
  | xd (fs : List (Str × V))
  /-- a bound method, f of x -/
  | met (f x : Addr)
  /-- a range object lo, lo + 1, .. below hi -/
  | rng (lo hi : Int)
  /-- a thing that is known to the object (the script; a dict while a loop walks it): read, never written while it is so -/
  | frz (o : Obj) (u : HO)
  /-- a code object's table -/
  | tbl (ps : Array Value)
  /-- an exception that was caught, of that class: it came out of no other -/
  | exc (cls : Value)
  /-- any other thing, by what is true of its one object (a def of one's own: SetO a S n := HO.ext fun h => ..) -/
  | ext (φ : Heap → Prop)

abbrev Hp := Addr → Option HO
def upd (H : Hp) (a : Addr) (o : HO) : Hp := fun b => if b = a then some o else H b
theorem upd_same {H : Hp} {a : Addr} {o : HO} : upd H a o a = some o := by unfold upd; rw [if_pos rfl]
theorem upd_ne {H : Hp} {a b : Addr} {o : HO} (h : b ≠ a) : upd H a o b = H b := by unfold upd; rw [if_neg h]
theorem upd_upd {H : Hp} {a : Addr} {o u : HO} : upd (upd H a o) a u = upd H a u := by
  funext b; unfold upd; split <;> rfl
/-- two objects of different content stand apart -/
theorem ne_of {H : Hp} {a b : Addr} {o u : HO} (h : H a = some o) (h' : H b = some u) (d : o ≠ u) : a ≠ b := by
  intro e; subst e; rw [h] at h'; exact d (Option.some.inj h')
theorem ne_of_none {H : Hp} {a b : Addr} {o : HO} (h : H a = some o) (h' : H b = none) : a ≠ b := by
  intro e; subst e; rw [h] at h'; cases h'

section
variable (P : Program) (w : World)
def ObjOk (H : Hp) (h : Heap) (a : Addr) : HO → Prop
  | .lst xs => xs.length ≤ sizeLine ∧ ∃ (its : List Value) (n : Nat), Vals xs its ∧ h.get? a = some { cls := .type "list", data := .seq its.toArray n }
  | .tup xs => xs.length ≤ sizeLine ∧ ∃ its : List Value, Vals xs its ∧ IsTup h a its.toArray
  | .dK kvs => kvs.length ≤ sizeLine ∧ (a == sysModules) = false ∧ ∃ vs, KV kvs vs ∧ h.DictOf (mixKind P w) a vs
  | .dT kvs => kvs.length ≤ sizeLine ∧ (a == sysModules) = false ∧ ∃ xs : List (List Key × Addr × Value),
      Paired (fun (p : List Key × V) (q : List Key × Addr × Value) => p.1 = q.1 ∧ H q.2.1 = some (.tup (p.1.map kV)) ∧ RelV p.2 q.2.2) kvs xs ∧
      ∃ o es ep, h.get? a = some o ∧ o.ExactDict ∧ o.data = .dict es ep ∧ es.toList = xs.map (entryOfKey (tupleKind (mixKind P w))) ∧ (xs.map (·.1)).Nodup
  | .set S n => h.SetOf (intKind P w) a S n
  | .ins C dx fs => H dx = some (.own a) ∧ fs.length ≤ 1000 ∧ dx ≠ a ∧ h.get? a = some (PySem.W.instObj C dx) ∧
      ∃ mA, h.Ns1 dx mA ∧ (∀ f, RelO (fs.lookup f) (mA f)) ∧ PySem.Within mA (fs.map (·.1))
  | .own _ => ∃ o, h.get? a = some o
  | .xd fs => ∃ mA, h.Ns1 a mA ∧ ∀ f, RelO (fs.lookup f) (mA f)
  | .rng lo hi => ∃ t u v, h.get? a = some { cls := .type "range", data := .fields #[.int lo t, .int hi u, .int 1 v] }
  | .frz o u => h.get? a = some o ∧ ObjOk H h a u
  | .tbl ps => h.get? a = some { cls := .none, data := .fields ps }
  | .met f x => h.get? a = some (PySem.W.methodObj (.ref f) (.ref x))
  | .exc c => ∃ oe vs, h.get? a = some oe ∧ oe.cls = c ∧ oe.dict = none ∧ oe.data = .fields vs ∧ (vs[2]? = some .none ∨ ∃ b ob vb, vs[2]? = some (.ref b) ∧ b ≠ a ∧ H b = some (.own a) ∧ h.get? b = some ob ∧ ob.data = .fields vb ∧ vb[2]? = some .none)
  | .ext φ => φ h ∧ (∃ o, h.get? a = some o) ∧ ∀ h1 h2 : Heap, φ h1 → (∀ o, h1.get? a = some o → h2.get? a = some o) → φ h2
/-- the abstract heap is held -/
def HOk (H : Hp) (h : Heap) : Prop := ∀ a o, H a = some o → ObjOk P w H h a o
end

section
variable {P : Program} {w : World} {H H' : Hp} {h h' : Heap} {a : Addr} {o : HO}
theorem ObjOk.lt (x : ObjOk P w H h a o) : a < h.objs.size := by
  cases o with
  | lst xs => obtain ⟨_, _, _, _, e⟩ := x; exact Heap.lt_size e
  | tup xs => obtain ⟨_, _, _, p⟩ := x; exact p.lt
  | dK kvs => obtain ⟨_, _, _, _, o, _, _, e, _⟩ := x; exact Heap.lt_size e
  | dT kvs => obtain ⟨_, _, _, _, o, _, _, e, _⟩ := x; exact Heap.lt_size e
  | set S n => obtain ⟨o, _, _, _, e, _⟩ := x; exact Heap.lt_size e
  | ins C dx fs => obtain ⟨_, _, _, e, _⟩ := x; exact Heap.lt_size e
  | own y => obtain ⟨_, e⟩ := x; exact Heap.lt_size e
  | xd fs => obtain ⟨_, ⟨_, _, _, e, _⟩, _⟩ := x; exact Heap.lt_size e
  | rng lo hi => obtain ⟨_, _, _, e⟩ := x; exact Heap.lt_size e
  | frz ob u => obtain ⟨e, _⟩ := x; exact Heap.lt_size e
  | tbl ps => exact Heap.lt_size (show h.get? a = some _ from x)
  | met f y => exact Heap.lt_size (show h.get? a = some _ from x)
  | ext φ => obtain ⟨_, ⟨_, e⟩, _⟩ := x; exact Heap.lt_size e
  | exc c => obtain ⟨_, _, e, _⟩ := x; exact Heap.lt_size e
theorem Paired.mapP {α β : Type} {F G : α → β → Prop} : ∀ {l₁ : List α} {l₂ : List β}, Paired F l₁ l₂ → (∀ a b, F a b → G a b) → Paired G l₁ l₂
  | _, _, .nil, _ => .nil
  | _, _, .cons r t, f => .cons (f _ _ r) (Paired.mapP t f)
/-- what an object's description leans on: its own object, its own dict, the tuples -/
theorem ObjOk.stay (x : ObjOk P w H h a o) (k : ∀ b u, (b = a ∨ H b = some (.own a)) → h.get? b = some u → h'.get? b = some u)
    (ho : ∀ b, H b = some (.own a) → H' b = some (.own a)) (ht : ∀ b xs, H b = some (.tup xs) → H' b = some (.tup xs)) : ObjOk P w H' h' a o := by
  induction o with
  | lst xs => obtain ⟨z, its, n, r, e⟩ := x; exact ⟨z, its, n, r, k _ _ (.inl rfl) e⟩
  | tup xs => obtain ⟨z, its, r, ob, e, c⟩ := x; exact ⟨z, its, r, ob, k _ _ (.inl rfl) e, c⟩
  | dK kvs => obtain ⟨z, y, vs, r, ob, es, ep, e, c⟩ := x; exact ⟨z, y, vs, r, ob, es, ep, k _ _ (.inl rfl) e, c⟩
  | dT kvs =>
    obtain ⟨z, y, xs, r, ob, es, ep, e, c⟩ := x
    exact ⟨z, y, xs, Paired.mapP r fun p q z => ⟨z.1, ht _ _ z.2.1, z.2.2⟩, ob, es, ep, k _ _ (.inl rfl) e, c⟩
  | set S n => obtain ⟨ob, es, ep, t, e, c⟩ := x; exact ⟨ob, es, ep, t, k _ _ (.inl rfl) e, c⟩
  | ins C dx fs =>
    obtain ⟨d, z, ne, e, mA, ⟨od, es, ep, e2, c⟩, r⟩ := x
    exact ⟨ho _ d, z, ne, k _ _ (.inl rfl) e, mA, ⟨od, es, ep, k _ _ (.inr d) e2, c⟩, r⟩
  | own y => obtain ⟨ob, e⟩ := x; exact ⟨ob, k _ _ (.inl rfl) e⟩
  | xd fs => obtain ⟨mA, ⟨od, es, ep, e, c⟩, r⟩ := x; exact ⟨mA, ⟨od, es, ep, k _ _ (.inl rfl) e, c⟩, r⟩
  | rng lo hi => obtain ⟨t, u, v, e⟩ := x; exact ⟨t, u, v, k _ _ (.inl rfl) e⟩
  | frz ob u ih => obtain ⟨e, q⟩ := x; exact ⟨k _ _ (.inl rfl) e, ih q⟩
  | tbl ps =>
    have e : h.get? a = some { cls := .none, data := .fields ps } := x
    show h'.get? a = some { cls := .none, data := .fields ps }
    exact k a _ (.inl rfl) e
  | met f y =>
    have e : h.get? a = some (PySem.W.methodObj (.ref f) (.ref y)) := x
    show h'.get? a = some (PySem.W.methodObj (.ref f) (.ref y))
    exact k a _ (.inl rfl) e
  | exc c =>
    obtain ⟨oe, vs, e, r1, r2, r3, r⟩ := x
    refine ⟨oe, vs, k _ _ (.inl rfl) e, r1, r2, r3, ?_⟩
    rcases r with r | ⟨b, ob, vb, d1, d2, d3, d4, d5⟩
    · exact .inl r
    · exact .inr ⟨b, ob, vb, d1, d2, ho _ d3, k _ _ (.inr d3) d4, d5⟩
  | ext φ => obtain ⟨p, ⟨o, e⟩, st⟩ := x; exact ⟨st _ _ p fun o q => k _ _ (.inl rfl) q, ⟨o, k _ _ (.inl rfl) e⟩, st⟩
theorem HOk.lt (x : HOk P w H h) (e : H a = some o) : a < h.objs.size := (x a o e).lt
theorem HOk.fresh (x : HOk P w H h) (e : h.objs.size ≤ a) : H a = none := by
  cases q : H a with
  | none => rfl
  | some u => exact absurd (Nat.lt_of_lt_of_le (x.lt q) e) (Nat.lt_irrefl _)
/-- every object of the heap is kept -/
theorem HOk.kept (x : HOk P w H h) (k : ∀ b u, h.get? b = some u → h'.get? b = some u) : HOk P w H h' := fun a o e =>
  (x a o e).stay (fun b u _ q => k b u q) (fun _ q => q) fun _ _ q => q
/-- a new object is laid and tracked -/
theorem HOk.laid (x : HOk P w H h) (k : ∀ b u, h.get? b = some u → h'.get? b = some u) (hp : h.objs.size ≤ a) (new : ObjOk P w (upd H a o) h' a o) : HOk P w (upd H a o) h' := fun b u e => by
  have hn := x.fresh hp
  by_cases hb : b = a
  · subst hb; rw [upd_same] at e; cases e; exact new
  · rw [upd_ne hb] at e
    exact (x b u e).stay (fun c v _ q => k c v q) (fun c q => by rw [upd_ne (ne_of_none q hn)]; exact q) fun c xs q => by rw [upd_ne (ne_of_none q hn)]; exact q
end

/-- what is handled is tracked -/
def HdE (A : Around) (H : Hp) : Prop := A.handled = none ∨ ∃ (e : Addr) (c : Value), A.handled = some (.ref e) ∧ H e = some (.exc c)
theorem HdE.at {P : Program} {w : World} {A : Around} {H : Hp} {h : Heap} (x : HdE A H) (ok : HOk P w H h) : HdAt A h := by
  rcases x with x | ⟨e, c, a, b⟩
  · exact .inl x
  · obtain ⟨oe, vs, q, _, _, d, z⟩ := ok e _ b
    refine .inr ⟨e, oe, vs, a, q, d, ?_⟩
    rcases z with z | ⟨b, ob, vb, d1, d2, _, d4⟩
    · exact .inl z
    · exact .inr ⟨b, ob, vb, d1, d2, d4⟩
/-- what may be read as u: it is u, or a known u -/
def Rd (H : Hp) (a : Addr) (u : HO) : Prop := H a = some u ∨ ∃ o, H a = some (.frz o u)
theorem Rd.ok {P : Program} {w : World} {H : Hp} {h : Heap} {a : Addr} {u : HO} (r : Rd H a u) (x : HOk P w H h) : ObjOk P w H h a u := by
  rcases r with r | ⟨o, r⟩
  · exact x a u r
  · obtain ⟨_, q⟩ := x a _ r
    exact q
/-- what may be written -/
def Mut : Option HO → Prop
  | some (.lst _) => True
  | some (.dK _) => True
  | some (.dT _) => True
  | some (.set _ _) => True
  | some (.ins _ _ _) => True
  | some (.ext _) => True
  | _ => False
section
variable {P : Program} {w : World} {H : Hp} {h h' : Heap} {x e : Addr} {o' : HO}
/-- the object at e is changed: x itself, or the dict of the instance x -/
theorem HOk.write (ok : HOk P w H h) (mu : Mut (H x)) (he : e = x ∨ H e = some (.own x)) (k : ∀ b u, b ≠ e → h.get? b = some u → h'.get? b = some u) (heo : ∃ u, h'.get? e = some u)
    (new : ObjOk P w (upd H x o') h' x o') : HOk P w (upd H x o') h' := fun b u q => by
  have nown : ∀ c y, H c = some (.own y) → c ≠ x := fun c y r z => by subst z; rw [r] at mu; exact mu
  have ntup : ∀ c xs, H c = some (.tup xs) → c ≠ x := fun c xs r z => by subst z; rw [r] at mu; exact mu
  by_cases hb : b = x
  · subst hb; rw [upd_same] at q; cases q; exact new
  · rw [upd_ne hb] at q
    by_cases hbe : b = e
    · have q' : H b = some (.own x) := by
        rcases he with z | z
        · exact absurd (hbe.trans z) hb
        · rw [hbe]; exact z
      rw [q] at q'; cases q'
      obtain ⟨v, hv⟩ := heo
      exact ⟨v, by rw [hbe]; exact hv⟩
    · refine (ok b u q).stay (fun c v hc r => k c v ?_ r) (fun c r => by rw [upd_ne (nown c b r)]; exact r) fun c xs r => by rw [upd_ne (ntup c xs r)]; exact r
      rcases hc with rfl | hc
      · exact hbe
      · rintro rfl
        rcases he with z | z
        · exact nown c b hc z
        · rw [hc] at z; cases z; exact hb rfl
end

/-! ### kept unless tracked; of the frames at fs (the callers') the slots may change (an exception that passes writes there); of the records at ex (iterators) nothing is said -/
structure Un (fs ex : List Addr) (H H' : Hp) (h h' : Heap) : Prop where
  keep : ∀ b o, h.get? b = some o → H b = none → b ∉ fs → b ∉ ex → h'.get? b = some o
  slot : ∀ b o, h.get? b = some o → H b = none → b ∈ fs → b ∉ ex → ∃ sl, h'.get? b = some { o with slots := sl }
  free : ∀ b o, h.get? b = some o → H b = none → b ∉ ex → H' b = none
  there : ∀ b o, h.get? b = some o → b ∉ ex → ∃ o', h'.get? b = some o'
  tups : ∀ b xs, H b = some (.tup xs) → H' b = some (.tup xs)
  frzs : ∀ b o u, H b = some (.frz o u) → H' b = some (.frz o u)
  tbls : ∀ b ps, H b = some (.tbl ps) → ∃ more, H' b = some (.tbl (ps ++ more))
  excs : ∀ b c, H b = some (.exc c) → H' b = some (.exc c)
section
variable {fs fs' ex ex' : List Addr} {H H1 H2 : Hp} {h h1 h2 h' : Heap} {a x e : Addr} {o : HO}
theorem Un.any (u : Un fs ex H H1 h h1) {b : Addr} {ob : Obj} (q : h.get? b = some ob) (n : H b = none) (hx : b ∉ ex) : ∃ sl, h1.get? b = some { ob with slots := sl } := by
  by_cases hb : b ∈ fs
  · exact u.slot b ob q n hb hx
  · exact ⟨ob.slots, u.keep b ob q n hb hx⟩
theorem Un.kept (k : ∀ b u, h.get? b = some u → h'.get? b = some u) : Un fs ex H H h h' :=
  ⟨fun b ob q _ _ _ => k b ob q, fun b ob q _ _ _ => ⟨ob.slots, k b ob q⟩, fun _ _ _ n _ => n, fun b ob q _ => ⟨ob, k b ob q⟩, fun _ _ q => q, fun _ _ _ q => q, fun _ ps q => ⟨#[], by rw [q]; simp⟩, fun _ _ q => q⟩
theorem Un.refl : Un fs ex H H h h := Un.kept fun _ _ q => q
theorem Un.laid (k : ∀ b u, h.get? b = some u → h'.get? b = some u) (hp : h.objs.size ≤ a) (hn : H a = none) : Un fs ex H (upd H a o) h h' where
  keep := fun b u q _ _ _ => k b u q
  slot := fun b u q _ _ _ => ⟨u.slots, k b u q⟩
  free := fun b u q n _ => by rw [upd_ne (Nat.ne_of_lt (Nat.lt_of_lt_of_le (Heap.lt_size q) hp))]; exact n
  there := fun b u q _ => ⟨u, k b u q⟩
  tups := fun b xs q => by rw [upd_ne (ne_of_none q hn)]; exact q
  frzs := fun b u xs q => by rw [upd_ne (ne_of_none q hn)]; exact q
  tbls := fun b ps q => ⟨#[], by rw [upd_ne (ne_of_none q hn), q]; simp⟩
  excs := fun b c q => by rw [upd_ne (ne_of_none q hn)]; exact q
theorem Un.write (mu : Mut (H x)) (he : e = x ∨ H e = some (.own x)) (k : ∀ b u, b ≠ e → h.get? b = some u → h'.get? b = some u) (heo : ∃ u, h'.get? e = some u) : Un fs ex H (upd H x o) h h' := by
  have hx : ∀ b, H b = none → b ≠ x := fun b n z => by subst z; rw [n] at mu; exact mu
  have hb : ∀ b, H b = none → b ≠ e := fun b n z => by
    subst z
    rcases he with r | r
    · exact hx b n r
    · rw [n] at r; cases r
  have hm : ∀ b u, H b = some u → ¬ Mut (some u) → b ≠ x := fun b u q nm z => by subst z; rw [q] at mu; exact nm mu
  refine ⟨fun b u q n _ _ => k b u (hb b n) q, fun b u q n _ _ => ⟨u.slots, k b u (hb b n) q⟩, fun b u q n _ => by rw [upd_ne (hx b n)]; exact n, fun b u q _ => ?_,
    fun b xs q => by rw [upd_ne (hm b _ q fun z => z)]; exact q, fun b u xs q => by rw [upd_ne (hm b _ q fun z => z)]; exact q, fun b ps q => ⟨#[], by rw [upd_ne (hm b _ q fun z => z), q]; simp⟩, fun b c q => by rw [upd_ne (hm b _ q fun z => z)]; exact q⟩
  by_cases hbe : b = e
  · subst hbe; exact heo
  · exact ⟨u, k b u hbe q⟩
end

/-! ### the heap without what is tracked -/
def trk (h : Heap) (H : Hp) : List Addr := (List.range h.objs.size).filter fun a => (H a).isSome
def hidT (h : Heap) (H : Hp) : Heap := PySem.W.hideAll h (trk h H)
theorem hidT_size (h : Heap) (H : Hp) : (hidT h H).objs.size = h.objs.size := PySem.W.hideAll_size _ _
theorem hidT_get {h : Heap} {H : Hp} {b : Addr} {o : Obj} (e : h.get? b = some o) (n : H b = none) : (hidT h H).get? b = some o :=
  PySem.W.hideAll_get _ e fun hm => by
    have q : (H b).isSome = true := (List.mem_filter.mp hm).2
    rw [n] at q; simp at q
theorem of_hidT {h : Heap} {H : Hp} {b : Addr} {o : Obj} (e : (hidT h H).get? b = some o) : h.get? b = some o ∧ H b = none := by
  have e' : h.get? b = some o := PySem.W.of_hideAll (trk h H) e
  refine ⟨e', ?_⟩
  cases q : H b with
  | none => rfl
  | some x =>
    have hm : b ∈ trk h H := List.mem_filter.mpr ⟨List.mem_range.mpr (Heap.lt_size e'), by simp [q]⟩
    have z : (hidT h H).get? b = none := PySem.W.hideAll_none (trk h H) hm
    rw [z] at e; cases e

/-! ### OpenK's ledger, filled with every new object but one -/
def allNews (g h : Heap) (L : Addr) : List (Addr × Obj) := (List.range h.objs.size).filterMap fun a => if a = L ∨ (g.get? a).isSome = true then none else (h.get? a).map fun o => (a, o)
def rest (g h : Heap) (L d : Addr) : List (Addr × Obj) := (allNews g h L).filter fun p => decide (p.1 ≠ d)
end L2

namespace L2
open PySem PySem.Spec PyProof.Rows

/-- the module's facts, over the base: the heap at the law's entry without what is tracked there -/
structure Mod (K : PySem.W.Frag) (mg : Str → Option Value) (base : Heap) : Prop where
  kin : K.In base
  glob : base.Ns mainGlobals mg
  blt : ∃ mb, base.Ns builtinsNs mb ∧ ∀ x : Str, x ≠ "__name__" → mb x = bootBuiltins x
  nolimit : base.NoLimit

/-- the context: a def's body (or a comprehension's block) running. base: fixed through the whole law; s₀, H₀: the entry; outer: the frames whose slots others may change (a def's callers); stack: all frames that run;
   ex: iterators that were made ahead of the entry and are walked here (a comprehension's); fn: the names whose cells were made at the entry (a def: all; a comprehension's block: its own); calm: not within an except suite; pn: pins that every state bears; xe: what is wanted of an exception that leaves the code -/
structure Cx where
  prog : Program
  w : World
  K : PySem.W.Frag
  mg : Str → Option Value
  base : Heap
  A : Around
  N : List Str
  s₀ : Shared
  H₀ : Hp
  env : Env
  outer : List Env
  stack : List Env
  ex : List Addr
  fn : Str → Bool
  calm : Bool
  pn : List (Addr × Obj)
  tr : List (Addr × Value)
  fx : List (Str × Value)
  xe : Value → Shared → Prop
/-- the callers' frames -/
def frs (l : List Env) : List Addr := l.filterMap (·.frame)
abbrev Cx.fs (X : Cx) : List Addr := frs X.outer

def Vis (sc : Scope) (x : Str) : Prop := sc.names.lookup x = some .local ∨ sc.names.lookup x = some .cell ∨ sc.names.lookup x = some .free
def Loc (sc : Scope) (x : Str) : Prop := sc.names.lookup x = some .local ∨ sc.names.lookup x = some .cell
def Look (env : Env) (h : Heap) (m : Str → Option Value) (x : Str) (u : Value) : Prop :=
  (env.kindOf x = some .local ∧ m x = some u) ∨ ((env.kindOf x = some .cell ∨ env.kindOf x = some .free) ∧ ∃ c, env.cells.lookup x = some c ∧ h.IsCell c (some u))

structure Cx.Ok (X : Cx) : Prop where
  mod : Mod X.K X.mg X.base
  kind : X.env.scope.kind = .function
  glob : X.env.globals = mainGlobals
  blt : X.env.builtins = builtinsNs
  above : X.s₀.heap.objs.size ≤ X.env.locals
  inj : ∀ x y c, X.env.cells.lookup x = some c → X.env.cells.lookup y = some c → x = y
  has : ∀ x, (X.env.kindOf x = some .cell ∨ X.env.kindOf x = some .free) → ∃ c, X.env.cells.lookup x = some c
  cab : ∀ x c, X.fn x = true → X.env.cells.lookup x = some c → X.s₀.heap.objs.size ≤ c
  hd : X.A.handled = none ∨ ∃ (e : Addr) (c : Value), X.A.handled = some (.ref e) ∧ (X.H₀ e = some (.exc c) ∨ (e, c) ∈ X.tr)
  frames : X.A.frames = some X.stack
  stk : X.stack = X.outer ∨ (X.stack = X.env :: X.outer ∧ X.env.frame = some X.env.locals)
  exf : ∀ b ∈ X.ex, b ≠ X.env.locals ∧ ∀ x c, X.env.cells.lookup x = some c → c ≠ b
  bs : ∀ b o, X.base.get? b = some o → X.s₀.heap.get? b = some o ∧ X.H₀ b = none
  bsz : X.base.objs.size ≤ X.s₀.heap.objs.size
  noex : ∀ b o, X.base.get? b = some o → b ∉ X.ex
  exfs : ∀ b ∈ X.ex, b ∉ X.fs
  funs : X.s₀.heap.FunFrames X.base X.outer
  frf : ∀ b ∈ X.fs, X.H₀ b = none

structure Inv (X : Cx) (pins : List (Addr × Obj)) (σ : List (Option V)) (H : Hp) (s : Shared) : Prop where
  ok : X.Ok
  os : s.os = X.s₀.os
  bare : AllBare s.gens
  base : Un X.fs X.ex X.H₀ H X.s₀.heap s.heap
  loc : ∃ m, s.heap.Ns X.env.locals m ∧ ∀ (i : Nat) (x : Str) (v : V), X.N[i]? = some x → σ[i]? = some (some v) → Vis X.env.scope x → ∃ u, RelV v u ∧ Look X.env s.heap m x u
  cell : ∀ x c, X.env.cells.lookup x = some c → ∃ v, s.heap.IsCell c v
  free : H X.env.locals = none
  freeC : ∀ x c, X.env.cells.lookup x = some c → H c = none
  pin : ∀ p ∈ X.pn ++ pins, s.heap.get? p.1 = some p.2 ∧ H p.1 = none ∧ p.1 ≠ X.env.locals ∧ p.1 ∉ X.fs ∧ ∀ v, p.2.data ≠ .cell v
  hok : HOk X.prog X.w H s.heap
  len : σ.length = X.N.length
  tr : ∀ p ∈ X.tr, H p.1 = some (.exc p.2)
  fix : ∀ p ∈ X.fx, ∃ m, s.heap.Ns X.env.locals m ∧ Look X.env s.heap m p.1 p.2
theorem ns_uniq {h : Heap} {a : Addr} {m m' : Str → Option Value} (n : h.Ns a m) (n' : h.Ns a m') : m = m' := by
  obtain ⟨o, es, ep, h1, h2, _, h3⟩ := n
  obtain ⟨o', es', ep', h1', h2', _, h3'⟩ := n'
  rw [h1] at h1'; cases h1'
  rw [h2] at h2'; cases h2'
  funext x
  rw [← h3, ← h3']

section
variable {X : Cx} {pins : List (Addr × Obj)} {σ : List (Option V)} {H H' : Hp} {s : Shared} {h' : Heap}

theorem Cx.Ok.nofr (ok : X.Ok) {b : Addr} {o : Obj} (e : X.base.get? b = some o) : b ∉ X.fs := fun hb => by
  have := (ok.funs.mem hb).1
  rw [e] at this; cases this
theorem Inv.bs (I : Inv X pins σ H s) : ∀ b o, X.base.get? b = some o → s.heap.get? b = some o ∧ H b = none := fun b o e =>
  ⟨I.base.keep b o (I.ok.bs b o e).1 (I.ok.bs b o e).2 (I.ok.nofr e) (I.ok.noex b o e), I.base.free b o (I.ok.bs b o e).1 (I.ok.bs b o e).2 (I.ok.noex b o e)⟩
theorem Inv.bk (I : Inv X pins σ H s) : ∀ b o, X.base.get? b = some o → s.heap.get? b = some o := fun b o e => (I.bs b o e).1
theorem Inv.mod (I : Inv X pins σ H s) : Mod X.K X.mg X.base := I.ok.mod
theorem Inv.hdE (I : Inv X pins σ H s) : HdE X.A H := by
  rcases I.ok.hd with h | ⟨e, c, h1, h2⟩
  · exact .inl h
  · rcases h2 with h2 | h2
    · exact .inr ⟨e, c, h1, I.base.excs e c h2⟩
    · exact .inr ⟨e, c, h1, I.tr (e, c) h2⟩
theorem Inv.hd (I : Inv X pins σ H s) : HdAt X.A s.heap := I.hdE.at I.hok
theorem Inv.kIn (I : Inv X pins σ H s) : X.K.In s.heap := I.ok.mod.kin.keeps I.bk
theorem Inv.lt (I : Inv X pins σ H s) : X.env.locals < s.heap.objs.size := let ⟨_, hn, _⟩ := I.loc; hn.lt
theorem Inv.sz (I : Inv X pins σ H s) : X.s₀.heap.objs.size ≤ s.heap.objs.size := Nat.le_trans I.ok.above (Nat.le_of_lt I.lt)
theorem Inv.nofs (I : Inv X pins σ H s) {a : Addr} (h : s.heap.objs.size ≤ a) : a ∉ X.fs := fun hb => by
  obtain ⟨_, o, ho, _⟩ := I.ok.funs.mem hb
  exact absurd (Nat.lt_of_lt_of_le (Heap.lt_size ho) (Nat.le_trans I.sz h)) (Nat.lt_irrefl _)
theorem Inv.cne (I : Inv X pins σ H s) : ∀ x c, X.env.cells.lookup x = some c → c ≠ X.env.locals := fun x c e z => by
  obtain ⟨v, o, ho, hd⟩ := I.cell x c e
  obtain ⟨m, ⟨o', es, ep, ho', hd', _⟩, _⟩ := I.loc
  rw [z, ho'] at ho; cases ho; rw [hd'] at hd; cases hd
theorem Inv.funs (I : Inv X pins σ H s) : s.heap.FunFrames X.base X.outer := by
  have all : ∀ (l : List Env), (∀ b ∈ frs l, b ∈ X.fs) → X.s₀.heap.FunFrames X.base l → s.heap.FunFrames X.base l := by
    intro l
    induction l with
    | nil => intro _ _; trivial
    | cons env r ih =>
      intro hs hl
      obtain ⟨hk, ⟨L, o, hf, hn, ho, hd⟩, hr⟩ := hl
      have hL : L ∈ X.fs := hs L (by unfold frs; rw [List.filterMap_cons, hf]; exact List.mem_cons_self)
      obtain ⟨sl, e⟩ := I.base.slot L o ho (I.ok.frf L hL) hL fun z => I.ok.exfs L z hL
      exact ⟨hk, ⟨L, _, hf, hn, e, hd⟩, ih (fun b hb => hs b (by unfold frs; rw [List.filterMap_cons, hf]; exact List.mem_cons_of_mem _ hb)) hr⟩
  exact all X.outer (fun _ hb => hb) I.ok.funs

/-- the frames that run, for a call -/
theorem Inv.stack (I : Inv X pins σ H s) : s.heap.FunFrames X.base X.stack := by
  rcases I.ok.stk with e | ⟨e, hf⟩
  · rw [e]; exact I.funs
  · rw [e]
    obtain ⟨m, hn, _⟩ := I.loc
    refine .cons (by rw [I.ok.kind]; decide) hf hn ?_ I.funs
    exact Heap.get?_none_of_le (Nat.le_trans I.ok.bsz I.ok.above)
theorem Inv.stkSub (I : Inv X pins σ H s) : ∀ b ∈ frs X.stack, b ∈ X.env.locals :: X.fs := fun b hb => by
  rcases I.ok.stk with e | ⟨e, hf⟩
  · rw [e] at hb; exact List.mem_cons_of_mem _ hb
  · rw [e] at hb
    unfold frs at hb
    rw [List.filterMap_cons, hf] at hb
    exact hb
theorem Inv.stkFree (I : Inv X pins σ H s) : ∀ b ∈ frs X.stack, H b = none := fun b hb => by
  rcases List.mem_cons.mp (I.stkSub b hb) with e | hb
  · rw [e]; exact I.free
  · obtain ⟨_, o, ho, _⟩ := I.ok.funs.mem hb
    exact I.base.free b o ho (I.ok.frf b hb) fun z => I.ok.exfs b z hb

/-- THE STEP: the untracked objects but the frame and the records at ch are kept (the callers' frames up to slots), the frame's map is kept, the new abstract heap is held -/
theorem Inv.step {g' : Array GenState} {t' : Nat} {d' : Drawn} {ch : List Addr} (I : Inv X pins σ H s)
    (hch : ∀ b ∈ ch, (b ∈ X.ex ∨ X.s₀.heap.objs.size ≤ b) ∧ b ≠ X.env.locals ∧ (∀ x c, X.env.cells.lookup x = some c → c ≠ b) ∧ ∀ p ∈ X.pn ++ pins, p.1 ≠ b)
    (keep : ∀ b o, b ≠ X.env.locals → b ∉ X.fs → b ∉ ch → s.heap.get? b = some o → H b = none → h'.get? b = some o)
    (slot : ∀ b o, b ≠ X.env.locals → b ∈ X.fs → b ∉ ch → s.heap.get? b = some o → H b = none → ∃ sl, h'.get? b = some { o with slots := sl }) (free : ∀ b o, b ∉ ch → s.heap.get? b = some o → H b = none → H' b = none)
    (there : ∀ b o, b ∉ ch → s.heap.get? b = some o → ∃ o', h'.get? b = some o')
    (tups : ∀ b xs, H b = some (.tup xs) → H' b = some (.tup xs)) (frzs : ∀ b o u, H b = some (.frz o u) → H' b = some (.frz o u)) (tbls : ∀ b ps, H b = some (.tbl ps) → ∃ more, H' b = some (.tbl (ps ++ more))) (excs : ∀ b c, H b = some (.exc c) → H' b = some (.exc c))
    (ns : ∀ m, s.heap.Ns X.env.locals m → h'.Ns X.env.locals m) (hok : HOk X.prog X.w H' h') (hg : AllBare g') :
    Inv X pins σ H' { s with heap := h', gens := g', drawn := d', toks := t' } := by
  have neL : ∀ b o, X.s₀.heap.get? b = some o → b ≠ X.env.locals := fun b o e => Nat.ne_of_lt (Nat.lt_of_lt_of_le (Heap.lt_size e) I.ok.above)
  have neC : ∀ b o, X.s₀.heap.get? b = some o → b ∉ X.ex → b ∉ ch := fun b o e hx hb => by
    rcases (hch b hb).1 with z | z
    · exact hx z
    · exact absurd (Nat.lt_of_lt_of_le (Heap.lt_size e) z) (Nat.lt_irrefl _)
  have cellK : ∀ x c, X.env.cells.lookup x = some c → ∀ v, s.heap.IsCell c v → h'.IsCell c v := fun x c e v ⟨o, ho, hd⟩ => by
    have nch : c ∉ ch := fun z => (hch c z).2.2.1 x c e rfl
    by_cases hc : c ∈ X.fs
    · obtain ⟨sl, q⟩ := slot c o (I.cne x c e) hc nch ho (I.freeC x c e)
      exact ⟨_, q, hd⟩
    · exact ⟨o, keep c o (I.cne x c e) hc nch ho (I.freeC x c e), hd⟩
  refine ⟨I.ok, I.os, hg, ⟨fun b o e n hb hx => ?_, fun b o e n hb hx => ?_, fun b o e n hx => ?_, fun b o e hx => ?_, fun b xs e => tups b xs (I.base.tups b xs e), fun b o xs e => frzs b o xs (I.base.frzs b o xs e), fun b ps e => ?_, fun b k e => excs b k (I.base.excs b k e)⟩, ?_, fun x c e => ?_, ?_, fun x c e => ?_, fun p hp => ?_, hok, I.len, fun p hp => excs _ _ (I.tr p hp), fun p hp => let ⟨m, hn, lk⟩ := I.fix p hp; ⟨m, ns m hn, lk.elim .inl fun ⟨k, c, e, z⟩ => .inr ⟨k, c, e, cellK p.1 c e _ z⟩⟩⟩
  · exact keep b o (neL b o e) hb (neC b o e hx) (I.base.keep b o e n hb hx) (I.base.free b o e n hx)
  · obtain ⟨sl, e1⟩ := I.base.slot b o e n hb hx
    obtain ⟨sl', e2⟩ := slot b _ (neL b o e) hb (neC b o e hx) e1 (I.base.free b o e n hx)
    exact ⟨sl', e2⟩
  · obtain ⟨o', e1⟩ := I.base.there b o e hx
    exact free b o' (neC b o e hx) e1 (I.base.free b o e n hx)
  · obtain ⟨o', e1⟩ := I.base.there b o e hx
    exact there b o' (neC b o e hx) e1
  · obtain ⟨m1, e1⟩ := I.base.tbls b ps e
    obtain ⟨m2, e2⟩ := tbls b _ e1
    exact ⟨m1 ++ m2, by rw [e2, Array.append_assoc]⟩
  · obtain ⟨m, hn, hl⟩ := I.loc
    refine ⟨m, ns m hn, fun i x v e1 e2 e3 => ?_⟩
    obtain ⟨u, r, l⟩ := hl i x v e1 e2 e3
    refine ⟨u, r, ?_⟩
    rcases l with l | ⟨k, c, e, z⟩
    · exact .inl l
    · exact .inr ⟨k, c, e, cellK x c e _ z⟩
  · obtain ⟨v, z⟩ := I.cell x c e
    exact ⟨v, cellK x c e v z⟩
  · obtain ⟨m, ⟨o, _, _, ho, _⟩, _⟩ := I.loc
    exact free _ o (fun z => (hch _ z).2.1 rfl) ho I.free
  · obtain ⟨v, o, ho, hd⟩ := I.cell x c e
    exact free c o (fun z => (hch c z).2.2.1 x c e rfl) ho (I.freeC x c e)
  · obtain ⟨e, n, ne, nf, d⟩ := I.pin p hp
    have nch : p.1 ∉ ch := fun z => (hch p.1 z).2.2.2 p hp rfl
    exact ⟨keep p.1 p.2 ne nf nch e n, free p.1 p.2 nch e n, ne, nf, d⟩
/-- .. where the frame's own object is kept too -/
theorem Inv.un {t' : Nat} (I : Inv X pins σ H s) (u : Un X.fs [] H H' s.heap h') (hok : HOk X.prog X.w H' h') : Inv X pins σ H' { s with heap := h', toks := t' } := by
  obtain ⟨m, ⟨o, es, ep, ho, r⟩, _⟩ := id I.loc
  obtain ⟨sl, hL⟩ := u.any ho I.free (by simp)
  exact I.step (g' := s.gens) (d' := s.drawn) (ch := []) (fun _ z => nomatch z) (fun b o _ hb _ e n => u.keep b o e n hb (by simp)) (fun b o _ hb _ e n => u.slot b o e n hb (by simp)) (fun b o _ e n => u.free b o e n (by simp)) (fun b o _ e => u.there b o e (by simp)) u.tups u.frzs u.tbls u.excs (fun m' hm => by
    obtain ⟨o', es', ep', ho', r'⟩ := hm
    rw [ho] at ho'; cases ho'
    exact ⟨_, es', ep', hL, r'⟩) hok I.bare
/-- behind a call (or a comprehension's block): the slots of this frame may have changed too, the records at ch may have turned -/
theorem Inv.call {g' : Array GenState} {t' : Nat} {d' : Drawn} {ch : List Addr} (I : Inv X pins σ H s) (u : Un (frs X.stack) ch H H' s.heap h') (hok : HOk X.prog X.w H' h') (hg : AllBare g')
    (hch : ∀ b ∈ ch, (b ∈ X.ex ∨ X.s₀.heap.objs.size ≤ b) ∧ b ≠ X.env.locals ∧ (∀ x c, X.env.cells.lookup x = some c → c ≠ b) ∧ ∀ p ∈ X.pn ++ pins, p.1 ≠ b) :
    Inv X pins σ H' { s with heap := h', gens := g', drawn := d', toks := t' } := by
  obtain ⟨m, ⟨o, es, ep, ho, r⟩, _⟩ := id I.loc
  obtain ⟨sl, hL⟩ := u.any ho I.free fun z => (hch _ z).2.1 rfl
  exact I.step (ch := ch) hch (fun b o hL hb hc e n => u.keep b o e n (fun z => (List.mem_cons.mp (I.stkSub b z)).elim hL hb) hc) (fun b o _ _ hc e n => u.any e n hc) (fun b o hc e n => u.free b o e n hc) (fun b o hc e => u.there b o e hc) u.tups u.frzs u.tbls u.excs (fun m' hm => by
    obtain ⟨o', es', ep', ho', r'⟩ := hm
    rw [ho] at ho'; cases ho'
    exact ⟨_, es', ep', hL, r'⟩) hok hg
/-- an untracked record of ours (an iterator) has turned -/
theorem Inv.turned {t' : Nat} {it : Addr} (I : Inv X pins σ H s) (k : ∀ b o, b ≠ it → s.heap.get? b = some o → h'.get? b = some o) (hn : H it = none) (hL : it ≠ X.env.locals)
    (h1 : it ∈ X.ex ∨ X.s₀.heap.objs.size ≤ it) (h2 : ∀ x c, X.env.cells.lookup x = some c → c ≠ it) (h3 : ∀ p ∈ X.pn ++ pins, p.1 ≠ it) : Inv X pins σ H { s with heap := h', toks := t' } := by
  have nit : ∀ b u, H b = some u → b ≠ it := fun b u e z => by rw [z, hn] at e; cases e
  refine I.step (g' := s.gens) (d' := s.drawn) (ch := [it]) (fun b hb => ?_) (fun b o _ _ hc e _ => k b o (fun z => hc (by simp [z])) e) (fun b o _ _ hc e _ => ⟨o.slots, k b o (fun z => hc (by simp [z])) e⟩) (fun _ _ _ _ n => n)
    (fun b o hc e => ⟨o, k b o (fun z => hc (by simp [z])) e⟩) (fun _ _ e => e) (fun _ _ _ e => e) (fun b ps e => ⟨#[], by rw [e]; simp⟩) (fun _ _ e => e) (fun m hm => ?_) (fun b u e => ?_) I.bare
  · have e : b = it := by simpa using hb
    subst e
    exact ⟨h1, hL, h2, h3⟩
  · obtain ⟨o, es, ep, ho, r⟩ := hm
    exact ⟨o, es, ep, k _ o (Ne.symm hL) ho, r⟩
  · refine (I.hok b u e).stay (fun c v hc q => k c v ?_ q) (fun _ q => q) fun _ _ q => q
    rcases hc with z | z
    · rw [z]; exact nit b u e
    · exact nit c _ z
theorem Inv.tok (I : Inv X pins σ H s) (t : Nat) : Inv X pins σ H { s with toks := t } := I.un (h' := s.heap) (t' := t) Un.refl I.hok
/-- all objects kept -/
theorem Inv.kept {t' : Nat} (I : Inv X pins σ H s) (k : ∀ b u, s.heap.get? b = some u → h'.get? b = some u) : Inv X pins σ H { s with heap := h', toks := t' } := I.un (Un.kept k) (I.hok.kept k)
/-- a new object laid and tracked -/
theorem Inv.laid {a : Addr} {o : HO} {t' : Nat} (I : Inv X pins σ H s) (k : ∀ b u, s.heap.get? b = some u → h'.get? b = some u) (hp : s.heap.objs.size ≤ a) (new : ObjOk X.prog X.w (upd H a o) h' a o) :
    Inv X pins σ (upd H a o) { s with heap := h', toks := t' } := I.un (Un.laid k hp (I.hok.fresh hp)) (I.hok.laid k hp new)
/-- an object written -/
theorem Inv.write {x e : Addr} {o : HO} {t' : Nat} (I : Inv X pins σ H s) (mu : Mut (H x)) (he : e = x ∨ H e = some (.own x)) (k : ∀ b u, b ≠ e → s.heap.get? b = some u → h'.get? b = some u) (heo : ∃ u, h'.get? e = some u)
    (new : ObjOk X.prog X.w (upd H x o) h' x o) : Inv X pins σ (upd H x o) { s with heap := h', toks := t' } := I.un (Un.write mu he k heo) (I.hok.write mu he k heo new)
theorem Inv.pins_of {pins' : List (Addr × Obj)} (I : Inv X pins σ H s) (h : ∀ p ∈ pins', s.heap.get? p.1 = some p.2 ∧ H p.1 = none ∧ p.1 ≠ X.env.locals ∧ p.1 ∉ X.fs ∧ ∀ v, p.2.data ≠ .cell v) : Inv X pins' σ H s :=
  ⟨I.ok, I.os, I.bare, I.base, I.loc, I.cell, I.free, I.freeC, fun p hp => (List.mem_append.mp hp).elim (fun z => I.pin p (List.mem_append_left _ z)) (h p), I.hok, I.len, I.tr, I.fix⟩

theorem nodup_ix {N : List Str} (hN : N.Nodup) {i j : Nat} {x : Str} (a : N[i]? = some x) (b : N[j]? = some x) : i = j := by
  obtain ⟨h1, e1⟩ := List.getElem?_eq_some_iff.mp a
  obtain ⟨h2, e2⟩ := List.getElem?_eq_some_iff.mp b
  exact (List.getElem_inj hN).mp (e1.trans e2.symm)

/-- a name is stored; what changed -/
theorem store_ok2 {M : Model} {A : Around} {E : Value → Shared → Prop} {i : Nat} {x : Str} {v : V} {u : Value} {Q : Unit → Shared → Prop} (I : Inv X pins σ H s) (hN : X.N.Nodup) (hi : X.N[i]? = some x) (hx : Loc X.env.scope x) (r : RelV v u)
    (h : ∀ s', Inv X pins (σ.set i (some v)) H s' → (∃ a, Heap.SameBut a s.heap s'.heap ∧ (a = X.env.locals ∨ X.env.cells.lookup x = some a)) → Q () s') (hf : X.fn x = true ∨ X.env.scope.names.lookup x = some .local := by first | exact .inl rfl | exact .inr rfl | assumption) (hfx : ∀ p ∈ X.fx, p.1 ≠ x := by first | exact fun p h => absurd (show p ∈ ([] : List (Str × Value)) from h) (by simp) | assumption) : wpAny M A (storeName X.env x u) Q E s := by
  obtain ⟨m, hn, hl⟩ := id I.loc
  have hcls : (X.env.scope.kind == .class || (X.env.scope.kind == .module && X.env.locals != X.env.globals)) = false := by rw [I.ok.kind]; rfl
  have hiσ : i < σ.length := by rw [I.len]; exact (List.getElem?_eq_some_iff.mp hi).1
  have cne := I.cne
  have tracked : ∀ {a : Addr} {h' : Heap}, (∃ o, s.heap.get? a = some o ∧ H a = none) → Heap.SameBut a s.heap h' → HOk X.prog X.w H h' := fun {a h'} ha hs b ob e => by
    obtain ⟨_, _, hfree⟩ := ha
    refine (I.hok b ob e).stay (fun c w' hc q => (hs.2 c ?_).trans q) (fun _ q => q) fun _ _ q => q
    rintro rfl
    rcases hc with rfl | hc
    · rw [hfree] at e; cases e
    · rw [hfree] at hc; cases hc
  rcases hx with hk | hk
  · refine wpAny_storeName_local hk hn (fun h' hn' hs => ?_) hcls
    obtain ⟨oL, _, _, hoL, _⟩ := id hn
    refine h _ ⟨I.ok, I.os, I.bare, ⟨fun b o e n hb hx => ?_, fun b o e n hb hx => ?_, I.base.free, fun b o e hx => ?_, I.base.tups, I.base.frzs, I.base.tbls, I.base.excs⟩, ⟨_, hn', fun j y v' e1 e2 e3 => ?_⟩, fun y c e => ?_, I.free, I.freeC, fun p hp => ?_, tracked ⟨oL, hoL, I.free⟩ hs, by simpa using I.len, I.tr, fun p hp => ?_⟩ ⟨_, hs, .inl rfl⟩
    rotate_right
    · obtain ⟨m1, hn1, lk⟩ := I.fix p hp
      have em := ns_uniq hn1 hn
      subst em
      refine ⟨_, hn', ?_⟩
      rcases lk with ⟨k, e⟩ | ⟨k, c, e, z⟩
      · exact .inl ⟨k, by simp [hfx p hp, e]⟩
      · exact .inr ⟨k, c, e, z.sameBut hs (cne p.1 c e)⟩
    · exact (hs.2 b (Nat.ne_of_lt (Nat.lt_of_lt_of_le (Heap.lt_size e) I.ok.above))).trans (I.base.keep b o e n hb hx)
    · obtain ⟨sl, e1⟩ := I.base.slot b o e n hb hx
      exact ⟨sl, (hs.2 b (Nat.ne_of_lt (Nat.lt_of_lt_of_le (Heap.lt_size e) I.ok.above))).trans e1⟩
    · obtain ⟨o', e1⟩ := I.base.there b o e hx
      exact ⟨o', (hs.2 b (Nat.ne_of_lt (Nat.lt_of_lt_of_le (Heap.lt_size e) I.ok.above))).trans e1⟩
    · by_cases hj : j = i
      · subst hj
        rw [hi] at e1; cases e1
        rw [List.getElem?_set_self hiσ] at e2
        cases e2
        exact ⟨u, r, .inl ⟨hk, by simp⟩⟩
      · rw [List.getElem?_set_ne (Ne.symm hj)] at e2
        obtain ⟨u', r', q⟩ := hl j y v' e1 e2 e3
        refine ⟨u', r', ?_⟩
        rcases q with ⟨k, e⟩ | ⟨k, c, e, z⟩
        · refine .inl ⟨k, ?_⟩
          have : y ≠ x := fun e => hj (nodup_ix hN e1 (e ▸ hi))
          simp [this, e]
        · exact .inr ⟨k, c, e, z.sameBut hs (cne y c e)⟩
    · obtain ⟨w', z⟩ := I.cell y c e
      exact ⟨w', z.sameBut hs (cne y c e)⟩
    · obtain ⟨e, n, ne, nf, d⟩ := I.pin p hp
      exact ⟨(hs.2 p.1 ne).trans e, n, ne, nf, d⟩
  · have hfn : X.fn x = true := by
      rcases hf with z | z
      · exact z
      · rw [z] at hk; cases hk
    obtain ⟨c, hc⟩ := I.ok.has x (.inl hk)
    obtain ⟨w', z⟩ := I.cell x c hc
    refine wpAny_storeName_cell I.ok.kind hk hc z (fun h' hc' hs => ?_)
    obtain ⟨oc, hoc, hocd⟩ := id z
    refine h { s with heap := h' } ⟨I.ok, I.os, I.bare, ⟨fun b o e n hb hx => ?_, fun b o e n hb hx => ?_, I.base.free, fun b o e hx => ?_, I.base.tups, I.base.frzs, I.base.tbls, I.base.excs⟩, ⟨m, hn.sameBut hs (Ne.symm (cne x c hc)), fun j y v' e1 e2 e3 => ?_⟩, fun y c' e => ?_, I.free, I.freeC, fun p hp => ?_, tracked ⟨oc, hoc, I.freeC x c hc⟩ hs, by simpa using I.len, I.tr, fun p hp => ?_⟩ ⟨c, hs, .inr hc⟩
    rotate_right
    · obtain ⟨m1, hn1, lk⟩ := I.fix p hp
      refine ⟨m1, hn1.sameBut hs (Ne.symm (cne x c hc)), ?_⟩
      rcases lk with q | ⟨k, c', e, z'⟩
      · exact .inl q
      · refine .inr ⟨k, c', e, z'.sameBut hs ?_⟩
        rintro rfl
        exact hfx p hp (I.ok.inj _ _ _ e hc)
    · exact (hs.2 b (Nat.ne_of_lt (Nat.lt_of_lt_of_le (Heap.lt_size e) (I.ok.cab x c hfn hc)))).trans (I.base.keep b o e n hb hx)
    · obtain ⟨sl, e1⟩ := I.base.slot b o e n hb hx
      exact ⟨sl, (hs.2 b (Nat.ne_of_lt (Nat.lt_of_lt_of_le (Heap.lt_size e) (I.ok.cab x c hfn hc)))).trans e1⟩
    · obtain ⟨o', e1⟩ := I.base.there b o e hx
      exact ⟨o', (hs.2 b (Nat.ne_of_lt (Nat.lt_of_lt_of_le (Heap.lt_size e) (I.ok.cab x c hfn hc)))).trans e1⟩
    · by_cases hj : j = i
      · subst hj
        rw [hi] at e1; cases e1
        rw [List.getElem?_set_self hiσ] at e2
        cases e2
        exact ⟨u, r, .inr ⟨.inl hk, c, hc, hc'⟩⟩
      · rw [List.getElem?_set_ne (Ne.symm hj)] at e2
        obtain ⟨u', r', q⟩ := hl j y v' e1 e2 e3
        refine ⟨u', r', ?_⟩
        rcases q with q | ⟨k, c', e, z'⟩
        · exact .inl q
        · refine .inr ⟨k, c', e, z'.sameBut hs ?_⟩
          rintro rfl
          exact hj (nodup_ix hN e1 (I.ok.inj _ _ _ e hc ▸ hi))
    · by_cases hcc : c' = c
      · subst hcc; exact ⟨_, hc'⟩
      · obtain ⟨w2, z2⟩ := I.cell y c' e
        exact ⟨w2, z2.sameBut hs hcc⟩
    · obtain ⟨e, n, ne, nf, d⟩ := I.pin p hp
      refine ⟨(hs.2 p.1 ?_).trans e, n, ne, nf, d⟩
      intro q
      rw [q, hoc] at e
      have q' : oc = p.2 := Option.some.inj e
      exact d w' (by rw [← q']; exact hocd)
theorem store_ok {M : Model} {A : Around} {E : Value → Shared → Prop} {i : Nat} {x : Str} {v : V} {u : Value} {Q : Unit → Shared → Prop} (I : Inv X pins σ H s) (hN : X.N.Nodup) (hi : X.N[i]? = some x) (hx : Loc X.env.scope x) (r : RelV v u)
    (h : ∀ s', Inv X pins (σ.set i (some v)) H s' → Q () s') (hf : X.fn x = true ∨ X.env.scope.names.lookup x = some .local := by first | exact .inl rfl | exact .inr rfl | assumption) (hfx : ∀ p ∈ X.fx, p.1 ≠ x := by first | exact fun p h => absurd (show p ∈ ([] : List (Str × Value)) from h) (by simp) | assumption) : wpAny M A (storeName X.env x u) Q E s :=
  store_ok2 I hN hi hx r (fun s' I' _ => h s' I') hf hfx
/-- behind a call or a block, the state as it is -/
theorem Inv.call' {s' : Shared} {ch : List Addr} (I : Inv X pins σ H s) (ho : s'.os = s.os) (u : Un (frs X.stack) ch H H' s.heap s'.heap) (hok : HOk X.prog X.w H' s'.heap) (hg : AllBare s'.gens)
    (hch : ∀ b ∈ ch, (b ∈ X.ex ∨ X.s₀.heap.objs.size ≤ b) ∧ b ≠ X.env.locals ∧ (∀ x c, X.env.cells.lookup x = some c → c ≠ b) ∧ ∀ p ∈ X.pn ++ pins, p.1 ≠ b) : Inv X pins σ H' s' := by
  obtain ⟨h', g', d', t', o'⟩ := s'
  have e : o' = s.os := ho
  subst e
  exact I.call (g' := g') (t' := t') (d' := d') u hok hg hch
end

/-! ### the judgements -/
/-- an exception: its class, its own dict's address (where it has one), the abstract heap behind it -/
abbrev XK := Value → Option Addr → Hp → Prop
abbrev St := List (Option V)
abbrev VK := V → Hp → Prop
/-- an expression's reading; a test's; an argument list's -/
abbrev TE := St → Hp → VK → Prop
abbrev TT := St → Hp → (Bool → Hp → Prop) → Prop
abbrev TA := St → Hp → (List V → Hp → Prop) → Prop
/-- what is wanted behind a statement -/
structure Ends where
  nx : St → Hp → Prop
  rt : VK
  bk : St → Hp → Prop := fun _ _ => False
  ct : St → Hp → Prop := fun _ _ => False
abbrev TS := Ends → St → Hp → Prop

def EP (X : Cx) (pins : List (Addr × Obj)) (σ : St) (Q : VK) (u : Value) (s' : Shared) : Prop := ∃ v H', Inv X pins σ H' s' ∧ RelV v u ∧ Q v H'
def TP (X : Cx) (pins : List (Addr × Obj)) (σ : St) (Q : Bool → Hp → Prop) (b : Bool) (s' : Shared) : Prop := ∃ H', Inv X pins σ H' s' ∧ Q b H'
def AP (X : Cx) (pins : List (Addr × Obj)) (σ : St) (Q : List V → Hp → Prop) (us : List Value) (s' : Shared) : Prop := ∃ vs H', Inv X pins σ H' s' ∧ Vals vs us ∧ Q vs H'
def SP (X : Cx) (pins : List (Addr × Obj)) (D : Ends) (f : Flow) (s' : Shared) : Prop :=
  match f with
  | .next => ∃ σ' H', Inv X pins σ' H' s' ∧ D.nx σ' H'
  | .brk => ∃ σ' H', Inv X pins σ' H' s' ∧ D.bk σ' H'
  | .cont => ∃ σ' H', Inv X pins σ' H' s' ∧ D.ct σ' H'
  | .ret u => ∃ v σ' H', Inv X pins σ' H' s' ∧ RelV v u ∧ D.rt v H'

def PE (X : Cx) (e : Expr) (t : TE) : Prop :=
  ∀ (pins : List (Addr × Obj)) (s : Shared) (σ : St) (H : Hp) (Q : VK), Inv X pins σ H s → t σ H Q → wpAny (model X.prog X.w) X.A (eval e X.env) (EP X pins σ Q) X.xe s
def PT (X : Cx) (e : Expr) (t : TT) : Prop :=
  ∀ (pins : List (Addr × Obj)) (s : Shared) (σ : St) (H : Hp) (Q : Bool → Hp → Prop), Inv X pins σ H s → t σ H Q → wpAny (model X.prog X.w) X.A (isTrue e X.env (eval e X.env)) (TP X pins σ Q) X.xe s
/-- a test whatever its 'whole' is (and, or) -/
def PW (X : Cx) (e : Expr) (t : TT) : Prop :=
  ∀ (whole : Sem Value) (pins : List (Addr × Obj)) (s : Shared) (σ : St) (H : Hp) (Q : Bool → Hp → Prop), Inv X pins σ H s → t σ H Q → wpAny (model X.prog X.w) X.A (isTrue e X.env whole) (TP X pins σ Q) X.xe s
theorem PW.pt {X : Cx} {e : Expr} {t : TT} (h : PW X e t) : PT X e t := h _
/-- an argument list (no star), from the left -/
def PA (X : Cx) (es : List Expr) (t : TA) : Prop :=
  ∀ (pos : Pos) (pins : List (Addr × Obj)) (s : Shared) (σ : St) (H : Hp) (Q : List V → Hp → Prop), Inv X pins σ H s → t σ H Q → wpAny (model X.prog X.w) X.A (spliced (backTo pos (starEach es X.env))) (AP X pins σ Q) X.xe s
def PS (X : Cx) (st : Stmt) (t : TS) : Prop :=
  ∀ (pins : List (Addr × Obj)) (s : Shared) (σ : St) (H : Hp) (D : Ends), Inv X pins σ H s → t D σ H → wpAny (model X.prog X.w) X.A (exec st X.env) (SP X pins D) X.xe s
def PSs (X : Cx) (st : List Stmt) (t : TS) : Prop :=
  ∀ (pins : List (Addr × Obj)) (s : Shared) (σ : St) (H : Hp) (D : Ends), Inv X pins σ H s → t D σ H → wpAny (model X.prog X.w) X.A (execs st X.env) (SP X pins D) X.xe s
/-- weaken the end -/
theorem thn {α : Type} {t : Sem α} {Q Q' : α → Shared → Prop} {M : Model} {A : Around} {E : Value → Shared → Prop} {s : Shared} (h : wpAny M A t Q E s) (hQ : ∀ a s, Q a s → Q' a s) : wpAny M A t Q' E s := wpAny_mono h hQ fun _ _ x => x
end L2

namespace L2
open PySem PySem.Spec PyProof.Rows
section
variable {X : Cx}

/-! ### names and constants -/
def tVar (i : Nat) : TE := fun σ H Q => ∃ v, σ[i]? = some (some v) ∧ Q v H
def tC (v : V) : TE := fun _ H Q => Q v H
theorem pe_var {i : Nat} {x : Str} {pos : Pos} (hN : X.N[i]? = some x) (hv : Vis X.env.scope x) (hd : (x == ("__debug__" : Str)) = false := by decide) (hcd : (x == ("__classdict__" : Str)) = false := by decide) : PE X (.Name x pos) (tVar i) := by
  intro pins s σ H Q I h
  obtain ⟨v, e, h⟩ := h
  obtain ⟨m, hn, hl⟩ := I.loc
  obtain ⟨u, r, l⟩ := hl i x v hN e hv
  have fin : EP X pins σ Q u s := ⟨v, H, I, r, h⟩
  rcases l with ⟨hk, hm⟩ | ⟨hk, c, hc, hcell⟩
  · exact wpAny_Name (wpAny_loadName_local I.ok.kind hk hn hm fin) hd
  · rcases hk with hk | hk
    · exact wpAny_Name (wpAny_loadName_cell I.ok.kind hk hc hcell fin) hd
    · exact wpAny_Name (wpAny_loadName_free I.ok.kind hk hc hcell fin hcd) hd
theorem pe_int {i j pos} : PE X (.Constant (.int i) j pos) (tC (.int i)) := fun _ _ _ H _ I h => wpAny_Constant_int ⟨.int i, H, I.tok _, ⟨_, rfl⟩, h⟩
theorem pe_bl {b j pos} : PE X (.Constant (.bool b) j pos) (tC (.bl b)) := fun _ _ _ H _ I h => Constant_bool ⟨.bl b, H, I, rfl, h⟩
theorem pe_non {j pos} : PE X (.Constant .none j pos) (tC .non) := fun _ _ _ H _ I h => Constant_none ⟨.non, H, I, rfl, h⟩
theorem pe_str {x j pos} : PE X (.Constant (.str x) j pos) (tC (.str x)) := fun _ _ _ H _ I h => Calls.Constant_str ⟨.str x, H, I.tok _, ⟨_, rfl⟩, h⟩

/-- a global name of the def -/
def Gl (X : Cx) (x : Str) : Prop := X.env.kindOf x = some .globalImplicit
theorem ld_glob {E : Value → Shared → Prop} {pins : List (Addr × Obj)} {s : Shared} {σ : St} {H : Hp} {x : Str} {u : Value} {pos : Pos} {Q : Value → Shared → Prop} (I : Inv X pins σ H s) (hg : Gl X x) (hm : X.mg x = some u) (h : Q u s)
    (hd : (x == ("__debug__" : Str)) = false := by decide) : wpAny (model X.prog X.w) X.A (eval (.Name x pos) X.env) Q E s :=
  Calls.Name_function_global I.ok.kind hg (Calls.loadGlobal_global (by rw [I.ok.glob]; exact I.mod.glob.keeps I.bk) hm h) hd
theorem ld_blt {E : Value → Shared → Prop} {pins : List (Addr × Obj)} {s : Shared} {σ : St} {H : Hp} {x : Str} {u : Value} {pos : Pos} {Q : Value → Shared → Prop} (I : Inv X pins σ H s) (hg : Gl X x) (hm : X.mg x = none) (hv : bootBuiltins x = some u) (h : Q u s)
    (hn : x ≠ "__name__" := by decide) (hd : (x == ("__debug__" : Str)) = false := by decide) : wpAny (model X.prog X.w) X.A (eval (.Name x pos) X.env) Q E s := by
  obtain ⟨mb, h1, h2⟩ := I.mod.blt
  exact Calls.Name_function_global I.ok.kind hg (Calls.loadGlobal_builtin (by rw [I.ok.glob]; exact I.mod.glob.keeps I.bk) hm (by rw [I.ok.blt]; exact h1.keeps I.bk) ((h2 x hn).trans hv) h) hd
/-- a module's constant, a class, a function, as a value -/
theorem pe_glob {x : Str} {v : V} {u : Value} {pos : Pos} (hg : Gl X x) (hm : X.mg x = some u) (r : RelV v u) (hd : (x == ("__debug__" : Str)) = false := by decide) : PE X (.Name x pos) (tC v) :=
  fun _ _ _ H _ I h => ld_glob I hg hm ⟨v, H, I, r, h⟩ hd
theorem pe_bltn {x : Str} {v : V} {u : Value} {pos : Pos} (hg : Gl X x) (hm : X.mg x = none) (hv : bootBuiltins x = some u) (r : RelV v u) (hn : x ≠ "__name__" := by decide) (hd : (x == ("__debug__" : Str)) = false := by decide) : PE X (.Name x pos) (tC v) :=
  fun _ _ _ H _ I h => ld_blt I hg hm hv ⟨v, H, I, r, h⟩ hn hd

/-! ### arithmetic -/
/-- two ints -/
def t2I (ta tb : TE) (k : Int → Int → Hp → Prop) : St → Hp → Prop := fun σ H => ta σ H fun x H1 => tb σ H1 fun y H2 => ∃ i j, x = .int i ∧ y = .int j ∧ k i j H2
def tAdd (ta tb : TE) : TE := fun σ H Q => t2I ta tb (fun i j H2 => Q (.int (i + j)) H2) σ H
def tSub (ta tb : TE) : TE := fun σ H Q => t2I ta tb (fun i j H2 => Q (.int (i - j)) H2) σ H
/-- the left factor below 2^64 -/
def tMul (ta tb : TE) : TE := fun σ H Q => t2I ta tb (fun i j H2 => (-(2 ^ 64) < i ∧ i < 2 ^ 64) ∧ Q (.int (i * j)) H2) σ H
variable {a b : Expr} {ta tb : TE} {pos : Pos}
/-! ### comparisons -/
def PC (X : Cx) (op : CmpOp) (a b : Expr) (t : TE) : Prop :=
  ∀ (pins : List (Addr × Obj)) (s : Shared) (σ : St) (H : Hp) (Q : VK), Inv X pins σ H s → t σ H Q →
    wpAny (model X.prog X.w) X.A (eval a X.env) (fun v s₁ => wpAny (model X.prog X.w) X.A (eval b X.env) (fun u s₂ => wpAny (model X.prog X.w) X.A (compareOp op v u) (EP X pins σ Q) X.xe s₂) X.xe s₁) X.xe s
def tCmp (p : Int → Int → Bool) (ta tb : TE) : TE := fun σ H Q => t2I ta tb (fun i j H2 => Q (.bl (p i j)) H2) σ H
abbrev tLt : TE → TE → TE := tCmp fun i j => decide (i < j)
abbrev tLe : TE → TE → TE := tCmp fun i j => decide (i ≤ j)
abbrev tGt : TE → TE → TE := tCmp fun i j => decide (j < i)
abbrev tGe : TE → TE → TE := tCmp fun i j => decide (j ≤ i)
abbrev tEqI : TE → TE → TE := tCmp fun i j => decide (i = j)
abbrev tNeI : TE → TE → TE := tCmp fun i j => !decide (i = j)
/-- is None -/
def tIsN (ta : TE) : TE := fun σ H Q => ta σ H fun x H1 => Q (.bl (decide (x = .non))) H1
def tNotN (ta : TE) : TE := fun σ H Q => ta σ H fun x H1 => Q (.bl (!decide (x = .non))) H1
/-- a comparison as a value, as a test -/
def tB (t : TE) : TT := fun σ H Q => t σ H fun x H1 => ∃ c, x = .bl c ∧ Q c H1
/-- an expression whose value is a bool, as a test -/
theorem pt_val {e : Expr} {t : TE} (h : PE X e t) (he : ∀ whole, isTrue e X.env whole = (do let v ← whole; standAt e.pos; holding [v] (truthy v)) := by intro _; rfl) : PT X e (tB t) := by
  intro pins s σ H Q I hw
  refine isTrue_plain (thn (h pins s σ H _ I hw) fun v s1 ⟨x, H1, I1, r1, q1⟩ => ?_) (he _)
  obtain ⟨d, rfl, q⟩ := q1
  cases r1
  exact wpAny_truthy_bool ⟨H1, I1, q⟩

/-! ### and, or, not -/
variable {tA tB' : TT} {rest : List Expr}
def tAnd (t u : TT) : TT := fun σ H Q => t σ H fun c H1 => if c = true then u σ H1 Q else Q false H1
def tOr (t u : TT) : TT := fun σ H Q => t σ H fun c H1 => if c = true then Q true H1 else u σ H1 Q
def tNot (t : TT) : TT := fun σ H Q => t σ H fun c H1 => Q (!c) H1
theorem pw_and1 (ha : PT X a tA) : PW X (.BoolOp .And [a] pos) tA := by
  intro wh pins s σ H Q I h
  refine isTrue_and (thn (ha pins s σ H Q I h) fun c s1 e => ?_)
  cases c with
  | true => exact isTrue_and_nil e
  | false => exact e
theorem pw_or1 (ha : PT X a tA) : PW X (.BoolOp .Or [a] pos) tA := by
  intro wh pins s σ H Q I h
  refine isTrue_or (thn (ha pins s σ H Q I h) fun c s1 e => ?_)
  cases c with
  | false => exact isTrue_or_nil e
  | true => exact e
theorem pw_and (ha : PT X a tA) (hb : PW X (.BoolOp .And (b :: rest) pos) tB') : PW X (.BoolOp .And (a :: b :: rest) pos) (tAnd tA tB') := by
  intro wh pins s σ H Q I h
  refine isTrue_and (thn (ha pins s σ H _ I h) fun c s1 ⟨H1, I1, q1⟩ => ?_)
  cases c with
  | true => exact hb wh pins s1 σ H1 Q I1 q1
  | false => exact ⟨H1, I1, q1⟩
theorem pw_or (ha : PT X a tA) (hb : PW X (.BoolOp .Or (b :: rest) pos) tB') : PW X (.BoolOp .Or (a :: b :: rest) pos) (tOr tA tB') := by
  intro wh pins s σ H Q I h
  refine isTrue_or (thn (ha pins s σ H _ I h) fun c s1 ⟨H1, I1, q1⟩ => ?_)
  cases c with
  | true => exact ⟨H1, I1, q1⟩
  | false => exact hb wh pins s1 σ H1 Q I1 q1
theorem pt_not (ha : PT X a tA) : PT X (.UnaryOp .Not a pos) (tNot tA) := by
  intro pins s σ H Q I h
  exact isTrue_not (ha pins s σ H (fun c H1 => Q (!c) H1) I h)
/-- .. as values (bools) -/
def tAndV (ta tb : TE) : TE := fun σ H Q => ta σ H fun x H1 => ∃ c, x = .bl c ∧ if c = true then tb σ H1 Q else Q (.bl false) H1
def tOrV (ta tb : TE) : TE := fun σ H Q => ta σ H fun x H1 => ∃ c, x = .bl c ∧ if c = true then Q (.bl true) H1 else tb σ H1 Q
def tNotV (ta : TE) : TE := fun σ H Q => ta σ H fun x H1 => ∃ c, x = .bl c ∧ Q (.bl (!c)) H1
theorem pe_one {op} {t : TE} (h : PE X a t) : PE X (.BoolOp op [a] pos) t := fun pins s σ H Q I hw => BoolOp_one (h pins s σ H Q I hw)
theorem pe_and (ha : PE X a ta) (hb : PE X (.BoolOp .And (b :: rest) pos) tb) : PE X (.BoolOp .And (a :: b :: rest) pos) (tAndV ta tb) := by
  intro pins s σ H Q I h
  refine BoolOp_and (thn (ha pins s σ H _ I h) fun v s1 ⟨x, H1, I1, r1, q1⟩ => ?_)
  obtain ⟨c, rfl, q1⟩ := q1
  cases r1
  refine wpAny_truthy_bool ?_
  cases c with
  | true => exact hb pins s1 σ H1 Q I1 q1
  | false => exact ⟨.bl false, H1, I1, rfl, q1⟩
theorem pe_not (ha : PE X a ta) : PE X (.UnaryOp .Not a pos) (tNotV ta) := by
  intro pins s σ H Q I h
  refine UnaryOp_ (thn (ha pins s σ H _ I h) fun v s1 ⟨x, H1, I1, r1, q1⟩ => ?_)
  obtain ⟨c, rfl, q1⟩ := q1
  cases r1
  exact not_of (wpAny_truthy_bool ⟨.bl (!c), H1, I1, rfl, q1⟩)
/-- a if t else b -/
def tIf (t : TT) (ta tb : TE) : TE := fun σ H Q => t σ H fun c H1 => if c = true then ta σ H1 Q else tb σ H1 Q
end
end L2

namespace L2
open PySem PySem.Spec PyProof.Rows

/-! ### a list, a tuple that is read: tracked, frozen, or an object of the module -/
def SqL (K : PySem.W.Frag) (H : Hp) (a : Addr) (xs : List V) : Prop :=
  Rd H a (.lst xs) ∨
    ∃ (o : Obj) (its : Array Value) (n : Nat), K.lookup a = some o ∧ o.cls = .type "list" ∧ o.dict = none ∧ o.data = .seq its n ∧ its.size ≤ sizeLine ∧ Vals xs its.toList
def SqT (K : PySem.W.Frag) (H : Hp) (a : Addr) (xs : List V) : Prop :=
  Rd H a (.tup xs) ∨
    ∃ (o : Obj) (its : Array Value) (n : Nat), K.lookup a = some o ∧ o.cls = .type "tuple" ∧ o.data = .seq its n ∧ its.size ≤ sizeLine ∧ Vals xs its.toList
def absV : Value → Option V
  | .none => some .non
  | .bool b => some (.bl b)
  | .int i _ => some (.int i)
  | .str x _ => some (.str x)
  | .bytes b _ => some (.byt b)
  | .float b _ => some (.flt b)
  | .ref a => some (.ref a)
  | .type n => some (.ty n)
  | _ => none
theorem RelV.abs {x : V} {u : Value} (r : RelV x u) : absV u = some x := by
  cases x with
  | non => cases r; rfl
  | bl _ => cases r; rfl
  | int _ => obtain ⟨t, rfl⟩ := r; rfl
  | str _ => obtain ⟨t, rfl⟩ := r; rfl
  | byt _ => obtain ⟨t, rfl⟩ := r; rfl
  | flt _ => obtain ⟨t, rfl⟩ := r; rfl
  | ref _ => cases r; rfl
  | ty _ => cases r; rfl
theorem RelV.inj {x y : V} {u : Value} (r : RelV x u) (q : RelV y u) : x = y := Option.some.inj (r.abs.symm.trans q.abs)
theorem Vals.inj : ∀ {xs ys : List V} {us : List Value}, Vals xs us → Vals ys us → xs = ys
  | _, _, _, .nil, .nil => rfl
  | _, _, _, .cons r t, .cons r' t' => by rw [r.inj r', Vals.inj t t']
section
variable {X : Cx} {pins : List (Addr × Obj)} {σ : St} {H : Hp} {s : Shared} {a : Addr} {xs ys : List V}
theorem SqL.of {K : PySem.W.Frag} (h : H a = some (.lst xs)) : SqL K H a xs := .inl (.inl h)
theorem SqT.of {K : PySem.W.Frag} (h : H a = some (.tup xs)) : SqT K H a xs := .inl (.inl h)
theorem Inv.list (I : Inv X pins σ H s) (h : SqL X.K H a xs) : ∃ its : List Value, Vals xs its ∧ PlainL s.heap a its.toArray ∧ xs.length ≤ sizeLine := by
  rcases h with h | ⟨o, its, n, hk, hc, hd, hs, hz, r⟩
  · obtain ⟨z, its, n, r, e⟩ := h.ok I.hok
    exact ⟨its, r, ⟨_, n, e, rfl, rfl, rfl⟩, z⟩
  · refine ⟨its.toList, r, ⟨o, n, I.kIn a o hk, hc, hd, by simpa using hs⟩, ?_⟩
    have e := r.length
    simp only [Array.length_toList] at e
    omega
theorem Inv.tuple (I : Inv X pins σ H s) (h : SqT X.K H a xs) : ∃ its : List Value, Vals xs its ∧ IsTup s.heap a its.toArray ∧ xs.length ≤ sizeLine := by
  rcases h with h | ⟨o, its, n, hk, hc, hs, hz, r⟩
  · obtain ⟨z, its, r, p⟩ := h.ok I.hok
    exact ⟨its, r, p, z⟩
  · refine ⟨its.toList, r, ⟨o, I.kIn a o hk, hc, n, by simpa using hs⟩, ?_⟩
    have e := r.length
    simp only [Array.length_toList] at e
    omega
theorem Inv.list_inj (I : Inv X pins σ H s) (h : SqL X.K H a xs) (h' : SqL X.K H a ys) : xs = ys := by
  obtain ⟨its, r, ⟨o, n, e, _, _, d⟩, _⟩ := I.list h
  obtain ⟨its', r', ⟨o', n', e', _, _, d'⟩, _⟩ := I.list h'
  rw [e] at e'; cases e'
  rw [d] at d'
  injection d' with d1 _
  have : its = its' := by simpa using congrArg Array.toList d1
  subst this
  exact r.inj r'
theorem Inv.tuple_inj (I : Inv X pins σ H s) (h : SqT X.K H a xs) (h' : SqT X.K H a ys) : xs = ys := by
  obtain ⟨its, r, ⟨o, e, _, n, d⟩, _⟩ := I.tuple h
  obtain ⟨its', r', ⟨o', e', _, n', d'⟩, _⟩ := I.tuple h'
  rw [e] at e'; cases e'
  rw [d] at d'
  injection d' with d1 _
  have : its = its' := by simpa using congrArg Array.toList d1
  subst this
  exact r.inj r'
end

/-! ### another wish about exceptions -/
abbrev Cx.wish (X : Cx) (E : Value → Shared → Prop) : Cx := { X with xe := E }
/-- no exception leaves -/
abbrev Cx.nox (X : Cx) : Cx := X.wish fun _ _ => False
theorem Cx.Ok.wish {X : Cx} (ok : X.Ok) (E : Value → Shared → Prop) : (X.wish E).Ok :=
  ⟨ok.mod, ok.kind, ok.glob, ok.blt, ok.above, ok.inj, ok.has, ok.cab, ok.hd, ok.frames, ok.stk, ok.exf, ok.bs, ok.bsz, ok.noex, ok.exfs, ok.funs, ok.frf⟩
theorem Cx.Ok.unwish {X : Cx} {E : Value → Shared → Prop} (ok : (X.wish E).Ok) : X.Ok :=
  ⟨ok.mod, ok.kind, ok.glob, ok.blt, ok.above, ok.inj, ok.has, ok.cab, ok.hd, ok.frames, ok.stk, ok.exf, ok.bs, ok.bsz, ok.noex, ok.exfs, ok.funs, ok.frf⟩
section
variable {X : Cx} {pins : List (Addr × Obj)} {σ : St} {H : Hp} {s : Shared} {E : Value → Shared → Prop}
theorem Inv.wish (I : Inv X pins σ H s) (E : Value → Shared → Prop) : Inv (X.wish E) pins σ H s := ⟨I.ok.wish E, I.os, I.bare, I.base, I.loc, I.cell, I.free, I.freeC, I.pin, I.hok, I.len, I.tr, I.fix⟩
theorem Inv.unwish (I : Inv (X.wish E) pins σ H s) : Inv X pins σ H s := ⟨I.ok.unwish, I.os, I.bare, I.base, I.loc, I.cell, I.free, I.freeC, I.pin, I.hok, I.len, I.tr, I.fix⟩
theorem SP.unwish {D : Ends} {f : Flow} {s' : Shared} (h : SP (X.wish E) pins D f s') : SP X pins D f s' := by
  cases f with
  | next => obtain ⟨σ', H', I, q⟩ := h; exact ⟨σ', H', I.unwish, q⟩
  | brk => obtain ⟨σ', H', I, q⟩ := h; exact ⟨σ', H', I.unwish, q⟩
  | cont => obtain ⟨σ', H', I, q⟩ := h; exact ⟨σ', H', I.unwish, q⟩
  | ret u => obtain ⟨v, σ', H', I, r, q⟩ := h; exact ⟨v, σ', H', I.unwish, r, q⟩
theorem PSs.nox {st : List Stmt} {t : TS} (h : PSs X.nox st t) : PSs X st t := fun pins s σ H D I hw =>
  wpAny_mono (h pins s σ H D (I.wish _) hw) (fun _ _ q => q.unwish) fun _ _ z => False.elim z
end

/-! ### blocks and small statements -/
section
variable {X : Cx} {st : Stmt} {rest : List Stmt} {t u : TS} {e : Expr} {te : TE} {pos : Pos}
def tNext : TS := fun D σ H => D.nx σ H
def tSeq (t u : TS) : TS := fun D σ H => t { D with nx := u D } σ H
theorem pss_nil : PSs X [] tNext := fun _ _ σ H _ I h => wpAny_execs_nil ⟨σ, H, I, h⟩
theorem pss_cons (h1 : PS X st t) (h2 : PSs X rest u) : PSs X (st :: rest) (tSeq t u) := by
  intro pins s σ H D I h
  refine wpAny_execs_cons (thn (h1 pins s σ H { D with nx := u D } I h) fun f s1 q => ?_)
  cases f with
  | next =>
    obtain ⟨σ', H', I', q⟩ := q
    exact h2 pins s1 σ' H' D I' q
  | ret v => exact q
  | brk => exact q
  | cont => exact q
theorem pss_one (h1 : PS X st t) : PSs X [st] t := by
  intro pins s σ H D I h
  refine wpAny_execs_cons (thn (h1 pins s σ H D I h) fun f s1 q => ?_)
  cases f with
  | next => exact wpAny_execs_nil q
  | ret v => exact q
  | brk => exact q
  | cont => exact q
def tBreak : TS := fun D σ H => D.bk σ H
def tCont : TS := fun D σ H => D.ct σ H
/-- in a def's body nothing is shown -/
theorem Inv.quiet {pins : List (Addr × Obj)} {σ : St} {H : Hp} {s : Shared} (I : Inv X pins σ H s) : interactive X.env = false := by simp [interactive, I.ok.kind]
/-- an expression whose value is dropped -/
def tDrop (te : TE) : TS := fun D σ H => te σ H fun _ H1 => D.nx σ H1
theorem ps_expr (he : PE X e te) (hs : swapsWith e none pos.line X.env = pure false := by rfl) : PS X (.Expr e pos) (tDrop te) := by
  intro pins s σ H D I h
  exact wpAny_Expr_any (thn (he pins s σ H _ I h) fun v s1 ⟨x, H1, I1, r1, q1⟩ => ⟨σ, H1, I1, q1⟩) I.quiet hs
def tRet (te : TE) : TS := fun D σ H => te σ H D.rt
theorem ps_ret (he : PE X e te) : PS X (.Return (some e) pos) (tRet te) := by
  intro pins s σ H D I h
  exact wpAny_Return_some (thn (he pins s σ H _ I h) fun v s1 ⟨x, H1, I1, r1, q1⟩ => ⟨x, σ, H1, I1, r1, q1⟩)
def tRetN : TS := fun D _ H => D.rt .non H
theorem ps_retN : PS X (.Return none pos) tRetN := fun _ _ σ H _ I h => wpAny_Return_none ⟨.non, σ, H, I, rfl, h⟩
def tIfS (c : TT) (t u : TS) : TS := fun D σ H => c σ H fun b H1 => if b = true then t D σ H1 else u D σ H1
theorem ps_if {c : Expr} {a b : List Stmt} {tc : TT} (hc : PT X c tc) (ha : PSs X a t) (hb : PSs X b u) : PS X (.If c a b pos) (tIfS tc t u) := by
  intro pins s σ H D I h
  refine wpAny_If (thn (hc pins s σ H _ I h) fun d s1 ⟨H1, I1, q1⟩ => ?_)
  cases d with
  | true => exact ha pins s1 σ H1 D I1 q1
  | false => exact hb pins s1 σ H1 D I1 q1
/-- code that the proof never comes to -/
def tNever : TS := fun _ _ _ => False
end

/-! ### targets -/
abbrev TG := V → St → Hp → (St → Hp → Prop) → Prop
abbrev TGs := List V → St → Hp → (St → Hp → Prop) → Prop
def PG (X : Cx) (target : Expr) (t : TG) : Prop :=
  ∀ (pins : List (Addr × Obj)) (s : Shared) (σ : St) (H : Hp) (v : V) (u : Value) (Q : St → Hp → Prop), Inv X pins σ H s → RelV v u → t v σ H Q →
    wpAny (model X.prog X.w) X.A (assign target X.env u) (fun _ s' => ∃ σ' H', Inv X pins σ' H' s' ∧ Q σ' H') X.xe s
/-- several targets, one after another -/
def PGs (X : Cx) (ts : List Expr) (t : TGs) : Prop :=
  ∀ (pins : List (Addr × Obj)) (s : Shared) (σ : St) (H : Hp) (vs : List V) (us : List Value) (Q : St → Hp → Prop), Inv X pins σ H s → Vals vs us → t vs σ H Q →
    wpAny (model X.prog X.w) X.A (assignInOrder ((assignEach ts X.env).map (·.2)) us) (fun _ s' => ∃ σ' H', Inv X pins σ' H' s' ∧ Q σ' H') X.xe s
/-- o[i] = v, by values -/
abbrev TSet := V → V → V → Hp → (Hp → Prop) → Prop
def PSet (X : Cx) (t : TSet) : Prop :=
  ∀ (pins : List (Addr × Obj)) (s : Shared) (σ : St) (H : Hp) (o i v : V) (ov iv u : Value) (Q : Hp → Prop), Inv X pins σ H s → RelV o ov → RelV i iv → RelV v u → t o i v H Q →
    wpAny (model X.prog X.w) X.A (setItem ov iv u) (fun _ s' => ∃ H', Inv X pins σ H' s' ∧ Q H') X.xe s
/-- a op= b, by values -/
abbrev TIp := V → V → Hp → VK → Prop
def PIp (X : Cx) (op : Operator) (t : TIp) : Prop :=
  ∀ (pins : List (Addr × Obj)) (s : Shared) (σ : St) (H : Hp) (x y : V) (v u : Value) (Q : VK), Inv X pins σ H s → RelV x v → RelV y u → t x y H Q →
    wpAny (model X.prog X.w) X.A (inplaceOp op v u) (EP X pins σ Q) X.xe s
section
variable {X : Cx} {pos : Pos}
def gName (i : Nat) : TG := fun v σ H Q => Q (σ.set i (some v)) H
theorem pg_name {i : Nat} {x : Str} (hN : X.N.Nodup) (hi : X.N[i]? = some x) (hx : Loc X.env.scope x) (hf : X.fn x = true ∨ X.env.scope.names.lookup x = some .local := by first | exact .inl rfl | exact .inr rfl | assumption) (hfx : ∀ p ∈ X.fx, p.1 ≠ x := by first | exact fun p h => absurd (show p ∈ ([] : List (Str × Value)) from h) (by simp) | assumption) : PG X (.Name x pos) (gName i) := by
  intro pins s σ H v u Q I r h
  exact wpAny_assign_Name (store_ok I hN hi hx r (fun s' I' => ⟨_, H, I', h⟩) hf hfx)
def gNil : TGs := fun vs σ H Q => vs = [] ∧ Q σ H
def gCons (t : TG) (u : TGs) : TGs := fun vs σ H Q => ∃ v r, vs = v :: r ∧ t v σ H fun σ' H' => u r σ' H' Q
theorem pgs_nil : PGs X [] gNil := by
  intro pins s σ H vs us Q I r h
  obtain ⟨e, h⟩ := h
  subst e
  cases r
  exact assignInOrder_nil ⟨σ, H, I, h⟩
theorem pgs_cons {e : Expr} {es : List Expr} {t : TG} {u : TGs} (h1 : PG X e t) (h2 : PGs X es u)
    (hs : (assignEach (e :: es) X.env).map (·.2) = assign e X.env :: (assignEach es X.env).map (·.2) := by rfl) : PGs X (e :: es) (gCons t u) := by
  intro pins s σ H vs us Q I r h
  obtain ⟨v, vr, e1, h⟩ := h
  subst e1
  cases r with
  | cons r rr =>
    rw [hs]
    refine assignInOrder_cons (thn (h1 pins s σ H _ _ _ I r h) fun _ s1 ⟨σ1, H1, I1, q1⟩ => ?_)
    exact h2 pins s1 σ1 H1 _ _ Q I1 rr q1
/-- (a, b, ..) = a tuple of that length -/
def gTup (K : PySem.W.Frag) (n : Nat) (t : TGs) : TG := fun v σ H Q => ∃ a xs, v = .ref a ∧ SqT K H a xs ∧ xs.length = n ∧ t xs σ H Q
theorem pg_tup {es : List Expr} {k : Nat} {t : TGs} {n : Nat} (hc : X.A.handled = none) (h : PGs X es t)
    (hn : (assignEach es X.env).length = n := by rfl) (hst : (assignEach es X.env).findIdx? (·.1) = none := by rfl) : PG X (.Tuple es k pos) (gTup X.K n t) := by
  intro pins s σ H v u Q I r hw
  obtain ⟨a, xs, e1, hq, hl, hw⟩ := hw
  subst e1
  cases r
  obtain ⟨its, rv, ht, hz⟩ := I.tuple hq
  refine assign_Tuple_tuple hc ht (by simp [hn, ← hl, rv.length]) hst fun h' hx => ?_
  have I1 : Inv X pins σ H { s with heap := h' } := I.kept (t' := s.toks) fun b o e => hx b o (Nat.ne_of_lt (Heap.lt_size e)) e
  exact h pins _ σ H xs _ Q I1 (by simpa using rv) hw
/-- o[i] = .. -/
def gSub (to ti : TE) (t : TSet) : TG := fun v σ H Q => to σ H fun o H1 => ti σ H1 fun i H2 => t o i v H2 fun H3 => Q σ H3
theorem pg_sub {o i : Expr} {to ti : TE} {t : TSet} (ho : PE X o to) (hi : PE X i ti) (hs : PSet X t)
    (ha : ∀ v, assign (.Subscript o i pos) X.env v = (do
      let ov ← holding [v] (eval o X.env)
      let iv ← holding [v, ov] (eval i X.env)
      standAt pos
      holding [v, ov, iv] (setItem ov iv v)
      release [v, ov, iv] []) := by intro _; rfl) : PG X (.Subscript o i pos) (gSub to ti t) := by
  intro pins s σ H v u Q I r h
  rw [ha]
  refine wpAny_bind (wpAny_holding (thn (ho pins s σ H _ I h) fun ov s1 ⟨x, H1, I1, r1, q1⟩ => ?_))
  refine wpAny_bind (wpAny_holding (thn (hi pins s1 σ H1 _ I1 q1) fun iv s2 ⟨y, H2, I2, r2, q2⟩ => ?_))
  refine wpAny_bind (wpAny_standAt (wpAny_bind (wpAny_holding (thn (hs pins s2 σ H2 x y v ov iv u _ I2 r1 r2 r q2) fun _ s3 ⟨H3, I3, q3⟩ => ?_))))
  exact wpAny_release ⟨σ, H3, I3, q3⟩
/-- target = value -/
def tAsg (te : TE) (g : TG) : TS := fun D σ H => te σ H fun x H1 => g x σ H1 D.nx
theorem ps_asg {tg e : Expr} {te : TE} {g : TG} (he : PE X e te) (hg : PG X tg g) (hs : swapsWithSole [tg] e pos.line X.env = pure false := by rfl) (hw : swappedStores [tg] e X.env = pure none := by rfl)
    (h1 : (assignEach [tg] X.env).map (·.2) = [assign tg X.env] := by rfl) : PS X (.Assign [tg] e pos) (tAsg te g) := by
  intro pins s σ H D I h
  refine wpAny_Assign_stores (thn (he pins s σ H _ I h) fun v s1 ⟨x, H1, I1, r1, q1⟩ => ?_) hs hw
  rw [h1]
  exact thn (hg pins s1 σ H1 x v _ I1 r1 q1) fun _ s2 q => q
/-- name = value -/
theorem ps_set {i : Nat} {x : Str} {e : Expr} {te : TE} {pos' : Pos} (hN : X.N.Nodup) (hi : X.N[i]? = some x) (hx : Loc X.env.scope x) (he : PE X e te) (hs : swapsWith e (some (.Name x pos')) pos.line X.env = pure false := by rfl) (hf : X.fn x = true ∨ X.env.scope.names.lookup x = some .local := by first | exact .inl rfl | exact .inr rfl | assumption) (hfx : ∀ p ∈ X.fx, p.1 ≠ x := by first | exact fun p h => absurd (show p ∈ ([] : List (Str × Value)) from h) (by simp) | assumption) :
    PS X (.Assign [.Name x pos'] e pos) (tAsg te (gName i)) := by
  intro pins s σ H D I h
  refine wpAny_Assign_Name (thn (he pins s σ H _ I h) fun v s1 ⟨y, H1, I1, r1, q1⟩ => ?_) hs
  exact store_ok I1 hN hi hx r1 (fun s2 I2 => ⟨_, H1, I2, q1⟩) hf hfx
/-- a, b = x, y with plain local names: stored from the right; the pair itself is not tracked (the opening rows as in PyProof/Rows/TupAssign.lean:23) -/
def tPar (i j : Nat) (ta : TA) : TS := fun D σ H => ta σ H fun vs H1 => ∃ v w, vs = [v, w] ∧ D.nx ((σ.set i (some v)).set j (some w)) H1
/-- name op= e -/
def tAug (i : Nat) (te : TE) (ti : TIp) : TS := fun D σ H => ∃ x, σ[i]? = some (some x) ∧ te σ H fun y H1 => ti x y H1 fun z H2 => D.nx (σ.set i (some z)) H2
/-- o[i] op= e -/
def tAugS (to ti te : TE) (tget : V → V → Hp → VK → Prop) (tip : TIp) (tset : TSet) : TS := fun D σ H => to σ H fun o H1 => ti σ H1 fun i H2 => tget o i H2 fun x H3 => te σ H3 fun y H4 => tip x y H4 fun z H5 => tset o i z H5 fun H6 => D.nx σ H6
/-- o[i], by values -/
def PGet (X : Cx) (t : V → V → Hp → VK → Prop) : Prop :=
  ∀ (pins : List (Addr × Obj)) (s : Shared) (σ : St) (H : Hp) (o i : V) (ov iv : Value) (Q : VK), Inv X pins σ H s → RelV o ov → RelV i iv → t o i H Q →
    wpAny (model X.prog X.w) X.A (getItem ov iv) (EP X pins σ Q) X.xe s
/-- ints -/
def ipI (f : Int → Int → Int) : TIp := fun x y H Q => ∃ i j, x = .int i ∧ y = .int j ∧ Q (.int (f i j)) H
end

/-! ### while -/
section
variable {X : Cx} {pos : Pos}
/-- the invariant W with its measure -/
def tWhile (c : TT) (tb : TS) : TS := fun D σ H => ∃ W : Nat → St → Hp → Prop, (∃ m, W m σ H) ∧ ∀ m σ H, W m σ H →
  c σ H fun b H1 => if b = true then ∃ N : St → Hp → Prop, (∀ σ' H', N σ' H' → ∃ m', m' < m ∧ W m' σ' H') ∧ tb { D with nx := N, ct := N, bk := D.nx } σ H1 else D.nx σ H1
end

/-! ### what a loop or a comprehension walks -/
/-- at turn i: it yields x (the heap may grow), or it stops -/
structure It where
  go : Nat → Hp → Prop
  yld : Nat → Hp → V → Hp → Prop
  stop : Nat → Hp → Prop
/-- the iterator's own objects may turn: they are not the frame's, not pinned, younger than the entry (or a comprehension's own) -/
def FpOk (X : Cx) (pins : List (Addr × Obj)) (H : Hp) (b : Addr) : Prop :=
  H b = none ∧ b ≠ X.env.locals ∧ b ∉ X.fs ∧ (b ∈ X.ex ∨ X.s₀.heap.objs.size ≤ b) ∧ (∀ x c, X.env.cells.lookup x = some c → c ≠ b) ∧ ∀ p ∈ X.pn ++ pins, p.1 ≠ b
theorem Inv.fpOk {X : Cx} {pins : List (Addr × Obj)} {σ : St} {H H' : Hp} {s : Shared} {b : Addr} (I : Inv X pins σ H s) (hb : s.heap.objs.size ≤ b) (hn : H' b = none) : FpOk X pins H' b := by
  refine ⟨hn, Nat.ne_of_gt (Nat.lt_of_lt_of_le I.lt hb), I.nofs hb, .inr (Nat.le_trans I.sz hb), fun x c e z => ?_, fun p hp z => ?_⟩
  · obtain ⟨v, q⟩ := I.cell x c e
    exact absurd (Nat.lt_of_lt_of_le q.lt (by rw [z]; exact hb)) (Nat.lt_irrefl _)
  · exact absurd (Nat.lt_of_lt_of_le (Heap.lt_size (I.pin p hp).1) (by rw [z]; exact hb)) (Nat.lt_irrefl _)
structure Turn (P : Program) (w : World) (K : PySem.W.Frag) (tg : Expr) (J : It) (fp : List Addr) (it : Addr) (tn : Nat → Heap → Prop) : Prop where
  mem : it ∈ fp
  obj : ∀ i h, tn i h → ∀ b ∈ fp, ∃ o, h.get? b = some o ∧ ∀ v, o.data ≠ .cell v
  keep : ∀ i h h', tn i h → (∀ b ∈ fp, ∀ o, h.get? b = some o → h'.get? b = some o) → tn i h'
  item : ∀ (X : Cx), X.prog = P → X.w = w → X.K = K → X.calm = true → ∀ (i : Nat) (pins : List (Addr × Obj)) (s : Shared) (σ : St) (H : Hp) (E : Value → Shared → Prop), Inv X pins σ H s → (∀ b ∈ fp, FpOk X pins H b) → tn i s.heap → J.go i H →
    wpAny (model P w) X.A (pyNext (.ref it)) (fun r s1 => ∃ u, r = some u ∧
      wpAny (model P w) X.A (letOwnedTupleGo tg (.ref it) u) (fun _ s2 => ∃ x H', Inv X pins σ H' s2 ∧ RelV x u ∧ J.yld i H x H' ∧ tn (i + 1) s2.heap ∧ ∀ b ∈ fp, H' b = none) E s1) E s
  done : ∀ (X : Cx), X.prog = P → X.w = w → X.K = K → X.calm = true → ∀ (i : Nat) (pins : List (Addr × Obj)) (s : Shared) (σ : St) (H : Hp) (E : Value → Shared → Prop), Inv X pins σ H s → (∀ b ∈ fp, FpOk X pins H b) → tn i s.heap → J.stop i H →
    wpAny (model P w) X.A (pyNext (.ref it)) (fun r s1 => r = none ∧ Inv X pins σ H s1) E s
  self : ∀ (A : Around) (i : Nat) (s : Shared) (Q : Value → Shared → Prop) (E : Value → Shared → Prop), tn i s.heap → Q (.ref it) s → wpAny (model P w) A (pyIter (.ref it)) Q E s
abbrev TI := St → Hp → (It → Hp → Prop) → Prop
/-- an iterator has come -/
def PIE (X : Cx) (pins : List (Addr × Obj)) (σ : St) (tg : Expr) (R : It → Hp → Prop) (itv : Value) (s2 : Shared) : Prop :=
  ∃ (it : Addr) (fp : List Addr) (tn : Nat → Heap → Prop) (J : It) (H' : Hp), itv = .ref it ∧ Inv X pins σ H' s2 ∧ Turn X.prog X.w X.K tg J fp it tn ∧ tn 0 s2.heap ∧ (∀ b ∈ fp, FpOk X pins H' b) ∧ R J H'
def PI (X : Cx) (tg iter : Expr) (wi : TI) : Prop :=
  ∀ (pins : List (Addr × Obj)) (s : Shared) (σ : St) (H : Hp) (R : It → Hp → Prop), Inv X pins σ H s → wi σ H R →
    wpAny (model X.prog X.w) X.A (eval iter X.env) (fun v s1 => wpAny (model X.prog X.w) X.A (pyIter v) (PIE X pins σ tg R) X.xe s1) X.xe s

/-- the step ahead of the store is nothing for an iterator that keeps no tuple -/
theorem go_of {M : Model} {A : Around} {E : Value → Shared → Prop} {s : Shared} {tg : Expr} {it : Addr} {u : Value} {o : Obj} {n : String} {vs : Array Value} {Q : Unit → Shared → Prop} (ho : s.heap.get? it = some o) (hc : o.cls = .type n) (hd : o.data = .fields vs)
    (hn : ["enumerate", "zip", "dict_itemiterator", "dict_reverseitemiterator", "odict_iterator", "itertools.zip_longest", "itertools.pairwise"].contains n = false) (hQ : Q () s) : wpAny M A (letOwnedTupleGo tg (.ref it) u) Q E s := by
  unfold letOwnedTupleGo
  cases tg <;> first
    | exact wpAny_pure hQ
    | (cases u <;> first
        | exact wpAny_pure hQ
        | (refine wpAny_bind (wpAny_load ho ?_)
           rw [hc, hd]
           show wpAny M A (if (["enumerate", "zip", "dict_itemiterator", "dict_reverseitemiterator", "odict_iterator", "itertools.zip_longest", "itertools.pairwise"].contains n && vs[0]? == some (rawInt _)) = true then _ else _) Q E s
           rw [if_neg (by intro h; rw [hn, Bool.false_and] at h; cases h)]
           exact wpAny_pure hQ))

/-- the list at a, as it stands at each turn (a loop may append to it) -/
def Itl (K : PySem.W.Frag) (a : Addr) : It :=
  ⟨fun i H => ∃ xs x, SqL K H a xs ∧ xs[i]? = some x, fun i H x H' => H' = H ∧ ∀ xs, SqL K H a xs → xs[i]? = some x, fun i H => ∃ xs, SqL K H a xs ∧ xs.length ≤ i⟩
def Itt (K : PySem.W.Frag) (a : Addr) : It :=
  ⟨fun i H => ∃ xs x, SqT K H a xs ∧ xs[i]? = some x, fun i H x H' => H' = H ∧ ∀ xs, SqT K H a xs → xs[i]? = some x, fun i H => ∃ xs, SqT K H a xs ∧ xs.length ≤ i⟩
/-- lo, lo + 1, .. (n of them) -/
def Itr (lo : Int) (n : Nat) : It := ⟨fun i _ => i < n, fun i H x H' => H' = H ∧ x = .int (lo + i), fun i _ => n ≤ i⟩
theorem turn_list {P : Program} {w : World} {K : PySem.W.Frag} {tg : Expr} (a it : Addr) : Turn P w K tg (Itl K a) [it] it (fun i h => h.IsListIter it a i) where
  mem := by simp
  obj := fun i h st b hb => by
    have e : b = it := by simpa using hb
    subst e
    obtain ⟨o, e, c, d⟩ := st
    exact ⟨o, e, fun v z => by rw [d] at z; cases z⟩
  keep := fun i h h' st k => st.at fun o e => k it (by simp) o e
  item := by
    intro X hP hw hK hc i pins s σ H E I hf st hg
    subst hP hw hK
    obtain ⟨xs, x, hq, hx⟩ := hg
    obtain ⟨its, rv, p, hz⟩ := I.list hq
    obtain ⟨u, hu, ru⟩ := rv.get hx
    obtain ⟨f0, f1, f2, f3, f4, f5⟩ := hf it (by simp)
    refine wpAny_pyNext_list_item st p.isList (x := u) (by simpa using hu) fun h' st' sb => ?_
    have I1 : Inv X pins σ H { s with heap := h' } := I.turned (t' := s.toks) (fun b o hb e => (sb.2 b hb).trans e) f0 f1 f3 f4 f5
    obtain ⟨o, e, c, d⟩ := id st'
    exact ⟨u, rfl, go_of (s := { s with heap := h' }) e c d (by decide) ⟨x, H, I1, ru, ⟨rfl, fun ys hy => by rw [I.list_inj hy hq]; exact hx⟩, st', fun b hb => (hf b hb).1⟩⟩
  done := by
    intro X hP hw hK hc i pins s σ H E I hf st hg
    subst hP hw hK
    obtain ⟨xs, hq, hx⟩ := hg
    obtain ⟨its, rv, p, hz⟩ := I.list hq
    obtain ⟨f0, f1, f2, f3, f4, f5⟩ := hf it (by simp)
    have hl := rv.length
    exact list_endH I.hd st p.isList (by simp; omega) fun h' eb => ⟨rfl, I.turned (t' := s.toks) (fun b o hb e => eb b o hb e) f0 f1 f3 f4 f5⟩
  self := fun _ _ _ _ _ st h => wpAny_pyIter_listiter st h
theorem turn_range {P : Program} {w : World} {K : PySem.W.Frag} {tg : Expr} (it : Addr) (lo : Int) (n : Nat) : Turn P w K tg (Itr lo n) [it] it (fun i h => IsRangeIter h it (lo + (i : Nat) * 1) ((n : Int) - (i : Nat)) 1) where
  mem := by simp
  obj := fun i h st b hb => by
    have e : b = it := by simpa using hb
    subst e
    exact ⟨_, st, fun v z => by
      have z' : Data.fields _ = Data.cell v := z
      cases z'⟩
  keep := fun i h h' st k => k it (by simp) _ st
  item := by
    intro X hP hw hK hc i pins s σ H E I hf st hg
    subst hP hw hK
    obtain ⟨f0, f1, f2, f3, f4, f5⟩ := hf it (by simp)
    have hlt : i < n := hg
    refine wpAny_pyNext_range_item st (by omega) fun h' st' sb => ?_
    have I1 : Inv X pins σ H { s with heap := h', toks := s.toks + 1 } := I.turned (fun b o hb e => (sb.2 b hb).trans e) f0 f1 f3 f4 f5
    have e1 : lo + (i : Int) * 1 + 1 = lo + ((i + 1 : Nat) : Int) * 1 := by omega
    have e2 : (n : Int) - (i : Int) - 1 = (n : Int) - ((i + 1 : Nat) : Int) := by omega
    rw [e1, e2] at st'
    refine ⟨_, rfl, go_of (s := { s with heap := h', toks := s.toks + 1 }) (n := "range_iterator") st' rfl rfl (by decide) ⟨.int (lo + i), H, I1, ⟨s.toks, ?_⟩, ⟨rfl, rfl⟩, st', fun b hb => (hf b hb).1⟩⟩
    rw [Int.mul_one]
  done := by
    intro X hP hw hK hc i pins s σ H E I hf st hg
    subst hP hw hK
    obtain ⟨f0, f1, f2, f3, f4, f5⟩ := hf it (by simp)
    exact range_endH I.hd st (by have : n ≤ i := hg; omega) fun h' eb => ⟨rfl, I.turned (t' := s.toks) (fun b o hb e => eb b o hb e) f0 f1 f3 f4 f5⟩
  self := fun _ _ _ _ _ st h => wpAny_pyIter_rangeiter st h
end L2

namespace L2
open PySem PySem.Spec PyProof.Rows
section
variable {X : Cx} {tg : Expr}
def iList (K : PySem.W.Frag) (tl : TE) : TI := fun σ H R => tl σ H fun x H1 => ∃ a, x = .ref a ∧ (∃ xs, SqL K H1 a xs) ∧ R (Itl K a) H1
def iTup (K : PySem.W.Frag) (tl : TE) : TI := fun σ H R => tl σ H fun x H1 => ∃ a, x = .ref a ∧ (∃ xs, SqT K H1 a xs) ∧ R (Itt K a) H1
theorem pi_list {l : Expr} {tl : TE} (hl : PE X l tl) : PI X tg l (iList X.K tl) := by
  intro pins s σ H R I h
  refine thn (hl pins s σ H _ I h) fun v s1 ⟨x, H1, I1, r1, q1⟩ => ?_
  obtain ⟨a, e, ⟨xs, hq⟩, q⟩ := q1
  subst e
  cases r1
  obtain ⟨its, rv, p, hz⟩ := I1.list hq
  refine wpAny_pyIter_list p.isList ?_
  refine ⟨s1.heap.objs.size, [s1.heap.objs.size], _, _, H1, rfl, I1.kept (t' := s1.toks) fun b o e => Heap.get?_push_of_some _ e, turn_list a _, ⟨_, Heap.get?_push_size _ rfl, rfl, rfl⟩, fun b hb => ?_, q⟩
  have e : b = s1.heap.objs.size := by simpa using hb
  subst e
  exact I1.fpOk (Nat.le_refl _) (I1.hok.fresh (Nat.le_refl _))
/-- a range object just made, walked -/
theorem range_it {pins : List (Addr × Obj)} {σ : St} {H : Hp} {s : Shared} {R : It → Hp → Prop} {E : Value → Shared → Prop} {lo hi : Int} {t u v : Tok} {tk : Nat} (I : Inv X pins σ H s) (h1 : -(2 ^ 62) ≤ lo) (h2 : lo < 2 ^ 62) (h3 : -(2 ^ 62) ≤ hi) (h4 : hi < 2 ^ 62)
    (q : R (Itr lo (hi - lo).toNat) H) : wpAny (model X.prog X.w) X.A (pyIter (.ref s.heap.objs.size)) (PIE X pins σ tg R) E { s with heap := s.heap.push { cls := .type "range", data := .fields #[.int lo t, .int hi u, .int 1 v] }, toks := tk } := by
  refine wpAny_pyIter_range (IsRange.new ..) (small_one h1 h2 h3 h4) ?_
  have I1 : Inv X pins σ H { s with heap := s.heap.push { cls := .type "range", data := .fields #[.int lo t, .int hi u, .int 1 v] }, toks := tk } := I.kept fun b o e => Heap.get?_push_of_some _ e
  refine ⟨(s.heap.push { cls := .type "range", data := .fields #[.int lo t, .int hi u, .int 1 v] }).objs.size, [(s.heap.push { cls := .type "range", data := .fields #[.int lo t, .int hi u, .int 1 v] }).objs.size], _, _, H, rfl,
    I1.kept (t' := tk) fun b o e => Heap.get?_push_of_some _ e, turn_range _ lo (hi - lo).toNat, ?_, fun b hb => ?_, q⟩
  · have e1 : lo + ((0 : Nat) : Int) * 1 = lo := by simp
    have e2 : (((hi - lo).toNat : Nat) : Int) - ((0 : Nat) : Int) = Builtin.Range.rangeSize lo hi 1 := by rw [rangeSize_one]; split <;> omega
    show IsRangeIter _ _ (lo + ((0 : Nat) : Int) * 1) ((((hi - lo).toNat : Nat) : Int) - ((0 : Nat) : Int)) 1
    rw [e1, e2]
    exact Heap.get?_push_size _ rfl
  · have e : b = (s.heap.push { cls := .type "range", data := .fields #[.int lo t, .int hi u, .int 1 v] }).objs.size := by simpa using hb
    subst e
    exact I1.fpOk (Nat.le_refl _) (I1.hok.fresh (Nat.le_refl _))
def iRng1 (ta : TA) : TI := fun σ H R => ta σ H fun vs H1 => ∃ j : Int, vs = [.int j] ∧ -(2 ^ 62) ≤ j ∧ j < 2 ^ 62 ∧ R (Itr 0 j.toNat) H1
def iRng2 (ta : TA) : TI := fun σ H R => ta σ H fun vs H1 => ∃ i j : Int, vs = [.int i, .int j] ∧ (-(2 ^ 62) ≤ i ∧ i < 2 ^ 62 ∧ -(2 ^ 62) ≤ j ∧ j < 2 ^ 62) ∧ R (Itr i (j - i).toNat) H1
theorem pi_range1 {a : Expr} {ta : TA} {p pos : Pos} (hg : Gl X "range") (hm : X.mg "range" = none) (ha : PA X [a] ta) (hs : starEach [a] X.env = [(false, eval a X.env)] := by rfl) : PI X tg (.Call (.Name "range" p) [a] [] pos) (iRng1 ta) := by
  intro pins s σ H R I h
  refine Call_ (ld_blt I hg hm boot_range (PyProof.Rows.callWith_type1 (thn (ha pos pins s σ H _ I h) fun us s1 ⟨vs, H1, I1, r1, q1⟩ => ?_) hs rfl))
  obtain ⟨j, e, q1, q2, q⟩ := q1
  subst e
  cases r1 with
  | cons r rr =>
    cases rr
    obtain ⟨t, rfl⟩ := r
    exact call_range_1 (range_it I1 (by omega) (by omega) q1 q2 (by simpa using q))
/-! ### for -/
/-- W: the invariant by the turn and a measure; N: what the body is to reach -/
def tFor (wi : TI) (g : TG) (tb : TS) : TS := fun D σ H => wi σ H fun J H1 => ∃ W : Nat → Nat → St → Hp → Prop, (∃ m, W 0 m σ H1) ∧ ∀ i m σ H, W i m σ H →
  (J.stop i H ∧ D.nx σ H) ∨ (J.go i H ∧ ∃ N : St → Hp → Prop, (∀ σ' H', N σ' H' → ∃ m', m' < m ∧ W (i + 1) m' σ' H') ∧ ∀ x H', J.yld i H x H' → g x σ H' fun σ2 H2 => tb { D with nx := N, ct := N, bk := D.nx } σ2 H2)
/-- the records at fp as they stand -/
def pinsAt (fp : List Addr) (h : Heap) : List (Addr × Obj) := fp.filterMap fun b => (h.get? b).map fun o => (b, o)
theorem mem_pinsAt {fp : List Addr} {h : Heap} {b : Addr} {o : Obj} (hb : b ∈ fp) (e : h.get? b = some o) : (b, o) ∈ pinsAt fp h := List.mem_filterMap.mpr ⟨b, hb, by rw [e]; rfl⟩
theorem of_pinsAt {fp : List Addr} {h : Heap} {p : Addr × Obj} (hp : p ∈ pinsAt fp h) : p.1 ∈ fp ∧ h.get? p.1 = some p.2 := by
  obtain ⟨b, hb, e⟩ := List.mem_filterMap.mp hp
  cases q : h.get? b with
  | none => rw [q] at e; cases e
  | some o =>
    rw [q] at e
    have e' : (b, o) = p := Option.some.inj e
    subst e'
    exact ⟨hb, q⟩
theorem Inv.pinned {pins : List (Addr × Obj)} {σ : St} {H : Hp} {s : Shared} {fp : List Addr} (I : Inv X pins σ H s) (hf : ∀ b ∈ fp, FpOk X pins H b) (ho : ∀ b ∈ fp, ∃ o, s.heap.get? b = some o ∧ ∀ v, o.data ≠ .cell v) : Inv X (pins ++ pinsAt fp s.heap) σ H s :=
  I.pins_of fun p hp => (List.mem_append.mp hp).elim (fun z => I.pin p (List.mem_append_right _ z)) fun z => by
    obtain ⟨hb, e⟩ := of_pinsAt z
    obtain ⟨f0, f1, f2, _⟩ := hf p.1 hb
    obtain ⟨o, e', d⟩ := ho p.1 hb
    rw [e] at e'; cases e'
    exact ⟨e, f0, f1, f2, d⟩
theorem Inv.unpinned {pins pl : List (Addr × Obj)} {σ : St} {H : Hp} {s : Shared} (I : Inv X (pins ++ pl) σ H s) : Inv X pins σ H s := I.pins_of fun p hp => I.pin p (List.mem_append_right _ (List.mem_append_left _ hp))
theorem ps_for {iter : Expr} {body : List Stmt} {wi : TI} {g : TG} {tb : TS} {pos : Pos} (hp : PassesOwn (model X.prog X.w) X.A X.env X.xe) (hc : X.calm = true) (hi : PI X tg iter wi) (hg : PG X tg g) (hb : PSs X body tb)
    (hs : ∀ x, foldedSetIterable iter X.env x = pure x := by intro _; rfl) : PS X (.For tg iter body [] pos) (tFor wi g tb) := by
  intro pins s σ H D I h
  refine wpAny_For (thn (hi pins s σ H _ I h) fun v s1 h1 => thn h1 fun itv s2 h2 => ?_) hs
  obtain ⟨it, fp, tn, J, H2, e, I2, T, st2, f2, W, ⟨m0, w0⟩, turn⟩ := h2
  subst e
  -- what stays true of the iterator's objects through the loop
  have stat : ∀ {H' : Hp}, (∀ b ∈ fp, H' b = none) → ∀ b ∈ fp, FpOk X pins H' b := fun hn b hb => ⟨hn b hb, (f2 b hb).2⟩
  refine codeAny_forLoop_any (fun n s' => ∃ i σ' H', Inv X pins σ' H' s' ∧ tn i s'.heap ∧ (∀ b ∈ fp, H' b = none) ∧ W i n σ' H') ?_ m0 ⟨0, σ, H2, I2, st2, fun b hb => (f2 b hb).1, w0⟩
  rintro n s3 ⟨i, σ3, H3, I3, st3, fr3, w3⟩
  rcases turn i n σ3 H3 w3 with ⟨stop, qn⟩ | ⟨go, N, hN, step⟩
  · refine wpAny_passesOwn hp (thn (T.done X rfl rfl rfl hc i pins s3 σ3 H3 X.xe I3 (stat fr3) st3 stop) fun r s4 ⟨hr, I4⟩ => ?_)
    subst hr
    exact wpAny_execs_nil ⟨σ3, H3, I4, qn⟩
  · refine wpAny_passesOwn hp (thn (T.item X rfl rfl rfl hc i pins s3 σ3 H3 X.xe I3 (stat fr3) st3 go) fun r s4 ⟨u, hr, h4⟩ => ?_)
    subst hr
    refine wpAny_passesOwn hp (thn h4 fun _ s5 ⟨x, H5, I5, r5, y5, st5, fr5⟩ => ?_)
    have I5' := I5.pinned (stat fr5) (T.obj _ _ st5)
    refine wpAny_passesOwn hp (thn (hg _ s5 σ3 H5 x u _ I5' r5 (step x H5 y5)) fun _ s6 ⟨σ6, H6, I6, q6⟩ => ?_)
    refine wpAny_passesOwn hp (thn (hb _ s6 σ6 H6 _ I6 q6) fun f s7 q7 => ?_)
    have again : ∀ {σ7 : St} {H7 : Hp}, Inv X (pins ++ pinsAt fp s5.heap) σ7 H7 s7 → N σ7 H7 → ∃ m, m < n ∧ ∃ i σ' H', Inv X pins σ' H' s7 ∧ tn i s7.heap ∧ (∀ b ∈ fp, H' b = none) ∧ W i m σ' H' := fun {σ7 H7} I7 n7 => by
      obtain ⟨m', hm, w7⟩ := hN σ7 H7 n7
      refine ⟨m', hm, i + 1, σ7, H7, I7.unpinned, T.keep _ _ _ st5 fun b hb o e => (I7.pin (b, o) (List.mem_append_right _ (List.mem_append_right _ (mem_pinsAt hb e)))).1, fun b hb => ?_, w7⟩
      obtain ⟨o, e, d⟩ := T.obj _ _ st5 b hb
      exact (I7.pin (b, o) (List.mem_append_right _ (List.mem_append_right _ (mem_pinsAt hb e)))).2.1
    cases f with
    | next => obtain ⟨σ7, H7, I7, n7⟩ := q7; exact again I7 n7
    | cont => obtain ⟨σ7, H7, I7, n7⟩ := q7; exact again I7 n7
    | brk => obtain ⟨σ7, H7, I7, q7⟩ := q7; exact ⟨σ7, H7, I7.unpinned, q7⟩
    | ret v => obtain ⟨x7, σ7, H7, I7, r7, q7⟩ := q7; exact ⟨x7, σ7, H7, I7.unpinned, r7, q7⟩
end

/-! ### the forms one uses -/
/-- over a list that the body leaves as it is -/
theorem for_list {K : PySem.W.Frag} {a : Addr} {xs : List V} {g : TG} {tb : TS} {D : Ends} {σ : St} {H : Hp} (Pv : Nat → St → Hp → Prop) (h0 : Pv 0 σ H) (hl : ∀ i σ H, i ≤ xs.length → Pv i σ H → SqL K H a xs)
    (hs : ∀ i x σ H, xs[i]? = some x → Pv i σ H → g x σ H fun σ2 H2 => tb { D with nx := Pv (i + 1), ct := Pv (i + 1), bk := D.nx } σ2 H2) (hd : ∀ σ H, Pv xs.length σ H → D.nx σ H) :
    ∃ W : Nat → Nat → St → Hp → Prop, (∃ m, W 0 m σ H) ∧ ∀ i m σ H, W i m σ H →
      ((Itl K a).stop i H ∧ D.nx σ H) ∨ ((Itl K a).go i H ∧ ∃ N : St → Hp → Prop, (∀ σ' H', N σ' H' → ∃ m', m' < m ∧ W (i + 1) m' σ' H') ∧ ∀ x H', (Itl K a).yld i H x H' → g x σ H' fun σ2 H2 => tb { D with nx := N, ct := N, bk := D.nx } σ2 H2) := by
  refine ⟨fun i m σ H => m = xs.length - i ∧ i ≤ xs.length ∧ Pv i σ H, ⟨xs.length, by simp, Nat.zero_le _, h0⟩, ?_⟩
  rintro i m σ H ⟨rfl, hi, p⟩
  have q := hl i σ H hi p
  by_cases hlt : i < xs.length
  · refine .inr ⟨⟨xs, xs[i], q, by simp [hlt]⟩, Pv (i + 1), fun σ' H' p' => ⟨xs.length - (i + 1), by omega, rfl, hlt, p'⟩, fun x H' y => ?_⟩
    obtain ⟨e, y⟩ := y
    subst e
    exact hs i x σ _ (y xs q) p
  · have e : i = xs.length := by omega
    subst e
    exact .inl ⟨⟨xs, q, Nat.le_refl _⟩, hd σ H p⟩
theorem for_range {lo : Int} {n : Nat} {g : TG} {tb : TS} {D : Ends} {σ : St} {H : Hp} (Pv : Nat → St → Hp → Prop) (h0 : Pv 0 σ H)
    (hs : ∀ i σ H, i < n → Pv i σ H → g (.int (lo + i)) σ H fun σ2 H2 => tb { D with nx := Pv (i + 1), ct := Pv (i + 1), bk := D.nx } σ2 H2) (hd : ∀ σ H, Pv n σ H → D.nx σ H) :
    ∃ W : Nat → Nat → St → Hp → Prop, (∃ m, W 0 m σ H) ∧ ∀ i m σ H, W i m σ H →
      ((Itr lo n).stop i H ∧ D.nx σ H) ∨ ((Itr lo n).go i H ∧ ∃ N : St → Hp → Prop, (∀ σ' H', N σ' H' → ∃ m', m' < m ∧ W (i + 1) m' σ' H') ∧ ∀ x H', (Itr lo n).yld i H x H' → g x σ H' fun σ2 H2 => tb { D with nx := N, ct := N, bk := D.nx } σ2 H2) := by
  refine ⟨fun i m σ H => m = n - i ∧ i ≤ n ∧ Pv i σ H, ⟨n, by simp, Nat.zero_le _, h0⟩, ?_⟩
  rintro i m σ H ⟨rfl, hi, p⟩
  by_cases hlt : i < n
  · refine .inr ⟨hlt, Pv (i + 1), fun σ' H' p' => ⟨n - (i + 1), by omega, rfl, hlt, p'⟩, fun x H' y => ?_⟩
    obtain ⟨e, y⟩ := y
    subst e y
    exact hs i σ _ hlt p
  · have e : i = n := by omega
    subst e
    exact .inl ⟨Nat.le_refl _, hd σ H p⟩
end L2

namespace L2
open PySem PySem.Spec PyProof.Rows

abbrev R2 := V → V → Hp → VK → Prop
/-- a two-place operation on values: f is binaryOp op, inplaceOp op or compareOp op -/
def OpR (X : Cx) (f : Value → Value → Sem Value) (r : R2) : Prop :=
  ∀ (pins : List (Addr × Obj)) (s : Shared) (σ : St) (H : Hp) (x y : V) (v u : Value) (Q : VK), Inv X pins σ H s → RelV x v → RelV y u → r x y H Q →
    wpAny (model X.prog X.w) X.A (f v u) (EP X pins σ Q) X.xe s
/-- a one-place operation -/
def UnR (X : Cx) (f : Value → Sem Value) (r : V → Hp → VK → Prop) : Prop :=
  ∀ (pins : List (Addr × Obj)) (s : Shared) (σ : St) (H : Hp) (x : V) (v : Value) (Q : VK), Inv X pins σ H s → RelV x v → r x H Q →
    wpAny (model X.prog X.w) X.A (f v) (EP X pins σ Q) X.xe s
/-- a call of a value that is known (a builtin, a type) with values -/
def CallR (X : Cx) (f : Value) (r : List V → Hp → VK → Prop) : Prop :=
  ∀ (pins : List (Addr × Obj)) (s : Shared) (σ : St) (H : Hp) (xs : List V) (us : List Value) (Q : VK), Inv X pins σ H s → Vals xs us → r xs H Q →
    wpAny (model X.prog X.w) X.A (call f us) (EP X pins σ Q) X.xe s
/-- a value's truth -/
def TruR (X : Cx) (r : V → Hp → (Bool → Hp → Prop) → Prop) : Prop :=
  ∀ (pins : List (Addr × Obj)) (s : Shared) (σ : St) (H : Hp) (x : V) (v : Value) (Q : Bool → Hp → Prop), Inv X pins σ H s → RelV x v → r x H Q →
    wpAny (model X.prog X.w) X.A (truthy v) (TP X pins σ Q) X.xe s

def tOp (r : R2) (ta tb : TE) : TE := fun σ H Q => ta σ H fun x H1 => tb σ H1 fun y H2 => r x y H2 Q
def tUn (r : V → Hp → VK → Prop) (ta : TE) : TE := fun σ H Q => ta σ H fun x H1 => r x H1 Q
/-- ints in, under C, and a value out -/
def rI (C : Int → Int → Prop) (g : Int → Int → V) : R2 := fun x y H Q => ∃ i j, x = .int i ∧ y = .int j ∧ C i j ∧ Q (g i j) H
def rI0 (g : Int → Int → V) : R2 := fun x y H Q => ∃ i j, x = .int i ∧ y = .int j ∧ Q (g i j) H
def rU (g : Int → V) : V → Hp → VK → Prop := fun x H Q => ∃ i, x = .int i ∧ Q (g i) H

section
variable {X : Cx} {a b c : Expr} {ta tb tc : TE} {pos : Pos}

theorem binT (ha : PE X a ta) (hb : PE X b tb) {pins : List (Addr × Obj)} {s : Shared} {σ : St} {H : Hp} {R : V → V → Hp → Prop} (I : Inv X pins σ H s)
    (h : ta σ H fun x H1 => tb σ H1 fun y H2 => R x y H2) {Q : Value → Shared → Prop} {f : Value → Value → Sem Value}
    (hf : ∀ v u s2 x y H2, Inv X pins σ H2 s2 → RelV x v → RelV y u → R x y H2 → wpAny (model X.prog X.w) X.A (f v u) Q X.xe s2) :
    wpAny (model X.prog X.w) X.A (eval a X.env) (fun v s₁ => wpAny (model X.prog X.w) X.A (eval b X.env) (fun u s₂ => wpAny (model X.prog X.w) X.A (f v u) Q X.xe s₂) X.xe s₁) X.xe s := by
  refine thn (ha pins s σ H _ I h) fun v s1 ⟨x, H1, I1, r1, q1⟩ => ?_
  refine thn (hb pins s1 σ H1 _ I1 q1) fun u s2 ⟨y, H2, I2, r2, q2⟩ => ?_
  exact hf v u s2 x y H2 I2 r1 r2 q2

theorem pe_op {op : Operator} {r : R2} (ho : OpR X (binaryOp op) r) (ha : PE X a ta) (hb : PE X b tb) : PE X (.BinOp a op b pos) (tOp r ta tb) := by
  intro pins s σ H Q I h
  exact wpAny_BinOp (binT ha hb I h fun v u s2 x y H2 I2 rx ry q => ho pins s2 σ H2 x y v u Q I2 rx ry q)
theorem pe_un {op : UnaryOp} {r : V → Hp → VK → Prop} (ho : UnR X (unaryOp op) r) (ha : PE X a ta) : PE X (.UnaryOp op a pos) (tUn r ta) := by
  intro pins s σ H Q I h
  exact UnaryOp_ (thn (ha pins s σ H _ I h) fun v s1 ⟨x, H1, I1, r1, q1⟩ => ho pins s1 σ H1 x v Q I1 r1 q1)
/-! ### ints -/
theorem opI {f : Value → Value → Sem Value} {C : Int → Int → Prop} {g : Int → Int → Int}
    (rule : ∀ (i j : Int) (t u : Tok) (s : Shared) (Q : Value → Shared → Prop) (E : Value → Shared → Prop), C i j → Q (.int (g i j) s.toks) { s with toks := s.toks + 1 } → wpAny (model X.prog X.w) X.A (f (.int i t) (.int j u)) Q E s) :
    OpR X f (rI C fun i j => .int (g i j)) := by
  intro pins s σ H x y v u Q I rx ry h
  obtain ⟨i, j, rfl, rfl, hc, q⟩ := h
  obtain ⟨t, rfl⟩ := rx
  obtain ⟨t', rfl⟩ := ry
  exact rule i j t t' s _ _ hc ⟨.int (g i j), H, I.tok _, ⟨_, rfl⟩, q⟩
theorem opI0 {f : Value → Value → Sem Value} {g : Int → Int → Int}
    (rule : ∀ (i j : Int) (t u : Tok) (s : Shared) (Q : Value → Shared → Prop) (E : Value → Shared → Prop), Q (.int (g i j) s.toks) { s with toks := s.toks + 1 } → wpAny (model X.prog X.w) X.A (f (.int i t) (.int j u)) Q E s) :
    OpR X f (rI0 fun i j => .int (g i j)) := by
  intro pins s σ H x y v u Q I rx ry h
  obtain ⟨i, j, rfl, rfl, q⟩ := h
  obtain ⟨t, rfl⟩ := rx
  obtain ⟨t', rfl⟩ := ry
  exact rule i j t t' s _ _ ⟨.int (g i j), H, I.tok _, ⟨_, rfl⟩, q⟩
theorem opB0 {f : Value → Value → Sem Value} {g : Int → Int → Bool}
    (rule : ∀ (i j : Int) (t u : Tok) (s : Shared) (Q : Value → Shared → Prop) (E : Value → Shared → Prop), Q (.bool (g i j)) s → wpAny (model X.prog X.w) X.A (f (.int i t) (.int j u)) Q E s) :
    OpR X f (rI0 fun i j => .bl (g i j)) := by
  intro pins s σ H x y v u Q I rx ry h
  obtain ⟨i, j, rfl, rfl, q⟩ := h
  obtain ⟨t, rfl⟩ := rx
  obtain ⟨t', rfl⟩ := ry
  exact rule i j t t' s _ _ ⟨.bl (g i j), H, I, rfl, q⟩

def CDiv (i j : Int) : Prop := 0 < j ∧ j < 1073741824
def CDivN (i j : Int) : Prop := j ≠ 0 ∧ j.natAbs < 1073741824
def CPow (i j : Int) : Prop := 0 ≤ j ∧ j ≤ 1000000 ∧ i.natAbs < 2 ^ 64
def CMul (i j : Int) : Prop := (-(2 ^ 64) < i ∧ i < 2 ^ 64) ∨ (-(2 ^ 64) < j ∧ j < 2 ^ 64)
theorem CMul.ok {i j : Int} (h : CMul i j) : IntMulOk i j := by
  rcases h with ⟨h1, h2⟩ | ⟨h1, h2⟩
  · exact .of_left (intBits_le_64 h1 h2)
  · exact .of_right (intBits_le_64 h1 h2)
theorem op_add : OpR X (binaryOp .Add) (rI0 fun i j => .int (i + j)) := opI0 fun _ _ _ _ _ _ _ q => add_int q
theorem op_sub : OpR X (binaryOp .Sub) (rI0 fun i j => .int (i - j)) := opI0 fun _ _ _ _ _ _ _ q => sub_int q
theorem op_mul : OpR X (binaryOp .Mult) (rI CMul fun i j => .int (i * j)) := opI fun _ _ _ _ _ _ _ hc q => mul_int q hc.ok
/-- // by a positive divisor -/
theorem op_fdiv : OpR X (binaryOp .FloorDiv) (rI CDiv fun i j => .int (i / j)) := opI fun i j _ _ _ _ _ hc q => by
  have h1 : (0 : Int) < j := hc.1
  have h2 : j < 1073741824 := hc.2
  exact floordiv_int (by omega) (by rw [Int.fdiv_eq_ediv_of_nonneg i (by omega)]; exact q) (.inl (PyProof.noPylong_small (by omega)))
/-- % by a positive divisor of any size -/
theorem op_mod : OpR X (binaryOp .Mod) (rI (fun _ j => 0 < j) fun i j => .int (i % j)) := opI fun i j _ _ _ _ _ hc q => by
  have h1 : (0 : Int) < j := hc
  exact mod_int' (by omega) (by rw [Int.fmod_eq_emod_of_nonneg i (by omega)]; exact q)
theorem op_pow : OpR X (binaryOp .Pow) (rI CPow fun i j => .int (i ^ j.toNat)) := opI fun _ _ _ _ _ _ _ hc q => pow_int_small hc.1 hc.2.1 hc.2.2 q
theorem unI {f : Value → Sem Value} {g : Int → Int}
    (rule : ∀ (i : Int) (t : Tok) (s : Shared) (Q : Value → Shared → Prop) (E : Value → Shared → Prop), Q (.int (g i) s.toks) { s with toks := s.toks + 1 } → wpAny (model X.prog X.w) X.A (f (.int i t)) Q E s) :
    UnR X f (rU fun i => .int (g i)) := by
  intro pins s σ H x v Q I rx h
  obtain ⟨i, rfl, q⟩ := h
  obtain ⟨t, rfl⟩ := rx
  exact rule i t s _ _ ⟨.int (g i), H, I.tok _, ⟨_, rfl⟩, q⟩
theorem un_neg : UnR X (unaryOp .USub) (rU fun i => .int (-i)) := unI fun _ _ _ _ _ q => neg_int q
/-! ### bools among ints: n += (a < b) -/
end

/-! ### comparisons -/
/-- the scalars that == tells apart as data does -/
def scal : V → V → Bool
  | .non, .non => true | .non, .int _ => true | .int _, .non => true | .non, .bl _ => true | .bl _, .non => true | .non, .str _ => true | .str _, .non => true
  | .int _, .int _ => true | .bl _, .bl _ => true | .str _, .str _ => true | .byt _, .byt _ => true
  | .int _, .str _ => true | .str _, .int _ => true | .bl _, .str _ => true | .str _, .bl _ => true
  | _, _ => false
def rEq : R2 := fun x y H Q => scal x y = true ∧ Q (.bl (decide (x = y))) H
def rNe : R2 := fun x y H Q => scal x y = true ∧ Q (.bl (!decide (x = y))) H

theorem dec_int {i j : Int} : decide (V.int i = V.int j) = (i == j) := by
  rw [Bool.eq_iff_iff]
  simp
theorem dec_bl {i j : Bool} : decide (V.bl i = V.bl j) = (i == j) := by
  rw [Bool.eq_iff_iff]
  simp
theorem dec_str {i j : Str} : decide (V.str i = V.str j) = (i == j) := by
  rw [Bool.eq_iff_iff]
  simp
theorem dec_byt {i j : Array UInt8} : decide (V.byt i = V.byt j) = (i.toList == j.toList) := by
  rw [Bool.eq_iff_iff]
  cases i
  cases j
  simp

section
variable {X : Cx} {a b c : Expr} {ta tb tc : TE} {pos : Pos}
theorem fin_bl {pins : List (Addr × Obj)} {σ : St} {H : Hp} {s : Shared} {Q : VK} {k k' : Bool} (I : Inv X pins σ H s) (q : Q (.bl k) H) (e : k = k') : EP X pins σ Q (.bool k') s := by
  subst e
  exact ⟨.bl k, H, I, rfl, q⟩
theorem op_eq : OpR X (compareOp .Eq) rEq := by
  intro pins s σ H x y v u Q I rx ry h
  obtain ⟨hs, q⟩ := h
  cases x with
  | non =>
    cases rx
    cases y with
    | non => cases ry; exact PySem.EqNone.eq_none_none (fin_bl I q (by simp))
    | bl j => cases ry; exact PySem.EqNone.eq_none_bool (fin_bl I q (by simp))
    | int j => obtain ⟨t', rfl⟩ := ry; exact PySem.EqNone.eq_none_int (fin_bl I q (by simp))
    | str j => obtain ⟨t', rfl⟩ := ry; exact PySem.EqNone.eq_none_str (fin_bl I q (by simp))
    | _ => exact absurd (show false = true from hs) Bool.false_ne_true
  | bl i =>
    cases rx
    cases y with
    | non => cases ry; exact PySem.EqNone.eq_bool_none (fin_bl I q (by simp))
    | bl j => cases ry; exact eq_bool (fin_bl I q dec_bl)
    | str j => obtain ⟨t', rfl⟩ := ry; exact PySem.EqMixed.eq_bool_str (fin_bl I q (by simp))
    | _ => exact absurd (show false = true from hs) Bool.false_ne_true
  | int i =>
    obtain ⟨t, rfl⟩ := rx
    cases y with
    | non => cases ry; exact PySem.EqNone.eq_int_none (fin_bl I q (by simp))
    | int j => obtain ⟨t', rfl⟩ := ry; exact eq_int (fin_bl I q dec_int)
    | str j => obtain ⟨t', rfl⟩ := ry; exact PySem.EqMixed.eq_int_str (fin_bl I q (by simp))
    | _ => exact absurd (show false = true from hs) Bool.false_ne_true
  | str i =>
    obtain ⟨t, rfl⟩ := rx
    cases y with
    | non => cases ry; exact PySem.EqNone.eq_str_none (fin_bl I q (by simp))
    | bl j => cases ry; exact PySem.EqMixed.eq_str_bool (fin_bl I q (by simp))
    | int j => obtain ⟨t', rfl⟩ := ry; exact PySem.EqMixed.eq_str_int (fin_bl I q (by simp))
    | str j => obtain ⟨t', rfl⟩ := ry; exact eq_str (fin_bl I q dec_str)
    | _ => exact absurd (show false = true from hs) Bool.false_ne_true
  | byt i =>
    obtain ⟨t, rfl⟩ := rx
    cases y with
    | byt j => obtain ⟨t', rfl⟩ := ry; exact PySem.W.eq_bytes (fin_bl I q dec_byt)
    | _ => exact absurd (show false = true from hs) Bool.false_ne_true
  | _ => cases y <;> exact absurd (show false = true from hs) Bool.false_ne_true
theorem op_ne : OpR X (compareOp .NotEq) rNe := by
  intro pins s σ H x y v u Q I rx ry h
  obtain ⟨hs, q⟩ := h
  cases x with
  | non =>
    cases rx
    cases y with
    | non => cases ry; exact PySem.EqNone.ne_none_none (fin_bl I q (by simp))
    | bl j => cases ry; exact PySem.EqNone.ne_none_bool (fin_bl I q (by simp))
    | int j => obtain ⟨t', rfl⟩ := ry; exact PySem.EqNone.ne_none_int (fin_bl I q (by simp))
    | str j => obtain ⟨t', rfl⟩ := ry; exact PySem.EqNone.ne_none_str (fin_bl I q (by simp))
    | _ => exact absurd (show false = true from hs) Bool.false_ne_true
  | bl i =>
    cases rx
    cases y with
    | non => cases ry; exact PySem.EqNone.ne_bool_none (fin_bl I q (by simp))
    | bl j => cases ry; exact ne_bool (fin_bl I q (congrArg not dec_bl))
    | str j => obtain ⟨t', rfl⟩ := ry; exact PySem.EqMixed.ne_bool_str (fin_bl I q (by simp))
    | _ => exact absurd (show false = true from hs) Bool.false_ne_true
  | int i =>
    obtain ⟨t, rfl⟩ := rx
    cases y with
    | non => cases ry; exact PySem.EqNone.ne_int_none (fin_bl I q (by simp))
    | int j => obtain ⟨t', rfl⟩ := ry; exact ne_int (fin_bl I q (congrArg not dec_int))
    | str j => obtain ⟨t', rfl⟩ := ry; exact PySem.EqMixed.ne_int_str (fin_bl I q (by simp))
    | _ => exact absurd (show false = true from hs) Bool.false_ne_true
  | str i =>
    obtain ⟨t, rfl⟩ := rx
    cases y with
    | non => cases ry; exact PySem.EqNone.ne_str_none (fin_bl I q (by simp))
    | bl j => cases ry; exact PySem.EqMixed.ne_str_bool (fin_bl I q (by simp))
    | int j => obtain ⟨t', rfl⟩ := ry; exact PySem.EqMixed.ne_str_int (fin_bl I q (by simp))
    | str j => obtain ⟨t', rfl⟩ := ry; exact ne_str (fin_bl I q (congrArg not dec_str))
    | _ => exact absurd (show false = true from hs) Bool.false_ne_true
  | byt i =>
    obtain ⟨t, rfl⟩ := rx
    cases y with
    | byt j => obtain ⟨t', rfl⟩ := ry; exact PySem.W.ne_bytes (fin_bl I q (congrArg not dec_byt))
    | _ => exact absurd (show false = true from hs) Bool.false_ne_true
  | _ => cases y <;> exact absurd (show false = true from hs) Bool.false_ne_true

theorem op_lt : OpR X (compareOp .Lt) (rI0 fun i j => .bl (decide (i < j))) := opB0 fun _ _ _ _ _ _ _ q => lt_int q
theorem op_le : OpR X (compareOp .LtE) (rI0 fun i j => .bl (decide (i ≤ j))) := opB0 fun _ _ _ _ _ _ _ q => le_int q
theorem op_gt : OpR X (compareOp .Gt) (rI0 fun i j => .bl (decide (j < i))) := opB0 fun _ _ _ _ _ _ _ q => gt_int q
/-- is None, is not None: the right side a value none -/
theorem op_isN : OpR X (compareOp .Is) (fun x y H Q => y = .non ∧ Q (.bl (decide (x = .non))) H) := by
  intro pins s σ H x y v u Q I rx ry h
  obtain ⟨rfl, q⟩ := h
  cases ry
  refine is_none_gen (fin_bl I q ?_)
  cases x <;> first
    | (cases rx; rfl)
    | (obtain ⟨t, rfl⟩ := rx; rfl)
theorem op_notN : OpR X (compareOp .IsNot) (fun x y H Q => y = .non ∧ Q (.bl (!decide (x = .non))) H) := by
  intro pins s σ H x y v u Q I rx ry h
  obtain ⟨rfl, q⟩ := h
  cases ry
  refine isnot_none_gen (fin_bl I q ?_)
  cases x <;> first
    | (cases rx; rfl)
    | (obtain ⟨t, rfl⟩ := rx; rfl)

/-- is, is not of two objects that are tracked lists or instances -/
def isObj : HO → Bool
  | .lst _ => true
  | .ins _ _ _ => true
  | _ => false
theorem nomark (b : Expr) {op : CmpOp} (h : op ≠ .In := by decide) (h2 : op ≠ .NotIn := by decide) : behindInMarks op b = false := by
  have e1 : (op == CmpOp.In) = false := by cases op <;> first | rfl | exact absurd rfl h
  have e2 : (op == CmpOp.NotIn) = false := by cases op <;> first | rfl | exact absurd rfl h2
  cases b <;> simp [behindInMarks, e1, e2]
/-- a comparison as a value; hm: nomark b, or (for in, not in) by with_unfolding_all rfl -/
theorem pe_cmpR {op : CmpOp} {r : R2} (ho : OpR X (compareOp op) r) (ha : PE X a ta) (hb : PE X b tb) (hm : behindInMarks op b = false) : PE X (.Compare a [op] [b] pos) (tOp r ta tb) := by
  intro pins s σ H Q I h
  exact wpAny_Compare1 (binT ha hb I h fun v u s2 x y H2 I2 rx ry q => ho pins s2 σ H2 x y v u Q I2 rx ry q) hm
/-- a reading of a value as a test -/
def tTest (t : TE) : TT := fun σ H Q => t σ H fun x H' => ∃ k, x = .bl k ∧ Q k H'
theorem pt_cmpR {op : CmpOp} {r : R2} (ho : OpR X (compareOp op) r) (ha : PE X a ta) (hb : PE X b tb) (hm : behindInMarks op b = false) : PT X (.Compare a [op] [b] pos) (tTest (tOp r ta tb)) := by
  intro pins s σ H Q I h
  refine wpAny_isTrue_Compare1 (thn (ha pins s σ H _ I h) fun v s1 ⟨x, H1, I1, r1, q1⟩ => thn (hb pins s1 σ H1 _ I1 q1) fun u s2 ⟨y, H2, I2, r2, q2⟩ =>
    thn (ho pins s2 σ H2 x y v u _ I2 r1 r2 q2) fun c s3 ⟨z, H3, I3, r3, k, e, q3⟩ => ?_) hm
  subst e
  cases r3
  exact wpAny_truthy_bool ⟨H3, I3, q3⟩
/-- a op1 b op2 c -/
def tChain (r r' : R2) (ta tb tc : TE) : TE := fun σ H Q => ta σ H fun x H1 => tb σ H1 fun y H2 => r x y H2 fun z H3 => ∃ k, z = .bl k ∧
  (if k = true then tc σ H3 fun w' H4 => r' y w' H4 Q else Q (.bl false) H3)
theorem pe_chain {op op' : CmpOp} {r r' : R2} (ho : OpR X (compareOp op) r) (ho' : OpR X (compareOp op') r') (ha : PE X a ta) (hb : PE X b tb) (hc : PE X c tc)
    (hm : lastMarks [op, op'] [b, c] = false := by with_unfolding_all rfl) : PE X (.Compare a [op, op'] [b, c] pos) (tChain r r' ta tb tc) := by
  intro pins s σ H Q I h
  refine Compare_chain (thn (ha pins s σ H _ I h) fun v s1 ⟨x, H1, I1, r1, q1⟩ => chain_link (thn (hb pins s1 σ H1 _ I1 q1) fun u s2 ⟨y, H2, I2, r2, q2⟩ =>
    thn (ho pins s2 σ H2 x y v u _ I2 r1 r2 q2) fun d s3 ⟨z, H3, I3, r3, k, e, q3⟩ => ?_)) hm
  subst e
  cases r3
  refine wpAny_truthy_bool ?_
  cases k with
  | false => exact ite_ff ⟨.bl false, H3, I3, rfl, q3⟩
  | true => exact ite_tt (chain_last (thn (hc pins s3 σ H3 _ I3 q3) fun w' s4 ⟨z', H4, I4, r4, q4⟩ => ho' pins s4 σ H4 y z' u w' Q I4 r2 r4 q4))
theorem pt_chain {op op' : CmpOp} {r r' : R2} (ho : OpR X (compareOp op) r) (ho' : OpR X (compareOp op') r') (ha : PE X a ta) (hb : PE X b tb) (hc : PE X c tc)
    (hm : lastMarks [op, op'] [b, c] = false := by with_unfolding_all rfl) : PT X (.Compare a [op, op'] [b, c] pos) (tTest (tChain r r' ta tb tc)) := by
  intro pins s σ H Q I h
  refine isTrue_chain (thn (ha pins s σ H _ I h) fun v s1 ⟨x, H1, I1, r1, q1⟩ => test_link (thn (hb pins s1 σ H1 _ I1 q1) fun u s2 ⟨y, H2, I2, r2, q2⟩ =>
    thn (ho pins s2 σ H2 x y v u _ I2 r1 r2 q2) fun d s3 ⟨z, H3, I3, r3, k, e, q3⟩ => ?_)) hm
  subst e
  cases r3
  refine wpAny_truthy_bool ?_
  cases k with
  | false =>
    obtain ⟨k', e', q'⟩ := q3
    cases e'
    exact ite_ff ⟨H3, I3, q'⟩
  | true =>
    refine ite_tt (test_last (thn (hc pins s3 σ H3 _ I3 q3) fun w' s4 ⟨z', H4, I4, r4, q4⟩ => thn (ho' pins s4 σ H4 y z' u w' _ I4 r2 r4 q4) fun d' s5 ⟨z2, H5, I5, r5, k2, e2, q5⟩ => ?_))
    subst e2
    cases r5
    exact wpAny_truthy_bool ⟨H5, I5, q5⟩

/-! ### truth -/
/-- a value's truth by the abstract heap -/
def TruV (K : PySem.W.Frag) (x : V) (H : Hp) (k : Bool) : Prop :=
  match x with
  | .non => k = false
  | .bl b => k = b
  | .int i => k = (i != 0)
  | .str y => y.length ≤ sizeLine ∧ k = ((y.length : Int) != 0)
  | .byt y => y.size ≤ sizeLine ∧ k = ((y.size : Int) != 0)
  | .ref p => (∃ xs, SqL K H p xs ∧ k = !xs.isEmpty) ∨ (∃ xs, SqT K H p xs ∧ k = !xs.isEmpty) ∨ ∃ kvs, H p = some (.dK kvs) ∧ k = !kvs.isEmpty
  | _ => False
theorem line63 : (sizeLine : Nat) < 2 ^ 63 := by rw [sizeLine_eq]; decide
/-! ### strs and bytes -/
def PlainIxT (b : Expr) : Prop := ∀ o i, subscripted b false o i = operate [o, i] (getItem o i)
/-! ### scalar builtins, by CallR -/
theorem vals1 {x : V} {us : List Value} (r : Vals [x] us) : ∃ u, us = [u] ∧ RelV x u := by
  cases r with
  | cons r1 r2 => cases r2; exact ⟨_, rfl, r1⟩
theorem vals2 {x y : V} {us : List Value} (r : Vals [x, y] us) : ∃ u w', us = [u, w'] ∧ RelV x u ∧ RelV y w' := by
  cases r with
  | cons r1 r2 =>
    cases r2 with
    | cons r3 r4 => cases r4; exact ⟨_, _, rfl, r1, r3⟩
theorem call_max2 (hc : X.A.handled = none) : CallR X (.builtin "max") (fun xs H Q => ∃ i j, xs = [.int i, .int j] ∧ Q (.int (if j > i then j else i)) H) := by
  intro pins s σ H xs us Q I r h
  obtain ⟨i, j, rfl, q⟩ := h
  obtain ⟨u, w', rfl, ⟨t, rfl⟩, ⟨t', rfl⟩⟩ := vals2 r
  refine max_two_ints hc fun h' tk k => ⟨_, H, I.kept k, ?_, q⟩
  by_cases hj : j > i
  · rw [if_pos hj, if_pos hj]; exact ⟨_, rfl⟩
  · rw [if_neg hj, if_neg hj]; exact ⟨_, rfl⟩
theorem call_int1 : CallR X (.type "int") (fun xs H Q => (∃ i, xs = [.int i] ∧ Q (.int i) H) ∨ ∃ k, xs = [.bl k] ∧ Q (.int (if k then 1 else 0)) H) := by
  intro pins s σ H xs us Q I r h
  rcases h with ⟨i, rfl, q⟩ | ⟨k, rfl, q⟩
  · obtain ⟨u, rfl, t, rfl⟩ := vals1 r
    exact call_int_int ⟨.int i, H, I, ⟨_, rfl⟩, q⟩
  · obtain ⟨u, rfl, r1⟩ := vals1 r
    cases r1
    exact call_int_bool ⟨.int (if k then 1 else 0), H, I.tok _, ⟨_, rfl⟩, q⟩
/-- len of a str, a bytes, a list, a tuple -/
def LenV (K : PySem.W.Frag) (x : V) (H : Hp) (n : Nat) : Prop :=
  match x with
  | .str y => y.length ≤ sizeLine ∧ n = y.length
  | .byt y => y.size ≤ sizeLine ∧ n = y.size
  | .ref p => (∃ xs, SqL K H p xs ∧ n = xs.length) ∨ ∃ xs, SqT K H p xs ∧ n = xs.length
  | _ => False
end
end L2

namespace L2
open PySem PySem.Spec PyProof.Rows

/-! ### an instance, its attributes a map -/
structure ObjM (h : Heap) (x dx C : Addr) (mA : Str → Option Value) : Prop where
  obj : h.get? x = some (PySem.W.instObj C dx)
  ns : h.Ns1 dx mA
  ne : dx ≠ x

theorem lookIn_ns {h : Heap} {dx : Addr} {mA : Str → Option Value} (n : h.Ns1 dx mA) : ∃ od, h.get? dx = some od ∧ ∀ name, PySem.W.lookIn name od = some (mA name) := by
  obtain ⟨o, es, ep, ho, hd, hk, _, hm⟩ := n
  refine ⟨o, ho, fun name => ?_⟩
  have e := hm name
  unfold nsFind findBy at e
  rw [← Array.find?_toList] at e
  unfold PySem.W.lookIn
  rw [hd]
  dsimp only
  split
  · rename_i y q
    rw [q] at e
    exact congrArg some e
  · rename_i q
    rw [q] at e
    have a : es.toList.any (·.refKey) = false := by
      rw [List.any_eq_false]
      intro y hy
      obtain ⟨z, t, hkey⟩ := hk y (Array.mem_toList_iff.mp hy)
      simp [DictEntry.refKey, hkey]
    have a' : ¬ es.toList.any (·.refKey) = true := by rw [a]; exact Bool.false_ne_true
    rw [if_neg a']
    exact congrArg some e

theorem ObjM.look {h : Heap} {x dx C : Addr} {mA : Str → Option Value} (I : ObjM h x dx C mA) : ∃ od, PySem.W.InstAt h x (PySem.W.instObj C dx) C (some od) ∧ ∀ name, PySem.W.lookIn name od = some (mA name) :=
  let ⟨od, ho, hl⟩ := lookIn_ns I.ns
  ⟨od, ⟨I.obj, rfl, rfl, ho⟩, hl⟩

section
variable {prog : Program} {w : World} {A : Around} {E : Value → Shared → Prop} {s : Shared} {K : PySem.W.Frag} {x dx C f : Addr} {mA : Str → Option Value} {name : Str} {v : Value}

theorem get_map {expr : Bool} {Q : Value → Shared → Prop} (X : K.In s.heap) (I : ObjM s.heap x dx C mA) (hg : PySem.W.plainGet K C name = true) (hh : PySem.W.hasDictIn K C = true)
    (ha : PySem.W.findIn K (.ref C) name = some none) (hv : mA name = some v) (hv' : PySem.W.handedIn v = true) (h : Q v { s with toks := s.toks + 1 }) :
    wpAny (model prog w) A (getAttr (.ref x) name expr) Q E s := by
  obtain ⟨od, J, hl⟩ := I.look
  exact PySem.W.get_value X J (PySem.W.plainGet_of hg).1 (PySem.W.findObj_own hh ha rfl (by rw [hl, hv])) hv' h

theorem get_meth {pl : Sem Bool} {Q : Value × List Value → Shared → Prop} (X : K.In s.heap) (I : ObjM s.heap x dx C mA) (hg : PySem.W.plainGet K C name = true)
    (hf : PySem.W.findIn K (.ref C) name = some (some (.ref f))) (ht : PySem.W.isFn K (.ref f) = true) (hv : mA name = none) (h : Q (.ref f, [.ref x]) s) :
    wpAny (model prog w) A (getMethod (.ref x) name pl) Q E s := by
  obtain ⟨od, J, hl⟩ := I.look
  exact PySem.W.method_fn X J (PySem.W.plainGet_of hg).1 (PySem.W.plainGet_of hg).2 hf (beq_iff_eq.mp ht) (by show (PySem.W.lookIn name od).map (·.isSome) = some false; rw [hl, hv]; rfl) h

theorem set_map {ns : List Str} {Q : Unit → Shared → Prop} (X : K.In s.heap) (I : ObjM s.heap x dx C mA)
    (hs : PySem.W.findIn K (.ref C) "__setattr__" = some (some (.builtin "object.__setattr__"))) (hp : PySem.W.plainOver K C = true) (ht : PySem.W.takerIn K C name = some none) (hh : PySem.W.hasDictIn K C = true)
    (hw : PySem.Within mA ns) (hsz : ns.length ≤ sizeLine)
    (h : ∀ h', ObjM h' x dx C (fun y => if y = name then some v else mA y) → Heap.SameBut dx s.heap h' → Q () { s with heap := h', toks := s.toks + 2 }) :
    wpAny (model prog w) A (setAttr (.ref x) name v) Q E s := by
  obtain ⟨od, J, hl⟩ := I.look
  refine PySem.W.set_plain X J hs (PySem.W.osa_open (s := { s with toks := s.toks + 1 }) (r := none) X J hp ht fun b => ?_)
  obtain ⟨cd, hc, hd'⟩ := PySem.W.any_some hh
  have hx : s.heap.get? x = some ⟨.ref C, some dx, .plain, #[]⟩ := I.obj
  refine wpAny_bind (wpAny_pure (wpAny_bind (wpAny_bind (wpAny_loadPart hx (wpAny_bind (PySem.W.Looks.here (s := { s with toks := s.toks + 1 }) (PySem.W.looks_clsIn X hc) ?_))))))
  rw [hd']
  refine wpAny_pure (a := some dx) (wpAny_bind (wpAny_pure (wpAny_bind ?_)))
  refine wpAny_nsSet1 (s := { s with toks := s.toks + 1 }) I.ns fun h' hn2 hs2 => ?_
  obtain ⟨oD, esD, epD, hoD, hdD, hcD⟩ := hn2.count (PySem.Within.cons name v hw)
  refine wpAny_bind (wpAny_lookBehind hoD (by rw [hdD]; exact pastItsLine_dict (Nat.le_trans hcD (by rw [List.length_cons]; omega))) ?_)
  exact wpAny_pure (h _ ⟨(hs2.2 _ (Ne.symm I.ne)).trans I.obj, hn2, I.ne⟩ hs2)

/-- C(..): the dict at the heap's end, the instance behind it; then its __init__ -/
theorem make_map {R : Result → Shared → Prop} {vs : List Value} {kw : List (Str × Value)} (X : K.In s.heap) (hm : PySem.W.makesIn K C = true)
    (hi : PySem.W.findIn K (.ref C) "__init__" = some (some (.ref f))) (hf : PySem.W.typeIn K (.ref f) = some (.type "function"))
    (h : codeAny (model prog w) (A.under (.builtin "type.__call__" ⟨.ref C :: vs, kw⟩)) (.call (.ref f) ⟨.ref (s.heap.objs.size + 1) :: vs, kw⟩) (PySem.W.InitBack (s.heap.objs.size + 1) R)
      { s with heap := (s.heap.push PySem.W.emptyDict).push (PySem.W.instObj C s.heap.objs.size) }) :
    codeAny (model prog w) A (.call (.ref C) ⟨vs, kw⟩) R s := by
  obtain ⟨hh, g, d, t, os⟩ := s
  exact PySem.W.make_core (PySem.W.makes_of X hm) (PySem.W.looks_findIn X hi) (fun self => PySem.W.bind_fn X self hf) (.inl rfl) h
end

/-! ### the attributes as a list of pairs -/
def putF (f : Str) (v : V) : List (Str × V) → List (Str × V)
  | [] => [(f, v)]
  | (g, x) :: r => if g = f then (g, v) :: r else (g, x) :: putF f v r
theorem lookup_putF (f g : Str) (v : V) : ∀ fs : List (Str × V), (putF f v fs).lookup g = if g = f then some v else fs.lookup g
  | [] => by
    show List.lookup g [(f, v)] = _
    by_cases h : g = f
    · have hb : (g == f) = true := beq_iff_eq.mpr h
      simp only [List.lookup, hb, if_pos h]
    · have hb : (g == f) = false := beq_eq_false_iff_ne.mpr h
      simp only [List.lookup, hb, if_neg h]
  | (k, x) :: r => by
    have ih := lookup_putF f g v r
    rw [show putF f v ((k, x) :: r) = (if k = f then (k, v) :: r else (k, x) :: putF f v r) from rfl]
    by_cases hk : k = f
    · rw [if_pos hk]
      by_cases h : g = k
      · have hb : (g == k) = true := beq_iff_eq.mpr h
        simp only [List.lookup, hb, if_pos (h.trans hk)]
      · have hb : (g == k) = false := beq_eq_false_iff_ne.mpr h
        simp only [List.lookup, hb, if_neg (fun e : g = f => h (e.trans hk.symm))]
    · rw [if_neg hk]
      by_cases h : g = k
      · have hb : (g == k) = true := beq_iff_eq.mpr h
        simp only [List.lookup, hb, if_neg (fun e : g = f => hk (h.symm.trans e))]
      · have hb : (g == k) = false := beq_eq_false_iff_ne.mpr h
        simp only [List.lookup, hb]
        exact ih
theorem keys_putF (f : Str) (v : V) : ∀ fs : List (Str × V), f ∈ (putF f v fs).map (·.1) ∧ ∀ g, g ∈ fs.map (·.1) → g ∈ (putF f v fs).map (·.1)
  | [] => ⟨by simp [putF], fun g h => by simp at h⟩
  | (k, x) :: r => by
    obtain ⟨i1, i2⟩ := keys_putF f v r
    rw [show putF f v ((k, x) :: r) = (if k = f then (k, v) :: r else (k, x) :: putF f v r) from rfl]
    by_cases hk : k = f
    · rw [if_pos hk]
      subst hk
      exact ⟨by simp, fun g h => by simpa using h⟩
    · rw [if_neg hk]
      refine ⟨?_, fun g h => ?_⟩
      · rw [List.map_cons]
        exact List.mem_cons_of_mem _ i1
      · rw [List.map_cons] at h ⊢
        rcases List.mem_cons.mp h with e | e
        · exact List.mem_cons.mpr (.inl e)
        · exact List.mem_cons_of_mem _ (i2 g e)
theorem length_putF (f : Str) (v : V) : ∀ fs : List (Str × V), (putF f v fs).length ≤ fs.length + 1
  | [] => by simp [putF]
  | (k, x) :: r => by
    have ih := length_putF f v r
    rw [show putF f v ((k, x) :: r) = (if k = f then (k, v) :: r else (k, x) :: putF f v r) from rfl]
    by_cases hk : k = f
    · rw [if_pos hk, List.length_cons, List.length_cons]; omega
    · rw [if_neg hk, List.length_cons, List.length_cons]; omega

theorem RelO.some_of {v : V} {o : Option Value} (r : RelO (some v) o) : ∃ u, o = some u ∧ RelV v u := by
  cases o with
  | none => exact (show False from r).elim
  | some u => exact ⟨u, rfl, r⟩
theorem RelO.none_of {o : Option Value} (r : RelO none o) : o = none := by
  cases o with
  | none => rfl
  | some u => exact (show False from r).elim
theorem handed_of {v : V} {u : Value} (r : RelV v u) : PySem.W.handedIn u = true := by
  cases v with
  | non => cases (show u = Value.none from r); rfl
  | bl b => cases (show u = Value.bool b from r); rfl
  | int i => obtain ⟨t, e⟩ := (show ∃ t, u = Value.int i t from r); cases e; rfl
  | str x => obtain ⟨t, e⟩ := (show ∃ t, u = Value.str x t from r); cases e; rfl
  | byt b => obtain ⟨t, e⟩ := (show ∃ t, u = Value.bytes b t from r); cases e; rfl
  | flt b => obtain ⟨t, e⟩ := (show ∃ t, u = Value.float b t from r); cases e; rfl
  | ref a => cases (show u = Value.ref a from r); rfl
  | ty n => cases (show u = Value.type n from r); rfl

section
variable {P : Program} {w : World} {H H' : Hp} {h h' : Heap} {a C dx : Addr} {fs fs' : List (Str × V)}
theorem ins_get (hok : HOk P w H h) (e : H a = some (.ins C dx fs)) : ∃ mA, ObjM h a dx C mA ∧ (∀ f, RelO (fs.lookup f) (mA f)) ∧ PySem.Within mA (fs.map (·.1)) ∧ fs.length ≤ 1000 ∧ H dx = some (.own a) := by
  obtain ⟨d, z, ne, ob, mA, n, r, q⟩ := (show ObjOk P w H h a (.ins C dx fs) from hok a _ e)
  exact ⟨mA, ⟨ob, n, ne⟩, r, q, z, d⟩
end

/-! ### what of the text a class must have -/
structure Cls (K : PySem.W.Frag) (C : Addr) : Prop where
  pg : PySem.W.plainGet K C Str.empty = true
  hd : PySem.W.hasDictIn K C = true
  po : PySem.W.plainOver K C = true
  sa : PySem.W.findIn K (.ref C) "__setattr__" = some (some (.builtin "object.__setattr__"))
theorem Cls.get {K : PySem.W.Frag} {C : Addr} (c : Cls K C) (f : Str) : PySem.W.plainGet K C f = true := c.pg
/-- no class of it has the name -/
def NoAttr (K : PySem.W.Frag) (C : Addr) (f : Str) : Prop := PySem.W.findIn K (.ref C) f = some none
theorem NoAttr.taker {K : PySem.W.Frag} {C : Addr} {f : Str} (n : NoAttr K C f) : PySem.W.takerIn K C f = some none := by
  unfold PySem.W.takerIn
  rw [show PySem.W.findIn K (.ref C) f = some none from n]
  rfl
/-- a constant of the class -/
structure Con (K : PySem.W.Frag) (C : Addr) (f : Str) (v : V) (u : Value) : Prop where
  at_ : PySem.W.findIn K (.ref C) f = some (some u)
  rel : RelV v u
  get : PySem.W.specialIn K u "__get__" = some none
  cp : PySem.W.copiedNames.contains f = false
/-- a method: a plain def of the class or of one above it -/
structure Meth (K : PySem.W.Frag) (C : Addr) (m : Str) (f : Addr) : Prop where
  at_ : PySem.W.findIn K (.ref C) m = some (some (.ref f))
  fn : PySem.W.isFn K (.ref f) = true
  kp : PySem.W.keepIn K (.ref f) = true

section
variable {X : Cx} {pins : List (Addr × Obj)} {σ : St} {H : Hp} {s : Shared} {a C dx : Addr} {fs : List (Str × V)} {f : Str} {v : V} {A : Around} {E : Value → Shared → Prop}

theorem getattr_ok {b : Bool} {Q : Value → Shared → Prop} (I : Inv X pins σ H s) (e : H a = some (.ins C dx fs)) (c : Cls X.K C) (n : NoAttr X.K C f) (l : fs.lookup f = some v)
    (h : ∀ u s', Inv X pins σ H s' → RelV v u → Q u s') : wpAny (model X.prog X.w) A (getAttr (.ref a) f b) Q E s := by
  obtain ⟨mA, O, r, _, _, _⟩ := ins_get I.hok e
  obtain ⟨u, hu, ru⟩ := RelO.some_of (v := v) (o := mA f) (by rw [← l]; exact r f)
  exact get_map I.kIn O (c.get f) c.hd n hu (handed_of ru) (h u _ (I.tok _) ru)

theorem getmeth_ok {m : Str} {g : Addr} {pl : Sem Bool} {Q : Value × List Value → Shared → Prop} (I : Inv X pins σ H s) (e : H a = some (.ins C dx fs)) (c : Cls X.K C) (k : Meth X.K C m g) (l : fs.lookup m = none)
    (h : Q (.ref g, [.ref a]) s) : wpAny (model X.prog X.w) A (getMethod (.ref a) m pl) Q E s := by
  obtain ⟨mA, O, r, _, _, _⟩ := ins_get I.hok e
  have hn : mA m = none := RelO.none_of (by rw [← l]; exact r m)
  exact get_meth I.kIn O (c.get m) k.at_ k.fn hn h

theorem setattr_ok {y : V} {u : Value} {Q : Unit → Shared → Prop} (I : Inv X pins σ H s) (e : H a = some (.ins C dx fs)) (c : Cls X.K C) (n : NoAttr X.K C f) (hl : fs.length < 1000) (ry : RelV y u)
    (h : ∀ s', Inv X pins σ (upd H a (.ins C dx (putF f y fs))) s' → Q () s') : wpAny (model X.prog X.w) A (setAttr (.ref a) f u) Q E s := by
  obtain ⟨mA, O, r, wi, _, ho⟩ := ins_get I.hok e
  have hz : (fs.map (·.1)).length ≤ sizeLine := by rw [List.length_map, sizeLine_eq]; omega
  refine set_map I.kIn O c.sa c.po n.taker c.hd wi hz fun h' O' sb => h _ ?_
  have hd : ∃ o, h'.get? dx = some o := let ⟨o, _, _, e', _⟩ := O'.ns; ⟨o, e'⟩
  refine I.write (x := a) (e := dx) (by rw [e]; exact True.intro) (.inr ho) (fun b q hb z => (sb.2 b hb).trans z) hd ?_
  refine ⟨by rw [upd_ne O.ne]; exact ho, ?_, O.ne, O'.obj, _, O'.ns, fun g => ?_, fun g hg => ?_⟩
  · have := length_putF f y fs; omega
  · show RelO ((putF f y fs).lookup g) (if g = f then some u else mA g)
    rw [lookup_putF]
    by_cases q : g = f
    · rw [if_pos q, if_pos q]; exact ry
    · rw [if_neg q, if_neg q]; exact r g
  · by_cases q : g = f
    · rw [q]; exact (keys_putF f y fs).1
    · refine (keys_putF f y fs).2 g (wi g fun z => hg ?_)
      show (if g = f then some u else mA g) = none
      rw [if_neg q]; exact z

/-- a new instance, tracked, without attributes -/
theorem Inv.made (I : Inv X pins σ H s) : Inv X pins σ (upd (upd H s.heap.objs.size (.own (s.heap.objs.size + 1))) (s.heap.objs.size + 1) (.ins C s.heap.objs.size []))
    { s with heap := (s.heap.push PySem.W.emptyDict).push (PySem.W.instObj C s.heap.objs.size) } := by
  have e1 : (s.heap.push PySem.W.emptyDict).get? s.heap.objs.size = some PySem.W.emptyDict := Heap.get?_push_size s.heap rfl
  have e2 : ((s.heap.push PySem.W.emptyDict).push (PySem.W.instObj C s.heap.objs.size)).get? (s.heap.objs.size + 1) = some (PySem.W.instObj C s.heap.objs.size) := by
    have := Heap.get?_push_size (s.heap.push PySem.W.emptyDict) (o := PySem.W.instObj C s.heap.objs.size) rfl
    rwa [Heap.size_push] at this
  have e3 : (s.heap.push PySem.W.emptyDict).Ns s.heap.objs.size (fun _ => none) := ⟨PySem.W.emptyDict, #[], _, e1, rfl, (fun e he => absurd he (by simp)), fun _ => rfl⟩
  have I1 := I.laid (a := s.heap.objs.size) (o := .own (s.heap.objs.size + 1)) (h' := s.heap.push PySem.W.emptyDict) (t' := s.toks) (fun b u q => Heap.get?_push_of_some _ q) (Nat.le_refl _) ⟨_, e1⟩
  refine I1.laid (a := s.heap.objs.size + 1) (o := .ins C s.heap.objs.size []) (t' := s.toks) (fun b u q => Heap.get?_push_of_some _ q) (Nat.le_of_eq (Heap.size_push _ _)) ?_
  have ne : s.heap.objs.size ≠ s.heap.objs.size + 1 := Nat.ne_of_lt (Nat.lt_succ_self _)
  refine ⟨by rw [upd_ne ne, upd_same], Nat.zero_le _, ne, e2, fun _ => none, (Heap.Ns1.of_empty e3).at fun o q => Heap.get?_push_of_some _ q, fun _ => True.intro, fun y hy => absurd rfl hy⟩

/-- e.f where nothing but the object is asked: through attributeBase (super) and the last hold -/
theorem attr_of {prog : Program} {w : World} {env : Env} {e : Expr} {f : Str} {pos : Pos} {s : Shared} {Q : Value → Shared → Prop} (hb : attributeBase e f env (eval e env) = eval e env)
    (h : wpAny (model prog w) A (eval e env) (fun o s₁ => wpAny (model prog w) A (getAttr o f true) Q E s₁) E s) : wpAny (model prog w) A (eval (.Attribute e f pos) env) Q E s :=
  Attribute_any_ h (by rw [arm_eval_Attribute, hb])
end

/-! ### readings and rules -/
/-- e.f, an attribute of the instance -/
def tFld (K : PySem.W.Frag) (ta : TE) (f : Str) : TE := fun σ H Q => ta σ H fun x H1 => ∃ a C dx fs v, x = .ref a ∧ H1 a = some (.ins C dx fs) ∧ Cls K C ∧ NoAttr K C f ∧ fs.lookup f = some v ∧ Q v H1
/-- e.f, a constant of the class -/
def tCon (K : PySem.W.Frag) (ta : TE) (f : Str) : TE := fun σ H Q => ta σ H fun x H1 => ∃ a C dx fs v u, x = .ref a ∧ H1 a = some (.ins C dx fs) ∧ Cls K C ∧ Con K C f v u ∧ fs.lookup f = none ∧ Q v H1
/-- e.f = value -/
def sFld (K : PySem.W.Frag) (ta tv : TE) (f : Str) : TS := fun D σ H => tv σ H fun y H1 => ta σ H1 fun x H2 => ∃ a C dx fs, x = .ref a ∧ H2 a = some (.ins C dx fs) ∧ Cls K C ∧ NoAttr K C f ∧ fs.length < 1000 ∧
  D.nx σ (upd H2 a (.ins C dx (putF f y fs)))
/-- an augmented operator on two values -/
def InOp (X : Cx) (op : Operator) (rd : V → V → Hp → VK → Prop) : Prop :=
  ∀ (pins : List (Addr × Obj)) (s : Shared) (σ : St) (H : Hp) (x y : V) (u v : Value) (Q : VK), Inv X pins σ H s → RelV x u → RelV y v → rd x y H Q → wpAny (model X.prog X.w) X.A (inplaceOp op u v) (EP X pins σ Q) X.xe s
/-- e.f op= value -/
def sFldAug (K : PySem.W.Frag) (ta tv : TE) (rd : V → V → Hp → VK → Prop) (f : Str) : TS := fun D σ H => ta σ H fun x H1 => ∃ a C dx fs v, x = .ref a ∧ H1 a = some (.ins C dx fs) ∧ Cls K C ∧ NoAttr K C f ∧ fs.lookup f = some v ∧
  tv σ H1 fun y H2 => rd v y H2 fun z H3 => ∃ dx' fs', H3 a = some (.ins C dx' fs') ∧ fs'.length < 1000 ∧ D.nx σ (upd H3 a (.ins C dx' (putF f z fs')))

section
variable {X : Cx} {o e value : Expr} {f : Str} {pos pos' tpos : Pos} {ta tv : TE}
theorem pe_fld (he : PE X e ta) (hb : attributeBase e f X.env (eval e X.env) = eval e X.env) : PE X (.Attribute e f pos) (tFld X.K ta f) := by
  intro pins s σ H Q I h
  refine attr_of hb (thn (he pins s σ H _ I h) fun u s1 ⟨x, H1, I1, rx, a, C, dx, fs, v, ex, ea, c, n, l, q⟩ => ?_)
  subst ex
  obtain rfl : u = Value.ref a := rx
  exact getattr_ok I1 ea c n l fun u' s2 I2 ru => ⟨v, H1, I2, ru, q⟩
theorem ps_fld (ha : PE X o ta) (hv : PE X value tv) (hs : swapsWith value (some (.Attribute o f pos')) pos.line X.env = pure false) : PS X (.Assign [.Attribute o f pos'] value pos) (sFld X.K ta tv f) := by
  intro pins s σ H D I h
  refine plainObj_wpAny_Assign_Attribute (thn (hv pins s σ H _ I h) fun u s1 ⟨y, H1, I1, ry, q⟩ => thn (ha pins s1 σ H1 _ I1 q) fun ov s2 ⟨x, H2, I2, rx, a, C, dx, fs, ex, ea, c, n, l, q2⟩ => ?_) hs
  subst ex
  obtain rfl : ov = Value.ref a := rx
  exact setattr_ok I2 ea c n l ry fun s3 I3 => ⟨σ, _, I3, q2⟩
def rAdd : V → V → Hp → VK → Prop := fun x y H Q => ∃ i j, x = .int i ∧ y = .int j ∧ Q (.int (i + j)) H
def rSub : V → V → Hp → VK → Prop := fun x y H Q => ∃ i j, x = .int i ∧ y = .int j ∧ Q (.int (i - j)) H
end

/-! ### isinstance -/
section
variable {X : Cx} {pins : List (Addr × Obj)} {σ : St} {H : Hp} {s : Shared} {A : Around} {E : Value → Shared → Prop} {Q : Value → Shared → Prop} {c : Value} {b : Bool}
/-- the type of a value, as the fragment's deciders take it; for an instance its class -/
inductive TyOf (K : PySem.W.Frag) (H : Hp) : V → Value → Prop where
  | non : TyOf K H .non (.type "NoneType")
  | bl (x : Bool) : TyOf K H (.bl x) (.type "bool")
  | int (i : Int) : TyOf K H (.int i) (.type "int")
  | str (x : Str) : TyOf K H (.str x) (.type "str")
  | flt (x : UInt64) : TyOf K H (.flt x) (.type "float")
  | lst {a : Addr} {xs : List V} (e : H a = some (.lst xs)) : TyOf K H (.ref a) (.type "list")
  | frz {a : Addr} {o : Obj} {xs : List V} (e : H a = some (.frz o (.lst xs))) : TyOf K H (.ref a) (.type "list")
  | tup {a : Addr} {xs : List V} (e : H a = some (.tup xs)) : TyOf K H (.ref a) (.type "tuple")
  | dK {a : Addr} {kvs : List (Key × V)} (e : H a = some (.dK kvs)) : TyOf K H (.ref a) (.type "dict")
  | dT {a : Addr} {kvs : List (List Key × V)} (e : H a = some (.dT kvs)) : TyOf K H (.ref a) (.type "dict")
  | ins {a C dx : Addr} {fs : List (Str × V)} (e : H a = some (.ins C dx fs)) (cl : Cls K C) (ha : PySem.W.findIn K (.ref C) "__class__" = some (some (.builtin "object.__class__")))
      (hn : PySem.W.specialIn K (.builtin "object.__class__") "__get__" = some (some (.builtin "getset_descriptor.__get__"))) (htk : PySem.W.takesIn K (.builtin "object.__class__") = some true)
      (hm : PySem.W.mroIn K C (.type "object") = some true) : TyOf K H (.ref a) (.ref C)
  | exc {a C : Addr} (e : H a = some (.exc (.ref C))) (F : ExcK K C) : TyOf K H (.ref a) (.ref C)
/-- isinstance(x, c) for one class c, a built-in or an own one: kitOne's answer -/
theorem isinst_ok {x : V} {u t : Value} (I : Inv X pins σ H s) (rx : RelV x u) (ty : TyOf X.K H x t) (e : PySem.W.kitOne X.K t c = some b) (h : ∀ tk, Q (.bool b) { s with toks := tk }) :
    wpAny (model X.prog X.w) A (call (.builtin "isinstance") [u, c]) Q E s := by
  cases ty with
  | non => cases (show u = Value.none from rx); exact PySem.W.kia_one PySem.W.kitx_none I.kIn True.intro e (fun z => nomatch z) h
  | bl y => cases (show u = Value.bool y from rx); exact PySem.W.kia_one PySem.W.kitx_bool I.kIn True.intro e (fun z => nomatch z) h
  | int i => obtain ⟨t, q⟩ := (show ∃ t, u = Value.int i t from rx); cases q; exact PySem.W.kia_one PySem.W.kitx_int I.kIn True.intro e (fun z => nomatch z) h
  | str y => obtain ⟨t, q⟩ := (show ∃ t, u = Value.str y t from rx); cases q; exact PySem.W.kia_one PySem.W.kitx_str I.kIn True.intro e (fun z => nomatch z) h
  | flt y => obtain ⟨t, q⟩ := (show ∃ t, u = Value.float y t from rx); cases q; exact PySem.W.kia_one PySem.W.kitx_float I.kIn True.intro e (fun z => nomatch z) h
  | @lst a xs ea =>
    cases (show u = Value.ref a from rx)
    obtain ⟨_, _, n, _, h1⟩ := (show ObjOk X.prog X.w H s.heap a (.lst xs) from I.hok a _ ea)
    exact PySem.W.kia_one PySem.W.kitx_list I.kIn ⟨_, h1, rfl⟩ e (fun z => nomatch z) h
  | @frz a ob xs ea =>
    cases (show u = Value.ref a from rx)
    obtain ⟨_, _, _, n, _, h1⟩ := (show ObjOk X.prog X.w H s.heap a (.frz ob (.lst xs)) from I.hok a _ ea)
    exact PySem.W.kia_one PySem.W.kitx_list I.kIn ⟨_, h1, rfl⟩ e (fun z => nomatch z) h
  | @tup a xs ea =>
    cases (show u = Value.ref a from rx)
    obtain ⟨_, _, _, p⟩ := (show ObjOk X.prog X.w H s.heap a (.tup xs) from I.hok a _ ea)
    obtain ⟨o, h1, h2, _⟩ := p
    exact PySem.W.kia_one PySem.W.kitx_tuple I.kIn ⟨o, h1, h2⟩ e (fun z => nomatch z) h
  | @dK a kvs ea =>
    cases (show u = Value.ref a from rx)
    obtain ⟨_, _, vs, _, p⟩ := (show ObjOk X.prog X.w H s.heap a (.dK kvs) from I.hok a _ ea)
    obtain ⟨o, es, ep, h1, h2, _⟩ := p
    exact PySem.W.kia_one PySem.W.kitx_dict I.kIn ⟨o, h1, h2.1⟩ e (fun z => nomatch z) h
  | @dT a kvs ea =>
    cases (show u = Value.ref a from rx)
    obtain ⟨_, _, xs, _, o, es, ep, h1, h2, _⟩ := (show ObjOk X.prog X.w H s.heap a (.dT kvs) from I.hok a _ ea)
    exact PySem.W.kia_one PySem.W.kitx_dict I.kIn ⟨o, h1, h2.1⟩ e (fun z => nomatch z) h
  | @exc a C ea F =>
    cases (show u = Value.ref a from rx)
    obtain ⟨oe, vs, h1, h2, h3, h4, _⟩ := (show ObjOk X.prog X.w H s.heap a (.exc (.ref C)) from I.hok a _ ea)
    refine PySem.W.kia_one (kitx_exc F) I.kIn ⟨oe, h1, h2, ?_, ?_⟩ e (fun z => nomatch z) h
    · unfold PySem.W.notCls; rw [h4]
    · rw [h3]; trivial
  | @ins a C dx fs ea cl ha hn htk hm =>
    cases (show u = Value.ref a from rx)
    obtain ⟨mA, O, _⟩ := ins_get I.hok ea
    obtain ⟨od, J, _⟩ := O.look
    exact PySem.W.kia_one (PySem.W.kitx_own (cl.get _) cl.hd ha hn htk hm) I.kIn J e (fun z => nomatch z) h
end
end L2

namespace L2
open PySem PySem.Spec PyProof.Rows

/-! ### room -/
structure Room (k : Nat) (A : Around) : Prop where
  dp : A.depth + 3 * k + 5 < recursionLimit
  un : A.units + 16 * k + 200 < cLine
theorem Room.mono {j k : Nat} {A : Around} (r : Room k A) (h : j ≤ k) : Room j A := ⟨by have := r.dp; omega, by have := r.un; omega⟩
theorem Room.deeper {k : Nat} {A : Around} (r : Room (k + 1) A) (env : Env) : Room k (A.deeper env) :=
  ⟨by have := r.dp; show A.depth + 1 + 3 * k + 5 < _; omega, by have := r.un; show A.units + 3 + 16 * k + 200 < _; omega⟩
theorem make_depth {A : Around} {C : Addr} {us : List Value} {kw : List (Str × Value)} : (A.under (.builtin "type.__call__" ⟨.ref C :: us, kw⟩)).depth = A.depth + 1 := by
  first | rfl | simp [Around.under, Code.weight, Code.isCreation, Code.isGuard, Code.isCaller, Code.frames, Code.isFrame, guardIds]
theorem make_units {A : Around} {C : Addr} {us : List Value} {kw : List (Str × Value)} : (A.under (.builtin "type.__call__" ⟨.ref C :: us, kw⟩)).units = A.units + 1 := by
  first | rfl | simp [Around.under, Code.cUnits, Code.frames, Code.isFrame]
theorem Room.make {k : Nat} {A : Around} (r : Room (k + 1) A) (C : Addr) (us : List Value) (kw : List (Str × Value)) : Room k (A.under (.builtin "type.__call__" ⟨.ref C :: us, kw⟩)) :=
  ⟨by have := r.dp; rw [make_depth]; omega, by have := r.un; rw [make_units]; omega⟩
theorem Room.depth {k : Nat} {A : Around} (r : Room k A) : A.depth < recursionLimit := by have := r.dp; omega
theorem Room.units {k : Nat} {A : Around} (r : Room k A) : A.units + 64 < cLine := by have := r.un; omega
/-! ### argument lists and displays -/
def tNil : TA := fun _ H Q => Q [] H
def tCons (ta : TE) (tr : TA) : TA := fun σ H Q => ta σ H fun x H1 => tr σ H1 fun xs H2 => Q (x :: xs) H2
section
variable {X : Cx} {e : Expr} {es : List Expr} {te : TE} {t : TA} {pos : Pos}
theorem pa_nil : PA X [] tNil := fun _ _ _ _ H Q I h => Calls.spliced_nil ⟨[], H, I, .nil, h⟩
theorem pa_cons (ha : PE X e te) (hr : PA X es t) (hs : starEach (e :: es) X.env = (false, eval e X.env) :: starEach es X.env := by rfl) : PA X (e :: es) (tCons te t) := by
  intro pos pins s σ H Q I h
  rw [hs]
  show wpAny _ _ (spliced ((false, eval e X.env) :: backTo pos (starEach es X.env))) _ _ s
  refine Calls.spliced_cons (thn (ha pins s σ H _ I h) fun u s1 ⟨x, H1, I1, r1, q1⟩ => ?_)
  exact thn (hr pos pins s1 σ H1 _ I1 q1) fun us s2 ⟨xs, H2, I2, r2, q2⟩ => ⟨x :: xs, H2, I2, .cons r1 r2, q2⟩

/-- a tuple, a list of written items -/
def tTup (t : TA) : TE := fun σ H Q => t σ H fun xs H1 => xs.length ≤ sizeLine ∧ ∀ p, H1 p = none → Q (.ref p) (upd H1 p (.tup xs))
def tLst (t : TA) : TE := fun σ H Q => t σ H fun xs H1 => xs.length ≤ sizeLine ∧ ∀ p, H1 p = none → Q (.ref p) (upd H1 p (.lst xs))
theorem pe_tup {x1} (h : PA X es t) : PE X (.Tuple es x1 pos) (tTup t) := by
  intro pins s σ H Q I hq
  refine wpAny_Tuple_spliced (thn (h pos pins s σ H _ I hq) fun us s1 ⟨xs, H1, I1, r, z, q⟩ => ⟨by rw [← r.length]; exact z, ?_⟩)
  have hf : H1 s1.heap.objs.size = none := I1.hok.fresh (Nat.le_refl _)
  refine ⟨.ref s1.heap.objs.size, upd H1 s1.heap.objs.size (.tup xs), I1.laid (t' := s1.toks) (fun b u e => Heap.get?_push_of_some _ e) (Nat.le_refl _) ?_, rfl, q _ hf⟩
  exact ⟨z, us, r, ⟨_, Heap.get?_push_size _ rfl, rfl, _, rfl⟩⟩
theorem pe_lst (h : PA X es t) : PE X (.List es pos) (tLst t) := by
  intro pins s σ H Q I hq
  refine wpAny_List_spliced (thn (h pos pins s σ H _ I hq) fun us s1 ⟨xs, H1, I1, r, z, q⟩ => ⟨by rw [← r.length]; exact z, ?_⟩)
  have hf : H1 s1.heap.objs.size = none := I1.hok.fresh (Nat.le_refl _)
  refine ⟨.ref s1.heap.objs.size, upd H1 s1.heap.objs.size (.lst xs), I1.laid (t' := s1.toks) (fun b u e => Heap.get?_push_of_some _ e) (Nat.le_refl _) ?_, rfl, q _ hf⟩
  exact ⟨z, us, 0, r, Heap.get?_push_size _ rfl⟩
end

/-! ### what a def promises -/
/-- a def's promise: the bound arguments in the parameters' order, the heap, the wanted end, the wanted exception -/
abbrev Sp := List V → Hp → VK → XK → Prop
/-- how an exception lies behind a call (file 08 gives it): the callers' frames, abstract heap and state ahead of the call, the wish, the exception, the state -/
abbrev CXT := List Env → Hp → Shared → XK → Value → Shared → Prop

/-- the state at a call -/
structure Env0 (P : Program) (w : World) (K : PySem.W.Frag) (mg : Str → Option Value) (base : Heap) (A : Around) (outer : List Env) (s : Shared) (H : Hp) : Prop where
  frames : A.frames = some outer
  mod : Mod K mg base
  bs : ∀ b o, base.get? b = some o → s.heap.get? b = some o ∧ H b = none
  bsz : base.objs.size ≤ s.heap.objs.size
  funs : s.heap.FunFrames base outer
  frf : ∀ b ∈ frs outer, H b = none
  hok : HOk P w H s.heap
  bare : AllBare s.gens
  hd : HdE A H
/-- a call's end -/
def CE (outer : List Env) (P : Program) (w : World) (H : Hp) (s : Shared) (Q : VK) (u : Value) (s' : Shared) : Prop :=
  ∃ v H', s'.os = s.os ∧ AllBare s'.gens ∧ Un (frs outer) [] H H' s.heap s'.heap ∧ HOk P w H' s'.heap ∧ RelV v u ∧ Q v H'
def CR (CX : CXT) (outer : List Env) (P : Program) (w : World) (H : Hp) (s : Shared) (Q : VK) (E : XK) (r : Result) (s' : Shared) : Prop :=
  match r with
  | .ok (.ret u) => CE outer P w H s Q u s'
  | .ok _ => False
  | .error e => CX outer H s E e s'
abbrev CX0 : CXT := fun _ _ _ _ _ _ => False
/-- what never raises is called anywhere, else where nothing is handled -/
def Calm (CX : CXT) (A : Around) : Prop := CX = CX0 ∨ A.handled = none
structure FnOk (P : Program) (w : World) (K : PySem.W.Frag) (mg : Str → Option Value) (base : Heap) (CX : CXT) (k : Nat) (f : Addr) (fd : FuncData) (ps : List Str) (sp : Sp) : Prop where
  len : ∀ vs H Q E, sp vs H Q E → vs.length = ps.length
  run : ∀ (A : Around) (outer : List Env) (s : Shared) (H : Hp) (args : Args) (us : List Value) (vs : List V) (Q : VK) (E : XK), Room k A → Calm CX A → Env0 P w K mg base A outer s H → BindsTo s fd args (ps.zip us) → Vals vs us → sp vs H Q E →
    codeAny (model P w) A (.call (.ref f) args) (CR CX outer P w H s Q E) s
theorem Env0.make {P : Program} {w : World} {K : PySem.W.Frag} {mg : Str → Option Value} {base : Heap} {A : Around} {outer : List Env} {s : Shared} {H : Hp} (e : Env0 P w K mg base A outer s H) (C : Addr) (us : List Value) (kw : List (Str × Value)) :
    Env0 P w K mg base (A.under (.builtin "type.__call__" ⟨.ref C :: us, kw⟩)) outer s H := ⟨by first | exact e.frames | (simpa [Around.under, Code.envs, Code.isFrame, pushEnvs] using e.frames), e.mod, e.bs, e.bsz, e.funs, e.frf, e.hok, e.bare, e.hd⟩
section
variable {X : Cx} {pins : List (Addr × Obj)} {σ : St} {H : Hp} {s s' : Shared}
/-- from a body: what a callee wants -/
theorem Inv.env0 (I : Inv X pins σ H s) : Env0 X.prog X.w X.K X.mg X.base X.A X.stack s H :=
  ⟨I.ok.frames, I.ok.mod, I.bs, Nat.le_trans I.ok.bsz I.sz, I.stack, I.stkFree, I.hok, I.bare, I.hdE⟩
/-- behind a call -/
theorem Inv.after {Q : VK} {u : Value} (I : Inv X pins σ H s) (h : CE X.stack X.prog X.w H s Q u s') : EP X pins σ Q u s' := by
  obtain ⟨v, H', os, bare, un, hok, r, q⟩ := h
  obtain ⟨hh, g, d, t, os'⟩ := s'
  obtain rfl : os' = s.os := os
  exact ⟨v, H', I.call (h' := hh) (g' := g) (d' := d) (t' := t) (ch := []) un hok bare (fun b z => absurd z (by simp)), r, q⟩
end

/-! ### calls -/
/-- f(..): the written arguments, then the defaults dvs; E: what is wanted of an exception -/
def tCall (sp : Sp) (dvs : List V) (E : XK) (t : TA) : TE := fun σ H Q => t σ H fun vs H1 => sp (vs ++ dvs) H1 Q E
/-- o.m(..) of an instance of the class at C -/
def tMeth (C : Addr) (m : Str) (sp : Sp) (dvs : List V) (E : XK) (ta : TE) (t : TA) : TE := fun σ H Q => ta σ H fun x H1 => ∃ a dx fs, x = .ref a ∧ H1 a = some (.ins C dx fs) ∧ fs.lookup m = none ∧
  t σ H1 fun vs H2 => sp (x :: (vs ++ dvs)) H2 Q E
/-- C(..): a new instance and its dict, then __init__ -/
def tMake (C : Addr) (sp : Sp) (dvs : List V) (E : XK) (t : TA) : TE := fun σ H Q => t σ H fun vs H1 => ∀ x dx, H1 x = none → H1 dx = none → dx ≠ x →
  sp (.ref x :: (vs ++ dvs)) (upd (upd H1 dx (.own x)) x (.ins C dx [])) (fun v H2 => v = .non ∧ Q (.ref x) H2) E

/-- how the parameters are bound: us the positional arguments, kw the keywords' values by name, ds the defaults that fill up -/
def Binds (K : PySem.W.Frag) (fd : FuncData) (ps : List Str) (ds : List Value) : Prop :=
  ∀ (s : Shared) (us : List Value), K.In s.heap → (us ++ ds).length = ps.length → BindsTo s fd ⟨us, []⟩ (ps.zip (us ++ ds))
/-- every parameter is given -/
theorem Binds.all {K : PySem.W.Frag} {fd : FuncData} {ps : List Str} (h : ∀ us : List Value, us.length = ps.length → bindArgs fd ⟨us, []⟩ = pure (ps.zip us)) : Binds K fd ps [] := fun s us _ hl => by
  rw [List.append_nil] at hl ⊢
  exact .of_eq (h us hl)

/-- an exception of a callee reaches what this body wants of exceptions -/
def Passes (CX : CXT) (X : Cx) (E : XK) : Prop := ∀ (pins : List (Addr × Obj)) (σ : St) (H : Hp) (s : Shared) (e : Value) (s' : Shared), Inv X pins σ H s → CX X.stack H s E e s' → X.xe e s'

section
variable {X : Cx} {CX : CXT} {k : Nat} {f C : Addr} {fd : FuncData} {ps : List Str} {sp : Sp} {dvs : List V} {ds : List Value} {E : XK} {x m : Str} {p pos apos : Pos} {e o : Expr} {es : List Expr} {ta : TE} {t : TA}

/-- the callee runs -/
theorem run_fn {pins : List (Addr × Obj)} {σ : St} {H : Hp} {s : Shared} {Q : VK} {us : List Value} {vs : List V} (F : FnOk X.prog X.w X.K X.mg X.base CX k f fd ps sp) (hr : Room k X.A) (hb : Binds X.K fd ps ds) (hd : Vals dvs ds) (hx : Passes CX X E)
    (I : Inv X pins σ H s) (r : Vals vs us) (h : sp (vs ++ dvs) H Q E) (hcm : Calm CX X.A := by first | assumption | exact Or.inl rfl | exact Or.inr (by assumption)) : wpAny (model X.prog X.w) X.A (call (.ref f) us) (EP X pins σ Q) X.xe s := by
  have r2 : Vals (vs ++ dvs) (us ++ ds) := r.append hd
  have hl : (us ++ ds).length = ps.length := by rw [← r2.length]; exact F.len _ _ _ _ h
  refine wpAny_call (codeAny_mono (F.run X.A X.stack s H ⟨us, []⟩ (us ++ ds) (vs ++ dvs) Q E hr hcm I.env0 (hb s us I.kIn hl) r2 h) fun r s' hq => ?_)
  cases r with
  | error e => exact hx pins σ H s e s' I hq
  | ok fl =>
    cases fl with
    | ret u => exact I.after hq
    | next => exact False.elim hq
    | brk => exact False.elim hq
    | cont => exact False.elim hq

theorem pe_call (F : FnOk X.prog X.w X.K X.mg X.base CX k f fd ps sp) (hr : Room k X.A) (hg : Gl X x) (hm : X.mg x = some (.ref f)) (hk : PySem.W.keepIn X.K (.ref f) = true) (hb : Binds X.K fd ps ds) (hd : Vals dvs ds) (hx : Passes CX X E)
    (ha : PA X (e :: es) t) (hdb : (x == ("__debug__" : Str)) = false := by decide) (he : starEach (e :: es) X.env = (false, eval e X.env) :: starEach es X.env := by rfl) (hpl : (backTo pos (starEach es X.env)).any (·.1) = false := by rfl) (hcm : Calm CX X.A := by first | assumption | exact Or.inl rfl | exact Or.inr (by assumption)) :
    PE X (.Call (.Name x p) (e :: es) [] pos) (tCall sp dvs E t) := by
  intro pins s σ H Q I h
  refine wpAny_Call_Name_kw (ld_glob I hg hm ?_ hdb)
  refine PySem.W.callWith_K (h₀ := X.base) I.ok.mod.kin hk (thn (ha pos pins s σ H _ I h) fun us s1 ⟨vs, H1, I1, r, q⟩ => ⟨I1.kIn, ?_⟩) he hpl
  exact run_fn F hr hb hd hx I1 r q
theorem pe_call0 (F : FnOk X.prog X.w X.K X.mg X.base CX k f fd ps sp) (hr : Room k X.A) (hg : Gl X x) (hm : X.mg x = some (.ref f)) (hk : PySem.W.keepIn X.K (.ref f) = true) (hb : Binds X.K fd ps ds) (hd : Vals dvs ds) (hx : Passes CX X E)
    (hdb : (x == ("__debug__" : Str)) = false := by decide) (hcm : Calm CX X.A := by first | assumption | exact Or.inl rfl | exact Or.inr (by assumption)) : PE X (.Call (.Name x p) [] [] pos) (tCall sp dvs E tNil) := by
  intro pins s σ H Q I h
  refine wpAny_Call_Name_kw (ld_glob I hg hm ?_ hdb)
  exact PySem.W.callWith_K0 I.kIn hk (run_fn (us := []) F hr hb hd hx I .nil h)

/-- o.m(e, ..) -/
theorem pe_meth {pl : Sem Bool} (he : PE X o ta) (c : Cls X.K C) (hm : Meth X.K C m f) (F : FnOk X.prog X.w X.K X.mg X.base CX k f fd ps sp) (hr : Room k X.A) (hb : Binds X.K fd ps ds) (hd : Vals dvs ds) (hx : Passes CX X E) (ha : PA X (e :: es) t)
    (hst : starEach (e :: es) X.env = (false, eval e X.env) :: starEach es X.env := by rfl) (hpl : (backTo pos (starEach es X.env)).any (·.1) = false := by rfl)
    (ht : eval (.Call (.Attribute o m apos) (e :: es) [] pos) X.env = (do
      let ov ← eval o X.env
      standAt apos.atName
      let (f, first) ← holding [ov] (getMethod ov m pl)
      callWith pos f first (backTo pos (starEach (e :: es) X.env)) (backToKw pos (keywordEach [] X.env))) := by rfl) (hcm : Calm CX X.A := by first | assumption | exact Or.inl rfl | exact Or.inr (by assumption)) :
    PE X (.Call (.Attribute o m apos) (e :: es) [] pos) (tMeth C m sp dvs E ta t) := by
  intro pins s σ H Q I h
  refine PySem.W.methodCall_KW (pl := pl) (thn (he pins s σ H _ I h) fun u s1 ⟨x, H1, I1, rx, a, dx, fs, ex, ea, l, q⟩ => ?_) ht
  subst ex
  obtain rfl : u = Value.ref a := rx
  refine getmeth_ok I1 ea c hm l ?_
  refine PySem.W.callWith_K (first := [.ref a]) (h₀ := X.base) I.ok.mod.kin hm.kp (thn (ha pos pins s1 σ H1 _ I1 q) fun us s2 ⟨vs, H2, I2, r, q2⟩ => ⟨I2.kIn, ?_⟩) hst hpl
  exact run_fn (us := .ref a :: us) (vs := .ref a :: vs) F hr hb hd hx I2 (.cons rfl r) q2
/-- o.m() -/
theorem pe_meth0 {pl : Sem Bool} (he : PE X o ta) (c : Cls X.K C) (hm : Meth X.K C m f) (F : FnOk X.prog X.w X.K X.mg X.base CX k f fd ps sp) (hr : Room k X.A) (hb : Binds X.K fd ps ds) (hd : Vals dvs ds) (hx : Passes CX X E)
    (ht : eval (.Call (.Attribute o m apos) [] [] pos) X.env = (do
      let ov ← eval o X.env
      standAt apos.atName
      let (f, first) ← holding [ov] (getMethod ov m pl)
      callWith pos f first (backTo pos (starEach [] X.env)) (backToKw pos (keywordEach [] X.env))) := by rfl) (hcm : Calm CX X.A := by first | assumption | exact Or.inl rfl | exact Or.inr (by assumption)) :
    PE X (.Call (.Attribute o m apos) [] [] pos) (tMeth C m sp dvs E ta tNil) := by
  intro pins s σ H Q I h
  refine PySem.W.methodCall_KW (pl := pl) (thn (he pins s σ H _ I h) fun u s1 ⟨x, H1, I1, rx, a, dx, fs, ex, ea, l, q⟩ => ?_) ht
  subst ex
  obtain rfl : u = Value.ref a := rx
  refine getmeth_ok I1 ea c hm l ?_
  exact PySem.W.callWith_K0 (first := [.ref a]) I1.kIn hm.kp (run_fn (us := [.ref a]) (vs := [.ref a]) F hr hb hd hx I1 (.cons rfl .nil) q)

/-- what a class must have to be made -/
structure Mk (K : PySem.W.Frag) (C f : Addr) : Prop where
  makes : PySem.W.makesIn K C = true
  init : PySem.W.findIn K (.ref C) "__init__" = some (some (.ref f))
  fn : PySem.W.isFn K (.ref f) = true
  kp : PySem.W.keepIn K (.ref C) = true

theorem run_make {pins : List (Addr × Obj)} {σ : St} {H : Hp} {s : Shared} {Q : VK} {us : List Value} {vs : List V} (M : Mk X.K C f) (F : FnOk X.prog X.w X.K X.mg X.base CX k f fd ps sp) (hr : Room (k + 1) X.A) (hb : Binds X.K fd ps ds) (hd : Vals dvs ds)
    (hx : Passes CX X E) (I : Inv X pins σ H s) (r : Vals vs us)
    (h : ∀ x dx, H x = none → H dx = none → dx ≠ x → sp (.ref x :: (vs ++ dvs)) (upd (upd H dx (.own x)) x (.ins C dx [])) (fun v H2 => v = .non ∧ Q (.ref x) H2) E) (hcm : Calm CX X.A := by first | assumption | exact Or.inl rfl | exact Or.inr (by assumption)) :
    wpAny (model X.prog X.w) X.A (call (.ref C) us) (EP X pins σ Q) X.xe s := by
  have hq := h (s.heap.objs.size + 1) s.heap.objs.size (I.hok.fresh (Nat.le_succ _)) (I.hok.fresh (Nat.le_refl _)) (Nat.ne_of_lt (Nat.lt_succ_self _))
  have I2 := Inv.made (C := C) I
  have r2 : Vals (V.ref (s.heap.objs.size + 1) :: (vs ++ dvs)) (Value.ref (s.heap.objs.size + 1) :: (us ++ ds)) := .cons rfl (r.append hd)
  have hl : (Value.ref (s.heap.objs.size + 1) :: us ++ ds).length = ps.length := by
    have e := r2.length
    rw [F.len _ _ _ _ hq] at e
    exact e.symm
  refine wpAny_call (make_map (f := f) I.kIn M.makes M.init (beq_iff_eq.mp M.fn) (codeAny_mono (F.run _ X.stack _ _ ⟨Value.ref (s.heap.objs.size + 1) :: us, []⟩ (Value.ref (s.heap.objs.size + 1) :: (us ++ ds)) _ _ E (hr.make C us []) (show Calm CX _ from hcm)
    (I2.env0.make C us []) (hb _ (Value.ref (s.heap.objs.size + 1) :: us) I2.kIn hl) r2 hq) fun r s' hq' => ?_))
  cases r with
  | error e => exact hx pins σ _ _ e s' I2 hq'
  | ok fl =>
    cases fl with
    | ret u =>
      obtain ⟨v, H', I3, rv, ev, q3⟩ := I2.after hq'
      subst ev
      exact ⟨rv, ⟨V.ref (s.heap.objs.size + 1), H', I3, rfl, q3⟩⟩
    | next => exact False.elim hq'
    | brk => exact False.elim hq'
    | cont => exact False.elim hq'
theorem pe_make (M : Mk X.K C f) (F : FnOk X.prog X.w X.K X.mg X.base CX k f fd ps sp) (hr : Room (k + 1) X.A) (hg : Gl X x) (hm : X.mg x = some (.ref C)) (hb : Binds X.K fd ps ds) (hd : Vals dvs ds) (hx : Passes CX X E)
    (ha : PA X (e :: es) t) (hdb : (x == ("__debug__" : Str)) = false := by decide) (he : starEach (e :: es) X.env = (false, eval e X.env) :: starEach es X.env := by rfl) (hpl : (backTo pos (starEach es X.env)).any (·.1) = false := by rfl) (hcm : Calm CX X.A := by first | assumption | exact Or.inl rfl | exact Or.inr (by assumption)) :
    PE X (.Call (.Name x p) (e :: es) [] pos) (tMake C sp dvs E t) := by
  intro pins s σ H Q I h
  refine wpAny_Call_Name_kw (ld_glob I hg hm ?_ hdb)
  refine PySem.W.callWith_K (h₀ := X.base) I.ok.mod.kin M.kp (thn (ha pos pins s σ H _ I h) fun us s1 ⟨vs, H1, I1, r, q⟩ => ⟨I1.kIn, ?_⟩) he hpl
  exact run_make M F hr hb hd hx I1 r q
end

/-! ### keywords -/
/-- the values of the keywords, from the left -/
def PK (X : Cx) (kws : List Keyword) (t : TA) : Prop :=
  ∀ (pos : Pos) (pins : List (Addr × Obj)) (s : Shared) (σ : St) (H : Hp) (Q : List V → Hp → Prop), Inv X pins σ H s → t σ H Q → wpAny (model X.prog X.w) X.A (evalAll ((backToKw pos (keywordEach kws X.env)).map (·.2))) (AP X pins σ Q) X.xe s
section
variable {X : Cx} {CX : CXT} {k : Nat} {f C : Addr} {fd : FuncData} {ps ks : List Str} {sp : Sp} {E : XK} {x m : Str} {p pos apos kpos : Pos} {e o : Expr} {es : List Expr} {kws : List Keyword} {te ta : TE} {t tk : TA} {nm : Option Str}
/-- how a call with keywords binds: g puts the positional values us and the keywords' values ws (names ks) in the parameters' order, defaults among them -/
structure KBinds (K : PySem.W.Frag) (fd : FuncData) (ps ks : List Str) (g : List Value → List Value → List Value) (gV : List V → List V → List V) : Prop where
  to : ∀ (s : Shared) (us ws : List Value), K.In s.heap → (g us ws).length = ps.length → BindsTo s fd ⟨us, ks.zip ws⟩ (ps.zip (g us ws))
  rel : ∀ {vs : List V} {us : List Value} {zs : List V} {ws : List Value}, Vals vs us → Vals zs ws → Vals (gV vs zs) (g us ws)
def tCallK (sp : Sp) (gV : List V → List V → List V) (E : XK) (t tk : TA) : TE := fun σ H Q => t σ H fun vs H1 => tk σ H1 fun zs H2 => sp (gV vs zs) H2 Q E
variable {g : List Value → List Value → List Value} {gV : List V → List V → List V}
end

/-! ### a def's body keeps its promise -/
/-- names: the parameters first -/
structure FnScope (N P : List Str) (sc : Scope) : Prop where
  kind : sc.kind = .function
  co : sc.isCoroutine = false
  gen : sc.isGenerator = false
  nd : N.Nodup
  pre : N.take P.length = P
  par : ∀ x ∈ P, sc.names.lookup x = some .local ∨ sc.names.lookup x = some .cell
  nofree : ∀ y ∈ sc.names, y.2 ≠ .free

theorem bindL_out {kindOf : Str → Option NameKind} {x : Str} : ∀ {binds : List (Str × Value)} {m : Str → Option Value}, (∀ v, (x, v) ∉ binds) → bindL kindOf binds m x = m x
  | [], _, _ => rfl
  | (n, v) :: r, m, h => by
    unfold bindL
    rw [bindL_out fun w hw => h w (List.mem_cons_of_mem _ hw)]
    split
    · have : x ≠ n := by rintro rfl; exact h v List.mem_cons_self
      simp [this]
    · rfl
theorem bindC_out {kindOf : Str → Option NameKind} {x : Str} : ∀ {binds : List (Str × Value)} {m : Str → Option Value}, (∀ v, (x, v) ∉ binds) → bindC kindOf binds m x = m x
  | [], _, _ => rfl
  | (n, v) :: r, m, h => by
    unfold bindC
    rw [bindC_out fun w hw => h w (List.mem_cons_of_mem _ hw)]
    split
    · rfl
    · have : x ≠ n := by rintro rfl; exact h v List.mem_cons_self
      simp [this]
theorem bindL_get {kindOf : Str → Option NameKind} {x : Str} {v : Value} : ∀ {P : List Str} {vs : List Value} {i : Nat} {m : Str → Option Value}, P.Nodup → P[i]? = some x → vs[i]? = some v → kindOf x = some .local →
    bindL kindOf (P.zip vs) m x = some v
  | [], _, _, _, _, h, _, _ => by simp at h
  | _ :: _, [], _, _, _, _, h, _ => by simp at h
  | p :: P, w :: vs, 0, m, nd, h1, h2, hk => by
    simp at h1 h2; subst h1; subst h2
    show bindL kindOf ((p, w) :: P.zip vs) m p = _
    unfold bindL
    rw [bindL_out fun v hv => (List.nodup_cons.mp nd).1 (List.of_mem_zip hv).1, if_pos hk]
    simp
  | p :: P, w :: vs, i + 1, m, nd, h1, h2, hk => by
    show bindL kindOf ((p, w) :: P.zip vs) m x = _
    unfold bindL
    exact bindL_get (i := i) (List.nodup_cons.mp nd).2 (by simpa using h1) (by simpa using h2) hk
theorem bindC_get {kindOf : Str → Option NameKind} {x : Str} {v : Value} : ∀ {P : List Str} {vs : List Value} {i : Nat} {m : Str → Option Value}, P.Nodup → P[i]? = some x → vs[i]? = some v → kindOf x ≠ some .local →
    bindC kindOf (P.zip vs) m x = some v
  | [], _, _, _, _, h, _, _ => by simp at h
  | _ :: _, [], _, _, _, _, h, _ => by simp at h
  | p :: P, w :: vs, 0, m, nd, h1, h2, hk => by
    simp at h1 h2; subst h1; subst h2
    show bindC kindOf ((p, w) :: P.zip vs) m p = _
    unfold bindC
    rw [bindC_out fun v hv => (List.nodup_cons.mp nd).1 (List.of_mem_zip hv).1, if_neg hk]
    simp
  | p :: P, w :: vs, i + 1, m, nd, h1, h2, hk => by
    show bindC kindOf ((p, w) :: P.zip vs) m x = _
    unfold bindC
    exact bindC_get (i := i) (List.nodup_cons.mp nd).2 (by simpa using h1) (by simpa using h2) hk

/-- the names' values at the entry -/
def start (N : List Str) (vs : List V) : St := vs.map some ++ List.replicate (N.length - vs.length) none

/-- the context of a def's body, at its entry; an exception leaves the frame, then lies as CX says -/
def cxOf (CX : CXT) (P : Program) (w : World) (K : PySem.W.Frag) (mg : Str → Option Value) (base : Heap) (N : List Str) (qual : Str) (scope : Scope) (f : Addr) (cd : Value) (A : Around) (outer : List Env) (s : Shared) (H : Hp) (E : XK) : Cx where
  prog := P
  w := w
  K := K
  mg := mg
  base := base
  A := A.deeper (envOfC qual scope s.heap.objs.size f cd)
  N := N
  s₀ := s
  H₀ := H
  env := envOfC qual scope s.heap.objs.size f cd
  outer := outer
  stack := envOfC qual scope s.heap.objs.size f cd :: outer
  ex := []
  calm := true
  fn := fun _ => true
  pn := []
  tr := []
  fx := []
  xe := fun e s' => wpAny (model P w) (A.deeper (envOfC qual scope s.heap.objs.size f cd)) (leaving (envOfC qual scope s.heap.objs.size f cd) e) (fun _ s'' => CX outer H s E e s'') (fun e' s'' => CX outer H s E e' s'') s'

theorem cell_has {sc : Scope} {n : Nat} {x : Str} (h : sc.names.lookup x = some .cell) : ∃ c, (cellsFrom n sc.names []).lookup x = some c := by
  have q := PySem.W.cellsFrom_some sc.names n [] (.inl h)
  exact Option.isSome_iff_exists.mp q

theorem inv_start {CX : CXT} {P : Program} {w : World} {K : PySem.W.Frag} {mg : Str → Option Value} {base : Heap} {N ps : List Str} {qual : Str} {scope : Scope} {f : Addr} {cd : Value} {A : Around} {outer : List Env} {s s1 : Shared} {H : Hp} {E : XK} {us : List Value} {vs : List V}
    (S : FnScope N ps scope) (e0 : Env0 P w K mg base A outer s H) (hl : vs.length = ps.length) (r : Vals vs us)
    (x : InCallC s s.heap.objs.size (bindL (envOfC qual scope s.heap.objs.size f cd).kindOf (ps.zip us) fun _ => none) (cellsFrom (s.heap.objs.size + 1) scope.names []) (bindC (envOfC qual scope s.heap.objs.size f cd).kindOf (ps.zip us) fun _ => none) s1) :
    Inv (cxOf CX P w K mg base N qual scope f cd A outer s H E) [] (start N vs) H s1 := by
  have hpl : ps.length ≤ N.length := by have := congrArg List.length S.pre; rw [List.length_take] at this; omega
  obtain ⟨h1, tk, rfl, hk⟩ := x.done
  have noA : ∀ b : Addr, b ∉ (cxOf CX P w K mg base N qual scope f cd A outer s H E).ex := fun b z => absurd (show b ∈ ([] : List Addr) from z) (by simp)
  have hdX : A.handled = none ∨ ∃ (e : Addr) (c : Value), A.handled = some (.ref e) ∧ (H e = some (.exc c) ∨ (e, c) ∈ (cxOf CX P w K mg base N qual scope f cd A outer s H E).tr) := by
    rcases e0.hd with z | ⟨e, c, z1, z2⟩
    · exact .inl z
    · exact .inr ⟨e, c, z1, .inl z2⟩
  refine ⟨⟨e0.mod, S.kind, rfl, rfl, Nat.le_refl _, fun y z c h1 h2 => ?_, fun y hy => ?_, fun y c _ h => ?_, hdX, Around.frames_deeper e0.frames, .inr ⟨rfl, rfl⟩, fun b z => absurd z (noA b), e0.bs, e0.bsz, fun b _ _ => noA b, fun b z => absurd z (noA b), e0.funs, e0.frf⟩,
    rfl, e0.bare, Un.kept hk, ⟨_, x.toInCall.ns, fun i y v h1 h2 h3 => ?_⟩, fun y c h => ⟨_, x.cell y c h⟩, e0.hok.fresh (Nat.le_refl _), fun y c h => ?_, fun p hp => absurd (show p ∈ ([] : List (Addr × Obj)) from hp) (by simp), e0.hok.kept hk, ?_, fun p hp => absurd (show p ∈ ([] : List (Addr × Value)) from hp) (by simp), fun p hp => absurd (show p ∈ ([] : List (Str × Value)) from hp) (by simp)⟩
  · exact name_of_addr x.apart (PySem.mem_of_lookup h1) (PySem.mem_of_lookup h2)
  · have hy : scope.names.lookup y = some .cell ∨ scope.names.lookup y = some .free := hy
    rcases hy with hy | hy
    · exact cell_has hy
    · exact absurd rfl (S.nofree _ (PySem.mem_of_lookup hy))
  · exact Nat.le_of_lt (x.above y c (PySem.mem_of_lookup h))
  · have hi : i < vs.length := by
      unfold start at h2
      by_cases hi : i < vs.length
      · exact hi
      · rw [List.getElem?_append_right (by simpa using hi)] at h2
        rw [List.getElem?_replicate] at h2
        split at h2 <;> cases h2
    have ha : vs[i]? = some v := by
      unfold start at h2
      rw [List.getElem?_append_left (by simpa using hi), List.getElem?_map] at h2
      cases e : vs[i]? with
      | none => rw [e] at h2; cases h2
      | some a => rw [e] at h2; cases h2; rfl
    obtain ⟨u, hu, rv⟩ := r.get ha
    have hp : ps[i]? = some y := by
      rw [← S.pre, List.getElem?_take_of_lt (by omega)]; exact h1
    have ndP : ps.Nodup := by rw [← S.pre]; exact S.nd.sublist (List.take_sublist _ _)
    refine ⟨u, rv, ?_⟩
    rcases S.par y (List.mem_of_getElem? hp) with k | k
    · exact .inl ⟨k, bindL_get ndP hp hu k⟩
    · obtain ⟨c, e⟩ := cell_has (n := s.heap.objs.size + 1) k
      refine .inr ⟨.inl k, c, e, ?_⟩
      have q := x.cell y c e
      rw [bindC_get ndP hp hu (by show scope.names.lookup y ≠ _; rw [k]; decide)] at q
      exact q
  · exact e0.hok.fresh (Nat.le_of_lt (x.above y c (PySem.mem_of_lookup h)))
  · unfold start
    show _ = N.length
    rw [List.length_append, List.length_map, List.length_replicate]
    omega

/-- THE RULE: a def (or a method) of the text, by its body. The body's reading t is chosen for each entry; it is run at the parameters' values -/
theorem fn_of {CX : CXT} {P : Program} {w : World} {K : PySem.W.Frag} {mg : Str → Option Value} {base : Heap} {k : Nat} {f : Addr} {name qual : Str} {params : Arguments} {body : List Stmt} {scope : Scope} {dV kV doc pm cdv ct oc : Value} {an od : Option Addr}
    {osl : Array (Option Value)} {N ps : List Str} {sp : Sp} (lk : K.lookup f = some ⟨oc, od, .func (PySem.W.fnOf name qual params body scope dV kV doc pm an cdv ct), osl⟩) (hcd : PySem.W.codeIn K cdv qual = true) (S : FnScope N ps scope)
    (len : ∀ vs H Q E, sp vs H Q E → vs.length = ps.length)
    (hbody : ∀ (A : Around) (outer : List Env) (s : Shared) (H : Hp) (vs : List V) (Q : VK) (E : XK), Room k (A.deeper (envOfC qual scope s.heap.objs.size f cdv)) → Calm CX A → sp vs H Q E →
      ∃ t, PSs (cxOf CX P w K mg base N qual scope f cdv A outer s H E) body t ∧ t { nx := fun _ H' => Q .non H', rt := Q } (start N vs) H) :
    FnOk P w K mg base CX (k + 1) f (PySem.W.fnOf name qual params body scope dV kV doc pm an cdv ct) ps sp := by
  refine ⟨len, fun A outer s H args us vs Q E hr hcm e0 hb r hsp => ?_⟩
  have hl := len _ _ _ _ hsp
  have KX : K.In s.heap := e0.mod.kin.keeps fun b o e => (e0.bs b o e).1
  have lim : s.heap.NoLimit := e0.mod.nolimit.keeps fun b o e => (e0.bs b o e).1
  have hkind : ∀ y ∈ ps.zip us, scope.names.lookup y.1 = some .local ∨ (scope.names.lookup y.1 = some .cell ∧ ((cellsFrom (s.heap.objs.size + 1) scope.names []).lookup y.1).isSome = true) := fun ⟨n, v⟩ hy => by
    rcases S.par n (List.of_mem_zip hy).1 with q | q
    · exact .inl q
    · exact .inr ⟨q, PySem.W.cellsFrom_some _ _ _ (.inl q)⟩
  refine codeAny_call_function hr.depth (KX _ _ lk) rfl S.co S.gen rfl (PySem.W.codeRec_of KX hcd) (hb _ _ _ _ ?_)
  refine wpAny_newFunctionEnv_cells S.kind hkind fun env he s1 x => ?_
  subst he
  refine ⟨lim.keeps x.toInCall.keep, codeAny_func ?_⟩
  obtain ⟨t, ht, hq⟩ := hbody A outer s H vs Q E (hr.deeper _) hcm hsp
  have I : Inv (cxOf CX P w K mg base N qual scope f cdv A outer s H E) [] (start N vs) H s1 := inv_start S e0 hl r x
  refine wpAny_mono (ht [] s1 (start N vs) H _ I hq) (fun fl s' hs => ?_) fun e s' hs => hs
  have fin : ∀ {σ' : St} {H' : Hp} {v : V} {u : Value}, Inv (cxOf CX P w K mg base N qual scope f cdv A outer s H E) [] σ' H' s' → RelV v u → Q v H' → CE outer P w H s Q u s' :=
    fun {σ' H' v u} J rv q => ⟨v, H', J.os, J.bare, J.base, J.hok, rv, q⟩
  cases fl with
  | ret u =>
    obtain ⟨v, σ', H', J, rv, q⟩ := hs
    exact fin J rv q
  | next =>
    obtain ⟨σ', H', J, q⟩ := hs
    exact fin (v := V.non) (u := Value.none) J rfl q
  | brk =>
    obtain ⟨_, _, _, q⟩ := hs
    exact False.elim q
  | cont =>
    obtain ⟨_, _, _, q⟩ := hs
    exact False.elim q
end L2

namespace L2
open PySem PySem.Spec PyProof.Rows
section
variable {X : Cx} {x : Str} {p pos : Pos} {e : Expr} {es : List Expr} {t : TA} {id T : String} {r : List V → Hp → VK → Prop}

def tCB (r : List V → Hp → VK → Prop) (t : TA) : TE := fun σ H Q => t σ H fun vs H1 => r vs H1 Q
/-- f(e, ..), f a built-in function -/
theorem pe_callB (hc : CallR X (.builtin id) r) (hg : Gl X x) (hm : X.mg x = none) (hv : bootBuiltins x = some (.builtin id)) (ha : PA X (e :: es) t) (hn : x ≠ "__name__" := by decide) (hdb : (x == ("__debug__" : Str)) = false := by decide)
    (he : starEach (e :: es) X.env = (false, eval e X.env) :: starEach es X.env := by rfl) (hpl : (backTo pos (starEach es X.env)).any (·.1) = false := by rfl) : PE X (.Call (.Name x p) (e :: es) [] pos) (tCB r t) := by
  intro pins s σ H Q I h
  refine wpAny_Call_Name_kw (ld_blt I hg hm hv ?_ hn hdb)
  exact PyProof.Rows.callWith_builtin1 (thn (ha pos pins s σ H _ I h) fun us s1 ⟨vs, H1, I1, r1, q1⟩ => hc pins s1 σ H1 vs us Q I1 r1 q1) he hpl
/-- T(e, ..), T a built-in type -/
theorem pe_callTy (hc : CallR X (.type T) r) (hg : Gl X x) (hm : X.mg x = none) (hv : bootBuiltins x = some (.type T)) (ha : PA X (e :: es) t) (hn : x ≠ "__name__" := by decide) (hdb : (x == ("__debug__" : Str)) = false := by decide)
    (he : starEach (e :: es) X.env = (false, eval e X.env) :: starEach es X.env := by rfl) (hpl : (backTo pos (starEach es X.env)).any (·.1) = false := by rfl) : PE X (.Call (.Name x p) (e :: es) [] pos) (tCB r t) := by
  intro pins s σ H Q I h
  refine wpAny_Call_Name_kw (ld_blt I hg hm hv ?_ hn hdb)
  exact PyProof.Rows.callWith_type1 (thn (ha pos pins s σ H _ I h) fun us s1 ⟨vs, H1, I1, r1, q1⟩ => hc pins s1 σ H1 vs us Q I1 r1 q1) he hpl
end
end L2

namespace HT
open PySem PyProof.Rows

/-- t < u of tuples of ints -/
def lexLt : List Int → List Int → Bool
  | [], [] => false
  | [], _ :: _ => true
  | _ :: _, [] => false
  | x :: xs, y :: ys => if x = y then lexLt xs ys else decide (x < y)
section
open PySem.SeqAt
open PySem.AutoSeq1 (wpAny_loadPart')
open PySem.MeetsSeq PySem.MeetsSeq2 PySem.MeetsSeq3

end

section
variable {prog : Program} {w : World} {A : Around} {E : Value → Shared → Prop} {s : Shared}

/-! ### t[a:b], not the whole -/
/-- a slice's bound as a place among n (d where it is left out) -/
def sIx (n d : Nat) : Option Int → Nat
  | none => d
  | some v => if v < 0 then (v + (n : Int)).toNat else min v.toNat n
theorem sIx_none (n d : Nat) : sIx n d none = d := rfl
theorem sIx_nat (n d k : Nat) : sIx n d (some (k : Int)) = min k n := by
  show (if (k : Int) < 0 then ((k : Int) + (n : Int)).toNat else min (k : Int).toNat n) = min k n
  rw [if_neg (by omega), Int.toNat_natCast]
end
end HT

namespace L2
open PySem PySem.Spec PyProof.Rows

/-! ### the parts of a slice -/
abbrev TO := St → Hp → (Option Int → Hp → Prop) → Prop
/-- a slice's part (left out, or an int) -/
def PO (X : Cx) (e : Option Expr) (t : TO) : Prop :=
  ∀ (pins : List (Addr × Obj)) (s : Shared) (σ : St) (H : Hp) (Q : Option Int → Hp → Prop), Inv X pins σ H s → t σ H Q →
    wpAny (model X.prog X.w) X.A (evalPart e X.env) (fun u s' => ∃ o H', Inv X pins σ H' s' ∧ IsPart u o ∧ Q o H') X.xe s
def tNoPart : TO := fun _ H Q => Q none H
def tPart (t : TE) : TO := fun σ H Q => t σ H fun x H1 => ∃ i, x = .int i ∧ Q (some i) H1

section
variable {X : Cx} {e : Expr} {te : TE} {lo hi : Option Expr} {tl th : TO} {pos p2 : Pos}

theorem po_none : PO X none tNoPart := by
  intro pins s σ H Q I h
  rw [evalPart_none]
  exact wpAny_pure ⟨none, H, I, .none, h⟩
theorem po_some (h : PE X e te) : PO X (some e) (tPart te) := by
  intro pins s σ H Q I hw
  rw [evalPart_some]
  refine thn (h pins s σ H _ I hw) fun u s1 ⟨x, H1, I1, r1, q1⟩ => ?_
  obtain ⟨i, rfl, q⟩ := q1
  obtain ⟨t, rfl⟩ := r1
  exact ⟨some i, H1, I1, .int i t, q⟩

/-- what a slice of a value is, by values: the slice object stands at sl -/
def SlR (X : Cx) (r : V → Option Int → Option Int → Hp → VK → Prop) : Prop :=
  ∀ (pins : List (Addr × Obj)) (s : Shared) (σ : St) (H : Hp) (x : V) (v vl vu : Value) (lo hi : Option Int) (sl : Addr) (Q : VK), Inv X pins σ H s → RelV x v → s.heap.IsSliceOf sl vl vu .none → IsPart vl lo → IsPart vu hi → r x lo hi H Q →
    ∃ T id, typeLookup (.type T) "__getitem__" = pure (some (.builtin id)) ∧ s.TypeIs v T ∧ wpAny (model X.prog X.w) X.A (getItem v (.ref sl)) (EP X pins σ Q) X.xe s
def tSl (r : V → Option Int → Option Int → Hp → VK → Prop) (te : TE) (tl th : TO) : TE := fun σ H Q => te σ H fun x H1 => tl σ H1 fun l H2 => th σ H2 fun u H3 => r x l u H3 Q
/-- a[lo:hi], any a -/
theorem pe_slice {r : V → Option Int → Option Int → Hp → VK → Prop} (hr : SlR X r) (he : PE X e te) (hl : PO X lo tl) (hu : PO X hi th) : PE X (.Subscript e (.Slice lo hi none p2) pos) (tSl r te tl th) := by
  intro pins s σ H Q I h
  refine Subscript_ (thn (he pins s σ H _ I h) fun v s1 ⟨x, H1, I1, r1, q1⟩ => ?_)
  refine wpAny_Slice (thn (hl pins s1 σ H1 _ I1 q1) fun vl s2 ⟨l, H2, I2, pl, q2⟩ => thn (hu pins s2 σ H2 _ I2 q2) fun vu s3 ⟨u, H3, I3, pu, q3⟩ => ?_)
  rw [evalPart_none]
  refine wpAny_pure ?_
  have I4 : Inv X pins σ H3 { s3 with heap := s3.heap.push { cls := .type "slice", data := .fields #[vl, vu, .none] } } := I3.kept (t' := s3.toks) fun b ob q => Heap.get?_push_of_some _ q
  obtain ⟨T, id, hT, ht, hg⟩ := hr pins { s3 with heap := s3.heap.push { cls := .type "slice", data := .fields #[vl, vu, .none] } } σ H3 x v vl vu l u s3.heap.objs.size Q I4 r1 (Heap.IsSliceOf.new ..) pl pu q3
  show wpAny (model X.prog X.w) X.A (subscriptTail e (.Slice lo hi none p2) v (.ref s3.heap.objs.size)) (EP X pins σ Q) X.xe { s3 with heap := s3.heap.push { cls := .type "slice", data := .fields #[vl, vu, .none] } }
  exact tail_any (ops := [.ref s3.heap.objs.size, v]) ht hT hg (by with_unfolding_all rfl)

/-- the items of xs[lo:hi] -/
def cutV (xs : List V) (lo hi : Option Int) : List V := (xs.drop (HT.sIx xs.length 0 lo)).take (HT.sIx xs.length xs.length hi - HT.sIx xs.length 0 lo)
theorem cutV_length (xs : List V) (lo hi : Option Int) : (cutV xs lo hi).length ≤ xs.length := by
  unfold cutV
  rw [List.length_take, List.length_drop]
  omega
/-- t[lo:hi], not the whole of it (the whole would be t itself) -/
def rSlT (K : PySem.W.Frag) : V → Option Int → Option Int → Hp → VK → Prop := fun x lo hi H Q => ∃ a xs, x = .ref a ∧ SqT K H a xs ∧
  ¬ (HT.sIx xs.length 0 lo = 0 ∧ HT.sIx xs.length xs.length hi = xs.length) ∧ ∀ p, H p = none → Q (.ref p) (upd H p (.tup (cutV xs lo hi)))
/-! ### t < u, t + u -/
def rLtT (K : PySem.W.Frag) : R2 := fun x y H Q => ∃ a b ns ms, x = .ref a ∧ y = .ref b ∧ SqT K H a (ns.map V.int) ∧ SqT K H b (ms.map V.int) ∧ Q (.bl (HT.lexLt ns ms)) H
/-- t + u, t not empty: u empty gives t itself -/
def rCatT (K : PySem.W.Frag) : R2 := fun x y H Q => ∃ a b xs ys, x = .ref a ∧ y = .ref b ∧ SqT K H a xs ∧ SqT K H b ys ∧ xs ≠ [] ∧ xs.length + ys.length ≤ sizeLine ∧
  (ys = [] → Q (.ref a) H) ∧ (ys ≠ [] → ∀ p, H p = none → Q (.ref p) (upd H p (.tup (xs ++ ys))))
end
end L2

namespace L2
open PySem PySem.Spec PyProof.Rows

/-! ### places -/
/-- the place that an index of any sign means -/
def ixN (n : Nat) (i : Int) : Option Nat := if 0 ≤ i then (if i < n then some i.toNat else none) else if -(n : Int) ≤ i then some (i + n).toNat else none
def atI {α : Type} (xs : List α) (i : Int) : Option α := (ixN xs.length i).bind fun j => xs[j]?
theorem ixN_seq {n : Nat} {i : Int} {j : Nat} (h : ixN n i = some j) : seqIndex? i n = some j ∧ j < n ∧ -(n : Int) ≤ i ∧ i < n := by
  unfold ixN at h
  by_cases h0 : 0 ≤ i
  · rw [if_pos h0] at h
    by_cases h1 : i < n
    · rw [if_pos h1] at h
      have e : i.toNat = j := Option.some.inj h
      exact ⟨by rw [seqIndex_of h0 h1, e], by omega, by omega, h1⟩
    · rw [if_neg h1] at h; cases h
  · rw [if_neg h0] at h
    by_cases h1 : -(n : Int) ≤ i
    · rw [if_pos h1] at h
      have e : (i + n).toNat = j := Option.some.inj h
      exact ⟨by rw [seqIndex_neg (by omega) h1, e], by omega, h1, by omega⟩
    · rw [if_neg h1] at h; cases h
theorem atI_get {α : Type} {xs : List α} {i : Int} {v : α} (h : atI xs i = some v) : ∃ j, seqIndex? i xs.length = some j ∧ xs[j]? = some v ∧ j < xs.length ∧ -(xs.length : Int) ≤ i ∧ i < xs.length := by
  unfold atI at h
  cases e : ixN xs.length i with
  | none => rw [e] at h; cases h
  | some j =>
    rw [e] at h
    obtain ⟨h1, h2, h3, h4⟩ := ixN_seq e
    exact ⟨j, h1, h, h2, h3, h4⟩
theorem atI_nat {α : Type} {xs : List α} {j : Nat} {v : α} (h : xs[j]? = some v) : atI xs (j : Int) = some v := by
  have hj : j < xs.length := (List.getElem?_eq_some_iff.mp h).1
  have e : ixN xs.length (j : Int) = some j := by
    unfold ixN
    rw [if_pos (by omega), if_pos (by omega)]; simp
  unfold atI; rw [e]; exact h
/-! ### what may be subscripted -/
/-- what stands as an index of a plain subscript -/
def PlainIx (b : Expr) : Prop := ∀ o i, subscripted b false o i = operate [o, i] (getItem o i)
/-- a subscript by values -/
def IxR (X : Cx) (r : R2) : Prop :=
  ∀ (value slice : Expr) (pins : List (Addr × Obj)) (s : Shared) (σ : St) (H : Hp) (x y : V) (v u : Value) (Q : VK), Inv X pins σ H s → RelV x v → RelV y u → r x y H Q →
    subscripted slice false v u = operate [v, u] (getItem v u) → wpAny (model X.prog X.w) X.A (subscriptTail value slice v u) (EP X pins σ Q) X.xe s
/-- a call of a builtin's method by values: the receiver, the arguments -/
def MtR (X : Cx) (id : String) (r : V → List V → Hp → VK → Prop) : Prop :=
  ∀ (pins : List (Addr × Obj)) (s : Shared) (σ : St) (H : Hp) (x : V) (xs : List V) (v : Value) (us : List Value) (Q : VK), Inv X pins σ H s → RelV x v → Vals xs us → r x xs H Q →
    wpAny (model X.prog X.w) X.A (call (.builtin id) (v :: us)) (EP X pins σ Q) X.xe s
section
variable {X : Cx} {a b : Expr} {ta tb : TE} {pos : Pos}
/-- a[b] -/
theorem pe_ix {r : R2} (hr : IxR X r) (ha : PE X a ta) (hb : PE X b tb) (hs : PlainIx b) : PE X (.Subscript a b pos) (tOp r ta tb) := by
  intro pins s σ H Q I h
  exact Subscript_ (binT ha hb I h fun v u s2 x y H2 I2 rx ry q => hr a b pins s2 σ H2 x y v u Q I2 rx ry q (hs _ _))

def rIxL (K : PySem.W.Frag) : R2 := fun x y H Q => ∃ p xs i v, x = .ref p ∧ y = .int i ∧ SqL K H p xs ∧ atI xs i = some v ∧ Q v H
def rIxT (K : PySem.W.Frag) : R2 := fun x y H Q => ∃ p xs i v, x = .ref p ∧ y = .int i ∧ SqT K H p xs ∧ atI xs i = some v ∧ Q v H
def rIxS : R2 := fun x y H Q => ∃ z i c, x = .str z ∧ y = .int i ∧ z.length ≤ sizeLine ∧ atI z.cps.toList i = some c ∧ Q (.str ⟨#[c]⟩) H
theorem ix_list : IxR X (rIxL X.K) := by
  intro value slice pins s σ H x y v u Q I rx ry h hs
  obtain ⟨p, xs, i, z, rfl, rfl, hq, he, q⟩ := h
  cases rx
  obtain ⟨t, rfl⟩ := ry
  obtain ⟨its, r, pl, hz⟩ := I.list hq
  obtain ⟨j, h1, h2, h3, h4, h5⟩ := atI_get he
  obtain ⟨w, ew, rw'⟩ := r.get h2
  have hl := r.length
  have hn := line63
  have fin : EP X pins σ Q w s := ⟨z, H, I, rw', q⟩
  by_cases h0 : 0 ≤ i
  · have hj : i.toNat = j := by
      rw [seqIndex_of h0 h5] at h1
      exact Option.some.inj h1
    exact item_listR pl.isList h0 (by omega) (by rw [hj]; simpa using ew) fin hs
  · have hj : (i + (its.toArray.size : Int)).toNat = j := by
      rw [seqIndex_neg (by omega) h4] at h1
      rw [List.size_toArray, ← hl]
      exact Option.some.inj h1
    exact subscriptTail_builtinR (x := w) pl.isList.typeIs slot_list_getitem.lookup
      (wpAny_getItem_list_neg (Q := fun r s' => r = w ∧ EP X pins σ Q r s') pl.isList (by omega) (by rw [List.size_toArray] <;> omega) (by omega) (by rw [hj]; simpa using ew) ⟨rfl, fin⟩) hs
theorem ix_tup : IxR X (rIxT X.K) := by
  intro value slice pins s σ H x y v u Q I rx ry h hs
  obtain ⟨p, xs, i, z, rfl, rfl, hq, he, q⟩ := h
  cases rx
  obtain ⟨t, rfl⟩ := ry
  obtain ⟨its, r, pl, hz⟩ := I.tuple hq
  obtain ⟨j, h1, h2, h3, h4, h5⟩ := atI_get he
  obtain ⟨w, ew, rw'⟩ := r.get h2
  have hl := r.length
  have hn := line63
  have fin : EP X pins σ Q w s := ⟨z, H, I, rw', q⟩
  exact subscriptTail_builtinR (x := w) pl.typeIs slot_tuple_getitem.lookup
    (getItem_tuple (j := j) (Q := fun r s' => r = w ∧ EP X pins σ Q r s') pl (by omega) (by omega) (by rw [List.size_toArray, ← hl]; exact h1) (by simpa using ew) ⟨rfl, fin⟩) hs
/-- list, tuple or str -/
def rIx (K : PySem.W.Frag) : R2 := fun x y H Q => rIxL K x y H Q ∨ rIxT K x y H Q ∨ rIxS x y H Q
/-! ### xs[i] = v, any sign -/
/-- the list's object behind a store -/
theorem mapSeq_set (its : List Value) (n j : Nat) (u : Value) : Obj.mapSeq (·.setIfInBounds j u) { cls := .type "list", data := .seq its.toArray n } = { cls := .type "list", data := .seq (its.set j u).toArray n } := by
  simp [Obj.mapSeq]
theorem Inv.lst {pins : List (Addr × Obj)} {σ : St} {H : Hp} {s : Shared} {p : Addr} {xs : List V} (I : Inv X pins σ H s) (h : H p = some (.lst xs)) :
    ∃ (its : List Value) (n : Nat), Vals xs its ∧ s.heap.get? p = some { cls := .type "list", data := .seq its.toArray n } ∧ xs.length ≤ sizeLine := by
  obtain ⟨z, its, n, r, e⟩ := I.hok p _ h
  exact ⟨its, n, r, e, z⟩
/-- the list at p is written by an update of its object -/
theorem Inv.lstUpd {pins : List (Addr × Obj)} {σ : St} {H : Hp} {s : Shared} {p : Addr} {xs ys : List V} {its its' : List Value} {n n' : Nat} {f : Obj → Obj} (I : Inv X pins σ H s) (h : H p = some (.lst xs))
    (ho : s.heap.get? p = some { cls := .type "list", data := .seq its.toArray n }) (hf : f { cls := .type "list", data := .seq its.toArray n } = { cls := .type "list", data := .seq its'.toArray n' }) (r : Vals ys its') (hz : ys.length ≤ sizeLine) (t : Nat) :
    Inv X pins σ (upd H p (.lst ys)) { s with heap := s.heap.update p f, toks := t } := by
  have e : (s.heap.update p f).get? p = some { cls := .type "list", data := .seq its'.toArray n' } := by
    rw [Heap.get?_update_self f ho (by rw [hf] <;> rfl), hf]
  refine I.write (x := p) (e := p) (by rw [h]; trivial) (.inl rfl) (fun b u hb q => (Heap.get?_update_other _ _ (Ne.symm hb)).trans q) ⟨_, e⟩ ?_
  exact ⟨hz, its', n', r, e⟩
def rSetL : V → V → V → Hp → (Hp → Prop) → Prop := fun o i v H Q => ∃ p xs k j, o = .ref p ∧ i = .int k ∧ H p = some (.lst xs) ∧ ixN xs.length k = some j ∧ Q (upd H p (.lst (xs.set j v)))
theorem set_list : PSet X rSetL := by
  intro pins s σ H o i v ov iv u Q I ro ri rv h
  obtain ⟨p, xs, k, j, rfl, rfl, hp, hj, q⟩ := h
  cases ro
  obtain ⟨t, rfl⟩ := ri
  obtain ⟨its, n, r, ho, hz⟩ := I.lst hp
  obtain ⟨h1, h2, h3, h4⟩ := ixN_seq hj
  have hl := r.length
  have hn := line63
  have I' : Inv X pins σ (upd H p (.lst (xs.set j v))) { s with heap := s.heap.update p (Obj.mapSeq (·.setIfInBounds j u)) } :=
    I.lstUpd hp ho (mapSeq_set its n j u) (r.set rv j) (by rw [List.length_set]; exact hz) s.toks
  by_cases h0 : 0 ≤ k
  · have hk : k.toNat = j := by
      rw [seqIndex_of h0 h4] at h1
      exact Option.some.inj h1
    exact PySem.W.ki_setAt ho h0 (by omega) (by rw [List.size_toArray, ← hl]; exact h4) (by rw [hk]; exact ⟨_, I', q⟩)
  · have hk : (k + (its.toArray.size : Int)).toNat = j := by
      rw [seqIndex_neg (by omega) h3] at h1
      rw [List.size_toArray, ← hl]
      exact Option.some.inj h1
    exact PySem.W.ki_setBack ho (by omega) (by rw [List.size_toArray, ← hl]; exact h3) (by omega) (by rw [hk]; exact ⟨_, I', q⟩)

/-! ### slices -/
theorem slice_bounds (lo hi : Option Int) (n : Nat) : (sliceBounds lo hi none n).1 = ((HT.sIx n 0 lo : Nat) : Int) ∧ (sliceBounds lo hi none n).2.1 = ((HT.sIx n n hi : Nat) : Int) ∧ (sliceBounds lo hi none n).2.2 = 1 := by
  refine ⟨?_, ?_, rfl⟩
  · cases lo with
    | none => simp [sliceBounds, HT.sIx]
    | some i =>
      simp only [sliceBounds, HT.sIx, Option.getD_none, show (1 : Int) > 0 by decide, if_true]
      by_cases h : i < 0
      · simp only [h, if_true] <;> omega
      · simp only [h, if_false] <;> omega
  · cases hi with
    | none => simp [sliceBounds, HT.sIx]
    | some i =>
      simp only [sliceBounds, HT.sIx, Option.getD_none, show (1 : Int) > 0 by decide, if_true]
      by_cases h : i < 0
      · simp only [h, if_true] <;> omega
      · simp only [h, if_false] <;> omega
theorem slicePick_cut (its : List Value) (lo hi : Option Int) : slicePick its.toArray lo hi none = ((its.drop (HT.sIx its.length 0 lo)).take (HT.sIx its.length its.length hi - HT.sIx its.length 0 lo)).toArray := by
  obtain ⟨h1, h2, h3⟩ := slice_bounds lo hi its.toArray.size
  unfold slicePick
  rw [h1, h2, h3]
  simp only [sliceRange_one, pick_run, List.size_toArray] <;> rfl
/-- xs[lo:hi] of a list: a new list -/
def rSlL (K : PySem.W.Frag) : V → Option Int → Option Int → Hp → VK → Prop := fun x lo hi H Q => ∃ a xs, x = .ref a ∧ SqL K H a xs ∧ ∀ p, H p = none → Q (.ref p) (upd H p (.lst (cutV xs lo hi)))
theorem sl_list : SlR X (rSlL X.K) := by
  intro pins s σ H x v vl vu lo hi sl Q I rx hs pl pu h
  obtain ⟨a, xs, rfl, hx, q⟩ := h
  cases rx
  obtain ⟨its, r, ht, hz⟩ := I.list hx
  have hlen := r.length
  refine ⟨"list", _, slot_list_getitem.lookup, ht.isList.typeIs, ?_⟩
  refine wpAny_getItem_list_slice ht.isList hs pl pu .none (by simp) ?_ (by rw [List.size_toArray] <;> omega)
  rw [slicePick_cut, ← hlen]
  refine ⟨.ref s.heap.objs.size, _, I.laid (t' := s.toks) (o := .lst (cutV xs lo hi)) (fun b ob q => Heap.get?_push_of_some _ q) (Nat.le_refl _) ?_, rfl, q _ (I.hok.fresh (Nat.le_refl _))⟩
  exact ⟨Nat.le_trans (cutV_length xs lo hi) hz, _, 0, (r.drop (HT.sIx xs.length 0 lo)).take (HT.sIx xs.length xs.length hi - HT.sIx xs.length 0 lo), Heap.get?_push_size _ rfl⟩

/-! ### in, not in: flat items -/
def flatV : V → Bool
  | .non => true
  | .bl _ => true
  | .int _ => true
  | .str _ => true
  | _ => false
/-- == of flat values -/
def eqV : V → V → Bool
  | .non, .non => true
  | .bl a, .bl b => a == b
  | .bl a, .int b => (if a then 1 else 0) == b
  | .int a, .bl b => a == (if b then 1 else 0)
  | .int a, .int b => a == b
  | .str a, .str b => a == b
  | _, _ => false
/-- the items' answers, read off the values (a value's own answer does not lean on its token) -/
def eqU (x : V) (u : Value) : Bool := match u with
  | .none => eqV .non x
  | .bool b => eqV (.bl b) x
  | .int i _ => eqV (.int i) x
  | .str z _ => eqV (.str z) x
  | _ => false
def inV (x : V) (xs : List V) : Bool := xs.any fun y => eqV y x
/-- x in a list or tuple of flat items -/
def rIn (K : PySem.W.Frag) (neg : Bool) : R2 := fun x y H Q => ∃ p xs, y = .ref p ∧ (SqL K H p xs ∨ SqT K H p xs) ∧ flatV x = true ∧ xs.all flatV = true ∧ Q (.bl (if neg then !inV x xs else inV x xs)) H
/-! ### len, list(x), tuple(x) of any list or tuple that is read -/
theorem call_len_seq : CallR X (.builtin "len") (fun xs H Q => ∃ p ys, xs = [.ref p] ∧ (SqL X.K H p ys ∨ SqT X.K H p ys) ∧ Q (.int ys.length) H) := by
  intro pins s σ H xs us Q I r h
  obtain ⟨p, ys, rfl, hq, q⟩ := h
  obtain ⟨u, rfl, rx⟩ := vals1 r
  cases rx
  have hn := line63
  rcases hq with hq | hq
  · obtain ⟨its, r', pl, hz⟩ := I.list hq
    have hlen := r'.length
    exact Calls.call_len_list pl.isList (by simp only [List.size_toArray] <;> omega) ⟨.int ys.length, H, I.tok _, ⟨s.toks + 1, by rw [List.size_toArray, hlen]⟩, q⟩
  · obtain ⟨its, r', pl, hz⟩ := I.tuple hq
    have hlen := r'.length
    exact len_tuple pl (by simp only [List.size_toArray] <;> omega) ⟨.int ys.length, H, I.tok _, ⟨s.toks + 1, by rw [List.size_toArray, hlen]⟩, q⟩
theorem call_list_of : CallR X (.type "list") (fun xs H Q => ∃ p ys, xs = [.ref p] ∧ (SqL X.K H p ys ∨ SqT X.K H p ys) ∧ ∀ l, H l = none → Q (.ref l) (upd H l (.lst ys))) := by
  intro pins s σ H xs us Q I r h
  obtain ⟨p, ys, rfl, hq, q⟩ := h
  obtain ⟨u, rfl, rx⟩ := vals1 r
  cases rx
  have fin : ∀ (its : List Value), Vals ys its → ys.length ≤ sizeLine → ∀ (h' : Heap) (c' : Nat), (∀ b o', s.heap.get? b = some o' → h'.get? b = some o') →
      h'.get? s.heap.objs.size = some { cls := .type "list", dict := none, data := .seq its.toArray c', slots := #[] } → EP X pins σ Q (.ref s.heap.objs.size) { s with heap := h' } := fun its r' hz h' c' kp e =>
    ⟨.ref s.heap.objs.size, _, I.laid (t' := s.toks) kp (Nat.le_refl _) (show ObjOk X.prog X.w _ h' _ (.lst ys) from ⟨hz, its, c', r', e⟩), rfl, q _ (I.hok.fresh (Nat.le_refl _))⟩
  rcases hq with hq | hq
  · obtain ⟨its, r', pl, hz⟩ := I.list hq
    have hlen := r'.length
    obtain ⟨o, ho, hc, n, hd⟩ := pl.isList
    exact call_list_seq p (.inl rfl) ho hc hd (fun h' c' kp e => fin its r' hz h' c' kp e) (by simp only [List.size_toArray] <;> omega)
  · obtain ⟨its, r', pl, hz⟩ := I.tuple hq
    have hlen := r'.length
    obtain ⟨o, ho, hc, n, hd⟩ := pl
    exact call_list_seq p (.inr rfl) ho hc hd (fun h' c' kp e => fin its r' hz h' c' kp e) (by simp only [List.size_toArray] <;> omega)
theorem call_tuple_of : CallR X (.type "tuple") (fun xs H Q => ∃ p ys, xs = [.ref p] ∧ ((SqL X.K H p ys ∧ ∀ l, H l = none → Q (.ref l) (upd H l (.tup ys))) ∨ (SqT X.K H p ys ∧ Q (.ref p) H))) := by
  intro pins s σ H xs us Q I r h
  obtain ⟨p, ys, rfl, h⟩ := h
  obtain ⟨u, rfl, rx⟩ := vals1 r
  cases rx
  rcases h with ⟨hq, q⟩ | ⟨hq, q⟩
  · obtain ⟨its, r', pl, hz⟩ := I.list hq
    have hlen := r'.length
    refine call_tuple_list pl.isList (fun h' kp => ?_) (by simp only [List.size_toArray] <;> omega)
    have I1 : Inv X pins σ H { s with heap := h' } := I.kept (t' := s.toks) kp
    have I2 : Inv X pins σ (upd H h'.objs.size (.tup ys)) { s with heap := h'.push { cls := .type "tuple", data := .seq its.toArray } } :=
      I1.laid (t' := s.toks) (fun b o e => Heap.get?_push_of_some _ e) (Nat.le_refl _) (show ObjOk X.prog X.w _ _ _ (.tup ys) from ⟨hz, its, r', IsTup.new _ _⟩)
    exact ⟨.ref h'.objs.size, _, I2, rfl, q _ (I1.hok.fresh (Nat.le_refl _))⟩
  · obtain ⟨its, r', pl, hz⟩ := I.tuple hq
    exact call_tuple_same pl ⟨.ref p, H, I, rfl, q⟩

/-! ### the call of a builtin's method: o.m(..) -/
/-- the value is of that builtin type -/
def tyV (K : PySem.W.Frag) (T : String) (x : V) (H : Hp) : Prop := match x with
  | .str _ => T = "str"
  | .int _ => T = "int"
  | .ref p => (T = "list" ∧ ∃ xs, SqL K H p xs) ∨ (T = "tuple" ∧ ∃ o, K.lookup p = some o ∧ o.cls = .type "tuple" ∧ o.dict = none) ∨
      (T = "dict" ∧ ((∃ kvs, H p = some (.dK kvs)) ∨ ∃ kvs, H p = some (.dT kvs))) ∨ (T = "set" ∧ ∃ S n, H p = some (.set S n))
  | _ => False
theorem tyV_is {pins : List (Addr × Obj)} {σ : St} {H : Hp} {s : Shared} {T : String} {x : V} {v : Value} (I : Inv X pins σ H s) (r : RelV x v) (ty : tyV X.K T x H) :
    s.TypeIs v T ∧ ∀ a, v = .ref a → ∃ ob, s.heap.get? a = some ob ∧ ob.dict = none := by
  cases x with
  | str z =>
    obtain ⟨t, rfl⟩ := r
    cases (show T = "str" from ty)
    exact ⟨typeIs_str s z t, fun _ e => nomatch e⟩
  | int i =>
    obtain ⟨t, rfl⟩ := r
    cases (show T = "int" from ty)
    exact ⟨typeIs_int s i t, fun _ e => nomatch e⟩
  | ref p =>
    cases r
    rcases ty with ⟨rfl, xs, hq⟩ | ⟨rfl, o, hk, hc, hd⟩ | ⟨rfl, hk⟩ | ⟨rfl, S, n, hk⟩
    · obtain ⟨its, _, pl, _⟩ := I.list hq
      refine ⟨pl.isList.typeIs, fun a e => ?_⟩
      cases e
      obtain ⟨o, n, e, c, hd, _⟩ := pl
      exact ⟨o, e, hd⟩
    · refine ⟨⟨o, I.kIn p o hk, hc⟩, fun a e => ?_⟩
      cases e
      exact ⟨o, I.kIn _ o hk, hd⟩
    · have z : ∃ o, s.heap.get? p = some o ∧ o.ExactDict := by
        rcases hk with ⟨kvs, hk⟩ | ⟨kvs, hk⟩
        · obtain ⟨_, _, _, _, o, _, _, e, ex, _⟩ := I.hok p _ hk
          exact ⟨o, e, ex⟩
        · obtain ⟨_, _, _, _, o, _, _, e, ex, _⟩ := I.hok p _ hk
          exact ⟨o, e, ex⟩
      obtain ⟨o, e, ex⟩ := z
      refine ⟨⟨o, e, ex.1⟩, fun a e2 => ?_⟩
      cases e2
      exact ⟨o, e, ex.2.1⟩
    · obtain ⟨o, _, _, _, e, ex, _⟩ := I.hok p _ hk
      refine ⟨⟨o, e, ex.1⟩, fun a e2 => ?_⟩
      cases e2
      exact ⟨o, e, ex.2.1⟩
  | _ => exact False.elim ty
def tBM0 (K : PySem.W.Frag) (T : String) (r : V → List V → Hp → VK → Prop) (to : TE) : TE := fun σ H Q => to σ H fun x H1 => tyV K T x H1 ∧ r x [] H1 Q
def tBM (K : PySem.W.Frag) (T : String) (r : V → List V → Hp → VK → Prop) (to : TE) (t : TA) : TE := fun σ H Q => to σ H fun x H1 => tyV K T x H1 ∧ t σ H1 fun xs H2 => r x xs H2 Q
variable {o e : Expr} {es : List Expr} {to : TE} {t : TA} {name : Str} {apos cpos : Pos} {T id : String} {r : V → List V → Hp → VK → Prop}
theorem pe_bm (pa : PlainAttrs T) (slot : Slot T name id) (hty : typeOf (.builtin id) = pure (.type "method_descriptor")) (hm : MtR X id r) (ho : PE X o to) (ha : PA X (e :: es) t)
    (hbase : attributeBase o name X.env (eval o X.env) = eval o X.env := by rfl)
    (hfew : ((backTo cpos (starEach (e :: es) X.env)).all (fun x => !x.1) && (backToKw cpos (keywordEach [] X.env)).all (fun x => x.1.isSome)
      && decide ((e :: es).length + ([] : List Keyword).length + (if ([] : List Keyword).isEmpty then 0 else 1) < 30)) = true := by rfl)
    (hline : (apos.endLine == cpos.line) = true := by rfl) (hs : starEach (e :: es) X.env = (false, eval e X.env) :: starEach es X.env := by rfl) (hplain : (backTo cpos (starEach es X.env)).any (·.1) = false := by rfl) :
    PE X (.Call (.Attribute o name apos) (e :: es) [] cpos) (tBM X.K T r to t) := by
  intro pins s σ H Q I h
  refine wpAny_Call_method_late hbase hfew hline rfl (thn (ho pins s σ H _ I h) fun v s1 ⟨x, H1, I1, r1, ty, q1⟩ => ?_)
  obtain ⟨h1, h2⟩ := tyV_is I1 r1 ty
  refine ⟨T, id, pa, slot, hty, h1, h2, ?_⟩
  have hA := ha cpos pins s1 σ H1 _ I1 q1
  rw [hs] at hA ⊢
  refine Calls.callWith_builtin (by show (false || (backTo cpos (starEach es X.env)).any (·.1)) = false; rw [hplain] <;> rfl) (Calls.evalArgs_plain ?_)
  exact thn hA fun us s2 ⟨vs, H2, I2, r2, q2⟩ => hm pins s2 σ H2 x vs v us Q I2 r1 r2 q2
/- xs.append(e), list.index on a module's tuple .. are MtR facts of 06m -/
end
end L2

namespace L2
open PySem PySem.Spec PyProof.Rows

def MtM (X : Cx) (id : String) (r : V → List V → Hp → VK → Prop) : Prop :=
  ∀ (pins : List (Addr × Obj)) (s : Shared) (σ : St) (H : Hp) (x : V) (xs : List V) (v : Value) (us : List Value) (Q : VK), Inv X pins σ H s → RelV x v → Vals xs us → r x xs H Q →
    wpAny (model X.prog X.w) X.A (call (.builtin id) (v :: us)) (EP X pins σ Q) X.xe s

/-! ### lists of values -/
theorem Vals.one : ∀ {x : V} {us : List Value}, Vals [x] us → ∃ u, us = [u] ∧ RelV x u
  | _, _, .cons r .nil => ⟨_, rfl, r⟩
theorem Vals.two : ∀ {x y : V} {us : List Value}, Vals [x, y] us → ∃ u v, us = [u, v] ∧ RelV x u ∧ RelV y v
  | _, _, _, .cons r (.cons q .nil) => ⟨_, _, rfl, r, q⟩
theorem Vals.rep {xs : List V} {us : List Value} (h : Vals xs us) : ∀ k : Nat, Vals (List.replicate k xs).flatten (List.replicate k us).flatten
  | 0 => .nil
  | k + 1 => by
    rw [List.replicate_succ, List.replicate_succ, List.flatten_cons, List.flatten_cons]
    exact Vals.append h (Vals.rep h k)
theorem foldl_rep (its : List Value) : ∀ (k : Nat) (acc : List Value),
    List.foldl (fun x1 x2 => x1 ++ x2) acc.toArray (List.replicate k its.toArray) = (acc ++ (List.replicate k its).flatten).toArray
  | 0, acc => by simp
  | k + 1, acc => by
    have e : acc.toArray ++ its.toArray = (acc ++ its).toArray := by simp
    have e2 : (acc ++ its) ++ (List.replicate k its).flatten = acc ++ (List.replicate (k + 1) its).flatten := by
      rw [List.replicate_succ, List.flatten_cons, List.append_assoc]
    rw [← e2, ← foldl_rep its k (acc ++ its), ← e, List.replicate_succ, List.foldl_cons]

section
variable {X : Cx} {pins : List (Addr × Obj)} {σ : St} {H : Hp} {s : Shared} {l b : Addr} {xs ys zs : List V}

/-! ### the two steps: a tracked list is rewritten, a new list is laid -/
theorem Inv.lset {its its' : List Value} {n : Nat} {f : Array Value → Array Value} {t' : Nat} (I : Inv X pins σ H s) (hH : H l = some (.lst xs))
    (e : s.heap.get? l = some { cls := .type "list", data := .seq its.toArray n }) (hf : f its.toArray = its'.toArray) (hv : Vals ys its') (hz : ys.length ≤ sizeLine) :
    Inv X pins σ (upd H l (.lst ys)) { s with heap := s.heap.update l (Obj.mapSeq f), toks := t' } := by
  have q := PySem.IsL.update e f
  rw [hf] at q
  refine I.write (x := l) (e := l) (by rw [hH]; exact trivial) (.inl rfl) (fun b' u hb hu => (Heap.get?_update_other s.heap (Obj.mapSeq f) (Ne.symm hb)).trans hu) ⟨_, q⟩ ?_
  exact ⟨hz, its', _, hv, q⟩
theorem Inv.lnew {its : List Value} {t' : Nat} (I : Inv X pins σ H s) (hv : Vals ys its) (hz : ys.length ≤ sizeLine) :
    Inv X pins σ (upd H s.heap.objs.size (.lst ys)) { s with heap := s.heap.push { cls := .type "list", data := .seq its.toArray }, toks := t' } :=
  I.laid (fun _ _ q => Heap.get?_push_of_some _ q) (Nat.le_refl _) ⟨hz, its, 0, hv, Heap.get?_push_size _ rfl⟩
theorem Inv.fresh (I : Inv X pins σ H s) : H s.heap.objs.size = none := I.hok.fresh (Nat.le_refl _)
theorem Inv.lstM (I : Inv X pins σ H s) (hH : H l = some (.lst xs)) : xs.length ≤ sizeLine ∧ ∃ (its : List Value) (n : Nat), Vals xs its ∧ xs.length = its.length ∧ s.heap.get? l = some { cls := .type "list", data := .seq its.toArray n } := by
  obtain ⟨z, its, n, r, e⟩ := I.hok l _ hH
  exact ⟨z, its, n, r, r.length, e⟩

theorem notLongL {n : Nat} (h : n ≤ sizeLine) : Builtin.List.listTooLong n = false := by
  unfold Builtin.List.listTooLong
  exact decide_eq_false (by omega)
end

section
variable {X : Cx}

/-! ### methods -/
def rAppend : V → List V → Hp → VK → Prop := fun x vs H Q => ∃ l xs y, x = .ref l ∧ vs = [y] ∧ H l = some (.lst xs) ∧ xs.length < sizeLine ∧ Q .non (upd H l (.lst (xs ++ [y])))
theorem mt_append : MtM X "list.append" rAppend := by
  intro pins s σ H x vs v us Q I rx rv h
  obtain ⟨l, xs, y, rfl, rfl, hH, hz, q⟩ := h
  cases rx
  obtain ⟨u, rfl, ru⟩ := rv.one
  obtain ⟨z, its, n, r, hl, e⟩ := I.lstM hH
  refine call_meets F.slot_list_append ⟨_, e, rfl⟩ F.entry_list_append (F.args_list_append_2 _ _) (PySem.list_append l its.toArray n u (by rw [List.size_toArray]; omega)) ⟨e, ?_⟩
  refine ⟨.non, _, I.lset (its' := its ++ [u]) hH e (by simp) (r.append (.cons ru .nil)) ?_, rfl, q⟩
  rw [List.length_append, List.length_singleton]
  omega

def rExtend : V → List V → Hp → VK → Prop := fun x vs H Q => ∃ l b xs zs, x = .ref l ∧ vs = [.ref b] ∧ H l = some (.lst xs) ∧ H b = some (.lst zs) ∧ xs.length + zs.length ≤ sizeLine ∧ Q .non (upd H l (.lst (xs ++ zs)))
def rPop : V → List V → Hp → VK → Prop := fun x vs H Q => ∃ l xs y, x = .ref l ∧ vs = [] ∧ H l = some (.lst xs) ∧ xs[xs.length - 1]? = some y ∧ Q y (upd H l (.lst xs.dropLast))
def rPopAt : V → List V → Hp → VK → Prop := fun x vs H Q => ∃ l xs i k y, x = .ref l ∧ vs = [.int i] ∧ H l = some (.lst xs) ∧ -(2 ^ 63) ≤ i ∧ i < 2 ^ 63 ∧ seqIndex? i xs.length = some k ∧ xs[k]? = some y ∧ Q y (upd H l (.lst (xs.eraseIdx k)))
def rReverse : V → List V → Hp → VK → Prop := fun x vs H Q => ∃ l xs, x = .ref l ∧ vs = [] ∧ H l = some (.lst xs) ∧ Q .non (upd H l (.lst xs.reverse))
def rClear : V → List V → Hp → VK → Prop := fun x vs H Q => ∃ l xs, x = .ref l ∧ vs = [] ∧ H l = some (.lst xs) ∧ Q .non (upd H l (.lst []))
/-! ### list + list, list += list, list * int -/
def rCat : R2 := fun x y H Q => ∃ l b xs zs, x = .ref l ∧ y = .ref b ∧ H l = some (.lst xs) ∧ H b = some (.lst zs) ∧ xs.length + zs.length ≤ sizeLine ∧ ∀ p, H p = none → Q (.ref p) (upd H p (.lst (xs ++ zs)))
theorem op_cat : OpR X (binaryOp .Add) rCat := by
  intro pins s σ H x y v u Q I rx ry h
  obtain ⟨l, b, xs, zs, rfl, rfl, hH, hB, hz, q⟩ := h
  cases rx
  cases ry
  obtain ⟨z, its, n, r, hl, e⟩ := I.lstM hH
  obtain ⟨z2, its2, n2, r2, hl2, e2⟩ := I.lstM hB
  refine PySem.P.add_list e e2 ?_ (by rw [List.size_toArray, List.size_toArray]; omega)
  have ea : its.toArray ++ its2.toArray = (its ++ its2).toArray := by simp
  rw [ea]
  exact ⟨.ref _, _, I.lnew (t' := s.toks) (r.append r2) (by rw [List.length_append]; omega), rfl, q _ I.fresh⟩
/-- a list times an int (a negative one is nothing) -/
def rRep : R2 := fun x y H Q => ∃ l k xs, x = .ref l ∧ y = .int k ∧ H l = some (.lst xs) ∧ -(2 ^ 63) ≤ k ∧ k < 2 ^ 63 ∧ xs.length * k.toNat ≤ sizeLine ∧
  ∀ p, H p = none → Q (.ref p) (upd H p (.lst (List.replicate k.toNat xs).flatten))
theorem len_rep {α : Type} (xs : List α) (k : Nat) : (List.replicate k xs).flatten.length = k * xs.length := by
  induction k with
  | zero => simp
  | succ k ih => rw [List.replicate_succ, List.flatten_cons, List.length_append, ih, Nat.succ_mul, Nat.add_comm]
theorem op_rep : OpR X (binaryOp .Mult) rRep := by
  intro pins s σ H x y v u Q I rx ry h
  obtain ⟨l, k, xs, rfl, rfl, hH, h1, h2, hz, q⟩ := h
  cases rx
  obtain ⟨t, rfl⟩ := ry
  obtain ⟨z, its, n, r, hl, e⟩ := I.lstM hH
  have hlen : its.toArray.size * k.toNat ≤ sizeLine := by rw [List.size_toArray, ← hl]; exact hz
  have hcap : ¬ its.toArray.size * k.toNat > (2 ^ 63 - 1) / 8 := by
    have : (sizeLine : Nat) ≤ (2 ^ 63 - 1) / 8 := by decide
    omega
  have hfit : ¬ (!Builtin.List.listFitsIndex k) = true := by
    rw [fitsIndex_both h1 h2]
    exact Bool.false_ne_true
  have hlong : ¬ Builtin.List.listTooLong (its.toArray.size * k.toNat) = true := by
    rw [notLongL hlen]
    exact Bool.false_ne_true
  have hnew : List.foldl (fun x1 x2 => x1 ++ x2) #[] (List.replicate (if its.toArray.isEmpty = true then 0 else k.toNat) its.toArray) = (List.replicate k.toNat its).flatten.toArray := by
    have f0 : ∀ m : Nat, List.foldl (fun x1 x2 => x1 ++ x2) #[] (List.replicate m its.toArray) = (List.replicate m its).flatten.toArray := fun m => by
      have := foldl_rep its m []
      rw [List.nil_append] at this
      exact this
    rw [f0]
    cases its with
    | nil => simp
    | cons a r' => rw [if_neg (by simp)]
  refine wpAny_binaryOp_repeat_ref (T := "list") (U := "int") (by decide) ⟨_, e, rfl⟩ (fun s' => typeIs_int s' k t) noFill_list_mul F.fills_int_mul F.slot_int_rmul repeat_list F.slot_int_index.lookup
    (call_meets F.slot_int_rmul (typeIs_int s k t) F.entry_int_rmul (F.args_int_rmul_2 _ _) (int___rmul___int_list k t l its.toArray n)
      ⟨e, rfl, ⟨_, e, rfl⟩, call_meets F.slot_list_mul ⟨_, e, rfl⟩ F.entry_list_mul (F.args_list_mul_2 _ _) (AutoListH.list___mul___list_int_3 l its.toArray n k t hfit hcap hlong) ⟨e, ?_⟩⟩)
  rw [hnew]
  exact ⟨.ref _, _, I.lnew (t' := s.toks) (r.rep k.toNat) (by rw [len_rep, Nat.mul_comm]; exact hz), rfl, q _ I.fresh⟩

/-! ### del xs[i] -/
end

/-! ### xs[a:b] = ys -/
section
variable {prog : Program} {w : World} {A : Around} {E : Value → Shared → Prop} {s : Shared}
end

section
variable {X : Cx}
end
end L2

namespace Att
open PySem PySem.W PySem.Calls PyProof.Rows

/-! ### the script -/
theorem ints_of_wellAll {P : Params} {h : Heap} : ∀ (ns : List Int) (vs : List Value), WellAll P h vs (ns.map WData.int) → IntsAre vs ns := by
  intro ns
  induction ns with
  | nil =>
    intro vs w
    rw [List.map_nil] at w
    cases w
    exact .nil
  | cons n ns ih =>
    intro vs w
    rw [List.map_cons] at w
    cases w with
    | cons a b =>
      cases a
      exact .cons _ _ (ih _ b)

theorem script_of {l : OpenLaw} {n : Nat} (hn : l.most = some n) {P : Params} {h : Heap} {args : List WData} {vals : List Value}
    (hpre : l.row.toRowW.claim.pre args = true) (hwl : WellAll P h vals args) :
    ∃ a vs ns, vals = [Value.ref a] ∧ args = [WData.list (ns.map WData.int)] ∧ h.get? a = some { cls := .type "list", data := .seq vs.toArray } ∧ IntsAre vs ns ∧ ns.length ≤ n := by
  have hsh : WShape.hasAll [] args [.list .int] = true := (pre_splitW hpre).1
  have hc : l.pre.holds [] { args := args } = true := (pre_splitW hpre).2
  obtain ⟨d, r, rfl, h1, h2⟩ := hasAllW_cons hsh
  obtain rfl := hasAllW_nil h2
  obtain ⟨xs, rfl, h3⟩ := hasW_list h1
  obtain ⟨ns, rfl⟩ := items_int h3
  have hlen : ns.length ≤ n := by
    unfold OpenLaw.pre at hc
    have h4 : (WTm.not (.lt (.lit (.int (n : Int))) (.len (.arg 0)))).holds [] { args := [.list (ns.map .int)] } = true := by
      have h4 := (holds_andW hc).1
      rw [hn] at h4
      exact h4
    have h5 := condW_of h4 (w_not (w_lt w_lit (w_len_list (w_arg rfl))))
    rw [List.length_map] at h5
    refine Nat.le_of_not_lt fun q => ?_
    have q' : (n : Int) < ((ns.length : Nat) : Int) := by omega
    first
      | (rw [decide_eq_true q'] at h5; exact absurd h5 (by decide))
      | (simp at h5; omega)
  cases hwl with
  | cons w1 w2 =>
    cases w2
    cases w1 with
    | list ho hall => exact ⟨_, _, ns, rfl, rfl, ho, ints_of_wellAll ns _ hall, hlen⟩

theorem post_true (l : OpenLaw) (args : List WData) : l.row.toRowW.claim.post args (.bool true) args = true :=
  postW_of (r := l.row.toRowW) (X := (true == true))
    (show WShape.has [] (.bool true) .bool = true by first | rfl | decide | simp [WShape.has, WShape.arms, WShape.armsAll])
    (show (WTm.eq .res (.lit (.bool true))).value [] { args := args, res := some (.bool true), after := args } = some (.bool (true == true)) from w_eq_bool (w_res rfl) w_lit) rfl

/-! ### the attachment: holds_open's last premise (the goal 'hc' behind k_head) from a wpAny of the law's body -/
/-- the same from a codeAny of the CALL (for a layer whose function contracts speak of calls) -/
theorem attach_call {l : OpenLaw} {n : Nat} {q : Program} {loose : List Str} {XP : (Str → Option Value) → Heap → Prop} {YP : World → Heap → Prop} {d : DefRec}
    (hn : l.most = some n) (hdf : d.params.defaults = [])
    (call : ∀ (w : World) (s₀ s₁ : Shared) (mg mb : Str → Option Value) (fa : Addr) (o : Obj) (pm cd doc : Value) (a : Addr) (vs : List Value) (ns : List Int),
      Ground q loose [] XP w s₀ mg mb s₁.heap → YP w s₁.heap →
      s₁.heap.get? fa = some o → o.data = .func (docDef d.name d.params d.body d.scope pm cd doc) → s₁.heap.CodeRec cd d.name → mg d.name = some (.ref fa) →
      s₁.heap.get? a = some { cls := .type "list", data := .seq vs.toArray } → IntsAre vs ns → ns.length ≤ n → s₁.gens = #[] →
      codeAny (model l.prog w) callerA (.call (.ref fa) ⟨[.ref a], []⟩) (fun r s' => r = .ok (.ret (.bool true)) ∧ OldK s₁.heap s'.heap ∧ s'.os = s₁.os ∧ AllBare s'.gens) s₁) :
    WalkO q loose XP YP l.row.toRowW d [] (fun f vs => PySem.call f vs) := by
  intro w s₀ s₁ mg mb G Y fa o pm cd doc dV kV ho hd hcd hD hmg hg args vals as hpre hlay hrd hwl hlo
  obtain rfl : dV = .none := Dflts.none hD hdf
  obtain rfl : kV = .none := Dflts.noKw hD
  obtain ⟨a, vs, ns, rfl, rfl, hobj, hints, hlen⟩ := script_of hn hpre hwl
  refine enter_call (codeAny_mono (call w s₀ s₁ mg mb fa o pm cd doc a vs ns G Y ho (fd_plain hd) hcd hmg hobj hints hlen hg) fun r s' hq => ?_)
  obtain ⟨rfl, h2, h3, h4⟩ := hq
  exact ⟨.inl ⟨.bool true, .bool true, [], rfl, fun _ => rfl, .bool true, post_true l _, fun _ => ⟨List.Pairwise.nil, fun _ hm => (nomatch hm)⟩⟩, h2, h3, h4⟩

/-! ### rules over ANY heap (no ledger) from facts about the written part K: the library's own take a ledger (News) for what they write -/
section
variable {prog : Program} {w : World} {A : Around} {E : Value → Shared → Prop} {s : Shared} {K : Frag}

/-! the whole heap as the ledger: makes every rule that writes through a ledger a rule over any heap -/
def noObjs (h : Heap) : Heap := { h with objs := #[] }
def ledger (h : Heap) (L d : Addr) : List (Addr × Obj) := (List.range h.objs.size).filterMap fun a => if a = L ∨ a = d then none else (h.get? a).map fun o => (a, o)
end
end Att

namespace L2
open PySem PySem.Spec PyProof.Rows

theorem vals_ints : ∀ {vs : List Value} {ns : List Int}, IntsAre vs ns → Vals (ns.map V.int) vs
  | _, _, .nil => .nil
  | _, _, .cons n t h => .cons ⟨t, rfl⟩ (vals_ints h)

/-- nothing is tracked but the script, known to the object (or it is an object of the module) -/
def Only (H : Hp) : Prop := ∀ b, H b = none ∨ ∃ o xs, H b = some (.frz o (.lst xs))

/-- THE HEAD: the law's promise, at the heap behind the top. F, the promise of the law's def, may use that base is part of the heap (so K.In base, base.Ns mainGlobals mg stand in Mod) -/
theorem law_call {P : Program} {w : World} {K : PySem.W.Frag} {mg mb : Str → Option Value} {CX : CXT} {k : Nat} {fa a : Addr} {fd : FuncData} {x : Str} {sp : Sp} {s₁ : Shared} {vs : List Value} {ns : List Int}
    (KX : K.In s₁.heap) (hns : s₁.heap.Ns mainGlobals mg) (hb : s₁.heap.Ns builtinsNs mb) (hbb : ∀ x : Str, x ≠ "__name__" → mb x = bootBuiltins x) (hlim : s₁.heap.NoLimit) (hg : s₁.gens = #[])
    (ha : s₁.heap.get? a = some { cls := .type "list", data := .seq vs.toArray }) (hi : IntsAre vs ns) (hl : ns.length ≤ sizeLine) (hr : Room k callerA)
    (F : ∀ base : Heap, K.In base → base.Ns mainGlobals mg → FnOk P w K mg base CX k fa fd [x] sp) (hbind : ∀ (s : Shared) (u : Value), BindsTo s fd ⟨[u], []⟩ [(x, u)])
    (hsp : ∀ H : Hp, Only H → SqL K H a (ns.map V.int) → sp [.ref a] H (fun v _ => v = .bl true) fun _ _ _ => False)
    (hCX : ∀ H e s', CX [] H s₁ (fun _ _ _ => False) e s' → False) :
    codeAny (model P w) callerA (.call (.ref fa) ⟨[.ref a], []⟩) (fun r s' => r = .ok (.ret (.bool true)) ∧ OldK s₁.heap s'.heap ∧ s'.os = s₁.os ∧ AllBare s'.gens) s₁ := by
  have rv := vals_ints hi
  have lenV := hi.length
  -- from an abstract heap in which nothing but the script may be tracked
  have core : ∀ H : Hp, Only H → SqL K H a (ns.map V.int) → HOk P w H s₁.heap → (∀ b, H b ≠ none → b = a) → (H a ≠ none → K.lookup a = none) →
      codeAny (model P w) callerA (.call (.ref fa) ⟨[.ref a], []⟩) (fun r s' => r = .ok (.ret (.bool true)) ∧ OldK s₁.heap s'.heap ∧ s'.os = s₁.os ∧ AllBare s'.gens) s₁ := by
    intro H hO hS hok hA hK
    have base_of : ∀ {b : Addr} {o : Obj}, s₁.heap.get? b = some o → H b = none → (hidT s₁.heap H).get? b = some o := fun e n => hidT_get e n
    have noA : ∀ {b : Addr} {o : Obj} {es : Array DictEntry} {ep : Nat}, s₁.heap.get? b = some o → o.data = .dict es ep → H b = none := fun {b o es ep} e d => by
      cases q : H b with
      | none => rfl
      | some u =>
        have e' : b = a := hA b (by rw [q]; simp)
        subst e'
        rw [ha] at e; cases e
        have d' : Data.seq vs.toArray _ = Data.dict es ep := d
        cases d'
    have nsK : ∀ {b : Addr} {m : Str → Option Value}, s₁.heap.Ns b m → (hidT s₁.heap H).Ns b m := fun {b m} ⟨o, es, ep, e, d, r⟩ => ⟨o, es, ep, base_of e (noA e d), d, r⟩
    have hKb : K.In (hidT s₁.heap H) := fun b o e => base_of (KX b o e) (by
      cases q : H b with
      | none => rfl
      | some u =>
        have e' : b = a := hA b (by rw [q]; simp)
        subst e'
        rw [hK (by rw [q]; simp)] at e; cases e)
    have hM : Mod K mg (hidT s₁.heap H) := ⟨hKb, nsK hns, ⟨mb, nsK hb, hbb⟩, let ⟨mc, h1, h2⟩ := hlim; ⟨mc, nsK h1, h2⟩⟩
    have e0 : Env0 P w K mg (hidT s₁.heap H) callerA [] s₁ H := ⟨rfl, hM, fun b o e => of_hidT e, Nat.le_of_eq (hidT_size _ _), trivial, fun b hb => absurd (show b ∈ ([] : List Addr) from hb) (by simp), hok, .of_eq hg, .inl rfl⟩
    refine codeAny_mono ((F _ hKb (nsK hns)).run callerA [] s₁ H ⟨[.ref a], []⟩ [.ref a] [.ref a] _ _ hr (.inr rfl) e0 (hbind s₁ (.ref a)) (.cons rfl .nil) (hsp H hO hS)) fun r s' h => ?_
    cases r with
    | error e => exact (hCX H e s' h).elim
    | ok fl =>
      cases fl with
      | next => exact False.elim h
      | brk => exact False.elim h
      | cont => exact False.elim h
      | ret u =>
        obtain ⟨v, H', os, bare, un, hok', r', q⟩ := h
        have q' : v = .bl true := q
        subst q'
        obtain rfl : u = Value.bool true := r'
        refine ⟨rfl, OldK.of_keep fun b o e => ?_, os, bare⟩
        cases q : H b with
        | none => exact un.keep b o e q (by intro z; exact absurd (show b ∈ ([] : List Addr) from z) (by simp)) (by simp)
        | some u =>
          rcases hO b with z | ⟨ob, xs, z⟩
          · rw [q] at z; cases z
          · have z2 := un.frzs b ob _ z
            obtain ⟨e1, _⟩ := hok b _ z
            obtain ⟨e2, _⟩ := hok' b _ z2
            rw [e] at e1; cases e1
            exact e2
  cases hk : K.lookup a with
  | some o =>
    -- the script is one of the module's own objects
    have e := KX a o hk
    rw [ha] at e
    cases e
    refine core (fun _ => none) (fun _ => .inl rfl) (.inr ⟨_, vs.toArray, _, hk, rfl, rfl, rfl, by rw [List.size_toArray, lenV]; exact hl, by simpa using rv⟩) (fun b u z => by have z' : (none : Option HO) = some u := z; cases z') (fun b z => absurd rfl z) fun z => absurd rfl z
  | none =>
    refine core (fun b => if b = a then some (.frz { cls := .type "list", data := .seq vs.toArray } (.lst (ns.map V.int))) else none) (fun b => ?_) (.inl (.inr ⟨{ cls := .type "list", data := .seq vs.toArray }, if_pos rfl⟩)) (fun b u z => ?_) (fun b z => ?_) fun _ => hk
    · by_cases hb : b = a
      · exact .inr ⟨_, _, if_pos hb⟩
      · exact .inl (if_neg hb)
    · by_cases hb : b = a
      · have z' := (if_pos hb).symm.trans z
        cases z'
        subst hb
        exact ⟨ha, by rw [List.length_map]; exact hl, vs, _, rv, ha⟩
      · have z' := (if_neg hb).symm.trans z
        cases z'
    · by_cases hb : b = a
      · exact hb
      · exact absurd (if_neg hb) z
end L2

namespace L2
open PySem PySem.Spec PyProof.Rows

abbrev KOf {K : PySem.W.Frag} {h : Heap} (_ : K.In h) : PySem.W.Frag := K

/-- the goal that k_head leaves (case hc), from the law's promise. F gives the function object fd (K's own) once, then the promise over every base -/
theorem walk_of {l : PySem.W.OpenLaw} {n k : Nat} {q : Program} {loose : List Str} {XP : (Str → Option Value) → Heap → Prop} {YP : World → Heap → Prop} {d : DefRec} {K : Params → PySem.W.Frag} {CX : World → CXT} {sp : World → Sp} {x : Str}
    (hn : l.most = some n) (hn2 : n ≤ sizeLine) (hdf : d.params.defaults = []) (hr : Room k callerA)
    (hY : ∀ (w : World) (h : Heap), YP w h → (K w.params).In h)
    (F : ∀ (w : World) (mg : Str → Option Value) (fa : Addr) (h : Heap), (K w.params).In h → h.Ns mainGlobals mg → mg d.name = some (.ref fa) →
      ∃ fd : FuncData, (∀ (s : Shared) (u : Value), BindsTo s fd ⟨[u], []⟩ [(x, u)]) ∧
        ∀ base : Heap, (K w.params).In base → base.Ns mainGlobals mg → FnOk l.prog w (K w.params) mg base (CX w) k fa fd [x] (sp w))
    (hsp : ∀ (w : World) (H : Hp) (a : Addr) (ns : List Int), ns.length ≤ n → Only H → SqL (K w.params) H a (ns.map V.int) → sp w [.ref a] H (fun v _ => v = .bl true) fun _ _ _ => False)
    (hCX : ∀ (w : World) (H : Hp) (s : Shared) (e : Value) (s' : Shared), CX w [] H s (fun _ _ _ => False) e s' → False) :
    PySem.W.WalkO q loose XP YP l.row.toRowW d [] (fun f vs => PySem.call f vs) := by
  refine Att.attach_call hn hdf fun w s₀ s₁ mg mb fa o pm cd doc a vs ns G Y ho hd hcd hmg hobj hints hlen hg => ?_
  have KX := hY w _ Y
  obtain ⟨fd, hb, hF⟩ := F w mg fa _ KX G.T.g hmg
  exact law_call KX G.T.g G.T.b G.T.builtins G.T.nolimit hg hobj hints (Nat.le_trans hlen hn2) hr hF hb (fun H hO hS => hsp w H a ns hlen hO hS) fun H e s' => hCX w H s₁ e s'
end L2


/-! SHORT WORDS over the layer: a def of the text, its body, what a loop and a test want. -/
namespace L2
open PySem PySem.Spec PyProof.Rows

/-! ### the text by places -/
/-- the j-th statement of a class's body -/
def inClass (s : Stmt) (j : Nat) : Stmt := match s with
  | .ClassDef _ _ _ body _ _ _ _ _ _ _ => body.getD j (.Pass ⟨0, 0, 0, 0⟩)
  | _ => .Pass ⟨0, 0, 0, 0⟩
def defArgs (s : Stmt) : Arguments := match s with
  | .FunctionDef _ a _ _ _ _ _ _ _ _ => a
  | _ => { posonlyargs := [], args := [], vararg := none, kwonlyargs := [], kw_defaults := [], kwarg := none, defaults := [] }
def defBody (s : Stmt) : List Stmt := match s with
  | .FunctionDef _ _ b _ _ _ _ _ _ _ => b
  | _ => []
def defScope (s : Stmt) : Scope := match s with
  | .FunctionDef _ _ _ _ _ _ sc _ _ _ => sc
  | _ => { kind := .function, names := [], isGenerator := false, isCoroutine := false }

/-! ### no exception leaves a def -/
abbrev E0 : XK := fun _ _ _ => False
theorem pass0 {X : Cx} : Passes CX0 X E0 := fun _ _ _ _ _ _ _ h => h.elim

/-! ### a def (or method) of the text as it stands behind the top -/
structure Fun (K : PySem.W.Frag) (x qual : Str) (st : Stmt) (f : Addr) (fd : FuncData) : Prop where
  ex : ∃ (oc : Value) (od : Option Addr) (kV doc pm : Value) (an : Option Addr) (cdv ct : Value) (osl : Array (Option Value)),
    fd = PySem.W.fnOf x qual (defArgs st) (defBody st) (defScope st) .none kV doc pm an cdv ct ∧ K.lookup f = some ⟨oc, od, .func fd, osl⟩ ∧ PySem.W.codeIn K cdv qual = true
  kp : PySem.W.keepIn K (.ref f) = true
section
variable {P : Program} {w : World} {K : PySem.W.Frag} {mg : Str → Option Value} {base : Heap}
/-- THE RULE for a def: its body as a term of rules, and the reading of that term -/
theorem Fun.ok {x qual : Str} {st : Stmt} {f : Addr} {fd : FuncData} {N ps : List Str} {k : Nat} {sp : Sp} (F : Fun K x qual st f fd) (S : FnScope N ps (defScope st)) (len : ∀ vs H Q E, sp vs H Q E → vs.length = ps.length)
    (hbody : ∀ (cdv : Value) (A : Around) (outer : List Env) (s : Shared) (H : Hp) (vs : List V) (Q : VK) (E : XK), Room k (A.deeper (envOfC qual (defScope st) s.heap.objs.size f cdv)) → sp vs H Q E →
      ∃ t, PSs (cxOf CX0 P w K mg base N qual (defScope st) f cdv A outer s H E).nox (defBody st) t ∧ t { nx := fun _ H' => Q .non H', rt := Q } (start N vs) H) : FnOk P w K mg base CX0 (k + 1) f fd ps sp := by
  obtain ⟨oc, od, kV, doc, pm, an, cdv, ct, osl, rfl, lk, hcd⟩ := F.ex
  refine fn_of lk hcd S len fun A outer s H vs Q E hr _ hsp => ?_
  obtain ⟨t, h, q⟩ := hbody cdv A outer s H vs Q E hr hsp
  exact ⟨t, h.nox, q⟩
/-- how its arguments bind (no defaults): h is «fun _ _ _ _ _ _ us hl => match us, hl with | [_, _], _ => rfl», one _ a parameter -/
theorem Fun.binds {x qual : Str} {st : Stmt} {f : Addr} {fd : FuncData} {ps : List Str} (F : Fun K x qual st f fd)
    (h : ∀ (kV doc pm : Value) (an : Option Addr) (cdv ct : Value) (us : List Value), us.length = ps.length → bindArgs (PySem.W.fnOf x qual (defArgs st) (defBody st) (defScope st) .none kV doc pm an cdv ct) ⟨us, []⟩ = pure (ps.zip us)) : Binds K fd ps [] := by
  obtain ⟨oc, od, kV, doc, pm, an, cdv, ct, osl, rfl, lk, hcd⟩ := F.ex
  exact .all (h kV doc pm an cdv ct)
theorem fun_mk {x qual : Str} {st : Stmt} {f : Addr} {oc : Value} {od an : Option Addr} {osl : Array (Option Value)} {kV doc pm cdv ct : Value} (l : K.lookup f = some ⟨oc, od, .func (PySem.W.fnOf x qual (defArgs st) (defBody st) (defScope st) .none kV doc pm an cdv ct), osl⟩)
    (c : PySem.W.codeIn K cdv qual = true) (k : PySem.W.keepIn K (.ref f) = true) : Fun K x qual st f (PySem.W.fnOf x qual (defArgs st) (defBody st) (defScope st) .none kV doc pm an cdv ct) := ⟨⟨oc, od, kV, doc, pm, an, cdv, ct, osl, rfl, l, c⟩, k⟩
end
theorem hu_of {A : Around} {k : Nat} (hr : Room k A) : A.units + 1 < cLine := Nat.lt_of_le_of_lt (Nat.add_le_add_left (by decide : 1 ≤ 64) _) hr.units
theorem small1000 {n : Nat} (h : n ≤ 1000) : n < sizeLine := Nat.lt_of_le_of_lt h (by decide)

/-! ### expressions in short: the name that stands in the i-th slot -/
section
variable {X : Cx}
theorem pv (i : Nat) {x : Str} {pos : Pos} (hN : X.N[i]? = some x := by rfl) (hv : Vis X.env.scope x := by first | exact Or.inl rfl | exact Or.inr (Or.inl rfl) | exact Or.inr (Or.inr rfl)) (hd : (x == ("__debug__" : Str)) = false := by decide)
    (hcd : (x == ("__classdict__" : Str)) = false := by decide) : PE X (.Name x pos) (tVar i) := pe_var hN hv hd hcd
end

/-! ### tests -/
theorem iteF {A B : Prop} (h : B) : if false = true then A else B := by
  rw [if_neg Bool.false_ne_true]
  exact h
theorem iteT {A B : Prop} (h : A) : if true = true then A else B := by
  rw [if_pos rfl]
  exact h
theorem ite2 {c A B : Prop} [Decidable c] (h1 : c → A) (h2 : ¬ c → B) : if c then A else B := by
  by_cases h : c
  · rw [if_pos h]
    exact h1 h
  · rw [if_neg h]
    exact h2 h
/-! ### heaps -/
/-- all that was tracked is as it was -/
def Same (H H' : Hp) : Prop := ∀ b o, H b = some o → H' b = some o
theorem Same.refl (H : Hp) : Same H H := fun _ _ h => h
theorem Same.trans {H H1 H2 : Hp} (a : Same H H1) (b : Same H1 H2) : Same H H2 := fun c o h => b c o (a c o h)
theorem Same.free {H H' : Hp} (e : Same H H') {l : Addr} (h : H' l = Option.none) : H l = Option.none := by
  cases q : H l with
  | none => rfl
  | some o =>
    rw [e l o q] at h
    cases h
theorem Same.seq {K : PySem.W.Frag} {H H' : Hp} {a : Addr} {xs : List V} (e : Same H H') (h : SqL K H a xs) : SqL K H' a xs := by
  rcases h with (h | ⟨o, h⟩) | h
  · exact .inl (.inl (e _ _ h))
  · exact .inl (.inr ⟨o, e _ _ h⟩)
  · exact .inr h

end L2
end
section
set_option Elab.async false
set_option linter.all false
set_option maxRecDepth 100000
set_option maxHeartbeats 4000000
/-! MORE RULES over the layer: list comprehensions, == and != of nested data, all, is True, isinstance, t[:] -/
namespace L2
open PySem PySem.Spec PyProof.Rows

/-! ### the tests of a clause -/
def PF (X : Cx) (ifs : List Expr) (t : TT) : Prop :=
  ∀ (pins : List (Addr × Obj)) (s : Shared) (σ : St) (H : Hp) (Q : Bool → Hp → Prop), Inv X pins σ H s → t σ H Q →
    wpAny (model X.prog X.w) X.A (forIn ifs true fun c r => if r = true then do let ok ← isTrue c X.env (eval c X.env); pure (ForInStep.yield ok) else pure (ForInStep.yield r)) (TP X pins σ Q) X.xe s
def tYes : TT := fun _ H Q => Q true H
theorem pf_nil {X : Cx} : PF X [] tYes := fun pins s σ H Q I h => wpAny_tests_nil ⟨H, I, h⟩
theorem pf_one {X : Cx} {c : Expr} {t : TT} (hc : PT X c t) : PF X [c] t := fun pins s σ H Q I h => wpAny_tests_one (hc pins s σ H Q I h)

/-! ### the loop of a comprehension that never raises -/
section
variable {prog : Program} {w : World} {A : Around} {R : Result → Shared → Prop} {s : Shared}
theorem compLoop_go {elt target iter : Expr} {ifs : List Expr} {scope : Scope} {pos : Pos} {it acc : Value} {env : Env} (I : Nat → Shared → Prop)
    (turn : ∀ n s, I n s → wpAny (model prog w) A (pyNext it) (fun r s₁ => match r with
      | none => R (.ok .next) s₁
      | some v => wpAny (model prog w) A (letOwnedTupleGo target it v) (fun _ s₁' => wpAny (model prog w) A (assign target env v) (fun _ s₂ =>
          wpAny (model prog w) A (forIn ifs true fun c r => if r = true then do let ok ← isTrue c env (eval c env); pure (ForInStep.yield ok) else pure (ForInStep.yield r)) (fun ok s₃ =>
            if ok = true then wpAny (model prog w) A (eval elt env) (fun x s₄ =>
              wpAny (model prog w) A (call (.builtin "list.append") [acc, x]) (fun _ s₅ => ∃ m, m < n ∧ I m s₅) (fun _ _ => False) s₄) (fun _ _ => False) s₃
            else ∃ m, m < n ∧ I m s₃) (fun _ _ => False) s₂) (fun _ _ => False) s₁') (fun _ _ => False) s₁) (fun _ _ => False) s)
    (n : Nat) (h : I n s) : codeAny (model prog w) A (.compLoop (.ListComp elt [⟨target, iter, ifs, 0⟩] scope pos) 0 it acc env) R s := by
  refine codeAny_loop rfl I (fun n s hI => ?_) n h
  show wpAny _ A ((compTurn (.ListComp elt [⟨target, iter, ifs, 0⟩] scope pos) 0 it acc env).onRaise (fun x => do noteFrame x env; theTreesLotGoes x)) _ _ s
  refine wpAny_noted ?_
  rw [compTurn_list]
  refine wpAny_bind (wpAny_standAt (wpAny_bind (wpAny_mono (turn n s hI) (fun r s₁ h₁ => ?_) fun _ _ f => f.elim)))
  cases r with
  | none => exact wpAny_pure h₁
  | some v =>
    refine wpAny_bind (wpAny_mono h₁ (fun _ s₁' h₁' => wpAny_bind (wpAny_mono h₁' (fun _ s₂ h₂ => wpAny_bind (wpAny_mono h₂ (fun ok s₃ h₃ => ?_) fun _ _ f => f.elim)) fun _ _ f => f.elim)) fun _ _ f => f.elim)
    cases ok with
    | false => exact wpAny_pure ⟨rfl, h₃⟩
    | true =>
      exact wpAny_bind (wpAny_bind (wpAny_mono h₃ (fun x s₄ h₄ => wpAny_bind (wpAny_mono h₄ (fun _ s₅ h₅ => wpAny_pure (wpAny_pure ⟨rfl, h₅⟩)) fun _ _ f => f.elim)) fun _ _ f => f.elim))
end

/-! ### names of a block -/
theorem relabel_in {env : Env} : ∀ {names : List (Str × NameKind)} {y : Str} {k : NameKind},
    (names.map fun (n, k) => if (k == NameKind.free && env.scope.kind == .function && env.kindOf n == some .cell) then (n, NameKind.cell) else (n, k)).lookup y = some k → (k = .cell ∨ k = .free) → ∃ k0, (y, k0) ∈ names ∧ (k0 = .cell ∨ k0 = .free)
  | [], _, _, h, _ => by simp at h
  | (n, k0) :: r, y, k, h, hk => by
    have ih := @relabel_in env r y k
    rw [List.map_cons] at h
    by_cases hc : (k0 == NameKind.free && env.scope.kind == .function && env.kindOf n == some .cell) = true
    · simp only [hc, if_true] at h
      cases hy : y == n with
      | true =>
        have e : y = n := eq_of_beq hy
        subst e
        rw [Bool.and_eq_true, Bool.and_eq_true] at hc
        exact ⟨k0, List.mem_cons_self .., .inr (eq_of_beq hc.1.1)⟩
      | false =>
        rw [List.lookup_cons, hy] at h
        obtain ⟨k1, h1, h2⟩ := ih h hk
        exact ⟨k1, List.mem_cons_of_mem _ h1, h2⟩
    · simp only [hc] at h
      cases hy : y == n with
      | true =>
        have e : y = n := eq_of_beq hy
        subst e
        simp only [List.lookup_cons, hy, Bool.false_eq_true, if_false] at h
        cases h
        exact ⟨k0, List.mem_cons_self .., hk⟩
      | false =>
        simp only [List.lookup_cons, hy, Bool.false_eq_true, if_false] at h
        obtain ⟨k1, h1, h2⟩ := ih h hk
        exact ⟨k1, List.mem_cons_of_mem _ h1, h2⟩
theorem relabel_free {env : Env} : ∀ {names : List (Str × NameKind)} {y : Str}, names.lookup y = some .free →
    (names.map fun (n, k) => if (k == NameKind.free && env.scope.kind == .function && env.kindOf n == some .cell) then (n, NameKind.cell) else (n, k)).lookup y = some .cell ∨
    (names.map fun (n, k) => if (k == NameKind.free && env.scope.kind == .function && env.kindOf n == some .cell) then (n, NameKind.cell) else (n, k)).lookup y = some .free
  | [], _, h => by simp at h
  | (n, k0) :: r, y, h => by
    have ih := @relabel_free env r y
    rw [List.map_cons]
    cases hy : y == n with
    | true =>
      simp only [List.lookup_cons, hy] at h
      cases h
      by_cases hc : (NameKind.free == NameKind.free && env.scope.kind == .function && env.kindOf n == some .cell) = true
      · left; simp only [hc, if_true, List.lookup_cons, hy]
      · right; simp only [hc, Bool.false_eq_true, if_false, List.lookup_cons, hy]
    | false =>
      simp only [List.lookup_cons, hy] at h
      by_cases hc : (k0 == NameKind.free && env.scope.kind == .function && env.kindOf n == some .cell) = true
      · simp only [hc, if_true, List.lookup_cons, hy]; exact ih h
      · simp only [hc, Bool.false_eq_true, if_false, List.lookup_cons, hy]; exact ih h
theorem mem_of_lookup {κ β : Type} [BEq κ] [LawfulBEq κ] : ∀ {l : List (κ × β)} {y : κ} {b : β}, l.lookup y = some b → (y, b) ∈ l
  | [], _, _, h => by simp at h
  | (n, k) :: r, y, b, h => by
    cases hy : y == n with
    | true =>
      have e : y = n := eq_of_beq hy
      subst e
      simp only [List.lookup_cons, hy] at h
      cases h
      exact List.mem_cons_self ..
    | false =>
      simp only [List.lookup_cons, hy] at h
      exact List.mem_cons_of_mem _ (mem_of_lookup h)

/-- the context of a comprehension's block: x its own name, fj the names from around with their slots there -/
def blk (X : Cx) (sc : Scope) (cl : List (Str × Addr)) (fj : List (Str × Nat)) (x : Str) (s₃ : Shared) (H₃ : Hp) (ex : List Addr) : Cx where
  prog := X.prog
  w := X.w
  K := X.K
  mg := X.mg
  base := X.base
  A := X.A
  N := x :: fj.map (·.1)
  s₀ := s₃
  H₀ := H₃
  env := compEnvC sc cl s₃.heap.objs.size X.env
  outer := X.stack
  stack := X.stack
  ex := ex
  fn := fun _ => false
  calm := X.calm
  pn := []
  tr := []
  fx := []
  xe := fun _ _ => False
def frees (σ : St) (fj : List (Str × Nat)) : St := fj.map fun p => (σ[p.2]?).join
/-- what the text must have -/
structure LcOk (X : Cx) (sc : Scope) (cl : List (Str × Addr)) (fj : List (Str × Nat)) (x : Str) : Prop where
  clos : closureFor sc X.env = pure cl
  cell : ∀ y ∈ sc.names, y.2 ≠ .cell
  kind : sc.kind = .function
  names : ∀ y ∈ sc.names, y.2 = .local → sc.names.lookup y.1 = some .local
  hx : sc.names.lookup x = some .local
  sub : ∀ p ∈ cl, X.env.cells.lookup p.1 = some p.2
  has : ∀ y ∈ sc.names, y.2 = .free → (cl.lookup y.1).isSome = true
  fr : ∀ p ∈ fj, X.N[p.2]? = some p.1 ∧ sc.names.lookup p.1 = some .free ∧ (X.env.scope.names.lookup p.1 = some .cell ∨ X.env.scope.names.lookup p.1 = some .free)
  nd : (x :: fj.map (·.1)).Nodup
section
variable {X : Cx} {sc : Scope} {cl : List (Str × Addr)} {fj : List (Str × Nat)} {x : Str} {pins : List (Addr × Obj)} {σ : St} {H : Hp} {s₃ : Shared} {ex : List Addr}
theorem LcOk.sub' (O : LcOk X sc cl fj x) {n : Str} {c : Addr} (h : cl.lookup n = some c) : X.env.cells.lookup n = some c := O.sub (n, c) (mem_of_lookup h)
theorem lookup_of_mem {κ β : Type} [BEq κ] [LawfulBEq κ] : ∀ {l : List (κ × β)} {y : κ}, y ∈ l.map (·.1) → (l.lookup y).isSome = true
  | [], _, h => by cases h
  | (n, k) :: r, y, h => by
    cases hy : y == n with
    | true => simp only [List.lookup_cons, hy, Option.isSome_some]
    | false =>
      simp only [List.lookup_cons, hy]
      rcases List.mem_cons.mp h with e | h
      · exact absurd (beq_iff_eq.mpr (show y = n from e)) (by rw [hy]; exact Bool.false_ne_true)
      · exact lookup_of_mem h
theorem LcOk.of (cn : List Str) (clos : closureFor sc X.env = pure cl) (cell : ∀ y ∈ sc.names, y.2 ≠ .cell) (kind : sc.kind = .function) (names : ∀ y ∈ sc.names, y.2 = .local → sc.names.lookup y.1 = some .local) (hx : sc.names.lookup x = some .local)
    (sub : ∀ p ∈ cl, X.env.cells.lookup p.1 = some p.2) (hcn : cl.map (·.1) = cn) (has : ∀ y ∈ sc.names, y.2 = .free → y.1 ∈ cn)
    (fr : ∀ p ∈ fj, X.N[p.2]? = some p.1 ∧ sc.names.lookup p.1 = some .free ∧ (X.env.scope.names.lookup p.1 = some .cell ∨ X.env.scope.names.lookup p.1 = some .free)) (nd : (x :: fj.map (·.1)).Nodup) : LcOk X sc cl fj x :=
  ⟨clos, cell, kind, names, hx, sub, fun y hy hf => lookup_of_mem (by rw [hcn]; exact has y hy hf), fr, nd⟩
theorem blk_ok (O : LcOk X sc cl fj x) (I : Inv X pins σ H s₃) (hx : ∀ b ∈ ex, FpOk X pins H b) (hb : ∀ b ∈ ex, ∃ o, s₃.heap.get? b = some o) : (blk X sc cl fj x s₃ H ex).Ok where
  mod := I.ok.mod
  kind := O.kind
  glob := I.ok.glob
  blt := I.ok.blt
  above := Nat.le_refl _
  inj := fun a b c h1 h2 => I.ok.inj a b c (O.sub' h1) (O.sub' h2)
  has := fun y h => by
    have h' : ∃ k, ((relabel sc X.env).names).lookup y = some k ∧ (k = .cell ∨ k = .free) := by
      rcases h with h | h
      · exact ⟨_, h, .inl rfl⟩
      · exact ⟨_, h, .inr rfl⟩
    obtain ⟨k, h1, h2⟩ := h'
    obtain ⟨k0, m, z⟩ := relabel_in h1 h2
    have z' : k0 = .free := z.resolve_left (O.cell _ m)
    subst z'
    have q := O.has _ m rfl
    cases e : cl.lookup y with
    | none => rw [show cl.lookup (y, NameKind.free).1 = cl.lookup y from rfl, e] at q; cases q
    | some c => exact ⟨c, e⟩
  cab := fun _ _ h => by cases h
  hd := by
    rcases I.hdE with z | ⟨e, c, z1, z2⟩
    · exact .inl z
    · exact .inr ⟨e, c, z1, .inl z2⟩
  frames := I.ok.frames
  stk := .inl rfl
  exf := fun b h => by
    obtain ⟨o, e⟩ := hb b h
    obtain ⟨_, _, _, _, h4, _⟩ := hx b h
    exact ⟨Nat.ne_of_lt (Heap.lt_size e), fun y c hc => h4 y c (O.sub' hc)⟩
  bs := fun b o e => I.bs b o e
  bsz := Nat.le_trans I.ok.bsz I.sz
  noex := fun b o e h => by
    obtain ⟨_, _, _, h3, _, _⟩ := hx b h
    rcases h3 with z | z
    · exact I.ok.noex b o e z
    · exact absurd (Nat.lt_of_lt_of_le (Heap.lt_size (I.ok.bs b o e).1) z) (Nat.lt_irrefl _)
  exfs := fun b h z => by
    obtain ⟨_, h1, h2, _, _, _⟩ := hx b h
    exact (List.mem_cons.mp (I.stkSub b z)).elim h1 h2
  funs := I.stack
  frf := I.stkFree
theorem blk_inv (O : LcOk X sc cl fj x) (I : Inv X pins σ H s₃) (hx : ∀ b ∈ ex, FpOk X pins H b) (hb : ∀ b ∈ ex, ∃ o, s₃.heap.get? b = some o) {h₁ : Heap} {m₀ : Str → Option Value} {t : Nat}
    (hns : h₁.Ns s₃.heap.objs.size m₀) (hk : ∀ b o, s₃.heap.get? b = some o → h₁.get? b = some o) : Inv (blk X sc cl fj x s₃ H ex) [] (none :: frees σ fj) H { s₃ with heap := h₁, toks := t } where
  ok := blk_ok O I hx hb
  os := rfl
  bare := I.bare
  base := Un.kept hk
  loc := by
    refine ⟨m₀, hns, fun i y v e1 e2 _ => ?_⟩
    cases i with
    | zero => simp at e2
    | succ i =>
      have e1' : (fj.map (·.1))[i]? = some y := by
        have e : (x :: fj.map (·.1))[i + 1]? = some y := e1
        rw [List.getElem?_cons_succ] at e
        exact e
      have e2' : (frees σ fj)[i]? = some (some v) := by simpa using e2
      rw [List.getElem?_map] at e1'
      cases hp : fj[i]? with
      | none => rw [hp] at e1'; cases e1'
      | some p =>
        rw [hp] at e1'
        have ey : p.1 = y := Option.some.inj e1'
        subst ey
        unfold frees at e2'
        rw [List.getElem?_map, hp] at e2'
        have e3 : (σ[p.2]?).join = some v := Option.some.inj e2'
        have e4 : σ[p.2]? = some (some v) := by
          cases q : σ[p.2]? with
          | none => rw [q] at e3; cases e3
          | some w => rw [q] at e3; cases w with
            | none => cases e3
            | some w => cases e3; rfl
        obtain ⟨f1, f2, f3⟩ := O.fr p (List.mem_of_getElem? hp)
        obtain ⟨m, hn, hl⟩ := I.loc
        obtain ⟨u, r, l⟩ := hl p.2 p.1 v f1 e4 (.inr f3)
        refine ⟨u, r, ?_⟩
        rcases l with ⟨k, _⟩ | ⟨k, c, e, z⟩
        · exfalso
          have k' : X.env.scope.names.lookup p.1 = some .local := k
          rcases f3 with f3 | f3 <;> rw [f3] at k' <;> cases k'
        · have q := O.has _ (mem_of_lookup f2) rfl
          cases ec : cl.lookup p.1 with
          | none => rw [show cl.lookup (p.1, NameKind.free).1 = cl.lookup p.1 from rfl, ec] at q; cases q
          | some c' =>
            have e' := O.sub' ec
            rw [e] at e'
            cases e'
            exact .inr ⟨relabel_free f2, c, ec, z.keeps hk⟩
  cell := fun y c e => let ⟨v, z⟩ := I.cell y c (O.sub' e); ⟨v, z.keeps hk⟩
  free := I.hok.fresh (Nat.le_refl _)
  freeC := fun y c e => I.freeC y c (O.sub' e)
  pin := fun p hp => by cases hp
  hok := I.hok.kept hk
  len := by
    show (none :: frees σ fj).length = (x :: fj.map (·.1)).length
    simp [frees]
  tr := fun p hp => by cases hp
  fix := fun p hp => by cases hp
end

/-! ### [e for x in it if c] -/
/-- W: by the turn, a measure, the list so far and the heap -/
def tLc (wi : TI) (fj : List (Str × Nat)) (tc : TT) (te : TE) : TE := fun σ H Q => wi σ H fun J H1 => ∀ acc, H1 acc = none →
  ∃ W : Nat → Nat → List V → Hp → Prop, (∃ m, W 0 m [] (upd H1 acc (.lst []))) ∧ ∀ i m ys H, W i m ys H →
    (J.stop i H ∧ Q (.ref acc) H) ∨ (J.go i H ∧ ∀ x H', J.yld i H x H' → tc (some x :: frees σ fj) H' fun b H2 =>
      if b = true then te (some x :: frees σ fj) H2 fun v H3 => H3 acc = some (.lst ys) ∧ ys.length < sizeLine ∧ ∃ m', m' < m ∧ W (i + 1) m' (ys ++ [v]) (upd H3 acc (.lst (ys ++ [v])))
      else ∃ m', m' < m ∧ W (i + 1) m' ys H2)
section
variable {X : Cx} {sc : Scope} {cl : List (Str × Addr)} {fj : List (Str × Nat)} {x : Str} {px pos : Pos} {elt iter : Expr} {ifs : List Expr} {wi : TI} {tc : TT} {te : TE}
theorem lc_core (O : LcOk X sc cl fj x) (hc : X.calm = true) (hi : PI X (.Name x px) iter wi)
    (hf : ∀ s₃ H₃ ex, PF (blk X sc cl fj x s₃ H₃ ex) ifs tc) (he : ∀ s₃ H₃ ex, PE (blk X sc cl fj x s₃ H₃ ex) elt te)
    {pins : List (Addr × Obj)} {s : Shared} {σ : St} {H : Hp} {Q : VK} (I : Inv X pins σ H s) (h : tLc wi fj tc te σ H Q) {RR : Value → Addr → Result → Shared → Prop}
    (hRR : ∀ a C s' H' m, Inv X pins σ H' s' → Q (.ref a) H' → s'.heap.Ns C m → H' C = none → C ≠ X.env.locals → X.s₀.heap.objs.size ≤ C →
      (∀ y c, X.env.cells.lookup y = some c → c ≠ C) → (∀ p ∈ X.pn ++ pins, p.1 ≠ C) → RR (.ref a) C (.ok .next) s') :
    wpAny (model X.prog X.w) X.A (eval iter X.env) (fun xv s₁ => wpAny (model X.prog X.w) X.A (pyIter xv) (fun it s₂ => wpAny (model X.prog X.w) X.A (newList []) (fun acc s₃ =>
      wpAny (model X.prog X.w) X.A (newFunctionEnv sc X.env.globals cl [] X.env.qual none .none (some X.env)) (fun cenv s₄ =>
        codeAny (model X.prog X.w) X.A (.compStart (.ListComp elt [⟨.Name x px, iter, ifs, 0⟩] sc pos) 0 it acc { cenv with scope := relabel sc X.env }) (RR acc cenv.locals) s₄) X.xe s₃) X.xe s₂) X.xe s₁) X.xe s := by
  refine thn (hi pins s σ H _ I h) fun v s1 h1 => thn h1 fun itv s2 h2 => ?_
  obtain ⟨it, fp, tn, J, H2, e, I2, T, st2, f2, hW⟩ := h2
  subst e
  have hacc : H2 s2.heap.objs.size = none := I2.hok.fresh (Nat.le_refl _)
  obtain ⟨W, ⟨m0, w0⟩, turn⟩ := hW _ hacc
  have I3 : Inv X pins σ (upd H2 s2.heap.objs.size (.lst [])) { s2 with heap := s2.heap.push { cls := .type "list", data := .seq ([] : List Value).toArray } } := I2.lnew (t' := s2.toks) (ys := []) (its := []) .nil (Nat.zero_le _)
  have old3 : ∀ b o, s2.heap.get? b = some o → (s2.heap.push { cls := .type "list", data := .seq ([] : List Value).toArray }).get? b = some o := fun b o q => Heap.get?_push_of_some _ q
  have st3 := T.keep _ _ _ st2 fun b _ o q => old3 b o q
  have ob3 := T.obj _ _ st3
  have ob2 := T.obj _ _ st2
  have f3 : ∀ b ∈ fp, FpOk X pins (upd H2 s2.heap.objs.size (.lst [])) b := fun b hb => by
    obtain ⟨o, q, _⟩ := ob2 b hb
    obtain ⟨g0, g⟩ := f2 b hb
    exact ⟨by rw [upd_ne (Nat.ne_of_lt (Heap.lt_size q))]; exact g0, g⟩
  refine wpAny_newObj_type ?_
  generalize hS3 : ({ s2 with heap := s2.heap.push { cls := .type "list", data := .seq ([] : List Value).toArray } } : Shared) = s3 at I3 ⊢
  have st3' : tn 0 s3.heap := by rw [← hS3]; exact st3
  have ob3' : ∀ b ∈ fp, ∃ o, s3.heap.get? b = some o ∧ ∀ v, o.data ≠ .cell v := by rw [← hS3]; exact ob3
  generalize hH3 : upd H2 s2.heap.objs.size (.lst []) = H3 at I3 w0 f3
  generalize hac : s2.heap.objs.size = ac at turn ⊢
  clear hS3 st3 ob3 old3
  refine wpAny_newFunctionEnv O.cell (by intro y hy; cases hy) (fun h₁ hns₁ hsb₁ => ?_) O.kind
  have hk1 : ∀ b o, s3.heap.get? b = some o → h₁.get? b = some o := fun b o q => (hsb₁.2 b (Nat.ne_of_lt (Heap.lt_size q))).trans (Heap.get?_push_of_some _ q)
  have B := blk_inv (t := s3.toks + ([] : List (Str × Value)).length) O I3 f3 (fun b hb => let ⟨o, q, _⟩ := ob3' b hb; ⟨o, q⟩) hns₁ hk1
  generalize hX : blk X sc cl fj x s3 H3 fp = X' at B
  have hPF := hf s3 H3 fp
  have hPE := he s3 H3 fp
  rw [hX] at hPF hPE
  have eA : X'.A = X.A := by rw [← hX]; rfl
  have eP : X'.prog = X.prog := by rw [← hX]; rfl
  have eW : X'.w = X.w := by rw [← hX]; rfl
  have eK : X'.K = X.K := by rw [← hX]; rfl
  have eC : X'.calm = true := by rw [← hX]; exact hc
  have eE : X'.env = compEnvC sc cl s3.heap.objs.size X.env := by rw [← hX]; rfl
  have eX : X'.xe = fun _ _ => False := by rw [← hX]; rfl
  have eex : X'.ex = fp := by rw [← hX]; rfl
  have epn : X'.pn = [] := by rw [← hX]; rfl
  have eO : X'.outer = X.stack := by rw [← hX]; rfl
  have eS : X'.s₀ = s3 := by rw [← hX]; rfl
  have eH : X'.H₀ = H3 := by rw [← hX]; rfl
  have eN : X'.N = x :: fj.map (·.1) := by rw [← hX]; rfl
  have eF : X'.fx = [] := by rw [← hX]; rfl
  have stat : ∀ {H' : Hp}, (∀ b ∈ fp, H' b = none) → ∀ b ∈ fp, FpOk X' [] H' b := fun {H'} hn b hb => by
    obtain ⟨o, q, _⟩ := ob3' b hb
    obtain ⟨_, g1, g2, g3, g4, g5⟩ := f3 b hb
    refine ⟨hn b hb, ?_, ?_, .inl (by rw [eex]; exact hb), ?_, ?_⟩
    · rw [eE]; exact Nat.ne_of_lt (Heap.lt_size q)
    · show b ∉ frs X'.outer
      rw [eO]
      exact fun z => (List.mem_cons.mp (I3.stkSub b z)).elim g1 g2
    · rw [eE]; exact fun y c hc' => g4 y c (O.sub' hc')
    · rw [epn]; intro p hp; cases hp
  have loop : codeAny (model X.prog X.w) X.A (.compLoop (.ListComp elt [⟨.Name x px, iter, ifs, 0⟩] sc pos) 0 (.ref it) (.ref ac) (compEnvC sc cl s3.heap.objs.size X.env)) (RR (.ref ac) s3.heap.objs.size)
      { s3 with heap := h₁, toks := s3.toks + ([] : List (Str × Value)).length } := by
    refine compLoop_go (fun n s' => ∃ i o ys H', Inv X' [] (o :: frees σ fj) H' s' ∧ tn i s'.heap ∧ (∀ b ∈ fp, H' b = none) ∧ W i n ys H') ?_ m0
      ⟨0, none, [], H3, B, T.keep _ _ _ st3' fun b _ o q => hk1 b o q, fun b hb => (f3 b hb).1, w0⟩
    rintro n s4 ⟨i, o4, ys, H4, J4, st4, fr4, w4⟩
    rw [← eE, ← eP, ← eW, ← eA]
    rcases turn i n ys H4 w4 with ⟨stop, q⟩ | ⟨go, step⟩
    · have T' : Turn X'.prog X'.w X'.K (.Name x px) J fp it tn := by rw [eP, eW, eK]; exact T
      refine thn (T'.done X' rfl rfl rfl eC i [] s4 _ H4 _ J4 (stat fr4) st4 stop) fun r s5 ⟨hr, J5⟩ => ?_
      subst hr
      have hb5 := J5.base
      rw [eS, eH, eex, show X'.fs = frs X.stack by show frs X'.outer = _; rw [eO]] at hb5
      have ho5 := J5.os
      rw [eS] at ho5
      have hk5 := J5.hok
      rw [eP, eW] at hk5
      have I5 : Inv X pins σ H4 s5 := I3.call' (ch := fp) ho5 hb5 hk5 J5.bare fun b hb => by
        obtain ⟨_, g1, g2, g3, g4, g5⟩ := f3 b hb
        exact ⟨g3, g1, g4, g5⟩
      obtain ⟨m5, n5, _⟩ := J5.loc
      have fr5 := J5.free
      rw [eE] at n5 fr5
      refine hRR ac s3.heap.objs.size s5 H4 m5 I5 q n5 fr5 (Ne.symm (Nat.ne_of_lt I3.lt)) I3.sz (fun y c hc' => ?_) fun p hp => ?_
      · obtain ⟨_, oc, q', _⟩ := I3.cell y c hc'
        exact Nat.ne_of_lt (Heap.lt_size q')
      · exact Nat.ne_of_lt (Heap.lt_size (I3.pin p hp).1)
    · have T' : Turn X'.prog X'.w X'.K (.Name x px) J fp it tn := by rw [eP, eW, eK]; exact T
      refine thn (T'.item X' rfl rfl rfl eC i [] s4 _ H4 _ J4 (stat fr4) st4 go) fun r s5 ⟨u, hr, h5⟩ => ?_
      subst hr
      refine thn h5 fun _ s6 ⟨xv, H6, J6, r6, y6, st6, fr6⟩ => ?_
      have J6' := J6.pinned (stat fr6) (T.obj _ _ st6)
      have lx : X'.env.scope.names.lookup x = some .local := by rw [eE]; exact lookup_relabel_local O.hx
      have pg : PG X' (.Name x px) (gName 0) := pg_name (by rw [eN]; exact O.nd) (by rw [eN]; rfl) (.inl lx) (.inr lx) (by rw [eF]; intro p hp; cases hp)
      have q6 := step xv H6 y6
      refine wpAny_mono (pg _ s6 _ H6 xv u (fun σ' H' => σ' = some xv :: frees σ fj ∧ H' = H6) J6' r6 ⟨rfl, rfl⟩) (fun _ s7 ⟨σ7, H7, J7, e7, e7'⟩ => ?_) (by rw [eX]; exact fun _ _ f => f)
      subst e7 e7'
      refine wpAny_mono (hPF _ s7 _ H7 _ J7 q6) (fun b s8 ⟨H8, J8, q8⟩ => ?_) (by rw [eX]; exact fun _ _ f => f)
      have back : ∀ {H9 : Hp} {s9 : Shared} {o9 : Option V}, Inv X' ([] ++ pinsAt fp s6.heap) (o9 :: frees σ fj) H9 s9 → Inv X' [] (o9 :: frees σ fj) H9 s9 ∧ tn (i + 1) s9.heap ∧ ∀ b ∈ fp, H9 b = none := fun {H9 s9 o9} J9 => by
        refine ⟨J9.unpinned, T.keep _ _ _ st6 fun b hb o q => (J9.pin (b, o) (List.mem_append_right _ (List.mem_append_right _ (mem_pinsAt hb q)))).1, fun b hb => ?_⟩
        obtain ⟨o, q, d⟩ := T.obj _ _ st6 b hb
        exact (J9.pin (b, o) (List.mem_append_right _ (List.mem_append_right _ (mem_pinsAt hb q)))).2.1
      cases b with
      | false =>
        obtain ⟨m', hm, w8⟩ : ∃ m', m' < n ∧ W (i + 1) m' ys H8 := q8
        obtain ⟨b1, b2, b3⟩ := back J8
        exact ⟨m', hm, i + 1, some xv, ys, H8, b1, b2, b3, w8⟩
      | true =>
        refine wpAny_mono (hPE _ s8 _ H8 _ J8 q8) (fun uv s9 ⟨v9, H9, J9, r9, ha9, hl9, m', hm, w9⟩ => ?_) (by rw [eX]; exact fun _ _ f => f)
        refine wpAny_mono (mt_append (X := X') _ s9 _ H9 (.ref ac) [v9] (.ref ac) [uv] (fun _ H' => H' = upd H9 ac (.lst (ys ++ [v9]))) J9 rfl (.cons r9 .nil) ⟨ac, ys, v9, rfl, rfl, ha9, hl9, rfl⟩)
          (fun _ s10 ⟨_, H10, J10, _, e10⟩ => ?_) (by rw [eX]; exact fun _ _ f => f)
        subst e10
        obtain ⟨b1, b2, b3⟩ := back J10
        exact ⟨m', hm, i + 1, some xv, ys ++ [v9], _, b1, b2, b3, w9⟩
  exact codeAny_compStart_list loop (T.self _ 0 _ _ _ (T.keep _ _ _ st3' fun b _ o q => hk1 b o q) loop)
theorem pe_lc (O : LcOk X sc cl fj x) (hc : X.calm = true) (hi : PI X (.Name x px) iter wi)
    (hf : ∀ s₃ H₃ ex, PF (blk X sc cl fj x s₃ H₃ ex) ifs tc) (he : ∀ s₃ H₃ ex, PE (blk X sc cl fj x s₃ H₃ ex) elt te)
    (hs : ∀ x, foldedSetIterable iter X.env x = pure x := by intro _; rfl) : PE X (.ListComp elt [⟨.Name x px, iter, ifs, 0⟩] sc pos) (tLc wi fj tc te) := by
  intro pins s σ H Q I h
  rw [eval_ListComp]
  refine wpAny_comprehension_free (use := none) rfl hs O.clos O.kind O.names (lc_core O hc hi hf he I h (RR := fun acc C => compPost (model X.prog X.w) X.A X.xe none (EP X pins σ Q) acc C) ?_)
  intro a C s' H' m I' q hn hC hL hz h2 h3
  exact ⟨m, hn, fun h' hs' => ⟨.ref a, H', I'.turned (t' := s'.toks) (fun b o hb e => (hs'.2 b hb).trans e) hC hL (.inr hz) h2 h3, rfl, q⟩⟩
/-- y = [..], stored ahead of the block's end -/
theorem ps_setLc {j : Nat} {y : Str} {py spos : Pos} (O : LcOk X sc cl fj x) (hc : X.calm = true) (hN : X.N.Nodup) (hj : X.N[j]? = some y) (hy : Loc X.env.scope y) (hi : PI X (.Name x px) iter wi)
    (hf : ∀ s₃ H₃ ex, PF (blk X sc cl fj x s₃ H₃ ex) ifs tc) (he : ∀ s₃ H₃ ex, PE (blk X sc cl fj x s₃ H₃ ex) elt te)
    (hsw : swapsWith (.ListComp elt [⟨.Name x px, iter, ifs, 0⟩] sc pos) (some (.Name y py)) spos.line X.env = pure true := by rfl)
    (hfn : X.fn y = true ∨ X.env.scope.names.lookup y = some .local := by first | exact .inl rfl | exact .inr rfl | assumption)
    (hfx : ∀ p ∈ X.fx, p.1 ≠ y := by first | exact fun p h => absurd (show p ∈ ([] : List (Str × Value)) from h) (by simp) | assumption)
    (hs : ∀ x, foldedSetIterable iter X.env x = pure x := by intro _; rfl) : PS X (.Assign [.Name y py] (.ListComp elt [⟨.Name x px, iter, ifs, 0⟩] sc pos) spos) (tAsg (tLc wi fj tc te) (gName j)) := by
  intro pins s σ H D I h
  rw [exec_Assign_Name_used _ _ _ _ hsw]
  refine wpAny_bind (wpAny_standAt (wpAny_bind ?_))
  show wpAny _ X.A (do let _ ← comprehension (.ListComp elt [⟨.Name x px, iter, ifs, 0⟩] sc pos) sc X.env _ (newList []) false (eval iter X.env) (some (assign (.Name y py) X.env))) _ _ s
  refine wpAny_bind (thn (wpAny_comprehension_free (use := some (assign (.Name y py) X.env)) (Q := fun _ s' => ∃ σ' H', Inv X pins σ' H' s' ∧ D.nx σ' H') rfl hs O.clos O.kind O.names
    (lc_core O hc hi hf he I h (RR := fun acc C => compPost (model X.prog X.w) X.A X.xe (some (assign (.Name y py) X.env)) (fun _ s' => ∃ σ' H', Inv X pins σ' H' s' ∧ D.nx σ' H') acc C) ?_)) fun _ s' hq => wpAny_pure (wpAny_pure hq))
  intro a C s' H' m I' q hn hC hL hz h2 h3
  show wpAny _ X.A (assign (.Name y py) X.env (.ref a)) _ _ _
  refine wpAny_assign_Name (store_ok2 (v := .ref a) I' hN hj hy rfl (fun s'' I'' ⟨a', sb, ha⟩ => ?_) hfn hfx)
  have ne : C ≠ a' := by
    rcases ha with ha | ha
    · rw [ha]; exact hL
    · exact Ne.symm (h2 y a' ha)
  exact ⟨m, hn.sameBut sb ne, fun h' hs' => ⟨_, H', I''.turned (t' := s''.toks) (fun b o hb e => (hs'.2 b hb).trans e) hC hL (.inr hz) h2 h3, q⟩⟩
end

/-! ### the forms one uses: no test -/
/-- over a range: Pv by the turn, the list so far, the heap -/
theorem lc_range {fj : List (Str × Nat)} {te : TE} {σ : St} {H1 : Hp} {Q : Addr → Hp → Prop} {lo : Int} {n : Nat} (hn : n ≤ 1000)
    (Pv : Addr → Nat → List V → Hp → Prop) (h0 : ∀ acc, H1 acc = none → Pv acc 0 [] (upd H1 acc (.lst [])))
    (hl : ∀ acc i ys H, i ≤ n → Pv acc i ys H → ys.length = i)
    (hs : ∀ acc i ys H (Qf : VK), i < n → Pv acc i ys H → (∀ v H3, H3 acc = some (.lst ys) → Pv acc (i + 1) (ys ++ [v]) (upd H3 acc (.lst (ys ++ [v]))) → Qf v H3) → te (some (.int (lo + i)) :: frees σ fj) H Qf)
    (hd : ∀ acc ys H, H1 acc = none → Pv acc n ys H → Q acc H) :
    ∀ acc, H1 acc = none → ∃ W : Nat → Nat → List V → Hp → Prop, (∃ m, W 0 m [] (upd H1 acc (.lst []))) ∧ ∀ i m ys H, W i m ys H →
      ((Itr lo n).stop i H ∧ Q acc H) ∨ ((Itr lo n).go i H ∧ ∀ x H', (Itr lo n).yld i H x H' → tYes (some x :: frees σ fj) H' fun b H2 =>
        if b = true then te (some x :: frees σ fj) H2 fun v H3 => H3 acc = some (.lst ys) ∧ ys.length < sizeLine ∧ ∃ m', m' < m ∧ W (i + 1) m' (ys ++ [v]) (upd H3 acc (.lst (ys ++ [v])))
        else ∃ m', m' < m ∧ W (i + 1) m' ys H2) := by
  intro acc hacc
  refine ⟨fun i m ys H => m = n - i ∧ i ≤ n ∧ Pv acc i ys H, ⟨n, rfl, Nat.zero_le _, h0 acc hacc⟩, ?_⟩
  rintro i m ys H ⟨rfl, hi, hp⟩
  by_cases e : i = n
  · subst e; exact .inl ⟨Nat.le_refl _, hd acc ys H hacc hp⟩
  · have hlt : i < n := by omega
    refine .inr ⟨hlt, ?_⟩
    rintro x H' ⟨rfl, rfl⟩
    refine (hs acc i ys _ (fun v H3 => H3 acc = some (.lst ys) ∧ ys.length < sizeLine ∧ ∃ m', m' < n - i ∧ (m' = n - (i + 1) ∧ i + 1 ≤ n ∧ Pv acc (i + 1) (ys ++ [v]) (upd H3 acc (.lst (ys ++ [v]))))) hlt hp fun v H3 q1 q2 => ⟨q1, ?_, n - (i + 1), by omega, rfl, by omega, q2⟩)
    have := hl acc i ys _ hi hp
    exact small1000 (by omega)
theorem lc_list {K : PySem.W.Frag} {a : Addr} {xs : List V} {fj : List (Str × Nat)} {te : TE} {σ : St} {H1 : Hp} {Q : Addr → Hp → Prop} (hn : xs.length ≤ 1000)
    (Pv : Addr → Nat → List V → Hp → Prop) (h0 : ∀ acc, H1 acc = none → Pv acc 0 [] (upd H1 acc (.lst [])))
    (hl : ∀ acc i ys H, i ≤ xs.length → Pv acc i ys H → ys.length = i ∧ SqL K H a xs)
    (hs : ∀ acc i x ys H (Qf : VK), xs[i]? = some x → Pv acc i ys H → (∀ v H3, H3 acc = some (.lst ys) → Pv acc (i + 1) (ys ++ [v]) (upd H3 acc (.lst (ys ++ [v]))) → Qf v H3) → te (some x :: frees σ fj) H Qf)
    (hd : ∀ acc ys H, H1 acc = none → Pv acc xs.length ys H → Q acc H) :
    ∀ acc, H1 acc = none → ∃ W : Nat → Nat → List V → Hp → Prop, (∃ m, W 0 m [] (upd H1 acc (.lst []))) ∧ ∀ i m ys H, W i m ys H →
      ((Itl K a).stop i H ∧ Q acc H) ∨ ((Itl K a).go i H ∧ ∀ x H', (Itl K a).yld i H x H' → tYes (some x :: frees σ fj) H' fun b H2 =>
        if b = true then te (some x :: frees σ fj) H2 fun v H3 => H3 acc = some (.lst ys) ∧ ys.length < sizeLine ∧ ∃ m', m' < m ∧ W (i + 1) m' (ys ++ [v]) (upd H3 acc (.lst (ys ++ [v])))
        else ∃ m', m' < m ∧ W (i + 1) m' ys H2) := by
  intro acc hacc
  refine ⟨fun i m ys H => m = xs.length - i ∧ i ≤ xs.length ∧ Pv acc i ys H, ⟨_, rfl, Nat.zero_le _, h0 acc hacc⟩, ?_⟩
  rintro i m ys H ⟨rfl, hi, hp⟩
  obtain ⟨l1, l2⟩ := hl acc i ys H hi hp
  by_cases e : i = xs.length
  · subst e; exact .inl ⟨⟨xs, l2, Nat.le_refl _⟩, hd acc ys H hacc hp⟩
  · have hlt : i < xs.length := by omega
    refine .inr ⟨⟨xs, xs[i], l2, List.getElem?_eq_getElem hlt⟩, ?_⟩
    rintro x H' ⟨rfl, hy⟩
    refine (hs acc i x ys _ (fun v H3 => H3 acc = some (.lst ys) ∧ ys.length < sizeLine ∧ ∃ m', m' < xs.length - i ∧ (m' = xs.length - (i + 1) ∧ i + 1 ≤ xs.length ∧ Pv acc (i + 1) (ys ++ [v]) (upd H3 acc (.lst (ys ++ [v]))))) (hy xs l2) hp fun v H3 q1 q2 => ⟨q1, ?_, xs.length - (i + 1), by omega, rfl, by omega, q2⟩)
    exact small1000 (by omega)

/-! ### walking a list or a tuple -/
/-! ### == and != of data -/
mutual
inductive DV (K : PySem.W.Frag) (H : Hp) : V → PyData → Prop
  | non : DV K H .non .none
  | bl (b : Bool) : DV K H (.bl b) (.bool b)
  | int (i : Int) : DV K H (.int i) (.int i)
  | str (x : Str) : DV K H (.str x) (.str x)
  | lst {a : Addr} {xs : List V} {ds : List PyData} : SqL K H a xs → DVs K H xs ds → DV K H (.ref a) (.list ds)
  | tup {a : Addr} {xs : List V} {ds : List PyData} : SqT K H a xs → DVs K H xs ds → DV K H (.ref a) (.tuple ds)
inductive DVs (K : PySem.W.Frag) (H : Hp) : List V → List PyData → Prop
  | nil : DVs K H [] []
  | cons {x : V} {xs : List V} {d : PyData} {ds : List PyData} : DV K H x d → DVs K H xs ds → DVs K H (x :: xs) (d :: ds)
end
section
variable {X : Cx} {pins : List (Addr × Obj)} {σ : St} {H : Hp} {s : Shared}
mutual
theorem DV.reads (I : Inv X pins σ H s) : ∀ {v : V} {d : PyData} {u : Value}, DV X.K H v d → RelV v u → ∃ as, Reads s.heap u d as
  | _, _, _, .non, r => by cases (show _ = Value.none from r); exact ⟨_, .none⟩
  | _, _, _, .bl b, r => by cases (show _ = Value.bool b from r); exact ⟨_, .bool b⟩
  | _, _, _, .int i, r => by obtain ⟨t, e⟩ := (show ∃ t, _ = Value.int i t from r); subst e; exact ⟨_, .int i t⟩
  | _, _, _, .str x, r => by obtain ⟨t, e⟩ := (show ∃ t, _ = Value.str x t from r); subst e; exact ⟨_, .str x t⟩
  | _, _, _, .lst (a := a) hq hd, r => by
    cases (show _ = Value.ref a from r)
    obtain ⟨its, rv, ⟨o, n, e, c, _, dt⟩, _⟩ := I.list hq
    obtain ⟨as, q⟩ := DVs.reads I hd rv
    exact ⟨_, .list e c dt (by simpa using q)⟩
  | _, _, _, .tup (a := a) hq hd, r => by
    cases (show _ = Value.ref a from r)
    obtain ⟨its, rv, p, _⟩ := I.tuple hq
    obtain ⟨o, e, c, n, dt⟩ := p
    obtain ⟨as, q⟩ := DVs.reads I hd rv
    exact ⟨_, .tuple e c dt (by simpa using q)⟩
theorem DVs.reads (I : Inv X pins σ H s) : ∀ {vs : List V} {ds : List PyData} {us : List Value}, DVs X.K H vs ds → Vals vs us → ∃ as, ReadsAll s.heap us ds as
  | _, _, _, .nil, r => by cases r; exact ⟨_, .nil⟩
  | _, _, _, .cons hd ht, r => by
    cases r with
    | cons r1 r2 =>
      obtain ⟨as, q⟩ := DV.reads I hd r1
      obtain ⟨bs, p⟩ := DVs.reads I ht r2
      exact ⟨_, .cons q p⟩
end
end
section
variable {X : Cx}
def rEqD (K : PySem.W.Frag) (neg : Bool) : R2 := fun x y H Q => ∃ d e, DV K H x d ∧ DV K H y e ∧ SeqAt.shaped d = true ∧ SeqAt.shaped e = true ∧ Q (.bl (if neg then !PyData.eqv d e else PyData.eqv d e)) H
theorem op_eqD (hu : X.A.units + 64 < cLine) : OpR X (compareOp .Eq) (rEqD X.K false) := by
  intro pins s σ H x y v u Q I rx ry ⟨d, e, hd, he, sd, se, q⟩
  obtain ⟨as, ra⟩ := hd.reads I rx
  obtain ⟨bs, rb⟩ := he.reads I ry
  exact SeqAt.compareEq_shaped ra rb sd se hu (fin_bl I q rfl)
theorem op_neD (hu : X.A.units + 64 < cLine) : OpR X (compareOp .NotEq) (rEqD X.K true) := by
  intro pins s σ H x y v u Q I rx ry ⟨d, e, hd, he, sd, se, q⟩
  obtain ⟨as, ra⟩ := hd.reads I rx
  obtain ⟨bs, rb⟩ := he.reads I ry
  exact SeqAt.compareNe_shaped ra rb sd se hu (fin_bl I q rfl)
/-- x is True, x is False -/
def rIsB : R2 := fun x y H Q => ∃ b, y = .bl b ∧ Q (.bl (decide (x = .bl b))) H
/-- isinstance(x, C): C a built-in type -/
def rIsin (K : PySem.W.Frag) (T : String) : List V → Hp → VK → Prop := fun xs H Q => ∃ x t b, xs = [x, .ty T] ∧ TyOf K H x t ∧ PySem.W.kitOne K t (.type T) = some b ∧ Q (.bl b) H
theorem call_isinst {T : String} : CallR X (.builtin "isinstance") (rIsin X.K T) := by
  intro pins s σ H xs us Q I r ⟨x, t, b, e, ty, ek, q⟩
  subst e
  obtain ⟨u, w', rfl, ru, rw'⟩ := vals2 r
  cases (show w' = Value.type T from rw')
  exact isinst_ok I ru ty ek fun tk => ⟨.bl b, H, I.tok tk, rfl, q⟩
/-- isinstance(x, C): C a class of the text -/
theorem call_isinstC {C : Addr} : CallR X (.builtin "isinstance") (fun xs H Q => ∃ x t b, xs = [x, .ref C] ∧ TyOf X.K H x t ∧ PySem.W.kitOne X.K t (.ref C) = some b ∧ Q (.bl b) H) := by
  intro pins s σ H xs us Q I r ⟨x, t, b, e, ty, ek, q⟩
  subst e
  obtain ⟨u, w', rfl, ru, rw'⟩ := vals2 r
  cases (show w' = Value.ref C from rw')
  exact isinst_ok I ru ty ek fun tk => ⟨.bl b, H, I.tok tk, rfl, q⟩
theorem all_range : ∀ bs : List Bool, (List.range bs.length).all (fun i => bs.getD i true) = bs.all id
  | [] => rfl
  | b :: r => by
    rw [List.length_cons, List.range_succ_eq_map, List.all_cons, List.all_map, List.all_cons]
    have := all_range r
    simp only [List.getD_cons_zero, Function.comp_def, List.getD_cons_succ] at this ⊢
    rw [this]
    rfl
/-- the walk over a list while something is handled -/
def HdIn (A : Around) (L : List Addr) (h : Heap) : Prop := A.handled = none ∨ ∃ (e : Addr) (oe : Obj) (vs : Array Value), A.handled = some (.ref e) ∧ e ∈ L ∧ h.get? e = some oe ∧ oe.data = .fields vs ∧
  (vs[2]? = some .none ∨ ∃ (b : Addr) (ob : Obj) (vb : Array Value), vs[2]? = some (.ref b) ∧ b ≠ e ∧ b ∈ L ∧ h.get? b = some ob ∧ ob.data = .fields vb ∧ vb[2]? = some .none)
theorem HdIn.at {A : Around} {L : List Addr} {h : Heap} (x : HdIn A L h) : HdAt A h := by
  rcases x with x | ⟨e, oe, vs, a, _, b, c, d⟩
  · exact .inl x
  · refine .inr ⟨e, oe, vs, a, b, c, ?_⟩
    rcases d with d | ⟨b, ob, vb, d1, d2, _, d3⟩
    · exact .inl d
    · exact .inr ⟨b, ob, vb, d1, d2, d3⟩
theorem HdAt.in {A : Around} {h : Heap} (x : HdAt A h) : ∃ L, HdIn A L h := by
  rcases x with x | ⟨e, oe, vs, a, b, c, d⟩
  · exact ⟨[], .inl x⟩
  · rcases d with d | ⟨b', ob, vb, d1, d2, d3⟩
    · exact ⟨[e], .inr ⟨e, oe, vs, a, by simp, b, c, .inl d⟩⟩
    · exact ⟨[e, b'], .inr ⟨e, oe, vs, a, by simp, b, c, .inr ⟨b', ob, vb, d1, d2, by simp, d3⟩⟩⟩
theorem HdIn.keepF {A : Around} {L : List Addr} {h h' : Heap} (x : HdIn A L h) (k : ∀ b ∈ L, ∀ o, h.get? b = some o → h'.get? b = some o) : HdIn A L h' := by
  rcases x with x | ⟨e, oe, vs, a, m, b, c, d⟩
  · exact .inl x
  · refine .inr ⟨e, oe, vs, a, m, k e m oe b, c, ?_⟩
    rcases d with d | ⟨b, ob, vb, d1, d2, d3, d4, d5⟩
    · exact .inl d
    · exact .inr ⟨b, ob, vb, d1, d2, d3, k b d3 ob d4, d5⟩
theorem walks_listH {prog : Program} {w : World} {A : Around} (I ax : Addr) (hne : ax ≠ I) (items : Array Value) (L : List Addr) :
    Walks prog w A I (I :: ax :: L) [I] items.size (fun i v => items[i]? = some v) (fun i h => h.IsListIter I ax i ∧ h.IsList ax items ∧ HdIn A L h) where
  sub := fun b hb => by rw [List.mem_singleton.mp hb]; exact List.mem_cons_self ..
  frame := fun _ _ _ st hk => ⟨st.1.at fun o e => hk I (List.mem_cons_self ..) o e, st.2.1.at fun o e => hk ax (List.mem_cons_of_mem _ (List.mem_cons_self ..)) o e, st.2.2.keepF fun b hb o e => hk b (List.mem_cons_of_mem _ (List.mem_cons_of_mem _ hb)) o e⟩
  item := fun i s Q E hi st hQ => by
    refine wpAny_pyNext_list_item st.1 st.2.1 (x := items[i]) (by simp [hi]) fun h' hit' hs' => ?_
    refine hQ _ h' s.toks (by simp [hi]) ⟨hit', st.2.1.extBut hs'.extBut hne, ?_⟩ fun b o hb e => hs'.extBut b o (fun h => hb (by simp [h])) e
    have nit : ∀ (c : Addr) (o : Obj) (vs : Array Value), s.heap.get? c = some o → o.data = .fields vs → (vs[2]? = some .none ∨ ∃ b, vs[2]? = some (.ref b)) → c ≠ I := fun c o vs b c' d z => by
      subst z
      obtain ⟨o', ho, _, hd⟩ := st.1
      rw [b] at ho; cases ho; rw [hd] at c'; cases c'
      rcases d with d | ⟨_, d⟩ <;> simp at d
    rcases st.2.2 with x | ⟨e, oe, vs, a, m, b, c, d⟩
    · exact .inl x
    · refine .inr ⟨e, oe, vs, a, m, hs'.extBut e oe (nit e oe vs b c ?_) b, c, ?_⟩
      · rcases d with d | ⟨b, _, _, d, _⟩
        · exact .inl d
        · exact .inr ⟨b, d⟩
      · rcases d with d | ⟨b, ob, vb, d1, d2, d3, d4, d5, d6⟩
        · exact .inl d
        · exact .inr ⟨b, ob, vb, d1, d2, d3, hs'.extBut b ob (nit b ob vb d4 d5 (.inl d6)) d4, d5, d6⟩
  done := fun s Q E st hQ => list_endH st.2.2.at st.1 st.2.1 (by simp) fun h' he => hQ h' s.toks fun b o hb e => he b o (fun h => hb (by simp [h])) e
  self := fun _ _ _ _ st h => wpAny_pyIter_listiter st.1 h
/-- all of a list of bools -/
def rAll (K : PySem.W.Frag) : List V → Hp → VK → Prop := fun xs H Q => ∃ (p : Addr) (bs : List Bool), xs = [.ref p] ∧ SqL K H p (bs.map V.bl) ∧ Q (.bl (bs.all id)) H
theorem call_all (hc : X.calm = true) : CallR X (.builtin "all") (rAll X.K) := by
  intro pins s σ H xs us Q I r ⟨p, bs, e, hq, q⟩
  subst e
  obtain ⟨u, rfl, ru⟩ := vals1 r
  cases (show u = Value.ref p from ru)
  obtain ⟨its, rv, pl, hz⟩ := I.list hq
  have hp : p < s.heap.objs.size := by obtain ⟨o, n, e, _⟩ := pl; exact Heap.lt_size e
  have hlen : its.length = bs.length := by rw [← rv.length, List.length_map]
  refine call_all_walk (wpAny_pyIter_list pl.isList ?_)
  obtain ⟨HL, hHL⟩ := I.hd.in
  refine ⟨s.heap.objs.size, _, [s.heap.objs.size], its.toArray.size, _, _, (fun i => bs.getD i true), rfl, walks_listH s.heap.objs.size p (Nat.ne_of_lt hp) its.toArray HL,
    ⟨⟨_, Heap.get?_push_size _ rfl, rfl, rfl⟩, pl.isList.push _, hHL.keepF fun _ _ _ e => Heap.get?_push_of_some _ e⟩, ?_, fun h' tk hk => ?_⟩
  · intro i v s' Q' E' hv hQ
    have hv' : its[i]? = some v := by simpa using hv
    have hi : i < bs.length := by rw [← hlen]; exact (List.getElem?_eq_some_iff.mp hv').1
    obtain ⟨w', e1, r1⟩ := rv.get (i := i) (x := .bl bs[i]) (by rw [List.getElem?_map, List.getElem?_eq_getElem hi]; rfl)
    rw [hv'] at e1
    cases e1
    cases (show v = Value.bool bs[i] from r1)
    refine wpAny_truthy_bool ?_
    rw [show bs[i] = bs.getD i true by rw [List.getD_eq_getElem?_getD, List.getElem?_eq_getElem hi]; rfl]
    exact hQ
  · have ks : ∀ b o, s.heap.get? b = some o → h'.get? b = some o := fun b o e => hk b o (by
      intro z
      rcases List.mem_cons.mp z with z | z
      · exact absurd (Heap.lt_size e) (by rw [z]; exact Nat.lt_irrefl _)
      · cases z) (Heap.get?_push_of_some _ e)
    refine ⟨.bl _, H, I.kept (t' := tk) ks, rfl, ?_⟩
    rw [List.size_toArray, hlen, all_range]
    exact q
/-- {} -/
theorem Inv.bigX {pins : List (Addr × Obj)} {σ : St} {H : Hp} {s : Shared} (I : Inv X pins σ H s) : sysModules < s.heap.objs.size := by
  have h : mainGlobals < s.heap.objs.size := (I.mod.glob.keeps I.bk).lt
  exact Nat.lt_trans (by decide) h
def tDict0 : TE := fun _ H Q => ∀ p, H p = none → Q (.ref p) (upd H p (.dK []))
theorem pe_dict0 {pos : Pos} : PE X (.Dict [] [] pos) tDict0 := fun pins s σ H Q I h =>
  wpAny_Dict_empty ⟨.ref s.heap.objs.size, _, I.laid (a := s.heap.objs.size) (o := .dK []) (t' := s.toks) (fun _ _ q => Heap.get?_push_of_some _ q) (Nat.le_refl _)
    ⟨Nat.zero_le _, beq_eq_false_iff_ne.mpr (Ne.symm (Nat.ne_of_lt I.bigX)), [], .nil, Heap.DictOf.new _⟩, rfl, h _ (I.hok.fresh (Nat.le_refl _))⟩
end

/-! ### t[:] of a tuple is the tuple -/
section
variable {prog : Program} {w : World} {A : Around} {E : Value → Shared → Prop} {s : Shared}
end
section
variable {X : Cx}
def rSlW (K : PySem.W.Frag) : V → Option Int → Option Int → Hp → VK → Prop := fun x lo hi H Q => ∃ a xs, x = .ref a ∧ SqT K H a xs ∧ lo = none ∧ hi = none ∧ Q (.ref a) H
end
end L2
end
section
set_option Elab.async false
set_option linter.all false
set_option maxRecDepth 100000
set_option maxHeartbeats 4000000
/-! EXCEPTIONS, 1: a record in flight, frame by frame -/
namespace L2
open PySem PySem.Spec PyProof.Rows
/-- all is kept but the records at ex; of the frames at fs the slots may change -/
structure Mvd (fs ex : List Addr) (h h' : Heap) : Prop where
  keep : ∀ b o, b ∉ ex → b ∉ fs → h.get? b = some o → h'.get? b = some o
  slot : ∀ b o, b ∉ ex → h.get? b = some o → ∃ sl, h'.get? b = some { o with slots := sl }
  there : ∀ b o, h.get? b = some o → ∃ o', h'.get? b = some o'
theorem Mvd.trans {fs ex : List Addr} {h h1 h2 : Heap} (a : Mvd fs ex h h1) (b : Mvd fs ex h1 h2) : Mvd fs ex h h2 where
  keep := fun c o hx hf e => b.keep c o hx hf (a.keep c o hx hf e)
  slot := fun c o hx e => by
    obtain ⟨sl, e1⟩ := a.slot c o hx e
    obtain ⟨sl', e2⟩ := b.slot c _ hx e1
    exact ⟨sl', e2⟩
  there := fun c o e => by
    obtain ⟨o', e1⟩ := a.there c o e
    exact b.there c o' e1
theorem Mvd.mono {fs fs' ex ex' : List Addr} {h h' : Heap} (a : Mvd fs ex h h') (hf : ∀ b ∈ fs, b ∈ fs') (hx : ∀ b ∈ ex, b ∈ ex') : Mvd fs' ex' h h' :=
  ⟨fun c o nx nf e => a.keep c o (fun z => nx (hx c z)) (fun z => nf (hf c z)) e, fun c o nx e => a.slot c o (fun z => nx (hx c z)) e, a.there⟩
/-- the record of an exception, its newest traceback entry, where that stands, and what it came out of -/
def Fly (e T : Addr) (cls fl cx : Value) (h : Heap) : Prop :=
  ∃ oe vs oT ts, h.get? e = some oe ∧ oe.cls = cls ∧ oe.dict = none ∧ oe.data = .fields vs ∧ vs[1]? = some (.ref T) ∧ vs[2]? = some cx ∧ T ≠ e ∧ h.get? T = some oT ∧ oT.data = .fields ts ∧ ts[3]? = some fl
section
variable {M : Model} {A : Around} {E : Value → Shared → Prop} {s : Shared}
theorem setField_mvd {a : Addr} {o : Obj} {vs : Array Value} {i : Nat} {x : Value} (h : Heap) (ho : h.get? a = some o) (hd : o.data = .fields vs) :
    Mvd [] [a] h (h.update a (Obj.mapFields (·.setIfInBounds i x))) ∧ (h.update a (Obj.mapFields (·.setIfInBounds i x))).get? a = some (Obj.mapFields (·.setIfInBounds i x) o) := by
  have self := Heap.get?_update_self (Obj.mapFields (·.setIfInBounds i x)) ho (Obj.isFreed_of_fields (Obj.data_mapFields hd _))
  have oth : ∀ b, b ∉ [a] → (h.update a (Obj.mapFields (·.setIfInBounds i x))).get? b = h.get? b := fun b hb => Heap.get?_update_other _ _ (fun z => hb (by simp [z]))
  refine ⟨⟨fun b ob hb _ e => (oth b hb).trans e, fun b ob hb e => ⟨ob.slots, (oth b hb).trans e⟩, fun b ob e => ?_⟩, self⟩
  by_cases hb : b ∈ [a]
  · rw [List.mem_singleton.mp hb]; exact ⟨_, self⟩
  · exact ⟨ob, (oth b hb).trans e⟩
theorem dict_mapFields (f : Array Value → Array Value) (o : Obj) : (Obj.mapFields f o).dict = o.dict := by
  unfold Obj.mapFields; split <;> rfl
/-- a new entry for the frame at hand -/
theorem entry_new {cx : Value} {base : Heap} {env : Env} {outer : List Env} {L e : Addr} {oe : Obj} {vs : Array Value} {head : Value} {hadNext : Bool} {Q : Unit → Shared → Prop}
    (hfr : A.frames = some (env :: outer)) (hl : s.heap.FunFrames base (env :: outer)) (hf : env.frame = some L)
    (he : s.heap.get? e = some oe) (hdn : oe.dict = none) (hd : oe.data = .fields vs) (hsz : 1 < vs.size) (h2 : vs[2]? = some cx)
    (h : ∀ h' T, Mvd (frs (env :: outer)) [e] s.heap h' → Fly e T oe.cls (rawInt L) cx h' → s.heap.get? T = none → Q () { s with heap := h' }) :
    wpAny M A (do let a ← frameOf env; let pl ← entryPlaceOf L hadNext; let b ← EntryCells.newEntry head a .none (rawInt L) .none pl; setField (.ref e) 1 b) Q E s := by
  have hene : e ∉ (env :: outer).filterMap (·.frame) := fun hm => by
    obtain ⟨_, o, ho, hnf⟩ := hl.mem hm
    rw [he] at ho; injection ho with ho; subst ho; exact hnf vs hd
  refine wpAny_bind (wpAny_frameOf_fun hfr hl hf fun h₁ hs₁ => ?_)
  refine wpAny_bind (wpAny_entryPlaceOf fun pl hpl => ?_)
  unfold EntryCells.newEntry newFields
  refine wpAny_bind (wpAny_newObj_type ?_ (hpl.sizeOk5 _ _ _ _ _))
  have he₁ : h₁.get? e = some oe := (hs₁.2.1 e hene).trans he
  have he₂ := Heap.get?_push_of_some (h := h₁) { cls := .type "traceback", dict := none, data := .fields ([head, .ref L, .none, rawInt L, .none] ++ (if pl.isEmpty then List.replicate 6 Value.none else pl)).toArray } he₁
  obtain ⟨mv, self⟩ := setField_mvd (i := 1) (x := .ref h₁.objs.size) _ he₂ hd
  have hTe : h₁.objs.size ≠ e := Nat.ne_of_gt (Heap.lt_size he₁)
  have hT := (Heap.get?_update_other (h₁.push { cls := .type "traceback", dict := none, data := .fields ([head, .ref L, .none, rawInt L, .none] ++ (if pl.isEmpty then List.replicate 6 Value.none else pl)).toArray })
    (Obj.mapFields (·.setIfInBounds 1 (Value.ref h₁.objs.size))) (Ne.symm hTe)).trans (Heap.get?_push_size h₁ rfl)
  refine wpAny_setField he₂ hd hsz (h _ h₁.objs.size ⟨fun b o hx hb eo => ?_, fun b o hx eo => ?_, fun b o eo => ?_⟩ ⟨_, _, _, _, self, Obj.cls_mapFields _ _, (dict_mapFields _ _).trans hdn, Obj.data_mapFields hd _, by simp [hsz], by rw [Array.getElem?_setIfInBounds_ne (by decide)]; exact h2, hTe, hT, rfl, by simp⟩ ?_)
  · exact mv.keep b o hx (by simp) (Heap.get?_push_of_some _ ((hs₁.2.1 b hb).trans eo))
  · obtain ⟨sl, es⟩ := hs₁.2.2 b o eo
    obtain ⟨sl', es'⟩ := mv.slot b _ hx (Heap.get?_push_of_some _ es)
    exact ⟨sl', es'⟩
  · obtain ⟨sl, es⟩ := hs₁.2.2 b o eo
    exact mv.there b _ (Heap.get?_push_of_some _ es)
  · cases q : s.heap.get? h₁.objs.size with
    | none => rfl
    | some o =>
      obtain ⟨sl, es⟩ := hs₁.2.2 _ o q
      exact absurd (Heap.lt_size es) (Nat.lt_irrefl _)
/-- the frame looks at an exception that was just made -/
theorem note_first {cx : Value} {base : Heap} {env : Env} {outer : List Env} {L e : Addr} {oe : Obj} {vs : Array Value} {Q : Unit → Shared → Prop}
    (hfr : A.frames = some (env :: outer)) (hl : s.heap.FunFrames base (env :: outer)) (hf : env.frame = some L)
    (he : s.heap.get? e = some oe) (hdn : oe.dict = none) (hd : oe.data = .fields vs) (h1 : vs[1]? = some .none) (h2 : vs[2]? = some cx)
    (h : ∀ h' T, Mvd (frs (env :: outer)) [e] s.heap h' → Fly e T oe.cls (rawInt L) cx h' → s.heap.get? T = none → Q () { s with heap := h' }) : wpAny M A (noteFrame (.ref e) env) Q E s := by
  unfold noteFrame
  simp only [hf]
  refine wpAny_bind (wpAny_field he hd h1 ?_)
  rw [if_neg (by decide)]
  exact entry_new hfr hl hf he hdn hd (Array.getElem?_eq_some_iff.mp h1).1 h2 h
/-- the frame looks at an exception that comes from a callee -/
theorem note_next {cx : Value} {base : Heap} {env : Env} {outer : List Env} {L e T : Addr} {cls : Value} {Q : Unit → Shared → Prop}
    (hfr : A.frames = some (env :: outer)) (hl : s.heap.FunFrames base (env :: outer)) (hf : env.frame = some L) (ht : Fly e T cls .none cx s.heap)
    (h : ∀ h' T', Mvd (frs (env :: outer)) [e, T] s.heap h' → Fly e T' cls (rawInt L) cx h' → s.heap.get? T' = none → Q () { s with heap := h' }) : wpAny M A (noteFrame (.ref e) env) Q E s := by
  obtain ⟨oe, vs, oT, ts, he, hcls, hdn, hd, h1, h2, hTe, hT, hdT, h3⟩ := ht
  subst hcls
  unfold noteFrame
  simp only [hf]
  refine wpAny_bind (wpAny_field he hd h1 ?_)
  rw [if_pos (show (Value.ref T != Value.none) = true from by simp)]
  refine wpAny_bind (wpAny_field hT hdT h3 ?_)
  rw [if_neg (show ¬ ((Value.none == rawInt L) = true) from by simp [rawInt])]
  refine wpAny_bind (wpAny_setField hT hdT (Array.getElem?_eq_some_iff.mp h3).1 ?_)
  obtain ⟨mv, self⟩ := setField_mvd (i := 3) (x := Value.none) _ hT hdT
  have hl' : (s.heap.update T (Obj.mapFields (·.setIfInBounds 3 Value.none))).FunFrames base (env :: outer) := hl.of_keeps fun b o hb hnf => by
    have hbT : b ∉ [T] := fun z => by rw [List.mem_singleton.mp z, hT] at hb; cases hb; exact hnf ts hdT
    exact ⟨o, mv.keep b o hbT (by simp) hb, rfl⟩
  refine entry_new (s := { s with heap := s.heap.update T (Obj.mapFields (·.setIfInBounds 3 Value.none)) }) hfr hl' hf (mv.keep e oe (by simp [Ne.symm hTe]) (by simp) he) hdn hd (Array.getElem?_eq_some_iff.mp h1).1 h2 fun h' T' mv' fl' fr' => ?_
  refine h h' T' ((mv.mono (by simp) (by simp)).trans (mv'.mono (fun _ z => z) (by simp))) fl' ?_
  cases q : s.heap.get? T' with
  | none => rfl
  | some o =>
    obtain ⟨o', q'⟩ := mv.there T' o q
    rw [show (({ s with heap := s.heap.update T (Obj.mapFields (·.setIfInBounds 3 Value.none)) } : Shared).heap.get? T') = none from fr'] at q'
    cases q'
/-- it is met, or goes on to the caller -/
theorem flight_none {e T : Addr} {cls fl cx : Value} {Q : Unit → Shared → Prop} (ht : Fly e T cls fl cx s.heap)
    (h : ∀ h', Mvd [] [T] s.heap h' → Fly e T cls .none cx h' → Q () { s with heap := h' }) : wpAny M A (setFlight (.ref e) none) Q E s := by
  obtain ⟨oe, vs, oT, ts, he, hcls, hdn, hd, h1, h2, hTe, hT, hdT, h3⟩ := ht
  unfold setFlight
  refine wpAny_bind (wpAny_field he hd h1 ?_)
  rw [if_pos (show (Value.ref T != Value.none) = true from by simp)]
  obtain ⟨mv, self⟩ := setField_mvd (i := 3) (x := (none : Option Addr).elim Value.none fun f => rawInt f) _ hT hdT
  have hsz := (Array.getElem?_eq_some_iff.mp h3).1
  refine wpAny_setField hT hdT hsz (h _ mv ⟨oe, vs, _, _, mv.keep e oe (by simp [Ne.symm hTe]) (by simp) he, hcls, hdn, hd, h1, h2, hTe, self, Obj.data_mapFields hdT _, by simp [hsz]⟩)
/-- it was looked at here -/
theorem note_here {env : Env} {L e T : Addr} {cls cx : Value} {Q : Unit → Shared → Prop} (hf : env.frame = some L) (ht : Fly e T cls (rawInt L) cx s.heap) (h : Q () s) : wpAny M A (noteFrame (.ref e) env) Q E s := by
  obtain ⟨oe, vs, oT, ts, he, hcls, hdn, hd, h1, h2, hTe, hT, hdT, h3⟩ := ht
  unfold noteFrame
  simp only [hf]
  refine wpAny_bind (wpAny_field he hd h1 ?_)
  rw [if_pos (show (Value.ref T != Value.none) = true from by simp)]
  refine wpAny_bind (wpAny_field hT hdT h3 ?_)
  rw [if_pos (show ((rawInt L == rawInt L) = true) from by simp)]
  exact wpAny_pure h
end
end L2
end
section
set_option Elab.async false
set_option linter.all false
set_option maxRecDepth 100000
set_option maxHeartbeats 4000000
/-! EXCEPTIONS, 2: raised, passed on, met -/
namespace L2
open PySem PySem.Spec PyProof.Rows
theorem ObjOk.is {P : Program} {w : World} {H : Hp} {h : Heap} {a : Addr} {o : HO} (x : ObjOk P w H h a o) : ∃ ob, h.get? a = some ob := by
  cases o with
  | lst xs => obtain ⟨_, _, _, _, e⟩ := x; exact ⟨_, e⟩
  | tup xs => obtain ⟨_, _, _, o, e, _⟩ := x; exact ⟨_, e⟩
  | dK kvs => obtain ⟨_, _, _, _, o, _, _, e, _⟩ := x; exact ⟨_, e⟩
  | dT kvs => obtain ⟨_, _, _, _, o, _, _, e, _⟩ := x; exact ⟨_, e⟩
  | set S n => obtain ⟨o, _, _, _, e, _⟩ := x; exact ⟨_, e⟩
  | ins C dx fs => obtain ⟨_, _, _, e, _⟩ := x; exact ⟨_, e⟩
  | own y => obtain ⟨_, e⟩ := x; exact ⟨_, e⟩
  | xd fs => obtain ⟨_, ⟨_, _, _, e, _⟩, _⟩ := x; exact ⟨_, e⟩
  | rng lo hi => obtain ⟨_, _, _, e⟩ := x; exact ⟨_, e⟩
  | frz ob u => obtain ⟨e, _⟩ := x; exact ⟨_, e⟩
  | tbl ps => exact ⟨_, (show h.get? a = some _ from x)⟩
  | met f y => exact ⟨_, (show h.get? a = some _ from x)⟩
  | ext φ => obtain ⟨_, ⟨_, e⟩, _⟩ := x; exact ⟨_, e⟩
  | exc c => obtain ⟨_, _, e, _⟩ := x; exact ⟨_, e⟩
theorem HOk.none_of {P : Program} {w : World} {H : Hp} {h : Heap} (x : HOk P w H h) {a : Addr} (n : h.get? a = none) : H a = none := by
  cases q : H a with
  | none => rfl
  | some u => obtain ⟨o, e⟩ := (x a u q).is; rw [n] at e; cases e
/-- an untracked thing becomes tracked -/
theorem HOk.put {P : Program} {w : World} {H : Hp} {h : Heap} {a : Addr} {o : HO} (x : HOk P w H h) (hn : H a = none) (new : ObjOk P w (upd H a o) h a o) : HOk P w (upd H a o) h := fun b u e => by
  by_cases hb : b = a
  · subst hb; rw [upd_same] at e; cases e; exact new
  · rw [upd_ne hb] at e
    exact (x b u e).stay (fun c v _ q => q) (fun c q => by rw [upd_ne (ne_of_none q hn)]; exact q) fun c xs q => by rw [upd_ne (ne_of_none q hn)]; exact q
section
variable {X : Cx} {pins : List (Addr × Obj)} {σ σ' : St} {H H' : Hp} {s : Shared} {h' : Heap}
/-- THE STEP, where the records at ch are new since the entry -/
theorem Inv.stepN {g' : Array GenState} {t' : Nat} {d' : Drawn} {ch : List Addr} (I : Inv X pins σ H s)
    (hch : ∀ b ∈ ch, X.s₀.heap.get? b = none ∧ b ≠ X.env.locals ∧ (∀ x c, X.env.cells.lookup x = some c → c ≠ b) ∧ ∀ p ∈ X.pn ++ pins, p.1 ≠ b)
    (keep : ∀ b o, b ≠ X.env.locals → b ∉ X.fs → b ∉ ch → s.heap.get? b = some o → H b = none → h'.get? b = some o)
    (slot : ∀ b o, b ≠ X.env.locals → b ∈ X.fs → b ∉ ch → s.heap.get? b = some o → H b = none → ∃ sl, h'.get? b = some { o with slots := sl }) (free : ∀ b o, b ∉ ch → s.heap.get? b = some o → H b = none → H' b = none)
    (there : ∀ b o, b ∉ ch → s.heap.get? b = some o → ∃ o', h'.get? b = some o')
    (tups : ∀ b xs, H b = some (.tup xs) → H' b = some (.tup xs)) (frzs : ∀ b o u, H b = some (.frz o u) → H' b = some (.frz o u)) (tbls : ∀ b ps, H b = some (.tbl ps) → ∃ more, H' b = some (.tbl (ps ++ more))) (excs : ∀ b c, H b = some (.exc c) → H' b = some (.exc c))
    (loc : (∀ x c, X.env.cells.lookup x = some c → ∀ v, s.heap.IsCell c v → h'.IsCell c v) → ∃ m, h'.Ns X.env.locals m ∧ ∀ (i : Nat) (x : Str) (v : V), X.N[i]? = some x → σ'[i]? = some (some v) → Vis X.env.scope x → ∃ u, RelV v u ∧ Look X.env h' m x u)
    (fix : (∀ x c, X.env.cells.lookup x = some c → ∀ v, s.heap.IsCell c v → h'.IsCell c v) → ∀ p ∈ X.fx, ∃ m, h'.Ns X.env.locals m ∧ Look X.env h' m p.1 p.2)
    (len : σ'.length = σ.length) (hok : HOk X.prog X.w H' h') (hg : AllBare g') :
    Inv X pins σ' H' { s with heap := h', gens := g', drawn := d', toks := t' } := by
  have neL : ∀ b o, X.s₀.heap.get? b = some o → b ≠ X.env.locals := fun b o e => Nat.ne_of_lt (Nat.lt_of_lt_of_le (Heap.lt_size e) I.ok.above)
  have neC : ∀ b o, X.s₀.heap.get? b = some o → b ∉ ch := fun b o e hb => by
    rw [(hch b hb).1] at e; cases e
  have cellK : ∀ x c, X.env.cells.lookup x = some c → ∀ v, s.heap.IsCell c v → h'.IsCell c v := fun x c e v ⟨o, ho, hd⟩ => by
    have nch : c ∉ ch := fun z => (hch c z).2.2.1 x c e rfl
    by_cases hc : c ∈ X.fs
    · obtain ⟨sl, q⟩ := slot c o (I.cne x c e) hc nch ho (I.freeC x c e)
      exact ⟨_, q, hd⟩
    · exact ⟨o, keep c o (I.cne x c e) hc nch ho (I.freeC x c e), hd⟩
  refine ⟨I.ok, I.os, hg, ⟨fun b o e n hb hx => ?_, fun b o e n hb hx => ?_, fun b o e n hx => ?_, fun b o e hx => ?_, fun b xs e => tups b xs (I.base.tups b xs e), fun b o xs e => frzs b o xs (I.base.frzs b o xs e), fun b ps e => ?_, fun b c e => excs b c (I.base.excs b c e)⟩, loc cellK, fun x c e => ?_, ?_, fun x c e => ?_, fun p hp => ?_, hok, len.trans I.len, fun p hp => excs _ _ (I.tr p hp), fix cellK⟩
  · exact keep b o (neL b o e) hb (neC b o e) (I.base.keep b o e n hb hx) (I.base.free b o e n hx)
  · obtain ⟨sl, e1⟩ := I.base.slot b o e n hb hx
    obtain ⟨sl', e2⟩ := slot b _ (neL b o e) hb (neC b o e) e1 (I.base.free b o e n hx)
    exact ⟨sl', e2⟩
  · obtain ⟨o', e1⟩ := I.base.there b o e hx
    exact free b o' (neC b o e) e1 (I.base.free b o e n hx)
  · obtain ⟨o', e1⟩ := I.base.there b o e hx
    exact there b o' (neC b o e) e1
  · obtain ⟨m1, e1⟩ := I.base.tbls b ps e
    obtain ⟨m2, e2⟩ := tbls b _ e1
    exact ⟨m1 ++ m2, by rw [e2, Array.append_assoc]⟩
  · obtain ⟨v, z⟩ := I.cell x c e
    exact ⟨v, cellK x c e v z⟩
  · obtain ⟨m, ⟨o, _, _, ho, _⟩, _⟩ := I.loc
    exact free _ o (fun z => (hch _ z).2.1 rfl) ho I.free
  · obtain ⟨v, o, ho, hd⟩ := I.cell x c e
    exact free c o (fun z => (hch c z).2.2.1 x c e rfl) ho (I.freeC x c e)
  · obtain ⟨e, n, ne, nf, d⟩ := I.pin p hp
    have nch : p.1 ∉ ch := fun z => (hch p.1 z).2.2.2 p hp rfl
    exact ⟨keep p.1 p.2 ne nf nch e n, free p.1 p.2 nch e n, ne, nf, d⟩
/-- untracked, new since the entry, none of ours -/
structure Nw (X : Cx) (pins : List (Addr × Obj)) (H : Hp) (b : Addr) : Prop where
  free : H b = none
  new : X.s₀.heap.get? b = none
  loc : b ≠ X.env.locals
  cel : ∀ x c, X.env.cells.lookup x = some c → c ≠ b
  pin : ∀ p ∈ X.pn ++ pins, p.1 ≠ b
theorem Nw.of (I : Inv X pins σ H s) (hex : X.ex = []) {b : Addr} (n : s.heap.get? b = none) (f : H' b = none) : Nw X pins H' b where
  free := f
  new := by
    cases q : X.s₀.heap.get? b with
    | none => rfl
    | some o => obtain ⟨o', e⟩ := I.base.there b o q (by rw [hex]; simp); rw [n] at e; cases e
  loc := fun z => by obtain ⟨m, ⟨o, _, _, ho, _⟩, _⟩ := I.loc; rw [← z, n] at ho; cases ho
  cel := fun x c e z => by obtain ⟨v, o, ho, _⟩ := I.cell x c e; rw [z, n] at ho; cases ho
  pin := fun p hp z => by obtain ⟨e, _⟩ := I.pin p hp; rw [z, n] at e; cases e
/-- a record in flight is written -/
theorem Inv.mvd {ex : List Addr} (I : Inv X pins σ H s) (mv : Mvd (frs X.stack) ex s.heap h') (hex : ∀ b ∈ ex, Nw X pins H b) : Inv X pins σ H { s with heap := h' } := by
  have nx : ∀ b u, H b = some u → b ∉ ex := fun b u e z => by rw [(hex b z).free] at e; cases e
  have nf : ∀ b u, H b = some u → b ∉ frs X.stack := fun b u e z => by rw [I.stkFree b z] at e; cases e
  refine I.stepN (g' := s.gens) (d' := s.drawn) (t' := s.toks) (ch := ex) (fun b hb => ⟨(hex b hb).new, (hex b hb).loc, (hex b hb).cel, (hex b hb).pin⟩) (fun b o hL hf hc e _ => mv.keep b o hc (fun z => (List.mem_cons.mp (I.stkSub b z)).elim hL hf) e) (fun b o _ _ hc e _ => mv.slot b o hc e)
    (fun _ _ _ _ n => n) (fun b o _ e => mv.there b o e) (fun _ _ e => e) (fun _ _ _ e => e) (fun b ps e => ⟨#[], by rw [e]; simp⟩) (fun _ _ e => e) (fun cellK => ?_) (fun cellK p hp => ?_) rfl (fun a o e => (I.hok a o e).stay (fun b u hb q => ?_) (fun _ q => q) fun _ _ q => q) I.bare
  · obtain ⟨m, ⟨o, es, ep, ho, r⟩, hl⟩ := I.loc
    obtain ⟨sl, hL⟩ := mv.slot _ o (fun z => (hex _ z).loc rfl) ho
    refine ⟨m, ⟨_, es, ep, hL, r⟩, fun i x v e1 e2 e3 => ?_⟩
    obtain ⟨u, r, l⟩ := hl i x v e1 e2 e3
    refine ⟨u, r, ?_⟩
    rcases l with l | ⟨k, c, e, z⟩
    · exact .inl l
    · exact .inr ⟨k, c, e, cellK x c e _ z⟩
  · obtain ⟨m, ⟨o, es, ep, ho, r⟩, lk⟩ := I.fix p hp
    obtain ⟨sl, hL⟩ := mv.slot _ o (fun z => (hex _ z).loc rfl) ho
    exact ⟨m, ⟨_, es, ep, hL, r⟩, lk.elim .inl fun ⟨k, c, e, z⟩ => .inr ⟨k, c, e, cellK p.1 c e _ z⟩⟩
  · rcases hb with rfl | hb
    · exact mv.keep b u (nx b _ e) (nf b _ e) q
    · exact mv.keep b u (nx b _ hb) (nf b _ hb) q
end
/-- an exception that was just made -/
def Raw (e : Addr) (cls cx : Value) (h : Heap) : Prop := ∃ oe vs, h.get? e = some oe ∧ oe.cls = cls ∧ oe.dict = none ∧ oe.data = .fields vs ∧ vs[1]? = some .none ∧ vs[2]? = some cx
/-- what it came out of: nothing, or one at rest that is its own -/
def Chn (H : Hp) (h : Heap) (e : Addr) (cx : Value) (d : Option Addr) : Prop := (d = none ∧ cx = .none) ∨ ∃ (b : Addr) (ob : Obj) (vb : Array Value), d = some b ∧ cx = .ref b ∧ b ≠ e ∧ H b = some (.own e) ∧ h.get? b = some ob ∧ ob.data = .fields vb ∧ vb[2]? = some .none
theorem Chn.keep {H H' : Hp} {h h' : Heap} {e : Addr} {cx : Value} {d : Option Addr} (x : Chn H h e cx d) (k : ∀ b ob, H b = some (.own e) → h.get? b = some ob → H' b = some (.own e) ∧ h'.get? b = some ob) : Chn H' h' e cx d := by
  rcases x with x | ⟨b, ob, vb, x1, x2, x3, x4, x5, x6⟩
  · exact .inl x
  · obtain ⟨y1, y2⟩ := k b ob x4 x5
    exact .inr ⟨b, ob, vb, x1, x2, x3, y1, y2, x6⟩
/-- an exception in the air, within a body -/
def Air (X : Cx) (pins : List (Addr × Obj)) (H : Hp) (e : Addr) (cls : Value) (d : Option Addr) (h : Heap) : Prop := Nw X pins H e ∧ ∃ cx, Chn H h e cx d ∧ (Raw e cls cx h ∨ ∃ T fl, Fly e T cls fl cx h ∧ (fl = .none ∨ fl = rawInt X.env.locals) ∧ Nw X pins H T)
/-- what is wanted of an exception is what E says -/
def Out (X : Cx) (E : XK) : Prop := ∀ (pins : List (Addr × Obj)) (σ : St) (H : Hp) (s : Shared) (e : Addr) (cls : Value) (d : Option Addr), Inv X pins σ H s → Air X pins H e cls d s.heap → E cls d H → X.xe (.ref e) s
/-- how an exception lies behind a call -/
def CXE (P : Program) (w : World) : CXT := fun outer H s E e s' => (outer = [] ∧ E = fun _ _ _ => True) ∨ ∃ (a T : Addr) (cls cx : Value) (d : Option Addr) (H' : Hp), e = .ref a ∧ s'.os = s.os ∧ AllBare s'.gens ∧ Un (frs outer) [] H H' s.heap s'.heap ∧ HOk P w H' s'.heap ∧
  H' a = none ∧ s.heap.get? a = none ∧ Fly a T cls .none cx s'.heap ∧ Chn H' s'.heap a cx d ∧ H' T = none ∧ s.heap.get? T = none ∧ E cls d H'
theorem calm_of {P : Program} {w : World} {A : Around} (s : Shared) (h : Calm (CXE P w) A) : A.handled = none := by
  rcases h with h | h
  · have q : CXE P w [] (fun _ => none) s (fun _ _ _ => True) .none s := .inl ⟨rfl, rfl⟩
    rw [h] at q
    exact q.elim
  · exact h
section
variable {X : Cx} {pins : List (Addr × Obj)} {σ : St} {H : Hp} {s : Shared} {E : XK} {M : Model} {e : Addr} {cls : Value}
theorem passes_out (O : Out X E) (hst : X.stack = X.env :: X.outer) (hex : X.ex = []) : Passes (CXE X.prog X.w) X E := by
  intro pins σ H s e s' I h
  rcases h with ⟨h, _⟩ | ⟨a, T, cls, cx, d, H', rfl, os, bare, un, hok, f1, n1, fl, ch, f2, n2, q⟩
  · rw [hst] at h; cases h
  · have I' : Inv X pins σ H' s' := I.call' (ch := []) os un hok bare (fun b z => absurd z (by simp))
    exact O pins σ H' s' a cls d I' ⟨Nw.of I hex n1 f1, cx, ch, .inr ⟨T, _, fl, .inl rfl, Nw.of I hex n2 f2⟩⟩ q
/-- what is tracked is kept by a flight -/
theorem Inv.own_kept {ex : List Addr} {h' : Heap} (I : Inv X pins σ H s) (mv : Mvd (frs X.stack) ex s.heap h') (hex : ∀ b ∈ ex, Nw X pins H b) : ∀ b ob, H b = some (.own e) → s.heap.get? b = some ob → H b = some (.own e) ∧ h'.get? b = some ob := fun b ob hb q =>
  ⟨hb, mv.keep b ob (fun z => by rw [(hex b z).free] at hb; cases hb) (fun z => by rw [I.stkFree b z] at hb; cases hb) q⟩
/-- the frame looks at it -/
theorem look_note {A : Around} {Ex : Value → Shared → Prop} {d : Option Addr} {Q : Unit → Shared → Prop} (I : Inv X pins σ H s) (hA : A.frames = X.A.frames) (hst : X.stack = X.env :: X.outer) (hfr : X.env.frame = some X.env.locals) (hex : X.ex = []) (a : Air X pins H e cls d s.heap)
    (h : ∀ h' T cx, Inv X pins σ H { s with heap := h' } → Fly e T cls (rawInt X.env.locals) cx h' → Chn H h' e cx d → Nw X pins H T → Nw X pins H e → Q () { s with heap := h' }) :
    wpAny M A (noteFrame (.ref e) X.env) Q Ex s := by
  have hl := I.stack
  have hf := I.ok.frames
  rw [hst] at hl hf
  rw [← hA] at hf
  obtain ⟨ne, cx, ch, a⟩ := a
  have fin : ∀ (h1 : Heap) (T : Addr) (ex : List Addr), Mvd (frs (X.env :: X.outer)) ex s.heap h1 → (∀ b ∈ ex, Nw X pins H b) → Fly e T cls (rawInt X.env.locals) cx h1 → s.heap.get? T = none →
      Q () { s with heap := h1 } := fun h1 T ex mv hx fl nT => by
    have mv' : Mvd (frs X.stack) ex s.heap h1 := by rw [hst]; exact mv
    exact h h1 T cx (I.mvd mv' hx) fl (ch.keep (I.own_kept mv' hx)) (Nw.of I hex nT (I.hok.none_of nT)) ne
  rcases a with ⟨oe, vs, he, hc, hdn, hd, h1, h2⟩ | ⟨T0, fl0, fl, hfl, nT0⟩
  · subst hc
    refine note_first hf hl hfr he hdn hd h1 h2 fun h' T mv fl nT => fin h' T [e] mv (fun b hb => by rw [List.mem_singleton.mp hb]; exact ne) fl nT
  · rcases hfl with rfl | rfl
    · refine note_next hf hl hfr fl fun h' T mv fl nT => fin h' T [e, T0] mv (fun b hb => ?_) fl nT
      rcases List.mem_cons.mp hb with rfl | hb
      · exact ne
      · rw [List.mem_singleton.mp hb]; exact nT0
    · exact note_here hfr fl (h s.heap T0 cx I fl ch nT0 ne)
/-- the frame looks at it, and it is met -/
theorem look_land {A : Around} {Ex : Value → Shared → Prop} {d : Option Addr} {Q : Unit → Shared → Prop} (I : Inv X pins σ H s) (hA : A.frames = X.A.frames) (hst : X.stack = X.env :: X.outer) (hfr : X.env.frame = some X.env.locals) (hex : X.ex = []) (a : Air X pins H e cls d s.heap)
    (h : ∀ h' T cx, Inv X pins σ H { s with heap := h' } → Fly e T cls .none cx h' → Chn H h' e cx d → Nw X pins H T → Nw X pins H e → Q () { s with heap := h' }) :
    wpAny M A (noteFrame (.ref e) X.env) (fun _ s2 => wpAny M A (setFlight (.ref e) none) Q Ex s2) Ex s := by
  refine look_note I hA hst hfr hex a fun h1 T cx I1 fl ch nT ne => ?_
  refine flight_none (s := { s with heap := h1 }) fl fun h2 mv2 fl2 => ?_
  have mv' : Mvd (frs X.stack) [T] h1 h2 := mv2.mono (fun b z => nomatch z) fun b z => z
  have hx : ∀ b ∈ [T], Nw X pins H b := fun b hb => by rw [List.mem_singleton.mp hb]; exact nT
  exact h h2 T cx (I1.mvd mv' hx) fl2 (ch.keep (I1.own_kept mv' hx)) nT ne
end
/-- out of a def -/
theorem out_fn {P : Program} {w : World} {K : PySem.W.Frag} {mg : Str → Option Value} {base : Heap} {N : List Str} {qual : Str} {scope : Scope} {f : Addr} {cd : Value} {A : Around} {outer : List Env} {s : Shared} {H : Hp} {E E' : XK} (hE : ∀ c d H, E' c d H → E c d H) :
    Out (cxOf (CXE P w) P w K mg base N qual scope f cd A outer s H E) E' := by
  intro pins σ H' s' e cls d I a q
  show wpAny _ _ (leaving _ (.ref e)) _ _ _
  unfold leaving
  refine wpAny_bind (look_land I rfl rfl rfl rfl a fun h' T cx I' fl ch nT ne => ?_)
  exact .inr ⟨e, T, cls, cx, d, H', rfl, I'.os, I'.bare, I'.base, I'.hok, ne.free, ne.new, fl, ch, nT.free, nT.new, hE _ _ _ q⟩
theorem passes_fn {P : Program} {w : World} {K : PySem.W.Frag} {mg : Str → Option Value} {base : Heap} {N : List Str} {qual : Str} {scope : Scope} {f : Addr} {cd : Value} {A : Around} {outer : List Env} {s : Shared} {H : Hp} {E E' : XK} (hE : ∀ c d H, E' c d H → E c d H) :
    Passes (CXE P w) (cxOf (CXE P w) P w K mg base N qual scope f cd A outer s H E) E' := passes_out (X := cxOf (CXE P w) P w K mg base N qual scope f cd A outer s H E) (out_fn hE) rfl rfl
/-- no exception is wanted -/
theorem cxe0 {P : Program} {w : World} {l : List Env} {H : Hp} {s : Shared} {e : Value} {s' : Shared} (h : CXE P w l H s (fun _ _ _ => False) e s') : False := by
  rcases h with ⟨_, h⟩ | ⟨a, T, cls, cx, d, H', _, _, _, _, _, _, _, _, _, _, _, q⟩
  · have := congrFun (congrFun (congrFun h .none) none) H
    rw [this]; trivial
  · exact q
theorem passesE0 {X : Cx} : Passes (CXE X.prog X.w) X E0 := fun _ _ _ _ _ _ _ h => (cxe0 h).elim
/-- the class object of an exception of one's own -/
theorem own_obj {K : PySem.W.Frag} {h : Heap} {C : Addr} {bmB : List Value} {newId : String} (X : K.In h) (q : PySem.W.excIn K C bmB newId = true) :
    ∃ bm N nm qn bs hdct sn sub ab col dd k0 k1 k2 k3 k5 mN, h.get? C = some (excClassObj nm qn C N bs bm hdct sn sub ab col dd k0 k1 k2 k3 k5 newId) ∧ h.Ns N mN ∧ mN "__init__" = none ∧ OwnTail h bmB bm := by
  unfold PySem.W.excIn at q
  split at q
  · rename_i dd cd sl ho
    split at q
    · rename_i C' bm k0 k1 k2 k3 n k5 hm hs
      simp only [Bool.and_eq_true, beq_iff_eq, Bool.not_eq_true'] at q
      obtain ⟨⟨⟨⟨⟨rfl, rfl⟩, hdel⟩, ht⟩, hok⟩, hni⟩ := q
      obtain ⟨nm, bs, mro, ns, qn, hd, sn, sub, ab, col, del⟩ := cd
      dsimp only at hm hdel hok hni
      subst hm hdel
      have hsl : sl = #[k0, k1, k2, k3, some (.builtin n), k5] := by
        obtain ⟨l⟩ := sl
        simp only at hs
        rw [hs]
      subst hsl
      exact ⟨bm, ns, nm, qn, bs, hd, sn, sub, ab, col, dd, k0, k1, k2, k3, k5, _, X _ _ ho, .of_isNs (PySem.W.isNs_of_in X hok), PySem.W.nsMap_none_of_in X hok hni, PySem.W.tail_of_in X ht⟩
    · cases q
  · cases q
abbrev veMro : List Value := [.type "ValueError", .type "Exception", .type "BaseException", .type "object"]
/-- raise C(e) -/
def tRaise (E : XK) (C : Addr) (t : TA) : TS := fun _ σ H => t σ H fun vs H1 => vs.length ≤ 1000 ∧ E (.ref C) none H1
theorem ps_raise {X : Cx} {E : XK} {C : Addr} {x : Str} {np cpos pos : Pos} {e : Expr} {es : List Expr} {t : TA} (O : Out X E) (hex : X.ex = []) (hh : X.A.handled = none) (hg : Gl X x) (hm : X.mg x = some (.ref C)) (hc : PySem.W.excIn X.K C veMro "ValueError.__new__" = true)
    (ha : PA X (e :: es) t) (hdb : (x == ("__debug__" : Str)) = false := by decide) (he : starEach (e :: es) X.env = (false, eval e X.env) :: starEach es X.env := by rfl) (hpl : (backTo cpos (starEach es X.env)).any (·.1) = false := by rfl) :
    PS X (.Raise (some (.Call (.Name x np) (e :: es) [] cpos)) none pos) (tRaise E C t) := by
  intro pins s σ H D I h
  obtain ⟨bm, N, nm, q, bs, hdct, sn, sub, ab, col, dd, k0, k1, k2, k3, k5, mN, hC, hN, hni, T⟩ := own_obj I.ok.mod.kin hc
  refine wpAny_Raise_call_subT (C := C) (nm := nm) (q := q) (N := N) (bs := bs) (bm := bm) (hdct := hdct) (sn := sn) (sub := sub) (ab := ab) (col := col) (dd := dd) (k0 := k0) (k1 := k1) (k2 := k2) (k3 := k3) (k5 := k5)
    PySem.F.excBase_ValueError (mN := mN) (T.hasType PySem.F.excBase_ValueError.hasBase) hh (by rw [he]; show (false || (backTo cpos (starEach es X.env)).any (·.1)) = false; rw [hpl]; rfl) hni (ld_glob I hg hm ⟨rfl, ?_⟩ hdb)
  have h2 := ha cpos pins s σ H _ I h
  rw [he] at h2 ⊢
  refine Calls.evalArgs_plain (wpAny_mono h2 (fun us s2 ⟨vs, H1, I1, r, z, q⟩ => ?_) fun _ _ y => y)
  refine ⟨rfl, ?_, I1.bk _ _ hC, hN.keeps I1.bk, T.keeps I1.bk, fun h' e hm => ?_⟩
  · have e := r.length
    show us.length ≤ _
    rw [← e]
    exact Nat.le_of_lt (small1000 z)
  · have I2 : Inv X pins σ H1 { s2 with heap := h' } := I1.kept (t' := s2.toks) hm.keeps
    obtain ⟨t, h1, h2, h3⟩ := hm.there
    exact O pins σ H1 { s2 with heap := h' } e (.ref C) none I2 ⟨Nw.of I1 hex hm.new (I1.hok.none_of hm.new), .none, .inl ⟨rfl, rfl⟩, .inl ⟨_, _, h1, rfl, rfl, rfl, rfl, rfl⟩⟩ q
end L2
end
section
set_option Elab.async false
set_option linter.all false
set_option maxRecDepth 100000
set_option maxHeartbeats 4000000
/-! EXCEPTIONS, 3: try .. except C as e -/
namespace L2
open PySem PySem.Spec PyProof.Rows
/-- a class of the text that an except clause may name -/
structure CatK (K : PySem.W.Frag) (C : Addr) : Prop where
  cls : (match K.lookup C with | some ⟨.type "type", _, .cls _, _⟩ => true | _ => false) = true
  bx : PySem.W.mroIn K C (.type "BaseException") = some true
open PySem.W in
theorem exc_matches {M : Model} {A : Around} {E : Value → Shared → Prop} {s : Shared} {K : PySem.W.Frag} {C0 C e : Addr} {oe : Obj} {b : Bool} {Q : Bool → Shared → Prop} (X : K.In s.heap) (k : CatK K C0) (he : s.heap.get? e = some oe) (hcls : oe.cls = .ref C)
    (hm : mroIn K C (.ref C0) = some b) (h : Q b s) : wpAny M A (excMatches (.ref e) (.ref C0)) Q E s := by
  obtain ⟨hp, g, d, t, os⟩ := s
  have L1 := looks_mroIn (M := M) X k.bx
  have L2 := looks_mroIn (M := M) X hm
  have kc := k.cls
  split at kc
  · rename_i dd cd sl ho
    have hC : hp.get? C0 = some ⟨.type "type", dd, .cls cd, sl⟩ := X _ _ ho
    have f := tc_notTuple
    unfold excMatches
    repeat (first | (with_reducible refine wpAny_loadPart_at he ?_; rw [hcls]) | with_reducible refine wpAny_loadPart_at hC ?_ | (with_reducible refine L1.here ?_) | (with_reducible refine L2.here ?_) | wp_step)
    cases b <;> (wp_walk; exact h)
  · cases kc
end L2
namespace L2
open PySem PySem.Spec PyProof.Rows
abbrev Cx.bod (X : Cx) (pn : List (Addr × Obj)) (fx : List (Str × Value)) (xe : Value → Shared → Prop) : Cx := { X with pn := pn, fx := fx, xe := xe }
abbrev Cx.hnd (X : Cx) (e : Addr) (c : Value) (pn : List (Addr × Obj)) : Cx := { X with A := X.A.mark (some (.ref e)), pn := pn, tr := (e, c) :: X.tr, xe := fun _ _ => False }
theorem Cx.Ok.bod {X : Cx} (ok : X.Ok) (pn : List (Addr × Obj)) (fx : List (Str × Value)) (xe : Value → Shared → Prop) : (X.bod pn fx xe).Ok :=
  ⟨ok.mod, ok.kind, ok.glob, ok.blt, ok.above, ok.inj, ok.has, ok.cab, ok.hd, ok.frames, ok.stk, ok.exf, ok.bs, ok.bsz, ok.noex, ok.exfs, ok.funs, ok.frf⟩
theorem Cx.Ok.hnd {X : Cx} (ok : X.Ok) (e : Addr) (c : Value) (pn : List (Addr × Obj)) : (X.hnd e c pn).Ok :=
  ⟨ok.mod, ok.kind, ok.glob, ok.blt, ok.above, ok.inj, ok.has, ok.cab, .inr ⟨e, c, rfl, .inr (List.mem_cons_self ..)⟩, ok.frames, ok.stk, ok.exf, ok.bs, ok.bsz, ok.noex, ok.exfs, ok.funs, ok.frf⟩
/-- the values of the names that a try's body doesn't assign -/
def mask (W : List Str) : List Str → St → St
  | n :: N, v :: σ => (if W.contains n = true then none else v) :: mask W N σ
  | _, σ => σ
theorem mask_len (W : List Str) : ∀ (N : List Str) (σ : St), (mask W N σ).length = σ.length
  | [], _ => rfl
  | _ :: _, [] => rfl
  | _ :: N, _ :: σ => by simp [mask, mask_len W N σ]
theorem mask_get {W : List Str} : ∀ {N : List Str} {σ : St} {i : Nat} {x : Str} {v : V}, N[i]? = some x → (mask W N σ)[i]? = some (some v) → σ[i]? = some (some v) ∧ x ∉ W
  | [], _, _, _, _, h, _ => by simp at h
  | _ :: _, [], _, _, _, _, h => by simp [mask] at h
  | n :: N, u :: σ, 0, x, v, h1, h2 => by
    simp only [List.getElem?_cons_zero, Option.some.injEq] at h1
    subst h1
    simp only [mask, List.getElem?_cons_zero, Option.some.injEq] at h2
    split at h2
    · cases h2
    · rename_i hc
      exact ⟨by simp [h2], fun z => hc (by simpa using z)⟩
  | n :: N, u :: σ, i + 1, x, v, h1, h2 => by
    have := mask_get (N := N) (σ := σ) (i := i) (x := x) (v := v) (by simpa using h1) (by simpa [mask] using h2)
    simpa using this
section
variable {X : Cx} {pins : List (Addr × Obj)} {σ : St} {H : Hp} {s : Shared} {e : Addr} {c : Value}
/-- the names' values, written out -/
theorem Inv.fixed (I : Inv X pins σ H s) (W : List Str) : ∃ fx : List (Str × Value), (∀ p ∈ fx, p.1 ∉ W) ∧ (∀ p ∈ fx, ∃ m, s.heap.Ns X.env.locals m ∧ Look X.env s.heap m p.1 p.2) ∧
    ∀ (i : Nat) (x : Str) (v : V), X.N[i]? = some x → σ[i]? = some (some v) → Vis X.env.scope x → x ∉ W → ∃ u, RelV v u ∧ (x, u) ∈ fx := by
  obtain ⟨m, hn, hl⟩ := I.loc
  have key : ∀ n : Nat, ∃ fx : List (Str × Value), (∀ p ∈ fx, p.1 ∉ W) ∧ (∀ p ∈ fx, ∃ m, s.heap.Ns X.env.locals m ∧ Look X.env s.heap m p.1 p.2) ∧
      ∀ (i : Nat) (x : Str) (v : V), i < n → X.N[i]? = some x → σ[i]? = some (some v) → Vis X.env.scope x → x ∉ W → ∃ u, RelV v u ∧ (x, u) ∈ fx := by
    intro n
    induction n with
    | zero => exact ⟨[], fun p h => (by cases h), fun p h => (by cases h), fun i x v h => absurd h (Nat.not_lt_zero _)⟩
    | succ n ih =>
      obtain ⟨fx, h1, h2, h3⟩ := ih
      by_cases hx : ∃ x v, X.N[n]? = some x ∧ σ[n]? = some (some v) ∧ Vis X.env.scope x ∧ x ∉ W
      · obtain ⟨x, v, a1, a2, a3, a4⟩ := hx
        obtain ⟨u, r, lk⟩ := hl n x v a1 a2 a3
        refine ⟨(x, u) :: fx, fun p hp => ?_, fun p hp => ?_, fun i y v' hi b1 b2 b3 b4 => ?_⟩
        · rcases List.mem_cons.mp hp with rfl | hp
          · exact a4
          · exact h1 p hp
        · rcases List.mem_cons.mp hp with rfl | hp
          · exact ⟨m, hn, lk⟩
          · exact h2 p hp
        · by_cases hin : i = n
          · subst hin
            rw [a1] at b1; cases b1
            rw [a2] at b2; cases b2
            exact ⟨u, r, List.mem_cons_self ..⟩
          · obtain ⟨u', r', z⟩ := h3 i y v' (by omega) b1 b2 b3 b4
            exact ⟨u', r', List.mem_cons_of_mem _ z⟩
      · refine ⟨fx, h1, h2, fun i y v' hi b1 b2 b3 b4 => ?_⟩
        by_cases hin : i = n
        · subst hin
          exact absurd ⟨y, v', b1, b2, b3, b4⟩ hx
        · exact h3 i y v' (by omega) b1 b2 b3 b4
  obtain ⟨fx, h1, h2, h3⟩ := key X.N.length
  exact ⟨fx, h1, h2, fun i x v a1 a2 a3 a4 => h3 i x v (List.getElem?_eq_some_iff.mp a1).1 a1 a2 a3 a4⟩
theorem Inv.bod (I : Inv X pins σ H s) (hfx0 : X.fx = []) {fx : List (Str × Value)} (hf : ∀ p ∈ fx, ∃ m, s.heap.Ns X.env.locals m ∧ Look X.env s.heap m p.1 p.2) (xe : Value → Shared → Prop) : Inv (X.bod (X.pn ++ pins) fx xe) [] σ H s :=
  ⟨I.ok.bod _ _ _, I.os, I.bare, I.base, I.loc, I.cell, I.free, I.freeC, fun p hp => I.pin p (by simpa using hp), I.hok, I.len, I.tr, hf⟩
theorem Inv.unbod {fx : List (Str × Value)} {xe : Value → Shared → Prop} (J : Inv X pins σ H s) (hfx0 : X.fx = []) {ps : List (Addr × Obj)} {σ' : St} {H' : Hp} {s' : Shared} (I : Inv (X.bod (X.pn ++ pins) fx xe) ps σ' H' s') : Inv X pins σ' H' s' :=
  ⟨J.ok, I.os, I.bare, I.base, I.loc, I.cell, I.free, I.freeC, fun p hp => I.pin p (List.mem_append_left _ hp), I.hok, I.len, I.tr, fun p hp => by rw [hfx0] at hp; cases hp⟩
theorem Nw.unbod {fx : List (Str × Value)} {xe : Value → Shared → Prop} {ps : List (Addr × Obj)} {b : Addr} (n : Nw (X.bod (X.pn ++ pins) fx xe) ps H b) : Nw X pins H b := ⟨n.free, n.new, n.loc, n.cel, fun p hp => n.pin p (List.mem_append_left _ hp)⟩
theorem Nw.hnd {e' : Addr} {b : Addr} (n : Nw X pins H b) (hb : b ≠ e') (c : Value) (o : HO) : Nw (X.hnd e' c (X.pn ++ pins)) [] (upd H e' o) b := ⟨by rw [upd_ne hb]; exact n.free, n.new, n.loc, n.cel, fun p hp => n.pin p (by simpa using hp)⟩
/-- the exception is handled now -/
theorem Inv.hnd (I : Inv X pins σ H s) (hfx0 : X.fx = []) (n : Nw X pins H e) {T : Addr} {cx : Value} {dd : Option Addr} (fl : Fly e T c .none cx s.heap) (ch : Chn H s.heap e cx dd) : Inv (X.hnd e c (X.pn ++ pins)) [] σ (upd H e (.exc c)) s := by
  obtain ⟨oe, vs, oT, ts, h1, h2, h3, h4, _, h5, _⟩ := fl
  refine ⟨I.ok.hnd _ _ _, I.os, I.bare, ⟨I.base.keep, I.base.slot, fun b o q nb hx => ?_, I.base.there, fun b xs q => ?_, fun b o u q => ?_, fun b ps q => ?_, fun b k q => ?_⟩, I.loc, I.cell, ?_, fun x k q => ?_, fun p hp => ?_, I.hok.put n.free ⟨oe, vs, h1, h2, h3, h4, ?_⟩, I.len, fun p hp => ?_, fun p hp => ?_⟩
  case refine_9 =>
    rcases ch with ⟨_, rfl⟩ | ⟨b, ob, vb, _, rfl, d2, d3, d4, d5⟩
    · exact .inl h5
    · exact .inr ⟨b, ob, vb, h5, d2, by rw [upd_ne d2]; exact d3, d4, d5⟩
  · have hb : b ≠ e := fun z => by rw [z] at q; rw [show X.s₀.heap.get? e = none from n.new] at q; cases q
    rw [upd_ne hb]; exact I.base.free b o q nb hx
  · have := I.base.tups b xs q; rw [upd_ne (ne_of_none this n.free)]; exact this
  · have := I.base.frzs b o u q; rw [upd_ne (ne_of_none this n.free)]; exact this
  · obtain ⟨more, z⟩ := I.base.tbls b ps q; exact ⟨more, by rw [upd_ne (ne_of_none z n.free)]; exact z⟩
  · have := I.base.excs b k q; rw [upd_ne (ne_of_none this n.free)]; exact this
  · rw [upd_ne (Ne.symm n.loc)]; exact I.free
  · rw [upd_ne (n.cel x k q)]; exact I.freeC x k q
  · have hp' : p ∈ X.pn ++ pins := by simpa using hp
    obtain ⟨a1, a2, a3⟩ := I.pin p hp'
    exact ⟨a1, by rw [upd_ne (n.pin p hp')]; exact a2, a3⟩
  · rcases List.mem_cons.mp hp with rfl | hp
    · exact upd_same
    · have := I.tr p hp; rw [upd_ne (ne_of_none this n.free)]; exact this
  · have hp' : p ∈ X.fx := hp
    rw [hfx0] at hp'; cases hp'
theorem Inv.offh (J : Inv X pins σ H s) (hfx0 : X.fx = []) {σ' : St} {H' : Hp} {s' : Shared} (I : Inv (X.hnd e c (X.pn ++ pins)) [] σ' H' s') : Inv X pins σ' H' s' :=
  ⟨J.ok, I.os, I.bare, I.base, I.loc, I.cell, I.free, I.freeC, fun p hp => I.pin p (List.mem_append_left _ hp), I.hok, I.len, fun p hp => I.tr p (List.mem_cons_of_mem _ hp), fun p hp => by rw [hfx0] at hp; cases hp⟩
/-- it was handled, and the name is gone -/
theorem Inv.unhnd (J : Inv X pins σ H s) (hfx0 : X.fx = []) {i : Nat} {n : Str} (hi : X.N[i]? = some n) {σ' : St} {H' : Hp} {s' : Shared} {m : Str → Option Value} {u : Option Value} {h' : Heap} {t' : Nat} (I : Inv (X.hnd e c (X.pn ++ pins)) [] σ' H' s') (hm : s'.heap.Ns X.env.locals m)
    (hn : h'.Ns X.env.locals (fun x => if x = n then u else m x)) (sb : Heap.SameBut X.env.locals s'.heap h') (hN : X.N.Nodup) : Inv X pins (σ'.set i none) H' { s' with heap := h', toks := t' } := by
  have K0 : ∀ b o, b ≠ X.env.locals → s'.heap.get? b = some o → h'.get? b = some o := fun b o hb e => (sb.2 b hb).trans e
  have hL : H' X.env.locals = none := I.free
  have I' : Inv X pins σ' H' s' := J.offh hfx0 I
  refine I'.stepN (g' := s'.gens) (d' := s'.drawn) (ch := []) (fun b hb => nomatch hb) (fun b o hb _ _ q _ => K0 b o hb q) (fun b o hb _ _ q _ => ⟨o.slots, K0 b o hb q⟩) (fun _ _ _ _ n => n) (fun b o _ q => ?_) (fun _ _ q => q) (fun _ _ _ q => q) (fun b ps q => ⟨#[], by rw [q]; simp⟩) (fun _ _ q => q)
    (fun cellK => ?_) (fun _ p hp => by rw [hfx0] at hp; cases hp) (by simp) (fun a o q => (I.hok a o q).stay (fun b u hb z => K0 b u ?_ z) (fun _ z => z) fun _ _ z => z) I.bare
  · by_cases hb : b = X.env.locals
    · obtain ⟨ol, _, _, ho, _⟩ := hn
      exact ⟨ol, by rw [hb]; exact ho⟩
    · exact ⟨o, K0 b o hb q⟩
  · obtain ⟨m1, hn1, hl1⟩ := I'.loc
    have em := ns_uniq hn1 hm
    subst em
    refine ⟨_, hn, fun j y v a1 a2 a3 => ?_⟩
    have hji : j ≠ i := fun z => by
      subst z
      by_cases hlt : j < σ'.length
      · rw [List.getElem?_set_self hlt] at a2; cases a2
      · rw [List.getElem?_eq_none (by simp; omega)] at a2; cases a2
    rw [List.getElem?_set_ne (Ne.symm hji)] at a2
    obtain ⟨u', r, lk⟩ := hl1 j y v a1 a2 a3
    refine ⟨u', r, ?_⟩
    rcases lk with ⟨k, e'⟩ | ⟨k, c', e', z⟩
    · have : y ≠ n := fun z => hji (nodup_ix hN a1 (z ▸ hi))
      exact .inl ⟨k, by simp [this, e']⟩
    · exact .inr ⟨k, c', e', cellK y c' e' _ z⟩
  · intro zb
    rcases hb with hb | hb
    · rw [← hb, zb, hL] at q; cases q
    · rw [zb, hL] at hb; cases hb
/-- what the body doesn't assign is known again -/
theorem Inv.known {fx : List (Str × Value)} {xe : Value → Shared → Prop} {W : List Str} (J : Inv X pins σ H s) (hfx0 : X.fx = []) (hk : ∀ (i : Nat) (x : Str) (v : V), X.N[i]? = some x → σ[i]? = some (some v) → Vis X.env.scope x → x ∉ W → ∃ u, RelV v u ∧ (x, u) ∈ fx)
    {ps : List (Addr × Obj)} {σ' : St} {H' : Hp} {s' : Shared} (I : Inv (X.bod (X.pn ++ pins) fx xe) ps σ' H' s') : Inv X pins (mask W X.N σ) H' s' := by
  have I' := J.unbod hfx0 I
  obtain ⟨m, hn, _⟩ := I'.loc
  refine ⟨I'.ok, I'.os, I'.bare, I'.base, ⟨m, hn, fun i x v a1 a2 a3 => ?_⟩, I'.cell, I'.free, I'.freeC, I'.pin, I'.hok, by rw [mask_len]; exact J.len, I'.tr, I'.fix⟩
  obtain ⟨b1, b2⟩ := mask_get a1 a2
  obtain ⟨u, r, hm⟩ := hk i x v a1 b1 a3 b2
  obtain ⟨m1, hn1, lk⟩ := I.fix (x, u) hm
  have em := ns_uniq hn1 hn
  subst em
  exact ⟨u, r, lk⟩
end
/-- behind the handler the exception's name is gone -/
def Ends.dim (D : Ends) (i : Nat) : Ends := { nx := fun σ H => D.nx (σ.set i none) H, rt := D.rt, bk := fun σ H => D.bk (σ.set i none) H, ct := fun σ H => D.ct (σ.set i none) H }
/-- what is wanted of an exception: it is of the class, and the handler leads on; W: the names that the body assigns -/
def xTry (X : Cx) (C0 : Addr) (i : Nat) (W : List Str) (th : TS) (D : Ends) (σ : St) : XK := fun c _ H => (∃ C, c = .ref C ∧ PySem.W.mroIn X.K C (.ref C0) = some true) ∧ ∀ e, H e = none → th (D.dim i) ((mask W X.N σ).set i (some (.ref e))) (upd H e (.exc c))
def tTry (X : Cx) (C0 : Addr) (i : Nat) (W : List Str) (tb : XK → TS) (th : TS) : TS := fun D σ H => tb (xTry X C0 i W th D σ) D σ H
def xTry0 (X : Cx) (C0 : Addr) (W : List Str) (th : TS) (D : Ends) (σ : St) : XK := fun c _ H => (∃ C, c = .ref C ∧ PySem.W.mroIn X.K C (.ref C0) = some true) ∧ ∀ e, H e = none → th D (mask W X.N σ) (upd H e (.exc c))
def tTry0 (X : Cx) (C0 : Addr) (W : List Str) (tb : XK → TS) (th : TS) : TS := fun D σ H => tb (xTry0 X C0 W th D σ) D σ H
section
variable {X : Cx} {C0 : Addr} {x n : Str} {np hpos pos : Pos} {i : Nat} {W : List Str} {body suite : List Stmt} {b₀ : Stmt} {tb : XK → TS} {th : TS}
/-- what is wanted behind the suite of a clause -/
def TryQ (X : Cx) (pins : List (Addr × Obj)) (D : Ends) (hpos : Pos) : Option Str → Flow → Shared → Prop
  | none, f, s => SP X pins D f s
  | some n, f, s => wpAny (model X.prog X.w) X.A (do bindName X.env n .none; unbindBehindTheSuite X.env n hpos) (fun _ s₃ => SP X pins D f s₃) X.xe s
/-- the try's body, and where its exception is met -/
theorem try_core {name : Option Str} {pins : List (Addr × Obj)} {s : Shared} {σ : St} {H : Hp} {D : Ends} {E : XK} (hst : X.stack = X.env :: X.outer) (hfr : X.env.frame = some X.env.locals) (hex : X.ex = []) (hfx0 : X.fx = [])
    (hg : Gl X x) (hm : X.mg x = some (.ref C0)) (hk : CatK X.K C0) (hE : ∀ c d H, E c d H → ∃ C, c = .ref C ∧ PySem.W.mroIn X.K C (.ref C0) = some true)
    (hb : ∀ Ex pn fx xe, (∀ p ∈ fx, p.1 ∉ W) → Out (X.bod pn fx xe) Ex → PSs (X.bod pn fx xe) body (tb Ex)) (hdb : (x == ("__debug__" : Str)) = false) (I : Inv X pins σ H s) (h : tb E D σ H)
    (hs : ∀ (e T C : Addr) (cx : Value) (d : Option Addr) (H' : Hp) (s3 : Shared), Inv X pins (mask W X.N σ) H' s3 → Nw X pins H' e → Nw X pins H' T → T ≠ e → E (.ref C) d H' → Fly e T (.ref C) .none cx s3.heap → Chn H' s3.heap e cx d →
      codeAny (model X.prog X.w) (X.A.mark (some (.ref e))) (.handlers (.ref e) [.ExceptHandler none name (b₀ :: suite) hpos] X.env) (fun r s₂ => match r with
          | .ok f => TryQ X pins D hpos name f s₂
          | .error x => cameBackBy (model X.prog X.w) X.A X.env X.xe x s₂) s3) :
    wpAny (model X.prog X.w) X.A (exec (.Try body [.ExceptHandler (some (.Name x np)) name (b₀ :: suite) hpos] [] [] pos) X.env) (SP X pins D) X.xe s := by
  obtain ⟨fx, fx1, fx2, fx3⟩ := I.fixed W
  have O : Out (X.bod (X.pn ++ pins) fx fun v s1 => ∃ a cls d H', v = .ref a ∧ Inv X pins (mask W X.N σ) H' s1 ∧ Air X pins H' a cls d s1.heap ∧ E cls d H') E := by
    intro ps σ' H' s' a cls d J air q
    obtain ⟨air1, cx, ch, air2⟩ := air
    refine ⟨a, cls, d, H', rfl, I.known hfx0 fx3 J, ⟨air1.unbod, cx, ch, ?_⟩, q⟩
    rcases air2 with z | ⟨T, fl, z1, z3, z2⟩
    · exact .inl z
    · exact .inr ⟨T, fl, z1, z3, z2.unbod⟩
  refine wpAny_Try_except (wpAny_mono (hb _ _ _ _ fx1 O [] s σ H D (I.bod hfx0 fx2 _) h) (fun f s1 q => ?_) fun v s1 q => ?_)
  · cases f with
    | next => obtain ⟨σ', H', J, q⟩ := q; exact wpAny_execs_nil ⟨σ', H', I.unbod hfx0 J, q⟩
    | brk => obtain ⟨σ', H', J, q⟩ := q; exact ⟨σ', H', I.unbod hfx0 J, q⟩
    | cont => obtain ⟨σ', H', J, q⟩ := q; exact ⟨σ', H', I.unbod hfx0 J, q⟩
    | ret u => obtain ⟨v, σ', H', J, r, q⟩ := q; exact ⟨v, σ', H', I.unbod hfx0 J, r, q⟩
  · obtain ⟨e, c, d, H', rfl, J, air, qE⟩ := q
    obtain ⟨C, rfl, hmro⟩ := hE _ _ _ qE
    refine look_land J rfl hst hfr hex air fun h' T cx J1 fl ch nT ne => ?_
    have hTe : T ≠ e := by obtain ⟨_, _, _, _, _, _, _, _, _, _, z, _⟩ := id fl; exact z
    have Ih := J1.hnd hfx0 ne fl ch
    refine wpAny_handleBy_cons (codeAny_handlers_test (ld_glob (X := X.hnd e (.ref C) (X.pn ++ pins)) Ih hg hm ?_ hdb)) (by intro q; cases q)
    obtain ⟨oe, _, _, _, h1, h2, _⟩ := id fl
    refine exc_matches Ih.kIn hk h1 h2 hmro ?_
    show codeAny _ _ (.handlers _ [.ExceptHandler none name (b₀ :: suite) hpos] _) _ _
    refine codeAny_mono (hs e T C cx d H' _ J1 ne nT hTe qE fl ch) fun r s2 hq => ?_
    cases r with
    | error x => exact hq
    | ok f => cases name <;> exact hq
theorem ps_try (W : List Str) (hst : X.stack = X.env :: X.outer) (hfr : X.env.frame = some X.env.locals) (hex : X.ex = []) (hfx0 : X.fx = [])
    (hN : X.N.Nodup) (hi : X.N[i]? = some n) (hl : X.env.scope.names.lookup n = some .local) (hg : Gl X x) (hm : X.mg x = some (.ref C0)) (hk : CatK X.K C0)
    (hb : ∀ Ex pn fx xe, (∀ p ∈ fx, p.1 ∉ W) → Out (X.bod pn fx xe) Ex → PSs (X.bod pn fx xe) body (tb Ex)) (hh : ∀ e c pn, PSs (X.hnd e c pn) (b₀ :: suite) th) (hdb : (x == ("__debug__" : Str)) = false := by decide) :
    PS X (.Try body [.ExceptHandler (some (.Name x np)) (some n) (b₀ :: suite) hpos] [] [] pos) (tTry X C0 i W tb th) := by
  intro pins s σ H D I h
  refine try_core hst hfr hex hfx0 hg hm hk (fun c d H z => z.1) hb hdb I h fun e T C cx d H' s3 J1 ne nT hTe qE fl ch => ?_
  have Ih := J1.hnd hfx0 ne fl ch
  refine codeAny_handlers_suite_as ?_
  refine flight_none fl fun h2 mv2 fl2 => ?_
  have Ih2 := Ih.mvd (mv2.mono (fun b z => nomatch z) fun b z => z) fun b hb => by rw [List.mem_singleton.mp hb]; exact nT.hnd hTe _ _
  refine store_ok (X := X.hnd e (.ref C) (X.pn ++ pins)) (v := .ref e) Ih2 hN hi (.inl hl) rfl (fun s3 I3 => ?_) (.inr hl) (fun p hp => by have hp' : p ∈ X.fx := hp; rw [hfx0] at hp'; cases hp')
  refine wpAny_mono (hh e (.ref C) (X.pn ++ pins) [] s3 _ _ (D.dim i) I3 (qE.2 e ne.free)) (fun f s4 q => ?_) fun _ _ z => z.elim
  have gone : ∀ {σ4 : St} {H4 : Hp}, Inv (X.hnd e (.ref C) (X.pn ++ pins)) [] σ4 H4 s4 → (∀ s5, Inv X pins (σ4.set i none) H4 s5 → SP X pins D f s5) →
      wpAny (model X.prog X.w) X.A (do bindName X.env n .none; unbindBehindTheSuite X.env n hpos) (fun _ s5 => SP X pins D f s5) X.xe s4 := fun {σ4 H4} I4 k => by
    obtain ⟨m, hn, _⟩ := I4.loc
    exact wpAny_nameGoes_keeps hl hn (by rw [J1.ok.kind]; rfl) fun h5 v5 hn5 sb => k _ (J1.unhnd hfx0 hi I4 hn hn5 sb hN)
  cases f with
  | next => obtain ⟨σ4, H4, I4, q⟩ := q; exact gone I4 fun s5 I5 => ⟨_, _, I5, q⟩
  | brk => obtain ⟨σ4, H4, I4, q⟩ := q; exact gone I4 fun s5 I5 => ⟨_, _, I5, q⟩
  | cont => obtain ⟨σ4, H4, I4, q⟩ := q; exact gone I4 fun s5 I5 => ⟨_, _, I5, q⟩
  | ret u => obtain ⟨v, σ4, H4, I4, r, q⟩ := q; exact gone I4 fun s5 I5 => ⟨v, _, _, I5, r, q⟩
end
end L2
namespace L2
open PySem PySem.Spec PyProof.Rows
/-- THE RULE for a def that may raise, or is called where nothing is handled -/
theorem Fun.okE {P : Program} {w : World} {K : PySem.W.Frag} {mg : Str → Option Value} {base : Heap} {x qual : Str} {st : Stmt} {f : Addr} {fd : FuncData} {N ps : List Str} {k : Nat} {sp : Sp} (F : Fun K x qual st f fd) (S : FnScope N ps (defScope st)) (len : ∀ vs H Q E, sp vs H Q E → vs.length = ps.length)
    (hbody : ∀ (cdv : Value) (A : Around) (outer : List Env) (s : Shared) (H : Hp) (vs : List V) (Q : VK) (E : XK), Room k (A.deeper (envOfC qual (defScope st) s.heap.objs.size f cdv)) → A.handled = none → sp vs H Q E →
      ∃ t, PSs (cxOf (CXE P w) P w K mg base N qual (defScope st) f cdv A outer s H E) (defBody st) t ∧ t { nx := fun _ H' => Q .non H', rt := Q } (start N vs) H) : FnOk P w K mg base (CXE P w) (k + 1) f fd ps sp := by
  obtain ⟨oc, od, kV, doc, pm, an, cdv, ct, osl, rfl, lk, hcd⟩ := F.ex
  exact fn_of lk hcd S len fun A outer s H vs Q E hr hc hsp => hbody cdv A outer s H vs Q E hr (calm_of s hc) hsp
theorem Room.mark {k : Nat} {A : Around} {h : Option Value} (r : Room k A) : Room k (A.mark h) := ⟨r.dp, r.un⟩
end L2
end
section
set_option Elab.async false
set_option linter.all false
set_option maxRecDepth 100000
set_option maxHeartbeats 4000000
/-! EXCEPTIONS, 4: a clause that doesn't match; except C: raise D("..") from None -/
namespace L2
open PySem PySem.Spec PyProof.Rows
section
variable {M : Model} {A : Around} {E : Value → Shared → Prop} {s : Shared}
end
section
variable {prog : Program} {w : World} {A : Around} {E : Value → Shared → Prop} {s : Shared} {env : Env}
variable {nm q : Str} {C N : Addr} {bs bm bmB : List Value} {hdct : Bool} {sn : List Str} {sub : List Value} {ab : Bool} {col : Option Bool} {dd : Option Addr} {k0 k1 k2 k3 k5 : Option Value} {B newId initId : String}
end
/-- what is wanted of an exception: one of C0 becomes one of C1, any other goes on -/
def xTryR (X : Cx) (C0 C1 : Addr) (E : XK) : XK := fun c d H => ∃ C, c = .ref C ∧ ((PySem.W.mroIn X.K C (.ref C0) = some true ∧ d = none ∧ ∀ e e1, H e = none → E (.ref C1) (some e) (upd H e (.own e1))) ∨ (PySem.W.mroIn X.K C (.ref C0) = some false ∧ E c d H))
def tTryR (X : Cx) (C0 C1 : Addr) (E : XK) (tb : XK → TS) : TS := fun D σ H => tb (xTryR X C0 C1 E) D σ H
section
variable {X : Cx} {C0 C1 : Addr} {x x1 z : Str} {np np1 hpos pos cpos pos1 cp zp : Pos} {j j2 : Nat} {W : List Str} {body : List Stmt} {tb : XK → TS} {E : XK}
end
end L2
end
section
set_option Elab.async false
set_option linter.all false
set_option maxRecDepth 100000
set_option maxHeartbeats 4000000
namespace L2
open PySem PySem.Spec PyProof.Rows

/-! ### lists of pairs as tables -/
section
variable {κ : Type} [DecidableEq κ]
def valV (kvs : List (κ × V)) (k : κ) : Option V := (kvs.find? fun kv => decide (kv.1 = k)).map (·.2)
/-- in its place, or at the end -/
def putK (kvs : List (κ × V)) (k : κ) (v : V) : List (κ × V) :=
  if (kvs.any fun kv => decide (kv.1 = k)) = true then kvs.map (fun kv => if kv.1 = k then (kv.1, v) else kv) else kvs ++ [(k, v)]
def dropK (kvs : List (κ × V)) (k : κ) : List (κ × V) := kvs.filter fun kv => decide (kv.1 ≠ k)

theorem valV_pos {p : κ × V} {r : List (κ × V)} {k : κ} (e : p.1 = k) : valV (p :: r) k = some p.2 := by simp [valV, List.find?_cons, e]
theorem valV_neg {p : κ × V} {r : List (κ × V)} {k : κ} (e : ¬ p.1 = k) : valV (p :: r) k = valV r k := by simp [valV, List.find?_cons, e]
theorem valV_any (k : κ) : ∀ kvs : List (κ × V), (kvs.any fun kv => decide (kv.1 = k)) = (valV kvs k).isSome
  | [] => rfl
  | p :: r => by
    rw [List.any_cons]
    by_cases e : p.1 = k
    · simp only [valV_pos e, decide_eq_true e, Bool.true_or, Option.isSome_some]
    · rw [valV_neg e, decide_eq_false e, Bool.false_or]; exact valV_any k r
theorem length_putK (kvs : List (κ × V)) (k : κ) (v : V) : (putK kvs k v).length ≤ kvs.length + 1 := by
  unfold putK
  split
  · rw [List.length_map]; omega
  · rw [List.length_append, List.length_cons, List.length_nil]; omega
theorem RelO.isSome_eq {o : Option V} {u : Option Value} (r : RelO o u) : o.isSome = u.isSome := by
  cases o with
  | none => cases u with
    | none => rfl
    | some _ => exact (show False from r).elim
  | some _ => cases u with
    | none => exact (show False from r).elim
    | some _ => rfl
theorem KV.any {kvs : List (κ × V)} {vs : List (κ × Value)} (r : KV kvs vs) (k : κ) : (kvs.any fun kv => decide (kv.1 = k)) = vs.any fun kv => decide (kv.1 = k) := by
  unfold KV at r
  induction r with
  | nil => rfl
  | cons h t ih => rw [List.any_cons, List.any_cons, ih, h.1]
theorem KV.repl {kvs : List (κ × V)} {vs : List (κ × Value)} (r : KV kvs vs) (k : κ) {y : V} {u : Value} (ry : RelV y u) :
    KV (kvs.map fun kv => if kv.1 = k then (kv.1, y) else kv) (vs.map fun kv => if kv.1 = k then (kv.1, u) else kv) := by
  unfold KV at r ⊢
  induction r with
  | nil => exact .nil
  | @cons p q ps qs h t ih =>
    rw [List.map_cons, List.map_cons]
    refine .cons ?_ ih
    obtain ⟨h1, h2⟩ := h
    by_cases e : p.1 = k
    · rw [if_pos e, if_pos (h1.symm.trans e)]; exact ⟨h1, ry⟩
    · rw [if_neg e, if_neg (fun z => e (h1.trans z))]; exact ⟨h1, h2⟩
theorem KV.put {kvs : List (κ × V)} {vs : List (κ × Value)} (r : KV kvs vs) (k : κ) {y : V} {u : Value} (ry : RelV y u) : KV (putK kvs k y) (stored vs k u) := by
  unfold putK stored
  rw [r.any k]
  by_cases e : (vs.any fun kv => decide (kv.1 = k)) = true
  · rw [if_pos e, if_pos e]; exact r.repl k ry
  · rw [if_neg e, if_neg e]; exact Paired.snoc r ⟨rfl, ry⟩
theorem KV.keys {kvs : List (κ × V)} {vs : List (κ × Value)} (r : KV kvs vs) : kvs.map (·.1) = vs.map (·.1) := by
  unfold KV at r
  induction r with
  | nil => rfl
  | cons h t ih => rw [List.map_cons, List.map_cons, ih, h.1]
theorem KV.length {kvs : List (κ × V)} {vs : List (κ × Value)} (r : KV kvs vs) : kvs.length = vs.length := Paired.length r
end


/-! ### a tracked dict, its keys ints and texts or tuples of these -/
theorem kV_is {P : Program} {w : World} {k : Key} {u : Value} (r : RelV (kV k) u) : (mixKind P w).is k u = true := by
  cases k with
  | inl i => obtain ⟨t, e⟩ := (show ∃ t, u = Value.int i t from r); subst e; exact mixKind_int P w i t
  | inr x => obtain ⟨t, e⟩ := (show ∃ t, u = Value.str x t from r); subst e; exact mixKind_str P w x t
theorem items_are {P : Program} {w : World} : ∀ {ks : List Key} {us : List Value}, Vals (ks.map kV) us → ItemsAre (mixKind P w) ks us
  | [], _, r => by rw [List.map_nil] at r; cases r; exact .nil
  | k :: ks, _, r => by
    rw [List.map_cons] at r
    cases r with
    | cons h t => exact .cons (kV_is h) (items_are t)

/-- raw entries of a dict with tuple keys -/
abbrev KT (H : Hp) : List (List Key × V) → List (List Key × Addr × Value) → Prop := Paired fun p q => p.1 = q.1 ∧ H q.2.1 = some (.tup (p.1.map kV)) ∧ RelV p.2 q.2.2
theorem KT.val {H : Hp} {kvs : List (List Key × V)} {xs : List (List Key × Addr × Value)} (r : KT H kvs xs) (k : List Key) : RelO (valV kvs k) ((atKey xs k).map (·.2)) := by
  induction r with
  | nil => exact True.intro
  | @cons p q ps qs h t ih =>
    obtain ⟨h1, _, h2⟩ := h
    by_cases e : p.1 = k
    · have e' : q.1 = k := h1.symm.trans e
      have b : atKey (q :: qs) k = some q.2 := by simp [atKey, List.find?_cons, e']
      rw [valV_pos e, b]; exact h2
    · have e' : ¬ q.1 = k := fun z => e (h1.trans z)
      have b : atKey (q :: qs) k = atKey qs k := by simp [atKey, List.find?_cons, e']
      rw [valV_neg e, b]; exact ih
theorem KT.repl {H : Hp} {kvs : List (List Key × V)} {xs : List (List Key × Addr × Value)} (r : KT H kvs xs) (k : List Key) {y : V} {u : Value} (ry : RelV y u) :
    KT H (kvs.map fun kv => if kv.1 = k then (kv.1, y) else kv) (xs.map (putAt k u)) := by
  induction r with
  | nil => exact .nil
  | @cons p q ps qs h t ih =>
    rw [List.map_cons, List.map_cons]
    refine .cons ?_ ih
    obtain ⟨h1, h2, h3⟩ := h
    unfold putAt
    by_cases e : p.1 = k
    · rw [if_pos e, if_pos (h1.symm.trans e)]; exact ⟨h1, h2, ry⟩
    · rw [if_neg e, if_neg (fun z => e (h1.trans z))]; exact ⟨h1, h2, h3⟩
theorem KT.put {H : Hp} {kvs : List (List Key × V)} {xs : List (List Key × Addr × Value)} (r : KT H kvs xs) (k : List Key) {b : Addr} {y : V} {u : Value} (hb : H b = some (.tup (k.map kV))) (ry : RelV y u) :
    KT H (putK kvs k y) (storedH xs k b u) := by
  have e : (kvs.any fun kv => decide (kv.1 = k)) = (atKey xs k).isSome := by
    rw [valV_any, (r.val k).isSome_eq, Option.isSome_map]
  unfold putK storedH
  rw [e]
  by_cases q : (atKey xs k).isSome = true
  · rw [if_pos q, if_pos q]; exact r.repl k ry
  · rw [if_neg q, if_neg q]; exact Paired.snoc r ⟨rfl, hb, ry⟩
theorem KT.keeps {H H' : Hp} {kvs : List (List Key × V)} {xs : List (List Key × Addr × Value)} (r : KT H kvs xs) (ht : ∀ b ys, H b = some (.tup ys) → H' b = some (.tup ys)) : KT H' kvs xs :=
  Paired.mapP r fun _ _ z => ⟨z.1, ht _ _ z.2.1, z.2.2⟩

section
variable {P : Program} {w : World} {H : Hp} {h : Heap} {a : Addr}
theorem rd_of {u : HO} (ok : HOk P w H h) (e : Rd H a u) : ObjOk P w H h a u := e.ok ok
theorem dk_rd {kvs : List (Key × V)} (ok : HOk P w H h) (e : Rd H a (.dK kvs)) : kvs.length ≤ sizeLine ∧ (a == sysModules) = false ∧ ∃ vs, KV kvs vs ∧ h.DictOf (mixKind P w) a vs :=
  show ObjOk P w H h a (.dK kvs) from rd_of ok e
theorem dk_of {kvs : List (Key × V)} (ok : HOk P w H h) (e : H a = some (.dK kvs)) : kvs.length ≤ sizeLine ∧ (a == sysModules) = false ∧ ∃ vs, KV kvs vs ∧ h.DictOf (mixKind P w) a vs := dk_rd ok (.inl e)
/-- a tracked tuple of ints and texts is a key -/
theorem key_of {ks : List Key} (ok : HOk P w H h) (e : H a = some (.tup (ks.map kV))) : (tupleKind (mixKind P w)).is h ks a := by
  obtain ⟨_, its, r, o, h1, h2, n, h3⟩ := (show ObjOk P w H h a (.tup (ks.map kV)) from ok a _ e)
  exact ⟨o, its.toArray, n, h1, h2, h3, by simpa using items_are r⟩
theorem dt_rd {kvs : List (List Key × V)} (ok : HOk P w H h) (e : Rd H a (.dT kvs)) : kvs.length ≤ sizeLine ∧ (a == sysModules) = false ∧
    ∃ xs, KT H kvs xs ∧ h.DictOfH (tupleKind (mixKind P w)) a xs := by
  obtain ⟨z, y, xs, r, o, es, ep, h1, h2, h3, h4, h5⟩ := (show ObjOk P w H h a (.dT kvs) from rd_of ok e)
  refine ⟨z, y, xs, r, o, es, ep, h1, h2, h3, h4, fun x hx => ?_, h5⟩
  have all : ∀ {l : List (List Key × V)} {m : List (List Key × Addr × Value)}, KT H l m → ∀ x ∈ m, (tupleKind (mixKind P w)).is h x.1 x.2.1 := by
    intro l m q
    induction q with
    | nil => intro x hx; exact nomatch hx
    | @cons p q ps qs hq t ih =>
      intro x hx
      rcases List.mem_cons.mp hx with e | hx
      · subst e
        exact key_of ok (by rw [← hq.1]; exact hq.2.1)
      · exact ih x hx
  exact all r x hx
theorem dt_of {kvs : List (List Key × V)} (ok : HOk P w H h) (e : H a = some (.dT kvs)) : kvs.length ≤ sizeLine ∧ (a == sysModules) = false ∧
    ∃ xs, KT H kvs xs ∧ h.DictOfH (tupleKind (mixKind P w)) a xs := dt_rd ok (.inl e)
end

/-- what the dict at a holds at the key y -/
def DGet (H : Hp) (a : Addr) (y : V) (r : Option V) : Prop :=
  (∃ kvs k, Rd H a (.dK kvs) ∧ y = kV k ∧ r = valV kvs k) ∨ ∃ kvs k b, Rd H a (.dT kvs) ∧ y = .ref b ∧ H b = some (.tup (k.map kV)) ∧ r = valV kvs k
/-- the heap behind a[y] = v -/
def DPut (H : Hp) (a : Addr) (y v : V) (H' : Hp) : Prop :=
  (∃ kvs k, H a = some (.dK kvs) ∧ y = kV k ∧ kvs.length < sizeLine ∧ H' = upd H a (.dK (putK kvs k v))) ∨
  ∃ kvs k b, H a = some (.dT kvs) ∧ y = .ref b ∧ H b = some (.tup (k.map kV)) ∧ kvs.length < sizeLine ∧ H' = upd H a (.dT (putK kvs k v))
theorem DPut.k {H : Hp} {a : Addr} {kvs : List (Key × V)} {k : Key} {v : V} (e : H a = some (.dK kvs)) (hl : kvs.length < sizeLine) : DPut H a (kV k) v (upd H a (.dK (putK kvs k v))) := .inl ⟨kvs, k, e, rfl, hl, rfl⟩
section
variable {X : Cx} {pins : List (Addr × Obj)} {σ : St} {H : Hp} {s : Shared} {a : Addr} {y v : V} {u r : Value} {o : Option V} {A : Around} {E : Value → Shared → Prop}

/-- a dict's object is replaced -/
theorem d_write {h' : Heap} {t' : Nat} {ob : HO} (I : Inv X pins σ H s) (mu : Mut (H a)) (hs : Heap.SameBut a s.heap h') (he : ∃ q, h'.get? a = some q) (new : ObjOk X.prog X.w (upd H a ob) h' a ob) :
    Inv X pins σ (upd H a ob) { s with heap := h', toks := t' } :=
  I.write (x := a) (e := a) mu (.inl rfl) (fun b q hb z => (hs.2 b hb).trans z) he new
theorem dk_new {P : Program} {w : World} {H' : Hp} {h' : Heap} {kvs : List (Key × V)} {vs : List (Key × Value)} (z : kvs.length ≤ sizeLine) (hd : (a == sysModules) = false) (rel : KV kvs vs) (dd : h'.DictOf (mixKind P w) a vs) :
    ObjOk P w H' h' a (.dK kvs) := ⟨z, hd, vs, rel, dd⟩
/-- d[y] = v -/
theorem d_setItem {H' : Hp} {Q : Unit → Shared → Prop} (hu : A.units + 1 < cLine) (I : Inv X pins σ H s) (g : DPut H a y v H') (ry : RelV y u) (rv : RelV v r) (h : ∀ s', Inv X pins σ H' s' → Q () s') :
    wpAny (model X.prog X.w) A (setItem (.ref a) u r) Q E s := by
  rcases g with ⟨kvs, k, e, ey, l, eH⟩ | ⟨kvs, k, b, e, ey, eb, l, eH⟩
  · subst ey eH
    obtain ⟨z, hd, vs, rel, dd⟩ := dk_of I.hok e
    have hz : vs.length ≤ sizeLine := by rw [← rel.length]; exact z
    have hl : (putK kvs k v).length ≤ sizeLine := by have := length_putK kvs k v; omega
    refine wpAny_setItem_pairs (hsz := hz) (kV_is ry) dd fun h' dd' hs => h _ ?_
    have he : ∃ q, h'.get? a = some q := let ⟨q, _, _, hq, _⟩ := dd'; ⟨q, hq⟩
    exact d_write I (by rw [e]; exact True.intro) hs he (dk_new hl hd (rel.put k rv) dd')
  · subst ey eH
    cases (show u = Value.ref b from ry)
    obtain ⟨z, hd, xs, rel, dd⟩ := dt_of I.hok e
    have hz : xs.length ≤ sizeLine := by rw [← Paired.length rel]; exact z
    have hl : (putK kvs k v).length ≤ sizeLine := by have := length_putK kvs k v; omega
    refine wpAny_setItem_heap (hsz := hz) (tupleKind_room_in1 hu) (key_of I.hok eb) dd fun h' dd' hs => h _ ?_
    obtain ⟨q, es, ep, hq, h2, h3, h4, _, h5⟩ := dd'
    refine d_write I (by rw [e]; exact True.intro) hs ⟨q, hq⟩ ⟨hl, hd, _, (rel.put k eb rv).keeps fun c ys ec => ?_, q, es, ep, hq, h2, h3, h4, h5⟩
    rw [upd_ne (ne_of ec e (fun z => nomatch z))]
    exact ec
end

section
variable {X : Cx} {pins : List (Addr × Obj)} {σ : St} {H : Hp} {s : Shared} {a : Addr} {kvs : List (Key × V)} {k : Key} {u : Value} {A : Around} {E : Value → Shared → Prop}
end


/-! ### readings and rules -/
/-- the element of a subscription, not a slice -/
def NoSl (i : Expr) : Prop := ∀ ov iv, subscripted i false ov iv = operate [ov, iv] (getItem ov iv)
/-- d[y] -/
def tDGet (td ty : TE) : TE := fun σ H Q => td σ H fun x H1 => ty σ H1 fun y H2 => ∃ a v, x = .ref a ∧ DGet H2 a y (some v) ∧ Q v H2
/-- y in d, y not in d -/
def tDIn (ty td : TE) : TE := fun σ H Q => ty σ H fun y H1 => td σ H1 fun x H2 => ∃ a o, x = .ref a ∧ DGet H2 a y o ∧ Q (.bl o.isSome) H2
def tDNotIn (ty td : TE) : TE := fun σ H Q => ty σ H fun y H1 => td σ H1 fun x H2 => ∃ a o, x = .ref a ∧ DGet H2 a y o ∧ Q (.bl (!o.isSome)) H2
/-- d[y] = v -/
def sDPut (td ty tv : TE) : TS := fun D σ H => tv σ H fun v H1 => td σ H1 fun x H2 => ty σ H2 fun y H3 => ∃ a H4, x = .ref a ∧ DPut H3 a y v H4 ∧ D.nx σ H4
/-- d[y] op= v -/
def sDAug (td ty tv : TE) (rd : V → V → Hp → VK → Prop) : TS := fun D σ H => td σ H fun x H1 => ty σ H1 fun y H2 => ∃ a v, x = .ref a ∧ DGet H2 a y (some v) ∧
  tv σ H2 fun y2 H3 => rd v y2 H3 fun z H4 => ∃ H5, DPut H4 a y z H5 ∧ D.nx σ H5
/-- del d[y] -/
def sDDel (td ty : TE) : TS := fun D σ H => td σ H fun x H1 => ty σ H1 fun y H2 => ∃ a kvs k, x = .ref a ∧ H2 a = some (.dK kvs) ∧ y = kV k ∧ (valV kvs k).isSome = true ∧ D.nx σ (upd H2 a (.dK (dropK kvs k)))

section
variable {X : Cx} {o i e value : Expr} {pos pos' tpos : Pos} {td ty tv : TE}
theorem ps_dput (hu : X.A.units + 1 < cLine) (ho : PE X o td) (hi : PE X i ty) (hv : PE X value tv) (hs : swapsWith value (some (.Subscript o i pos')) pos.line X.env = pure false) :
    PS X (.Assign [.Subscript o i pos'] value pos) (sDPut td ty tv) := by
  intro pins s σ H D I h
  refine wpAny_Assign_Subscript (thn (hv pins s σ H _ I h) fun r s1 ⟨v, H1, I1, rv, q1⟩ => thn (ho pins s1 σ H1 _ I1 q1) fun u s2 ⟨x, H2, I2, rx, q2⟩ => thn (hi pins s2 σ H2 _ I2 q2) fun iv s3 ⟨y, H3, I3, ry, a, H4, ex, g, q3⟩ => ?_) hs
  subst ex
  obtain rfl : u = Value.ref a := rx
  exact d_setItem hu I3 g ry rv fun s4 I4 => ⟨σ, H4, I4, q3⟩
end


/-! ### displays -/
/-- {}, to be a dict of the kind that is wanted -/
def tDNewK : TE := fun _ H Q => ∀ p, H p = none → Q (.ref p) (upd H p (.dK []))
def tDNewT : TE := fun _ H Q => ∀ p, H p = none → Q (.ref p) (upd H p (.dT []))
section
variable {X : Cx} {pos : Pos}
end

/-- the pairs of a display, from the left -/
def tPairs : List (TE × TE) → St → Hp → (List (V × V) → Hp → Prop) → Prop
  | [], _, H, Q => Q [] H
  | (tk, tv) :: r, σ, H, Q => tk σ H fun x H1 => tv σ H1 fun y H2 => tPairs r σ H2 fun ps H3 => Q ((x, y) :: ps) H3
abbrev VV : List (V × V) → List (Value × Value) → Prop := Paired fun p q => RelV p.1 q.1 ∧ RelV p.2 q.2
def PPs (X : Cx) (pos : Pos) (keys : List (Option Expr)) (values : List Expr) (trs : List (TE × TE)) : Prop :=
  ∀ (pins : List (Addr × Obj)) (s : Shared) (σ : St) (H : Hp) (Q : List (V × V) → Hp → Prop), Inv X pins σ H s → tPairs trs σ H Q →
    wpAny (model X.prog X.w) X.A (evalPairs (pairTrees keys values X.env pos)) (fun vs s' => ∃ ps H', Inv X pins σ H' s' ∧ VV ps vs ∧ Q ps H') X.xe s
def mergeK (kvs more : List (Key × V)) : List (Key × V) := more.foldl (fun acc kv => putK acc kv.1 kv.2) kvs
/-- {k: v, ..} with keys ints and texts; the new dict stands empty while the pairs are made -/
def tDisp (trs : List (TE × TE)) : TE := fun σ H Q => ∀ p, H p = none → tPairs trs σ (upd H p (.dK [])) fun ps H2 => H2 p = some (.dK []) ∧ ∃ kvs : List (Key × V), ps = kvs.map (fun kv => (kV kv.1, kv.2)) ∧ kvs.length ≤ 15 ∧ Q (.ref p) (upd H2 p (.dK (mergeK [] kvs)))
/-! ### methods -/
/-- a method call o.m(e) of a built-in, with one argument: what must be seen of the text -/
structure M1 (X : Cx) (o : Expr) (m : Str) (apos : Pos) (e : Expr) (cpos : Pos) : Prop where
  base : attributeBase o m X.env (eval o X.env) = eval o X.env
  few : ((backTo cpos (starEach [e] X.env)).all (fun x => !x.1) && (backToKw cpos (keywordEach [] X.env)).all (fun x => x.1.isSome)
    && decide (([e] : List Expr).length + ([] : List Keyword).length + (if ([] : List Keyword).isEmpty then 0 else 1) < 30)) = true
  line : (apos.endLine == cpos.line) = true
  trees : backTo cpos (starEach [e] X.env) = [(false, eval e X.env)]
structure M2 (X : Cx) (o : Expr) (m : Str) (apos : Pos) (e f : Expr) (cpos : Pos) : Prop where
  base : attributeBase o m X.env (eval o X.env) = eval o X.env
  few : ((backTo cpos (starEach [e, f] X.env)).all (fun x => !x.1) && (backToKw cpos (keywordEach [] X.env)).all (fun x => x.1.isSome)
    && decide (([e, f] : List Expr).length + ([] : List Keyword).length + (if ([] : List Keyword).isEmpty then 0 else 1) < 30)) = true
  line : (apos.endLine == cpos.line) = true
  trees : backTo cpos (starEach [e, f] X.env) = [(false, eval e X.env), (false, eval f X.env)]

/-- a is a dict, whatever its keys -/
def IsD (H : Hp) (a : Addr) : Prop := (∃ kvs, Rd H a (.dK kvs)) ∨ ∃ kvs, Rd H a (.dT kvs)
section
variable {X : Cx} {pins : List (Addr × Obj)} {σ : St} {H : Hp} {s : Shared} {a : Addr} {y d : V} {u r : Value} {o : Option V} {A : Around} {E : Value → Shared → Prop}
end

def tDGet1 (td ty : TE) : TE := fun σ H Q => td σ H fun x H1 => ∃ a, x = .ref a ∧ IsD H1 a ∧ ty σ H1 fun y H2 => ∃ o, DGet H2 a y o ∧ Q (o.getD .non) H2
def tDGet2 (td ty tx : TE) : TE := fun σ H Q => td σ H fun x H1 => ∃ a, x = .ref a ∧ IsD H1 a ∧ ty σ H1 fun y H2 => tx σ H2 fun z H3 => ∃ o, DGet H3 a y o ∧ Q (o.getD z) H3
/-- d.pop(k): there; d.pop(k, x): there or not -/
def tDPop1 (td ty : TE) : TE := fun σ H Q => td σ H fun x H1 => ∃ a, x = .ref a ∧ IsD H1 a ∧ ty σ H1 fun y H2 => ∃ kvs k v, H2 a = some (.dK kvs) ∧ y = kV k ∧ valV kvs k = some v ∧ Q v (upd H2 a (.dK (dropK kvs k)))
def tDPop2 (td ty tx : TE) : TE := fun σ H Q => td σ H fun x H1 => ∃ a, x = .ref a ∧ IsD H1 a ∧ ty σ H1 fun y H2 => tx σ H2 fun z H3 => ∃ kvs k, H3 a = some (.dK kvs) ∧ y = kV k ∧
  (∀ v, valV kvs k = some v → Q v (upd H3 a (.dK (dropK kvs k)))) ∧ (valV kvs k = none → Q z H3)
section
variable {X : Cx} {o e f : Expr} {apos cpos : Pos} {td ty tx : TE}
end

/-! ### dict(d): a copy -/
section
variable {X : Cx} {pins : List (Addr × Obj)} {σ : St} {H : Hp} {s : Shared} {a : Addr} {kvs : List (Key × V)} {A : Around} {E : Value → Shared → Prop}
end


section
variable {X : Cx} {pins : List (Addr × Obj)} {σ : St} {H : Hp} {s : Shared} {a : Addr} {y : V} {u : Value} {A : Around} {E : Value → Shared → Prop}
end
end L2
namespace L2
open PySem PySem.Spec PyProof.Rows
/-! ### a dict's pairs: keys that differ -/
section
variable {κ : Type} [DecidableEq κ]
end
end L2
end
section
set_option Elab.async false
set_option linter.all false
set_option maxRecDepth 100000
set_option maxHeartbeats 4000000
namespace BK
open PySem L2
theorem bt_int : bootBuiltins "int" = some (.type "int") := by decide +kernel
theorem bt_bool : bootBuiltins "bool" = some (.type "bool") := by decide +kernel
theorem bt_list : bootBuiltins "list" = some (.type "list") := by decide +kernel
theorem bt_tuple : bootBuiltins "tuple" = some (.type "tuple") := by decide +kernel
theorem bt_ValueError : bootBuiltins "ValueError" = some (.type "ValueError") := by decide +kernel
theorem bt_isinstance : bootBuiltins "isinstance" = some (.builtin "isinstance") := by decide +kernel
theorem bt_all : bootBuiltins "all" = some (.builtin "all") := by decide +kernel
theorem bt_len : bootBuiltins "len" = some (.builtin "len") := by decide +kernel
theorem bt_max : bootBuiltins "max" = some (.builtin "max") := by decide +kernel
theorem bt_sorted : bootBuiltins "sorted" = some (.builtin "sorted") := by decide +kernel
def isI : V → Bool
  | .int _ => true
  | .bl _ => true
  | _ => false
def isB : V → Bool
  | .bl _ => true
  | _ => false
def isLH : Option HO → Bool
  | some (.lst _) => true
  | _ => false
def isL (H : Hp) : V → Bool
  | .ref a => isLH (H a)
  | _ => false
structure Kd (K : PySem.W.Frag) (H : Hp) (v : V) : Prop where
  ex : ∃ t, TyOf K H v t ∧ PySem.W.kitOne K t (.type "int") = some (isI v) ∧ PySem.W.kitOne K t (.type "bool") = some (isB v) ∧ PySem.W.kitOne K t (.type "list") = some (isL H v)
section
variable {K : PySem.W.Frag} {H H' : Hp}
theorem Kd.int (i : Int) : Kd K H (.int i) := ⟨_, .int i, by kernel_rfl, by kernel_rfl, by kernel_rfl⟩
theorem Kd.bl (b : Bool) : Kd K H (.bl b) := ⟨_, .bl b, by kernel_rfl, by kernel_rfl, by kernel_rfl⟩
theorem Kd.non : Kd K H .non := ⟨_, .non, by kernel_rfl, by kernel_rfl, by kernel_rfl⟩
theorem Kd.str (x : Str) : Kd K H (.str x) := ⟨_, .str x, by kernel_rfl, by kernel_rfl, by kernel_rfl⟩
theorem Kd.lst {a : Addr} {xs : List V} (e : H a = some (.lst xs)) : Kd K H (.ref a) := ⟨_, .lst e, by kernel_rfl, by kernel_rfl, by rw [show isL H (.ref a) = true by show isLH (H a) = _; rw [e]; rfl]; kernel_rfl⟩
theorem Kd.tup {a : Addr} {xs : List V} (e : H a = some (.tup xs)) : Kd K H (.ref a) := ⟨_, .tup e, by kernel_rfl, by kernel_rfl, by rw [show isL H (.ref a) = false by show isLH (H a) = _; rw [e]; rfl]; kernel_rfl⟩
theorem tyof_same {v : V} {t : Value} (e : Same H H') (h : TyOf K H v t) : TyOf K H' v t := by
  cases h with
  | non => exact .non
  | bl b => exact .bl b
  | int i => exact .int i
  | str i => exact .str i
  | flt i => exact .flt i
  | lst q => exact .lst (e _ _ q)
  | frz q => exact .frz (e _ _ q)
  | tup q => exact .tup (e _ _ q)
  | dK q => exact .dK (e _ _ q)
  | dT q => exact .dT (e _ _ q)
  | ins q c1 c2 c3 c4 c5 => exact .ins (e _ _ q) c1 c2 c3 c4 c5
  | exc q F => exact .exc (e _ _ q) F
theorem isL_same {v : V} {t : Value} (e : Same H H') (h : TyOf K H v t) : isL H' v = isL H v := by
  cases h with
  | lst q => show isLH _ = isLH _; rw [e _ _ q, q]
  | frz q => show isLH _ = isLH _; rw [e _ _ q, q]
  | tup q => show isLH _ = isLH _; rw [e _ _ q, q]
  | dK q => show isLH _ = isLH _; rw [e _ _ q, q]
  | dT q => show isLH _ = isLH _; rw [e _ _ q, q]
  | ins q c1 c2 c3 c4 c5 => show isLH _ = isLH _; rw [e _ _ q, q]
  | exc q F => show isLH _ = isLH _; rw [e _ _ q, q]
  | _ => rfl
theorem Kd.same {v : V} (e : Same H H') (h : Kd K H v) : Kd K H' v := by
  obtain ⟨t, ty, e1, e2, e3⟩ := h
  exact ⟨t, tyof_same e ty, e1, e2, by rw [isL_same e ty]; exact e3⟩
theorem same_new {H : Hp} {p : Addr} (h : H p = none) (o : HO) : Same H (upd H p o) := fun b u q => by rw [upd_ne (ne_of_none q h)]; exact q
theorem same_upd {H H' : Hp} {p : Addr} (h : H p = none) (s : Same H H') (o : HO) : Same H (upd H' p o) := fun b u q => by rw [upd_ne (ne_of_none q h)]; exact s b u q
theorem sqT_same {a : Addr} {xs : List V} (e : Same H H') (h : SqT K H a xs) : SqT K H' a xs := by
  rcases h with h | h
  · rcases h with h | ⟨o, h⟩
    · exact .inl (.inl (e _ _ h))
    · exact .inl (.inr ⟨o, e _ _ h⟩)
  · exact .inr h
end
def wholeV (v : V) (lo hi : Int) : Bool := match v with
  | .int i => decide (lo ≤ i) && decide (i ≤ hi)
  | _ => false
def goodV (v : V) : Bool := wholeV v 0 999999999
section
variable {P : Program} {w : World} {K : PySem.W.Frag} {mg : Str → Option Value} {base : Heap} {f : Addr} {fd : FuncData} {H H' : Hp}
theorem iteF' {c : Bool} {A B : Prop} (hc : c = false) (h : B) : if c = true then A else B := by subst hc; exact iteF h
theorem iteT' {c : Bool} {A B : Prop} (hc : c = true) (h : A) : if c = true then A else B := by subst hc; exact iteT h
theorem small {n : Nat} (h : n ≤ 1000) : n ≤ sizeLine := Nat.le_of_lt (small1000 h)
theorem all_good (xs : List V) : (xs.map goodV).all id = xs.all goodV := by rw [List.all_map]; rfl
theorem dec_V {i j : Int} : decide (V.int i = V.int j) = decide (i = j) := by
  by_cases h : i = j
  · subst h; simp
  · rw [decide_eq_false h, decide_eq_false (fun q => h (V.int.inj q))]
theorem cut_to (xs : List V) (k : Nat) : cutV xs none (some (k : Int)) = xs.take k := by
  unfold cutV
  rw [HT.sIx_none, HT.sIx_nat]
  simp
theorem cut_from (xs : List V) (k : Nat) : cutV xs (some (k : Int)) none = xs.drop k := by
  unfold cutV
  rw [HT.sIx_none, HT.sIx_nat]
  by_cases h : k ≤ xs.length
  · rw [Nat.min_eq_left h]
    rw [List.take_of_length_le (by rw [List.length_drop]; exact Nat.le_refl _)]
  · rw [Nat.min_eq_right (by omega)]
    simp [List.drop_eq_nil_of_le (show xs.length ≤ k by omega)]
/-! ### data -/
mutual
theorem dv_same (e : Same H H') : ∀ {v : V} {d : PyData}, DV K H v d → DV K H' v d
  | _, _, .non => .non
  | _, _, .bl b => .bl b
  | _, _, .int i => .int i
  | _, _, .str x => .str x
  | _, _, .lst q r => .lst (e.seq q) (dvs_same e r)
  | _, _, .tup q r => .tup (sqT_same e q) (dvs_same e r)
theorem dvs_same (e : Same H H') : ∀ {vs : List V} {ds : List PyData}, DVs K H vs ds → DVs K H' vs ds
  | _, _, .nil => .nil
  | _, _, .cons q r => .cons (dv_same e q) (dvs_same e r)
end
theorem dvs_ints : ∀ R : List Int, DVs K H (R.map V.int) (R.map PyData.int)
  | [] => .nil
  | i :: r => .cons (.int i) (dvs_ints r)
theorem shaped_list {ds : List PyData} (c : PyData.canLayAll0 ds = true) (l : PyData.depthAll ds ≤ 1) : SeqAt.shaped (.list ds) = true := by
  have l' : (PyData.list ds).depth ≤ 64 := by simp only [PyData.depth]; omega
  have c' : (PyData.list ds).canLay0 = true := by simp only [PyData.canLay0]; exact c
  unfold SeqAt.shaped
  rw [c', Bool.true_and]
  exact decide_eq_true l'
theorem eqv_same {d : PyData} (h : SeqAt.shaped d = true) : PyData.eqv d d = true := SeqAt.eqv_refl d (SeqAt.canLay_of_shaped h)
theorem good_ints (R : List Int) (h : ∀ r ∈ R, 0 ≤ r ∧ r ≤ 999999999) : (R.map V.int).all goodV = true := by
  rw [List.all_eq_true]
  intro x hx
  obtain ⟨i, hi, rfl⟩ := List.mem_map.mp hx
  have := h i hi
  show (decide ((0 : Int) ≤ i) && decide (i ≤ 999999999)) = true
  simp [this]
/-- a comprehension over a range that makes ints -/
theorem lc_ints {fj : List (Str × Nat)} {te : TE} {σ : St} {H : Hp} {Q : Addr → Hp → Prop} {n : Nat} (hn : n ≤ 1000) (g : Nat → Int)
    (hs : ∀ (i : Nat) (H' : Hp) (Qf : VK), i < n → Same H H' → (∀ H3, Same H' H3 → Qf (.int (g i)) H3) → te (some (.int (0 + (i : Int))) :: frees σ fj) H' Qf)
    (hd : ∀ acc H', H acc = none → Same H H' → H' acc = some (.lst (((List.range n).map g).map V.int)) → Q acc H') :
    ∀ acc, H acc = none → ∃ W : Nat → Nat → List V → Hp → Prop, (∃ m, W 0 m [] (upd H acc (.lst []))) ∧ ∀ i m ys H, W i m ys H →
      ((Itr 0 n).stop i H ∧ Q acc H) ∨ ((Itr 0 n).go i H ∧ ∀ x H', (Itr 0 n).yld i H x H' → tYes (some x :: frees σ fj) H' fun b H2 =>
        if b = true then te (some x :: frees σ fj) H2 fun v H3 => H3 acc = some (.lst ys) ∧ ys.length < sizeLine ∧ ∃ m', m' < m ∧ W (i + 1) m' (ys ++ [v]) (upd H3 acc (.lst (ys ++ [v])))
        else ∃ m', m' < m ∧ W (i + 1) m' ys H2) := by
  refine lc_range hn (fun acc i ys H' => ys = (((List.range i).map g).map V.int) ∧ H' acc = some (.lst ys) ∧ H acc = none ∧ Same H H') ?_ ?_ ?_ ?_
  · exact fun acc h => ⟨rfl, upd_same, h, same_new h _⟩
  · rintro acc i ys H' hi ⟨rfl, h1, h2, h3⟩
    simp
  · rintro acc i ys H' Qf hi ⟨rfl, h1, h2, h3⟩ k
    refine hs i H' Qf hi h3 fun H3 h4 => k _ _ (h4 _ _ h1) ⟨?_, upd_same, h2, same_upd h2 (h3.trans h4) _⟩
    rw [List.range_succ]
    simp
  · rintro acc ys H' h ⟨rfl, h1, h2, h3⟩
    exact hd acc H' h2 h3 h1
/-- all is kept but what stands at S -/
def Chg (S : List Addr) (H H' : Hp) : Prop := ∀ b o, H b = some o → b ∉ S → H' b = some o
theorem Chg.of {S : List Addr} (s : Same H H') : Chg S H H' := fun b o q _ => s b o q
theorem Chg.trans {S : List Addr} {H1 H2 : Hp} (a : Chg S H H1) (b : Chg S H1 H2) : Chg S H H2 := fun c o q n => b c o (a c o q n) n
theorem Chg.mono {S S' : List Addr} (c : Chg S H H') (h : ∀ b ∈ S, b ∈ S') : Chg S' H H' := fun b o q n => c b o q fun z => n (h b z)
theorem Chg.upd {S : List Addr} {a : Addr} (c : Chg S H H') (ha : a ∈ S) (o : HO) : Chg S H (L2.upd H' a o) := fun b u q n => by rw [L2.upd_ne (fun z => n (by rw [z]; exact ha))]; exact c b u q n
theorem Chg.new {S : List Addr} {a : Addr} (c : Chg S H H') (n : H' a = none) (o : HO) : Chg S H (L2.upd H' a o) := fun b u q m => by rw [upd_ne (ne_of_none (c b u q m) n)]; exact c b u q m
theorem Chg.upd0 {S : List Addr} {a : Addr} (c : Chg S H H') (n : H a = none) (o : HO) : Chg S H (L2.upd H' a o) := fun b u q m => by rw [L2.upd_ne (ne_of_none q n)]; exact c b u q m
/-- a comprehension over a range: its items, one after the other -/
theorem lc_vals {fj : List (Str × Nat)} {te : TE} {σ : St} {H : Hp} {Q : Addr → Hp → Prop} {n : Nat} (hn : n ≤ 1000) (G : Addr → Hp → Nat → V → Prop) (mono : ∀ {acc : Addr} {H H' : Hp} {i : Nat} {v : V}, (∀ b o, b ≠ acc → H b = some o → H' b = some o) → G acc H i v → G acc H' i v)
    (hs : ∀ (acc : Addr) (i : Nat) (H' : Hp) (Qf : VK), i < n → H acc = none → Same H H' → H' acc ≠ none → (∀ v H3, Same H' H3 → G acc H3 i v → Qf v H3) → te (some (.int (0 + (i : Int))) :: frees σ fj) H' Qf)
    (hd : ∀ acc vs H', H acc = none → Same H H' → H' acc = some (.lst vs) → vs.length = n → (∀ i v, vs[i]? = some v → G acc H' i v) → Q acc H') :
    ∀ acc, H acc = none → ∃ W : Nat → Nat → List V → Hp → Prop, (∃ m, W 0 m [] (upd H acc (.lst []))) ∧ ∀ i m ys H, W i m ys H →
      ((Itr 0 n).stop i H ∧ Q acc H) ∨ ((Itr 0 n).go i H ∧ ∀ x H', (Itr 0 n).yld i H x H' → tYes (some x :: frees σ fj) H' fun b H2 =>
        if b = true then te (some x :: frees σ fj) H2 fun v H3 => H3 acc = some (.lst ys) ∧ ys.length < sizeLine ∧ ∃ m', m' < m ∧ W (i + 1) m' (ys ++ [v]) (upd H3 acc (.lst (ys ++ [v])))
        else ∃ m', m' < m ∧ W (i + 1) m' ys H2) := by
  refine lc_range hn (fun acc i ys H' => ys.length = i ∧ H' acc = some (.lst ys) ∧ H acc = none ∧ Same H H' ∧ ∀ j v, ys[j]? = some v → G acc H' j v) ?_ ?_ ?_ ?_
  · exact fun acc h => ⟨rfl, upd_same, h, same_new h _, fun j v z => by simp at z⟩
  · rintro acc i ys H' hi ⟨h0, h1, h2, h3, _⟩
    exact h0
  · rintro acc i ys H' Qf hi ⟨h0, h1, h2, h3, h4⟩ k
    refine hs acc i H' Qf hi h2 h3 (by rw [h1]; simp) fun v H3 s3 g => k v H3 (s3 _ _ h1) ⟨by simp [h0], upd_same, h2, same_upd h2 (h3.trans s3) _, fun j u hj => ?_⟩
    have up : ∀ b o, b ≠ acc → H3 b = some o → upd H3 acc (.lst (ys ++ [v])) b = some o := fun b o hb q => by rw [upd_ne hb]; exact q
    by_cases hji : j < ys.length
    · rw [List.getElem?_append_left hji] at hj
      exact mono up (mono (fun b o _ q => s3 b o q) (h4 j u hj))
    · rw [List.getElem?_append_right (by omega)] at hj
      have e : j = i := by
        rcases Nat.lt_or_ge (j - ys.length) 1 with z | z
        · omega
        · rw [List.getElem?_eq_none (by simpa using z)] at hj; cases hj
      subst e
      rw [show j - ys.length = 0 by omega] at hj
      cases hj
      exact mono up g
  · rintro acc ys H' h ⟨h0, h1, h2, h3, h4⟩
    exact hd acc ys H' h2 h3 h1 h0 h4
/-- .. over a list -/
theorem lc_valsL {fj : List (Str × Nat)} {te : TE} {σ : St} {H : Hp} {Q : Addr → Hp → Prop} {a : Addr} {xs : List V} (hn : xs.length ≤ 1000) (ha : H a = some (.lst xs)) (G : Addr → Hp → Nat → V → Prop) (mono : ∀ {acc : Addr} {H H' : Hp} {i : Nat} {v : V}, (∀ b o, b ≠ acc → H b = some o → H' b = some o) → G acc H i v → G acc H' i v)
    (hs : ∀ (acc : Addr) (i : Nat) (x : V) (H' : Hp) (Qf : VK), xs[i]? = some x → H acc = none → Same H H' → H' acc ≠ none → (∀ v H3, Same H' H3 → G acc H3 i v → Qf v H3) → te (some x :: frees σ fj) H' Qf)
    (hd : ∀ acc vs H', H acc = none → Same H H' → H' acc = some (.lst vs) → vs.length = xs.length → (∀ i v, vs[i]? = some v → G acc H' i v) → Q acc H') :
    ∀ acc, H acc = none → ∃ W : Nat → Nat → List V → Hp → Prop, (∃ m, W 0 m [] (upd H acc (.lst []))) ∧ ∀ i m ys H, W i m ys H →
      ((Itl K a).stop i H ∧ Q acc H) ∨ ((Itl K a).go i H ∧ ∀ x H', (Itl K a).yld i H x H' → tYes (some x :: frees σ fj) H' fun b H2 =>
        if b = true then te (some x :: frees σ fj) H2 fun v H3 => H3 acc = some (.lst ys) ∧ ys.length < sizeLine ∧ ∃ m', m' < m ∧ W (i + 1) m' (ys ++ [v]) (upd H3 acc (.lst (ys ++ [v])))
        else ∃ m', m' < m ∧ W (i + 1) m' ys H2) := by
  refine lc_list (xs := xs) hn (fun acc i ys H' => ys.length = i ∧ H' acc = some (.lst ys) ∧ H acc = none ∧ Same H H' ∧ ∀ j v, ys[j]? = some v → G acc H' j v) ?_ ?_ ?_ ?_
  · exact fun acc h => ⟨rfl, upd_same, h, same_new h _, fun j v z => by simp at z⟩
  · rintro acc i ys H' hi ⟨h0, h1, h2, h3, _⟩
    exact ⟨h0, SqL.of (h3 _ _ ha)⟩
  · rintro acc i x ys H' Qf hx ⟨h0, h1, h2, h3, h4⟩ k
    refine hs acc i x H' Qf hx h2 h3 (by rw [h1]; simp) fun v H3 s3 g => k v H3 (s3 _ _ h1) ⟨by simp [h0], upd_same, h2, same_upd h2 (h3.trans s3) _, fun j u hj => ?_⟩
    have up : ∀ b o, b ≠ acc → H3 b = some o → upd H3 acc (.lst (ys ++ [v])) b = some o := fun b o hb q => by rw [upd_ne hb]; exact q
    by_cases hji : j < ys.length
    · rw [List.getElem?_append_left hji] at hj
      exact mono up (mono (fun b o _ q => s3 b o q) (h4 j u hj))
    · rw [List.getElem?_append_right (by omega)] at hj
      have e : j = i := by
        rcases Nat.lt_or_ge (j - ys.length) 1 with z | z
        · omega
        · rw [List.getElem?_eq_none (by simpa using z)] at hj; cases hj
      subst e
      rw [show j - ys.length = 0 by omega] at hj
      cases hj
      exact mono up g
  · rintro acc ys H' h ⟨h0, h1, h2, h3, h4⟩
    exact hd acc ys H' h2 h3 h1 h0 h4
/-- the reading of a comprehension [f(x) for x in a list], f a test that keeps the heap -/
theorem lc_test {K : PySem.W.Frag} {σ : St} {H : Hp} {a : Addr} {xs : List V} {Q : Addr → Hp → Prop} {sp : Sp} {g : V → Bool} (hsp : ∀ x (H' : Hp) (Qf : VK), Kd K H' x → Qf (.bl (g x)) H' → sp [x] H' Qf E0) (ha : H a = some (.lst xs)) (hz : xs.length ≤ 1000) (hk : ∀ x ∈ xs, Kd K H x)
    (hq : ∀ acc H', H acc = none → Same H H' → H' acc = some (.lst ((xs.map g).map V.bl)) → Q acc H') :
    ∀ acc, H acc = none → ∃ W : Nat → Nat → List V → Hp → Prop, (∃ m, W 0 m [] (upd H acc (.lst []))) ∧ ∀ i m ys H, W i m ys H →
      ((Itl K a).stop i H ∧ Q acc H) ∨ ((Itl K a).go i H ∧ ∀ x H', (Itl K a).yld i H x H' → tYes (some x :: frees σ []) H' fun b H2 =>
        if b = true then tCall sp [] E0 (tCons (tVar 0) tNil) (some x :: frees σ []) H2 fun v H3 => H3 acc = some (.lst ys) ∧ ys.length < sizeLine ∧ ∃ m', m' < m ∧ W (i + 1) m' (ys ++ [v]) (upd H3 acc (.lst (ys ++ [v])))
        else ∃ m', m' < m ∧ W (i + 1) m' ys H2) := by
  refine lc_list (xs := xs) hz (fun acc i ys H' => ys = ((xs.take i).map g).map V.bl ∧ H' acc = some (.lst ys) ∧ H acc = none ∧ Same H H') ?_ ?_ ?_ ?_
  · exact fun acc h => ⟨rfl, upd_same, h, same_new h _⟩
  · rintro acc i ys H' hi ⟨rfl, h1, h2, h3⟩
    refine ⟨?_, SqL.of (h3 _ _ ha)⟩
    rw [List.length_map, List.length_map, List.length_take]
    omega
  · rintro acc i x ys H' Qf hx ⟨rfl, h1, h2, h3⟩ k
    refine ⟨x, rfl, hsp x H' _ ((hk x (List.mem_of_getElem? hx)).same h3) (k _ _ h1 ⟨?_, upd_same, h2, same_upd h2 h3 _⟩)⟩
    rw [List.take_add_one, hx]
    simp
  · rintro acc ys H' h ⟨rfl, h1, h2, h3⟩
    rw [List.take_length] at h1
    exact hq acc H' h2 h3 h1
/-! ### rows, the disk -/
def RowsAt (H : Hp) (rs : List Addr) (R : List (List Int)) : Prop := rs.length = R.length ∧ ∀ (i : Nat) (r : Addr) (row : List Int), rs[i]? = some r → R[i]? = some row → H r = some (.lst (row.map V.int))
def GoodRow (row : List Int) : Prop := row.length = 16 ∧ ∀ x ∈ row, 0 ≤ x ∧ x ≤ 999999999
def lv : Option Int → V
  | none => .non
  | some k => .int k
structure DiskAt (C : Addr) (H : Hp) (d kr : Addr) (R : List (List Int)) (n : Int) (l : Option Int) : Prop where
  ex : ∃ dx rs, H d = some (.ins C dx [("kept_rows", .ref kr), ("writes_done", .int n), ("writes_left", lv l)]) ∧ H kr = some (.lst (rs.map V.ref)) ∧ RowsAt H rs R
  lo : 24 ≤ R.length
  hi : R.length ≤ 96
  good : ∀ row ∈ R, GoodRow row
theorem RowsAt.chg {rs : List Addr} {R : List (List Int)} {S : List Addr} (h : RowsAt H rs R) (c : Chg S H H') (n : ∀ r ∈ rs, r ∉ S) : RowsAt H' rs R :=
  ⟨h.1, fun i r row h1 h2 => c r _ (h.2 i r row h1 h2) (n r (List.mem_of_getElem? h1))⟩
theorem RowsAt.set {rs : List Addr} {R : List (List Int)} (h : RowsAt H rs R) (i : Nat) {p : Addr} {row : List Int} (hp : H p = some (.lst (row.map V.int))) : RowsAt H (rs.set i p) (R.set i row) := by
  refine ⟨by simp [h.1], fun j r q h1 h2 => ?_⟩
  rw [List.getElem?_set] at h1 h2
  by_cases e : i = j
  · subst e
    rw [if_pos rfl] at h1 h2
    split at h1
    · split at h2
      · cases h1; cases h2; exact hp
      · cases h2
    · cases h1
  · rw [if_neg e] at h1 h2
    exact h.2 j r q h1 h2
theorem RowsAt.get {rs : List Addr} {R : List (List Int)} (h : RowsAt H rs R) {i : Nat} (hi : i < R.length) : ∃ r, rs[i]? = some r ∧ H r = some (.lst ((R[i]).map V.int)) := by
  have hi' : i < rs.length := by rw [h.1]; exact hi
  exact ⟨rs[i], List.getElem?_eq_getElem hi', h.2 i _ _ (List.getElem?_eq_getElem hi') (List.getElem?_eq_getElem hi)⟩
theorem RowsAt.all {rs : List Addr} {R : List (List Int)} (h : RowsAt H rs R) {r : Addr} (hr : r ∈ rs) : ∃ row ∈ R, H r = some (.lst (row.map V.int)) := by
  obtain ⟨i, hi, e⟩ := List.mem_iff_getElem.mp hr
  have hi' : i < R.length := by rw [← h.1]; exact hi
  exact ⟨R[i], List.getElem_mem hi', h.2 i r _ (by rw [← e]; exact List.getElem?_eq_getElem hi) (List.getElem?_eq_getElem hi')⟩
/-- a list of refs is no row -/
theorem ref_ne_row {rs : List Addr} {row : List Int} (h : row.length = 16) : (HO.lst (rs.map V.ref)) ≠ HO.lst (row.map V.int) := by
  intro z
  cases rs with
  | nil => cases row with
    | nil => cases h
    | cons => cases z
  | cons => cases row with
    | nil => cases h
    | cons => cases z
variable {C d kr : Addr} {R : List (List Int)} {n : Int} {l : Option Int}
theorem DiskAt.chg {S : List Addr} (h : DiskAt C H d kr R n l) (c : Chg S H H') (hd : d ∉ S) (hk : kr ∉ S) (hr : ∀ r row, H r = some (.lst (row.map V.int)) → GoodRow row → r ∉ S) : DiskAt C H' d kr R n l := by
  obtain ⟨dx, rs, h1, h2, h3⟩ := h.ex
  refine ⟨⟨dx, rs, c _ _ h1 hd, c _ _ h2 hk, h3.chg c fun r hm => ?_⟩, h.lo, h.hi, h.good⟩
  obtain ⟨row, hrow, e⟩ := h3.all hm
  exact hr r row e (h.good row hrow)
theorem DiskAt.same (h : DiskAt C H d kr R n l) (s : Same H H') : DiskAt C H' d kr R n l := h.chg (S := []) (Chg.of s) (by simp) (by simp) (by simp)
/-- the instance's own record is written -/
theorem DiskAt.put {n' : Int} {l' : Option Int} (D : DiskAt C H d kr R n l) {dx : Addr} {fs : List (Str × V)} (h1 : H d = some (.ins C dx fs)) : DiskAt C (L2.upd H d (.ins C dx [("kept_rows", .ref kr), ("writes_done", .int n'), ("writes_left", lv l')])) d kr R n' l' := by
  obtain ⟨dx', rs, h1', h2, h3⟩ := D.ex
  refine ⟨⟨dx, rs, upd_same, ?_, h3.1, fun i r row e1 e2 => ?_⟩, D.lo, D.hi, D.good⟩
  · rw [upd_ne (ne_of h2 h1 (fun z => by cases z))]; exact h2
  · have hr := h3.2 i r row e1 e2
    rw [upd_ne (ne_of hr h1 (fun z => by cases z))]; exact hr
theorem DiskAt.at {C d kr : Addr} (h : DiskAt C H d kr R n l) : ∃ dx, H d = some (.ins C dx [("kept_rows", .ref kr), ("writes_done", .int n), ("writes_left", lv l)]) := let ⟨dx, _, e, _⟩ := h.ex; ⟨dx, e⟩
end
/-! ### rules by the written part itself (within a comprehension) -/
section
variable {X : Cx} {K : PySem.W.Frag}
def rLenK (K : PySem.W.Frag) : List V → Hp → VK → Prop := fun xs H Q => ∃ p ys, xs = [.ref p] ∧ (SqL K H p ys ∨ SqT K H p ys) ∧ Q (.int ys.length) H
def rListK (K : PySem.W.Frag) : List V → Hp → VK → Prop := fun xs H Q => ∃ p ys, xs = [.ref p] ∧ (SqL K H p ys ∨ SqT K H p ys) ∧ ∀ l, H l = none → Q (.ref l) (upd H l (.lst ys))
theorem call_listK (h : X.K = K) : CallR X (.type "list") (rListK K) := by subst h; exact call_list_of
theorem ix_listK (h : X.K = K) : IxR X (rIxL K) := by subst h; exact ix_list
end
/-! ### list.index; [x for x in a list of bools if x] -/
section
variable {X : Cx}
def rIndex : V → List V → Hp → VK → Prop := fun x vs H Q => ∃ (l : Addr) (xs : List V) (y : V) (j : Nat), x = .ref l ∧ vs = [y] ∧ H l = some (.lst xs) ∧ flatV y = true ∧ xs.all flatV = true ∧ (∃ z, xs[j]? = some z ∧ eqV z y = true) ∧ (∀ (m : Nat) z, m < j → xs[m]? = some z → eqV z y = false) ∧ Q (.int j) H
end
section
variable {X : Cx} {K : PySem.W.Frag}
def rIsinC (K : PySem.W.Frag) (C : Addr) : List V → Hp → VK → Prop := fun xs H Q => ∃ x t b, xs = [x, .ref C] ∧ TyOf K H x t ∧ PySem.W.kitOne K t (.ref C) = some b ∧ Q (.bl b) H
variable {o e : Expr} {es : List Expr} {to : TE} {t : TA} {name : Str} {apos cpos : Pos} {T id : String} {r : V → List V → Hp → VK → Prop}
end
/-! ### tests by a rest -/
section
variable {σ : St} {H : Hp} {Q : Bool → Hp → Prop} {i : Nat} {c : Int}
theorem t_modeq {n b : Int} (hσ : σ[i]? = some (some (.int c))) (hn : 0 < n) (h : Q (decide (c % n = b)) H) : tTest (tOp rEq (tOp (rI (fun _ j => 0 < j) fun i j => .int (i % j)) (tVar i) (tC (.int n))) (tC (.int b))) σ H Q :=
  ⟨_, hσ, _, _, rfl, rfl, hn, rfl, _, rfl, by rw [dec_V]; exact h⟩
end
/-! ### what is no row of the disk -/
section
variable {C d kr p : Addr} {H H' : Hp} {R : List (List Int)} {n : Int} {l : Option Int}
def NoRowAt (H : Hp) (kr p : Addr) : Prop := ∀ rs : List Addr, H kr = some (.lst (rs.map V.ref)) → p ∉ rs
theorem refs_inj : ∀ {xs ys : List Addr}, xs.map V.ref = ys.map V.ref → xs = ys
  | [], [], _ => rfl
  | [], _ :: _, h => by cases h
  | _ :: _, [], h => by cases h
  | x :: xs, y :: ys, h => by
    rw [List.map_cons, List.map_cons] at h
    injection h with h1 h2
    injection h1 with h1
    rw [h1, refs_inj h2]
theorem DiskAt.noRow (D : DiskAt C H d kr R n l) (hp : H p = none) : NoRowAt H kr p := fun rs hrs hm => by
  obtain ⟨dx, rs', _, h2, h3⟩ := D.ex
  rw [h2] at hrs
  have e : rs' = rs := refs_inj (by injection hrs with z; injection z)
  subst e
  obtain ⟨row, _, e⟩ := h3.all hm
  rw [hp] at e; cases e
theorem NoRowAt.chg {S : List Addr} (h : NoRowAt H kr p) (D : DiskAt C H d kr R n l) (c : Chg S H H') (hk : kr ∉ S) : NoRowAt H' kr p := fun rs hrs => by
  obtain ⟨dx, rs', _, h2, _⟩ := D.ex
  have := c _ _ h2 hk
  rw [this] at hrs
  have e : rs' = rs := refs_inj (by injection hrs with z; injection z)
  subst e
  exact h rs' h2
theorem DiskAt.off (D : DiskAt C H d kr R n l) (np : NoRowAt H kr p) (h1 : p ≠ d) (h2 : p ≠ kr) (o : HO) : DiskAt C (L2.upd H p o) d kr R n l := by
  obtain ⟨dx, rs, g1, g2, g3⟩ := D.ex
  refine ⟨⟨dx, rs, by rw [upd_ne (Ne.symm h1)]; exact g1, by rw [upd_ne (Ne.symm h2)]; exact g2, g3.1, fun i r row e1 e2 => ?_⟩, D.lo, D.hi, D.good⟩
  rw [upd_ne (fun z => np rs g2 (by rw [← z]; exact List.mem_of_getElem? e1))]
  exact g3.2 i r row e1 e2
end
end BK
end
section
set_option Elab.async false
set_option linter.all false
set_option maxRecDepth 100000
set_option maxHeartbeats 4000000
namespace BK
open PySem L2
theorem ix_tupK {X : Cx} {K : PySem.W.Frag} (h : X.K = K) : IxR X (rIxT K) := by subst h; exact ix_tup
end BK
end
section
set_option Elab.async false
set_option linter.all false
set_option maxRecDepth 100000
/-! sorted of ints: a list, a dict's keys; list of a dict -/
namespace L2
open PySem PySem.Spec PySem.Calls PyProof.Rows PySem.W

section
variable {prog : Program} {w : World} {A : Around} {E : Value → Shared → Prop} {s : Shared} {T : String} {r d : Addr} {n : Nat} {P : Nat → Value → Prop} {OK : Heap → Prop}
theorem code_collect {R : Result → Shared → Prop} (K : KdlSrc prog w T r d n P OK) (hh : A.handled = none) (hok : OK s.heap) (hn : n ≤ sizeLine)
    (hR : ∀ h' tk (acc' : Array Value) c', (∀ b o, s.heap.get? b = some o → h'.get? b = some o) → h'.get? s.heap.objs.size = some { cls := .type "list", dict := none, data := .seq acc' c', slots := #[] } → ItemsOf P acc' n →
      R (.ok (.ret (.ref s.heap.objs.size))) { s with heap := h', toks := tk }) :
    codeAny (model prog w) A (.builtin "proto.collect" ⟨[.ref r], []⟩) R s := by
  have hlt := K.there _ hok
  refine codeAny_builtin PySem.F.entry_proto_collect ?_
  rw [Around.under_plainId PySem.F.plain_proto_collect _]
  show wpAny _ A.in1 (newList [] >>= fun l => again (.builtin "list.__iadd__" ⟨[l, .ref r], []⟩)) _ _ s
  refine wpAny_bind (wpAny_newObj_type ?_)
  refine wpAny_pure ⟨plainId_quiet PySem.F.plain_list_iadd _, codeAny_builtin PySem.F.entry_list_iadd ?_⟩
  rw [Around.under_plainId PySem.F.plain_list_iadd _]
  have hS₁ : (s.heap.push { cls := .type "list", data := .seq ([] : List Value).toArray }).get? s.heap.objs.size = some { cls := .type "list", data := .seq ([] : List Value).toArray } := Heap.get?_push_size _ rfl
  show wpAny _ A.in1 (Builtin.List.listExtendWith (.ref s.heap.objs.size) (.ref r) (.ref s.heap.objs.size)) _ _ _
  refine kdl_extend (R := R) (s := { s with heap := s.heap.push { cls := .type "list", data := .seq ([] : List Value).toArray } }) K hh (K.keep _ _ hok fun b _ o e => Heap.get?_push_of_some _ e) s.heap.objs.size (Nat.ne_of_gt hlt.1) (Nat.ne_of_gt hlt.2) (.ref s.heap.objs.size) 0 hS₁ (fun h' tk acc' c' hk hS' hacc => ?_) hn
  exact hR h' tk acc' c' (fun b o e => hk b o (Nat.ne_of_lt (Heap.lt_size e)) (Heap.get?_push_of_some _ e)) hS' hacc
theorem collect_src {Q : List Value → Shared → Prop} (K : KdlSrc prog w T r d n P OK) (hh : A.handled = none) (hok : OK s.heap) (hn : n ≤ sizeLine)
    (hQ : ∀ h' tk (acc' : Array Value), (∀ b o, s.heap.get? b = some o → h'.get? b = some o) → s.heap.objs.size < h'.objs.size → ItemsOf P acc' n → Q acc'.toList { s with heap := h', toks := tk }) :
    wpAny (model prog w) A (collect (.ref r)) Q E s := by
  unfold collect
  refine wpAny_bind (wpAny_runValue (code_collect K hh hok hn fun h' tk acc' c' kp hS' hacc => ?_))
  show wpAny _ A (load s.heap.objs.size >>= _) _ _ _
  refine wpAny_bind (wpAny_load hS' ?_)
  exact wpAny_pure (hQ h' tk acc' kp (Heap.lt_size hS') hacc)

theorem sorted_src {ns : List Int} {Q : Value → Shared → Prop} (K : KdlSrc prog w T r d n P OK) (hh : A.handled = none) (hok : OK s.heap) (hI : ∀ acc : Array Value, ItemsOf P acc n → IntsAre acc.toList ns) (h64 : n < 64)
    (h : ∀ (h' : Heap) (tk e : Nat) (a : Addr) (out : Array Value) (ns' : List Int), (∀ b o, s.heap.get? b = some o → h'.get? b = some o) → s.heap.objs.size ≤ a → h'.get? a = some (seqObj "list" out e) →
      IntsAre out.toList ns' → ns'.Perm ns → ns'.Pairwise (· ≤ ·) → Q (.ref a) { s with heap := h', toks := tk }) :
    wpAny (model prog w) A (call (.builtin "sorted") [.ref r]) Q E s := by
  refine Calls.call_function_entry kind_sorted plain_sorted entry_sorted (args_sorted1 _) ?_
  unfold Builtin.«sorted»
  refine wpAny_bind (m := checkCount "sorted" 1 1 _) (wpAny_pure ?_)
  refine wpAny_bind (collect_src K hh hok (by rw [sizeLine_eq]; omega) fun h1 tk acc kp hs hacc => ?_)
  have hl : acc.toList.length < 64 := by rw [Array.length_toList, hacc.1]; exact h64
  refine wpAny_bind (wpAny_newList ?_)
  have hoL : (h1.push (seqObj "list" acc.toList.toArray 0)).get? h1.objs.size = some (seqObj "list" acc.toList.toArray 0) := Heap.get?_push_size _ rfl
  show wpAny _ _ _ _ _ { s with heap := h1.push (seqObj "list" acc.toList.toArray 0), toks := tk }
  refine wpAny_bind (wpAny_holding (wpAny_call_entry slot_list_sort ⟨_, hoL, rfl⟩ entry_list_sort (list_sort_tree hoL (hI acc hacc) hl fun out ns' a1 a2 a3 => ⟨_, rfl, ?_⟩) (args_list_sort _)))
  obtain ⟨e, he⟩ := sortedHeap_at (out := out) hoL
  refine wpAny_pure ⟨_, rfl, h _ tk e h1.objs.size out ns' (fun b o q => ?_) (Nat.le_of_lt hs) he a1 a2 a3⟩
  have hb := Heap.lt_size (kp b o q)
  rw [sortedHeap_old (Nat.ne_of_lt hb) (by rw [size_push']; exact Nat.lt_succ_of_lt hb)]
  exact Heap.get?_push_of_some _ (kp b o q)
end

/-! ### the rules -/
theorem ints_vals {ns : List Int} : ∀ {us : List Value}, IntsAre us ns → Vals (ns.map V.int) us := by
  intro us h
  induction h with
  | nil => exact .nil
  | cons => exact .cons ⟨_, rfl⟩ (by assumption)
theorem ints_items {P : Program} {w : World} : ∀ {ks : List Int} {kvs : List (Key × Value)} (vs : List Value), kvs.map (·.1) = ks.map Sum.inl → vs.length = kvs.length →
    (∀ (j : Nat) (v : Value), vs[j]? = some v → ∃ (k : Key) (x : Value), kvs[j]? = some (k, x) ∧ (mixKind P w).is k v = true) → IntsAre vs ks
  | [], [], [], _, _, _ => .nil
  | k :: ks, q :: r, v :: vs, e, hl, hv => by
    simp only [List.map_cons, List.cons.injEq] at e
    obtain ⟨k', x, hk, hi⟩ := hv 0 v rfl
    simp only [List.getElem?_cons_zero, Option.some.injEq] at hk
    subst hk
    obtain ⟨e1, e2⟩ := e
    have e1 : k' = Sum.inl k := e1
    subst e1
    rcases keyIs_shape (show keyIs (Sum.inl k) v = true from hi) with ⟨i, t, ei, ev⟩ | ⟨y, t, ei, ev⟩
    · cases ei
      subst ev
      exact .cons _ _ (ints_items vs e2 (by simpa using hl) fun j u hu => by simpa using hv (j + 1) u (by simpa using hu))
    · cases ei
  | [], _ :: _, _, e, _, _ => by simp at e
  | _ :: _, [], _, e, _, _ => by simp at e
  | _, [], _ :: _, _, hl, _ => by simp at hl
  | _, _ :: _, [], _, hl, _ => by simp at hl

section
variable {X : Cx}
/-- sorted(d): the keys, rising; d has ints as keys -/
def rSortedD (xs : List V) (H : Hp) (Q : VK) : Prop := ∃ (a : Addr) (kvs : List (Key × V)) (ks : List Int), xs = [.ref a] ∧ H a = some (.dK kvs) ∧ kvs.map (·.1) = ks.map (Sum.inl : Int → Key) ∧ kvs.length < 64 ∧
  ∀ l (ns : List Int), H l = none → ns.Perm ks → ns.Pairwise (· ≤ ·) → Q (.ref l) (upd H l (.lst (ns.map V.int)))
theorem call_sortedD (hc : X.A.handled = none) : CallR X (.builtin "sorted") rSortedD := by
  intro pins s σ H xs us Q I r h
  obtain ⟨a, kvs, ks, rfl, e, hk, h64, q⟩ := h
  obtain ⟨u, rfl, rx⟩ := vals1 r
  cases rx
  obtain ⟨z, hd, vs, rel, dd⟩ := dk_of I.hok e
  obtain ⟨ep, hat⟩ := dd.dictAt
  have hks := rel.keys
  have hlen := rel.length
  refine sorted_src (kdl_dict (knd := mixKind X.prog X.w) (kvs := vs) (ep := ep) hd) hc hat (ns := ks) (fun acc hacc => ?_) (by omega) fun h' tk e' a' out ns' kp ha he hi hp hs => ?_
  · refine ints_items (P := X.prog) (w := X.w) (kvs := vs) acc.toList (hks.symm.trans hk) (by rw [Array.length_toList]; exact hacc.1) fun j v hv => ?_
    exact hacc.2 j v (by rw [← Array.getElem?_toList]; exact hv)
  · have hl : ns'.length = kvs.length := by
      have := hp.length_eq
      have h2 := congrArg List.length hk
      simp only [List.length_map] at h2
      omega
    exact ⟨.ref a', _, I.laid (t' := tk) kp ha (show ObjOk X.prog X.w _ h' _ (.lst (ns'.map V.int)) from ⟨by rw [List.length_map, hl]; exact z, out.toList, e', ints_vals hi, by simpa using he⟩), rfl, q _ _ (I.hok.fresh ha) hp hs⟩
/-- sorted(l): a list of ints -/
def rSortedL (xs : List V) (H : Hp) (Q : VK) : Prop := ∃ (p : Addr) (ks : List Int), xs = [.ref p] ∧ SqL X.K H p (ks.map V.int) ∧ ks.length < 64 ∧
  ∀ l (ns : List Int), H l = none → ns.Perm ks → ns.Pairwise (· ≤ ·) → Q (.ref l) (upd H l (.lst (ns.map V.int)))
/-- list(d): the keys in their order -/
def rListD (xs : List V) (H : Hp) (Q : VK) : Prop := ∃ (a : Addr) (kvs : List (Key × V)) (ks : List Int), xs = [.ref a] ∧ H a = some (.dK kvs) ∧ kvs.map (·.1) = ks.map (Sum.inl : Int → Key) ∧
  ∀ l, H l = none → Q (.ref l) (upd H l (.lst (ks.map V.int)))
/-- len(d) -/
def rLenD (xs : List V) (H : Hp) (Q : VK) : Prop := ∃ (a : Addr) (kvs : List (Key × V)), xs = [.ref a] ∧ H a = some (.dK kvs) ∧ Q (.int kvs.length) H
/-- d != {}, d == {} -/
def rNeD0 : R2 := fun x y H Q => ∃ (a b : Addr) (kvs : List (Key × V)), x = .ref a ∧ y = .ref b ∧ H a = some (.dK kvs) ∧ H b = some (.dK []) ∧ Q (.bl (!kvs.isEmpty)) H
def rEqD0 : R2 := fun x y H Q => ∃ (a b : Addr) (kvs : List (Key × V)), x = .ref a ∧ y = .ref b ∧ H a = some (.dK kvs) ∧ H b = some (.dK []) ∧ Q (.bl kvs.isEmpty) H
/-- sep.join(l) -/
theorem strsAre_of {ns : List Str} : ∀ {us : List Value}, Vals (ns.map V.str) us → StrsAre us ns := by
  induction ns with
  | nil => intro us r; rw [List.map_nil] at r; cases r; exact .nil
  | cons n ns ih =>
    intro us r
    rw [List.map_cons] at r
    cases r with
    | cons r1 r2 =>
      obtain ⟨t, e⟩ := r1
      subst e
      exact .cons _ _ (ih r2)
def rJoin (K : PySem.W.Frag) : V → List V → Hp → VK → Prop := fun x vs H Q => ∃ (z : Str) (p : Addr) (ys : List Str), x = .str z ∧ vs = [.ref p] ∧ SqL K H p (ys.map V.str) ∧ (ys.map (·.length)).sum + ys.length * z.length ≤ 16777216 ∧ Q (.str (Txt.join z ys)) H
theorem mt_join : MtR X "str.join" (rJoin X.K) := by
  intro pins s σ H x vs v us Q I rx rv h
  obtain ⟨z, p, ys, rfl, rfl, hq, hz, q⟩ := h
  obtain ⟨t, rfl⟩ := rx
  obtain ⟨u, rfl, ru⟩ := rv.one
  cases ru
  obtain ⟨its, r', pl, hz'⟩ := I.list hq
  exact join_list pl.isList (by simpa using strsAre_of r') hz fun t' k => ⟨.str (Txt.join z ys), H, I.tok _, ⟨_, rfl⟩, q⟩
end
end L2
end
section
set_option Elab.async false
set_option linter.all false
set_option maxRecDepth 100000
set_option maxHeartbeats 4000000
/-! writes, one behind the other -/
namespace BK
open PySem L2
/-- what a disk is: its rows, its writes, how many more are let be -/
structure DS where
  R : List (List Int)
  n : Int
  l : Option Int
def DS.stop (S : DS) : Bool := match S.l with
  | some k => decide (k < 1)
  | none => false
def DS.put (S : DS) (x : Nat × List Int) : DS := ⟨S.R.set x.1 x.2, S.n + 1, S.l.map (· - 1)⟩
def runW (S : DS) : List (Nat × List Int) → DS × Bool
  | [] => (S, false)
  | x :: r => if S.stop = true then (S, true) else runW (S.put x) r
theorem runW_app (S : DS) (xs ys : List (Nat × List Int)) : runW S (xs ++ ys) = if (runW S xs).2 = true then runW S xs else runW (runW S xs).1 ys := by
  induction xs generalizing S with
  | nil => rfl
  | cons x r ih =>
    show (if S.stop = true then (S, true) else runW (S.put x) (r ++ ys)) = _
    by_cases h : S.stop = true
    · rw [if_pos h]
      have : runW S (x :: r) = (S, true) := if_pos h
      rw [this]; rfl
    · rw [if_neg h, ih]
      have : runW S (x :: r) = runW (S.put x) r := if_neg h
      rw [this]
theorem runW_len (S : DS) (xs : List (Nat × List Int)) : (runW S xs).1.R.length = S.R.length := by
  induction xs generalizing S with
  | nil => rfl
  | cons x r ih =>
    show ((if S.stop = true then (S, true) else runW (S.put x) r).1).R.length = _
    split
    · rfl
    · rw [ih]; exact List.length_set
theorem stop_iff {S : DS} (h : S.stop = true) : ∃ k, S.l = some k ∧ k < 1 := by
  unfold DS.stop at h
  split at h
  · rename_i k e; exact ⟨k, e, of_decide_eq_true h⟩
  · cases h
theorem stop_not {S : DS} (h : ¬ S.stop = true) : ∀ k, S.l = some k → ¬ k < 1 := fun k e z => h (by unfold DS.stop; rw [e]; exact decide_eq_true z)
/-- one that may go on does all -/
theorem runW_free {S : DS} (h : S.l = none) (xs : List (Nat × List Int)) : runW S xs = (⟨xs.foldl (fun R x => R.set x.1 x.2) S.R, S.n + xs.length, none⟩, false) := by
  induction xs generalizing S with
  | nil => obtain ⟨R, n, l⟩ := S; cases h; simp [runW]
  | cons x r ih =>
    have e : S.stop = false := by unfold DS.stop; rw [h]
    show (if S.stop = true then (S, true) else runW (S.put x) r) = _
    rw [e, if_neg (by decide), ih (by show S.l.map _ = none; rw [h]; rfl)]
    simp only [DS.put, List.foldl_cons, List.length_cons]
    congr 2
    omega
abbrev DkAt (C : Addr) (H : Hp) (d kr : Addr) (S : DS) : Prop := DiskAt C H d kr S.R S.n S.l
/-- pairs (block, row), of any kind: whether the row is one is told by the bit -/
def PairsV (K : PySem.W.Frag) (RA : Hp → V → Bool → Prop) (H : Hp) (ps : Addr) (L : List (V × V × Bool)) : Prop := ∃ ts : List Addr, H ps = some (.lst (ts.map V.ref)) ∧ ts.length = L.length ∧ ∀ (i : Nat) (t : Addr) (x : V × V × Bool), ts[i]? = some t → L[i]? = some x → H t = some (.tup [x.1, x.2.1]) ∧ Kd K H x.1 ∧ RA H x.2.1 x.2.2
/-- good ones, by their addresses -/
def PL (H : Hp) (ts rs : List Addr) (L : List (Nat × List Int)) : Prop := ts.length = L.length ∧ rs.length = L.length ∧ ∀ (i : Nat) (h1 : i < ts.length) (h2 : i < rs.length) (h3 : i < L.length), H ts[i] = some (.tup [.int L[i].1, .ref rs[i]]) ∧ H rs[i] = some (.lst (L[i].2.map V.int))
theorem PL.same {H H' : Hp} {ts rs : List Addr} {L : List (Nat × List Int)} (h : PL H ts rs L) (s : Same H H') : PL H' ts rs L := ⟨h.1, h.2.1, fun i a b c => ⟨s _ _ (h.2.2 i a b c).1, s _ _ (h.2.2 i a b c).2⟩⟩
def PairsTs (H : Hp) (ps : Addr) (ts rs : List Addr) (L : List (Nat × List Int)) : Prop := H ps = some (.lst (ts.map V.ref)) ∧ PL H ts rs L
/-- as data -/
def pData (L : List (Nat × List Int)) : List PyData := L.map fun x => PyData.tuple [.int x.1, .list (x.2.map PyData.int)]
theorem PL.dvs {K : PySem.W.Frag} {H : Hp} : ∀ {ts rs : List Addr} {L : List (Nat × List Int)}, PL H ts rs L → DVs K H (ts.map V.ref) (pData L)
  | [], _, [], _ => .nil
  | [], _, _ :: _, h => by cases h.1
  | _ :: _, _, [], h => by cases h.1
  | _ :: _, [], _ :: _, h => by cases h.2.1
  | t :: ts, r :: rs, x :: L, h => by
    obtain ⟨h1, h2, h3⟩ := h
    obtain ⟨z1, z2⟩ := h3 0 (by simp) (by simp) (by simp)
    refine .cons (.tup (SqT.of z1) (.cons (.int _) (.cons (.lst (SqL.of z2) (dvs_ints _)) .nil))) (PL.dvs (rs := rs) ⟨by simpa using h1, by simpa using h2, fun i a b c => ?_⟩)
    exact h3 (i + 1) (by simpa using a) (by simpa using b) (by simpa using c)
theorem shaped_pairs (L : List (Nat × List Int)) : SeqAt.shaped (.list (pData L)) = true := by
  have h : PyData.canLayAll0 (pData L) = true ∧ PyData.depthAll (pData L) ≤ 2 := by
    unfold pData
    induction L with
    | nil => exact ⟨rfl, Nat.zero_le _⟩
    | cons x L ih =>
      constructor
      · simp [PyData.canLayAll0, PyData.canLay0, PySem.W.ke_canLayAll0] at ih ⊢
        exact ih.1
      · have e := PySem.W.ke_depthAll x.2
        simp only [List.map_cons, PyData.depthAll, PyData.depth]
        rw [e]
        have := ih.2
        omega
  have l' : (PyData.list (pData L)).depth ≤ 64 := by simp only [PyData.depth]; omega
  have c' : (PyData.list (pData L)).canLay0 = true := by simp only [PyData.canLay0]; exact h.1
  unfold SeqAt.shaped
  rw [c', Bool.true_and]
  exact decide_eq_true l'
def PairsAt (H : Hp) (ps : Addr) (L : List (Nat × List Int)) : Prop := ∃ ts rs, PairsTs H ps ts rs L
theorem PairsTs.same {H H' : Hp} {ps : Addr} {ts rs : List Addr} {L : List (Nat × List Int)} (h : PairsTs H ps ts rs L) (s : Same H H') : PairsTs H' ps ts rs L :=
  ⟨s _ _ h.1, h.2.same s⟩
theorem PairsAt.same {H H' : Hp} {ps : Addr} {L : List (Nat × List Int)} (h : PairsAt H ps L) (s : Same H H') : PairsAt H' ps L := let ⟨ts, rs, z⟩ := h; ⟨ts, rs, z.same s⟩
theorem pairs_ne {C d kr : Addr} {H : Hp} {S : DS} (D : DkAt C H d kr S) {ps : Addr} {ts : List Addr} (h1 : H ps = some (.lst (ts.map V.ref))) (h2 : ∀ t ∈ ts, ∃ xs, H t = some (.tup xs)) : ps ≠ kr := by
  obtain ⟨dx, rs, _, g2, g3⟩ := D.ex
  intro z
  subst z
  rw [h1] at g2
  have e : ts = rs := refs_inj (by injection g2 with z; injection z)
  subst e
  have hlo := D.lo
  have hp : 0 < ts.length := by rw [g3.1]; omega
  obtain ⟨xs, q⟩ := h2 ts[0] (List.getElem_mem hp)
  obtain ⟨row, _, q2⟩ := g3.all (List.getElem_mem hp)
  rw [q] at q2; cases q2
theorem PairsTs.chg {C d kr : Addr} {H H' : Hp} {S : DS} {ps : Addr} {ts rs : List Addr} {L : List (Nat × List Int)} (h : PairsTs H ps ts rs L) (D : DkAt C H d kr S) (g : ∀ x ∈ L, GoodRow x.2) (c : Chg [d, kr] H H') : PairsTs H' ps ts rs L := by
  obtain ⟨h1, h2, h2', h3⟩ := h
  obtain ⟨dx, rs', g1, g2, _⟩ := D.ex
  have nk : ps ≠ kr := pairs_ne D h1 fun t ht => by
    obtain ⟨i, hi, e⟩ := List.mem_iff_getElem.mp ht
    exact ⟨_, by rw [← e]; exact (h3 i hi (by omega) (by omega)).1⟩
  refine ⟨c _ _ h1 ?_, h2, h2', fun i a1 a2 a3 => ?_⟩
  · simp only [List.mem_cons, List.not_mem_nil, or_false, not_or]
    exact ⟨ne_of h1 g1 (fun z => by cases z), nk⟩
  · obtain ⟨a, b⟩ := h3 i a1 a2 a3
    refine ⟨c _ _ a ?_, c _ _ b ?_⟩ <;> simp only [List.mem_cons, List.not_mem_nil, or_false, not_or]
    · exact ⟨ne_of a g1 (fun z => by cases z), ne_of a g2 (fun z => by cases z)⟩
    · exact ⟨ne_of b g1 (fun z => by cases z), ne_of b g2 (fun z => ref_ne_row (g _ (List.getElem_mem a3)).1 z.symm)⟩
/-- the homes rise from h on, below m -/
def Rises (m : Int) : Option Int → List (Nat × List Int) → Prop
  | _, [] => True
  | h, x :: r => 17 ≤ x.1 ∧ (x.1 : Int) ≤ m - 1 ∧ (∀ j, h = some j → j < (x.1 : Int)) ∧ Rises m (some (x.1 : Int)) r
theorem Rises.all {m : Int} {h : Option Int} {L : List (Nat × List Int)} (r : Rises m h L) : ∀ x ∈ L, 17 ≤ x.1 ∧ (x.1 : Int) ≤ m - 1 := by
  induction L generalizing h with
  | nil => intro x hx; cases hx
  | cons y L ih =>
    obtain ⟨r1, r2, _, r4⟩ := r
    intro x hx
    rcases List.mem_cons.mp hx with e | hx
    · subst e; exact ⟨r1, r2⟩
    · exact ih r4 x hx
/-- dicts of homes -/
theorem putK_keys {kvs : List (Key × V)} {ks : List Int} (h : kvs.map (·.1) = ks.map (Sum.inl : Int → Key)) (k : Int) (v : V) : ∃ ks' : List Int, (putK kvs (.inl k) v).map (·.1) = ks'.map (Sum.inl : Int → Key) ∧ (∀ x, x ∈ ks' ↔ x ∈ ks ∨ x = k) ∧ (ks.Nodup → ks'.Nodup) ∧ ks'.length ≤ ks.length + 1 := by
  by_cases hk : k ∈ ks
  · refine ⟨ks, ?_, fun x => ⟨.inl, fun z => z.elim id fun e => by rw [e]; exact hk⟩, id, by omega⟩
    have hany : (kvs.any fun kv => decide (kv.1 = Sum.inl k)) = true := by
      have : (Sum.inl k : Key) ∈ kvs.map (·.1) := by rw [h]; exact List.mem_map.mpr ⟨k, hk, rfl⟩
      obtain ⟨kv, hkv, e⟩ := List.mem_map.mp this
      exact List.any_eq_true.mpr ⟨kv, hkv, decide_eq_true e⟩
    unfold putK
    rw [if_pos hany, List.map_map, ← h]
    refine List.map_congr_left fun kv _ => ?_
    show (if kv.1 = Sum.inl k then (kv.1, v) else kv).1 = kv.1
    split <;> rfl
  · refine ⟨ks ++ [k], ?_, fun x => by simp, fun nd => ?_, by simp⟩
    · have hany : ¬ (kvs.any fun kv => decide (kv.1 = Sum.inl k)) = true := fun z => hk (by
        obtain ⟨kv, hkv, e⟩ := List.any_eq_true.mp z
        have : kv.1 ∈ kvs.map (·.1) := List.mem_map.mpr ⟨kv, hkv, rfl⟩
        rw [of_decide_eq_true e, h] at this
        obtain ⟨j, hj, e⟩ := List.mem_map.mp this
        cases e; exact hj)
      unfold putK
      rw [if_neg hany, List.map_append, h, List.map_append]; rfl
    · rw [List.nodup_append]
      exact ⟨nd, by simp, fun x hx y hy z => hk (by rw [List.mem_singleton.mp hy] at z; rw [← z]; exact hx)⟩
structure Homes (H : Hp) (a : Addr) (m : Int) (ks : List Int) (ρ : Int → List Int) : Prop where
  ex : ∃ kvs, H a = some (.dK kvs) ∧ kvs.map (·.1) = ks.map (Sum.inl : Int → Key) ∧ ∀ k ∈ ks, ∃ r, valV kvs (.inl k) = some (.ref r) ∧ H r = some (.lst ((ρ k).map V.int))
  nd : ks.Nodup
  inn : ∀ k ∈ ks, 17 ≤ k ∧ k ≤ m - 1
  good : ∀ k ∈ ks, GoodRow (ρ k)
theorem choose2 {P : Nat → Addr → Addr → Prop} : ∀ (n : Nat), (∀ i, i < n → ∃ t r, P i t r) → ∃ ts rs : List Addr, ts.length = n ∧ rs.length = n ∧ ∀ (i : Nat) (h1 : i < ts.length) (h2 : i < rs.length), P i ts[i] rs[i]
  | 0, _ => ⟨[], [], rfl, rfl, fun i h _ => absurd h (Nat.not_lt_zero _)⟩
  | n + 1, h => by
    obtain ⟨ts, rs, h1, h2, h3⟩ := choose2 n fun i hi => h i (by omega)
    obtain ⟨t, r, hp⟩ := h n (by omega)
    refine ⟨ts ++ [t], rs ++ [r], by simp [h1], by simp [h2], fun i a b => ?_⟩
    by_cases hi : i < n
    · rw [List.getElem_append_left (by omega), List.getElem_append_left (by omega)]
      exact h3 i (by omega) (by omega)
    · have e : i = n := by simp at a; omega
      subst e
      rw [List.getElem_append_right (by omega), List.getElem_append_right (by omega)]
      simpa [h1, h2] using hp
theorem lt_of_le_nodup {ns : List Int} (h1 : ns.Pairwise (· ≤ ·)) (h2 : ns.Nodup) : ns.Pairwise (· < ·) := by
  refine (h1.and h2).imp fun ⟨a, b⟩ => ?_
  omega
theorem dvs_rows {K : PySem.W.Frag} {H : Hp} : ∀ {R : List (List Int)} {qs : List Addr}, RowsAt H qs R → DVs K H (qs.map V.ref) (R.map fun row => PyData.list (row.map PyData.int))
  | [], [], _ => .nil
  | [], _ :: _, h => by cases h.1
  | _ :: _, [], h => by cases h.1
  | row :: R, r :: qs, h => by
    have h0 : H r = some (.lst (row.map V.int)) := h.2 0 r row rfl rfl
    refine .cons (.lst (SqL.of h0) (dvs_ints row)) (dvs_rows ⟨by have := h.1; simpa using this, fun i r' row' h1 h2 => h.2 (i + 1) r' row' (by simpa using h1) (by simpa using h2)⟩)
theorem shaped_rows (R : List (List Int)) : SeqAt.shaped (.list (R.map fun row => PyData.list (row.map PyData.int))) = true := by
  have h : PyData.canLayAll0 (R.map fun row => PyData.list (row.map PyData.int)) = true ∧ PyData.depthAll (R.map fun row => PyData.list (row.map PyData.int)) ≤ 1 := by
    induction R with
    | nil => exact ⟨rfl, Nat.zero_le _⟩
    | cons row R ih =>
      constructor
      · simp [PyData.canLayAll0, PyData.canLay0, PySem.W.ke_canLayAll0] at ih ⊢
        exact ih.1
      · have e := PySem.W.ke_depthAll row
        simp only [List.map_cons, PyData.depthAll, PyData.depth]
        rw [e]
        have := ih.2
        omega
  exact shaped_list h.1 h.2
end BK
end
section
set_option Elab.async false
set_option linter.all false
set_option maxRecDepth 100000
set_option maxHeartbeats 4000000
/-! dicts of rows, the batch -/
namespace BK
open PySem L2
def insK (ks : List Int) (k : Int) : List Int := if k ∈ ks then ks else ks ++ [k]
/-- p is no row of the dict at a -/
def OffD (H : Hp) (a p : Addr) : Prop := ∀ kvs : List (Key × V), H a = some (.dK kvs) → ∀ (k : Key) (r : Addr), valV kvs k = some (.ref r) → r ≠ p
section
variable {H H' : Hp} {a p : Addr} {m : Int} {ks : List Int} {ρ : Int → List Int}
end
/-- the rows of a dict, rising by their blocks -/
def Sorted (ks ns : List Int) : Prop := ns.Perm ks ∧ ns.Pairwise (· < ·)
def byKeys (ns : List Int) (ρ : Int → List Int) : List (Nat × List Int) := ns.map fun k => (k.toNat, ρ k)
/-- a batch -/
structure Bat (C : Addr) (H : Hp) (b d nr : Addr) (m : Int) (ks : List Int) (ρ : Int → List Int) : Prop where
  ex : ∃ dx, H b = some (.ins C dx [("disk", .ref d), ("new_rows", .ref nr)])
  ho : Homes H nr m ks ρ
section
variable {C CD b d kr nr : Addr} {H H' : Hp} {m : Int} {ks : List Int} {ρ : Int → List Int} {S : DS}
end
/-- [e for x in range(n) if c] -/
theorem lc_rangeF {fj : List (Str × Nat)} {tc : TT} {te : TE} {σ : St} {H : Hp} {Q : Addr → Hp → Prop} {lo : Int} {n : Nat} (hn : n ≤ 1000) (g : Nat → Bool) (val : Nat → V)
    (hc : ∀ (i : Nat) (H' : Hp) (Qb : Bool → Hp → Prop), i < n → Same H H' → (∀ H3, Same H' H3 → Qb (g i) H3) → tc (some (.int (lo + (i : Int))) :: frees σ fj) H' Qb)
    (he : ∀ (i : Nat) (H' : Hp) (Qf : VK), i < n → g i = true → Same H H' → (∀ H3, Same H' H3 → Qf (val i) H3) → te (some (.int (lo + (i : Int))) :: frees σ fj) H' Qf)
    (hd : ∀ acc H', H acc = none → Same H H' → H' acc = some (.lst (((List.range n).filter g).map val)) → Q acc H') :
    ∀ acc, H acc = none → ∃ W : Nat → Nat → List V → Hp → Prop, (∃ m, W 0 m [] (upd H acc (.lst []))) ∧ ∀ i m ys H, W i m ys H →
      ((Itr lo n).stop i H ∧ Q acc H) ∨ ((Itr lo n).go i H ∧ ∀ x H', (Itr lo n).yld i H x H' → tc (some x :: frees σ fj) H' fun b H2 =>
        if b = true then te (some x :: frees σ fj) H2 fun v H3 => H3 acc = some (.lst ys) ∧ ys.length < sizeLine ∧ ∃ m', m' < m ∧ W (i + 1) m' (ys ++ [v]) (upd H3 acc (.lst (ys ++ [v])))
        else ∃ m', m' < m ∧ W (i + 1) m' ys H2) := by
  intro acc hacc
  refine ⟨fun i m ys H' => m = n - i ∧ i ≤ n ∧ ys = ((List.range i).filter g).map val ∧ H' acc = some (.lst ys) ∧ Same H H', ⟨n, rfl, Nat.zero_le _, rfl, upd_same, same_new hacc _⟩, ?_⟩
  rintro i m ys H' ⟨rfl, hi, rfl, h1, s1⟩
  by_cases hlt : i < n
  · refine .inr ⟨hlt, ?_⟩
    rintro x H2 ⟨rfl, rfl⟩
    refine hc i _ _ hlt s1 fun H3 s3 => ?_
    have hl : (((List.range i).filter g).map val).length < sizeLine := by
      have := List.length_filter_le g (List.range i)
      rw [List.length_map]
      rw [List.length_range] at this
      exact small1000 (by omega)
    cases hg : g i with
    | true =>
      refine iteT (he i H3 _ hlt hg (s1.trans s3) fun H4 s4 => ⟨s4 _ _ (s3 _ _ h1), hl, n - (i + 1), by omega, rfl, hlt, ?_, upd_same, same_upd hacc ((s1.trans s3).trans s4) _⟩)
      rw [List.range_succ, List.filter_append, List.map_append]
      simp [hg]
    | false =>
      refine iteF ⟨n - (i + 1), by omega, rfl, hlt, ?_, s3 _ _ h1, s1.trans s3⟩
      rw [List.range_succ, List.filter_append, List.map_append]
      simp [hg]
  · have e : i = n := by omega
    subst e
    exact .inl ⟨Nat.le_refl _, hd acc H' hacc s1 h1⟩
end BK
end
section
set_option Elab.async false
set_option linter.all false
set_option maxRecDepth 100000
/-! range with a step, list(range(..)), list.count, min of a list -/
namespace L2
open PySem PySem.Spec PySem.Calls PyProof.Rows

/-- lo, lo + st, .. (n of them) -/
def Its (lo st : Int) (n : Nat) : It := ⟨fun i _ => i < n, fun i H x H' => H' = H ∧ x = .int (lo + i * st), fun i _ => n ≤ i⟩
section
variable {X : Cx} {tg : Expr}
/-- range(i, j, c) -/
def iRng3 (ta : TA) : TI := fun σ H R => ta σ H fun vs H1 => ∃ (i j c : Int) (n : Nat), vs = [.int i, .int j, .int c] ∧ c ≠ 0 ∧ c.natAbs < 1073741824 ∧ Builtin.Range.small i j c = true ∧ Builtin.Range.rangeSize i j c = n ∧ R (Its i c n) H1
/-! ### list(range(i, j)) -/
def tRngL (ta : TA) : TE := fun σ H Q => ta σ H fun vs H1 => ∃ (i j : Int), vs = [.int i, .int j] ∧ (-(2 ^ 62) ≤ i ∧ i < 2 ^ 62 ∧ -(2 ^ 62) ≤ j ∧ j < 2 ^ 62) ∧ (j - i).toNat ≤ 2 ^ 24 ∧
  ∀ l, H1 l = none → Q (.ref l) (upd H1 l (.lst ((List.range (j - i).toNat).map fun (k : Nat) => V.int (i + k))))
/-! ### list.count, min of a list -/
def rCount : V → List V → Hp → VK → Prop := fun x vs H Q => ∃ (l : Addr) (xs : List V) (y : V), x = .ref l ∧ vs = [y] ∧ H l = some (.lst xs) ∧ flatV y = true ∧ xs.all flatV = true ∧ Q (.int (xs.countP fun z => eqV z y)) H
/-- min(l): a list of ints, not empty -/
def rMinL (K : PySem.W.Frag) (xs : List V) (H : Hp) (Q : VK) : Prop := ∃ (p : Addr) (ks : List Int) (k : Int), xs = [.ref p] ∧ SqL K H p (ks.map V.int) ∧ k ∈ ks ∧ (∀ j ∈ ks, k ≤ j) ∧ Q (.int k) H
end
end L2
end
section
set_option Elab.async false
set_option linter.all false
set_option maxRecDepth 100000
/-! for i, x in enumerate(l) -/
namespace L2
open PySem PySem.Spec PySem.Calls PyProof.Rows

section
variable {prog : Program} {w : World} {A : Around} {E : Value → Shared → Prop} {s : Shared}
theorem nextOf_endH {it l : Addr} {i : Nat} {items : Array Value} {Q : Value → Shared → Prop} (hh : HdAt A s.heap) (hit : s.heap.IsListIter it l i) (hl : s.heap.IsList l items) (hx : items[i]? = none)
    (hE : ∀ h' e, Heap.ExtBut it s.heap h' → (∃ o, h'.get? e = some o ∧ o.cls = .type "StopIteration") → E (.ref e) { s with heap := h' }) :
    wpAny (model prog w) A (Builtin.SmallTypes.nextOf (.ref it)) Q E s := by
  obtain ⟨o, ho, hc, hd⟩ := id hit
  obtain ⟨ol, hol, _, nl, hdl⟩ := hl
  unfold Builtin.SmallTypes.nextOf
  refine wpAny_bind (wpAny_callSpecial?_slot (name := Str.ofString "__next__") hit.typeIs slot_listiter_next
    (wpAny_call_entry slot_listiter_next hit.typeIs entry_listiter_next ?_ (args_listiter_next _)))
  show wpAny _ _ (field (.ref it) 0 >>= _) _ _ s
  refine wpAny_bind (wpAny_field ho hd (x := .ref l) rfl ?_)
  show wpAny _ _ (if (Value.ref l == Value.none) = true then _ else _) _ _ s
  rw [if_neg (show ¬ ((Value.ref l == Value.none) = true) from Bool.false_ne_true)]
  show wpAny _ _ (field (.ref it) 1 >>= _) _ _ s
  refine wpAny_bind (wpAny_field ho hd (x := .int i 0) rfl ?_)
  show wpAny _ _ (seqItems? (.ref l) >>= _) _ _ s
  refine wpAny_bind (wpAny_seqItems hol hdl ?_)
  simp only [Int.toNat_natCast, hx]
  refine wpAny_bind (wpAny_rule (wpAny_bind (wpAny_setField ho hd (by simp) ?_)))
  show wpAny _ _ (newExc (.type "StopIteration") [] >>= _) _ _ _
  refine wpAny_bind ?_
  simp only [newExc, newTuple]
  refine wpAny_bind (wpAny_newObj_type ?_ (by size_fits))
  refine wpAny_bind (m := firstArgMember _ _) (wpAny_of_eq (a := Value.none) (by first | rfl | (simp only [firstArgMember]; rfl)) ?_)
  refine wpAny_newObj_type ?_ (by size_fits)
  refine raiseNew_hd (HdAt.two (A := A.in1) (it := it) hh (fun b o' hb e => (Heap.SameBut.update ..).extBut b o' hb e) (fun oe vs e e2 => by rw [ho] at e; cases e; rw [hd] at e2; cases e2; exact ⟨by simp, by simp⟩)) (Heap.get?_push_size _ rfl) rfl (by simp; omega) fun h' sb ⟨o', _, ho', hc', _⟩ => ?_
  refine hE _ _ (fun b ob hb e => (sb.2 b ?_).trans (((Heap.SameBut.update ..).extBut.push _).push _ b ob hb e)) ⟨o', ho', hc'⟩
  exact Nat.ne_of_lt (Nat.lt_of_lt_of_le (Heap.lt_size e) (by rw [Heap.size_push, Heap.size_after_update]; exact Nat.le_succ _))
end

/-- (0, x0), (1, x1), ..: each a new tuple -/
def Ite (K : PySem.W.Frag) (a : Addr) : It :=
  ⟨fun i H => ∃ xs x, SqL K H a xs ∧ xs[i]? = some x, fun i H x H' => ∃ p y, x = .ref p ∧ H p = none ∧ H' = upd H p (.tup [.int i, y]) ∧ ∀ xs, SqL K H a xs → xs[i]? = some y, fun i H => ∃ xs, SqL K H a xs ∧ xs.length ≤ i⟩
section
variable {X : Cx} {elts : List Expr} {pos : Pos}
def iEnum (K : PySem.W.Frag) (ta : TA) : TI := fun σ H R => ta σ H fun vs H1 => ∃ a, vs = [.ref a] ∧ (∃ xs, SqL K H1 a xs) ∧ R (Ite K a) H1
end
end L2
end
section
set_option Elab.async false
set_option linter.all false
set_option maxRecDepth 100000
/-! isinstance(x, (C, D)) -/
namespace L2
open PySem PySem.Spec PySem.Calls PyProof.Rows
section
variable {X : Cx} {pins : List (Addr × Obj)} {σ : St} {H : Hp} {s : Shared}
/-- isinstance(x, (C, D, ..)): classes of the text -/
def rIsinT (K : PySem.W.Frag) : List V → Hp → VK → Prop := fun xs H Q => ∃ (x : V) (p : Addr) (cs : List Addr) (t : Value) (b : Bool), xs = [x, .ref p] ∧ H p = some (.tup (cs.map V.ref)) ∧ TyOf K H x t ∧ PySem.W.kitAny K t (cs.map Value.ref) = some b ∧ Q (.bl b) H
end
end L2
end
section

set_option Elab.async false
set_option linter.all false
set_option maxRecDepth 100000
set_option maxHeartbeats 4000000
/-! texts: walked, cut, searched; sum; a call of what an expression tells -/
namespace L2
open PySem PySem.Spec PySem.Calls PyProof.Rows

section
variable {prog : Program} {w : World} {A : Around} {E : Value → Shared → Prop} {s : Shared}
theorem nextOf_ascii_endH {it : Addr} {x : Str} {t : Tok} {i : Nat} {Q : Value → Shared → Prop} (hh : HdAt A s.heap) (hit : s.heap.IsStrIter it "str_ascii_iterator" x t i) (hx : x.cps[i]? = none)
    (hE : ∀ h' e, Heap.ExtBut it s.heap h' → (∃ o, h'.get? e = some o ∧ o.cls = .type "StopIteration") → E (.ref e) { s with heap := h' }) :
    wpAny (model prog w) A (Builtin.SmallTypes.nextOf (.ref it)) Q E s := by
  obtain ⟨o, ho, hc, hd⟩ := id hit
  unfold Builtin.SmallTypes.nextOf
  refine wpAny_bind (wpAny_callSpecial?_slot (name := Str.ofString "__next__") hit.typeIs F.slot_str_ascii_iterator_next
    (wpAny_call_entry F.slot_str_ascii_iterator_next hit.typeIs F.entry_str_ascii_iterator_next ?_ (F.args_str_ascii_iterator_next_1 _)))
  show wpAny _ _ (field (.ref it) 0 >>= _) _ _ s
  refine wpAny_bind (wpAny_field ho hd (x := .str x t) rfl ?_)
  show wpAny _ _ (field (.ref it) 1 >>= _) _ _ s
  refine wpAny_bind (wpAny_field ho hd (x := .int i 0) rfl ?_)
  simp only [Int.toNat_natCast, hx]
  refine wpAny_bind (wpAny_rule (wpAny_bind (wpAny_setField ho hd (by simp) (wpAny_bind (wpAny_letGo ?_)))))
  show wpAny _ _ (newExc (.type "StopIteration") [] >>= _) _ _ _
  refine wpAny_bind ?_
  simp only [newExc, newTuple]
  refine wpAny_bind (wpAny_newObj_type ?_ (by size_fits))
  refine wpAny_bind (m := firstArgMember _ _) (wpAny_of_eq (a := Value.none) (by first | rfl | (simp only [firstArgMember]; rfl)) ?_)
  refine wpAny_newObj_type ?_ (by size_fits)
  refine raiseNew_hd (HdAt.two (A := A.in1) (it := it) hh (fun b o' hb e => (Heap.SameBut.update ..).extBut b o' hb e) (fun oe vs e e2 => by rw [ho] at e; cases e; rw [hd] at e2; cases e2; exact ⟨by simp, by simp⟩)) (Heap.get?_push_size _ rfl) rfl (by simp; omega) fun h' sb ⟨o', _, ho', hc', _⟩ => ?_
  refine hE _ _ (fun b ob hb e => (sb.2 b ?_).trans (((Heap.SameBut.update ..).extBut.push _).push _ b ob hb e)) ⟨o', ho', hc'⟩
  exact Nat.ne_of_lt (Nat.lt_of_lt_of_le (Heap.lt_size e) (by rw [Heap.size_push, Heap.size_after_update]; exact Nat.le_succ _))
end

/-- the signs of a text, each a text -/
def Itx (z : Str) : It := ⟨fun i _ => i < z.cps.size, fun i H x H' => H' = H ∧ ∃ c, z.cps[i]? = some c ∧ x = .str ⟨#[c]⟩, fun i _ => z.cps.size ≤ i⟩
section
variable {X : Cx} {tg : Expr}
def iText (tl : TE) : TI := fun σ H R => tl σ H fun v H1 => ∃ z : Str, v = .str z ∧ z.cps.all (· < 128) = true ∧ R (Itx z) H1
/-! x[lo:hi] of a text -/
def rSlS : V → Option Int → Option Int → Hp → VK → Prop := fun x lo hi H Q => ∃ z : Str, x = .str z ∧ z.length ≤ sizeLine ∧ Q (.str (Txt.slice z lo hi)) H
/-! find, index -/
def rFind : V → List V → Hp → VK → Prop := fun x vs H Q => ∃ z y : Str, x = .str z ∧ vs = [.str y] ∧ Q (.int (Txt.find z y)) H
def rIndexS : V → List V → Hp → VK → Prop := fun x vs H Q => ∃ (z y : Str) (i : Nat) (r : List Nat), x = .str z ∧ vs = [.str y] ∧ Builtin.Str.occurrences z y 0 z.length 1 = i :: r ∧ Q (.int i) H
/-! sum(l) of ints -/
def rSum (K : PySem.W.Frag) (xs : List V) (H : Hp) (Q : VK) : Prop := ∃ (p : Addr) (ks : List Int), xs = [.ref p] ∧ SqL K H p (ks.map V.int) ∧ Q (.int ks.sum) H
end
/-! a call of what an expression tells: one of two defs -/
section
variable {X : Cx} {CX : CXT} {k1 k2 : Nat} {f1 f2 : Addr} {fd1 fd2 : FuncData} {ps1 ps2 : List Str} {sp1 sp2 : Sp} {E : XK} {fe e : Expr} {es : List Expr} {te : TE} {t : TA} {pos : Pos}
end
end L2
end
section
set_option Elab.async false
set_option linter.all false
set_option maxRecDepth 100000
set_option maxHeartbeats 4000000
/-! comprehensions with two names; zip -/
namespace L2
open PySem PySem.Spec PySem.Calls PyProof.Rows

/-- the context of a comprehension's block: x its own name, fj the names from around with their slots there -/
def blk2 (X : Cx) (sc : Scope) (cl : List (Str × Addr)) (fj : List (Str × Nat)) (x y : Str) (s₃ : Shared) (H₃ : Hp) (ex : List Addr) : Cx where
  prog := X.prog
  w := X.w
  K := X.K
  mg := X.mg
  base := X.base
  A := X.A
  N := x :: y :: fj.map (·.1)
  s₀ := s₃
  H₀ := H₃
  env := compEnvC sc cl s₃.heap.objs.size X.env
  outer := X.stack
  stack := X.stack
  ex := ex
  fn := fun _ => false
  calm := X.calm
  pn := []
  tr := []
  fx := []
  xe := fun _ _ => False
/-- what the text must have -/
structure LcOk2 (X : Cx) (sc : Scope) (cl : List (Str × Addr)) (fj : List (Str × Nat)) (x y : Str) : Prop where
  clos : closureFor sc X.env = pure cl
  cell : ∀ y ∈ sc.names, y.2 ≠ .cell
  kind : sc.kind = .function
  names : ∀ y ∈ sc.names, y.2 = .local → sc.names.lookup y.1 = some .local
  hx : sc.names.lookup x = some .local
  hy : sc.names.lookup y = some .local
  sub : ∀ p ∈ cl, X.env.cells.lookup p.1 = some p.2
  has : ∀ y ∈ sc.names, y.2 = .free → (cl.lookup y.1).isSome = true
  fr : ∀ p ∈ fj, X.N[p.2]? = some p.1 ∧ sc.names.lookup p.1 = some .free ∧ (X.env.scope.names.lookup p.1 = some .cell ∨ X.env.scope.names.lookup p.1 = some .free)
  nd : (x :: y :: fj.map (·.1)).Nodup
section
variable {X : Cx} {sc : Scope} {cl : List (Str × Addr)} {fj : List (Str × Nat)} {x y : Str} {pins : List (Addr × Obj)} {σ : St} {H : Hp} {s₃ : Shared} {ex : List Addr}
theorem LcOk2.sub' (O : LcOk2 X sc cl fj x y) {n : Str} {c : Addr} (h : cl.lookup n = some c) : X.env.cells.lookup n = some c := O.sub (n, c) (mem_of_lookup h)
theorem blk2_ok (O : LcOk2 X sc cl fj x y) (I : Inv X pins σ H s₃) (hx : ∀ b ∈ ex, FpOk X pins H b) (hb : ∀ b ∈ ex, ∃ o, s₃.heap.get? b = some o) : (blk2 X sc cl fj x y s₃ H ex).Ok where
  mod := I.ok.mod
  kind := O.kind
  glob := I.ok.glob
  blt := I.ok.blt
  above := Nat.le_refl _
  inj := fun a b c h1 h2 => I.ok.inj a b c (O.sub' h1) (O.sub' h2)
  has := fun y h => by
    have h' : ∃ k, ((relabel sc X.env).names).lookup y = some k ∧ (k = .cell ∨ k = .free) := by
      rcases h with h | h
      · exact ⟨_, h, .inl rfl⟩
      · exact ⟨_, h, .inr rfl⟩
    obtain ⟨k, h1, h2⟩ := h'
    obtain ⟨k0, m, z⟩ := relabel_in h1 h2
    have z' : k0 = .free := z.resolve_left (O.cell _ m)
    subst z'
    have q := O.has _ m rfl
    cases e : cl.lookup y with
    | none => rw [show cl.lookup (y, NameKind.free).1 = cl.lookup y from rfl, e] at q; cases q
    | some c => exact ⟨c, e⟩
  cab := fun _ _ h => by cases h
  hd := by
    rcases I.hdE with z | ⟨e, c, z1, z2⟩
    · exact .inl z
    · exact .inr ⟨e, c, z1, .inl z2⟩
  frames := I.ok.frames
  stk := .inl rfl
  exf := fun b h => by
    obtain ⟨o, e⟩ := hb b h
    obtain ⟨_, _, _, _, h4, _⟩ := hx b h
    exact ⟨Nat.ne_of_lt (Heap.lt_size e), fun y c hc => h4 y c (O.sub' hc)⟩
  bs := fun b o e => I.bs b o e
  bsz := Nat.le_trans I.ok.bsz I.sz
  noex := fun b o e h => by
    obtain ⟨_, _, _, h3, _, _⟩ := hx b h
    rcases h3 with z | z
    · exact I.ok.noex b o e z
    · exact absurd (Nat.lt_of_lt_of_le (Heap.lt_size (I.ok.bs b o e).1) z) (Nat.lt_irrefl _)
  exfs := fun b h z => by
    obtain ⟨_, h1, h2, _, _, _⟩ := hx b h
    exact (List.mem_cons.mp (I.stkSub b z)).elim h1 h2
  funs := I.stack
  frf := I.stkFree
theorem blk2_inv (O : LcOk2 X sc cl fj x y) (I : Inv X pins σ H s₃) (hx : ∀ b ∈ ex, FpOk X pins H b) (hb : ∀ b ∈ ex, ∃ o, s₃.heap.get? b = some o) {h₁ : Heap} {m₀ : Str → Option Value} {t : Nat}
    (hns : h₁.Ns s₃.heap.objs.size m₀) (hk : ∀ b o, s₃.heap.get? b = some o → h₁.get? b = some o) : Inv (blk2 X sc cl fj x y s₃ H ex) [] (none :: none :: frees σ fj) H { s₃ with heap := h₁, toks := t } where
  ok := blk2_ok O I hx hb
  os := rfl
  bare := I.bare
  base := Un.kept hk
  loc := by
    refine ⟨m₀, hns, fun i y' v e1 e2 _ => ?_⟩
    cases i with
    | zero => simp at e2
    | succ i =>
     cases i with
     | zero => simp at e2
     | succ i =>
      have e1' : (fj.map (·.1))[i]? = some y' := by
        have e : (x :: y :: fj.map (·.1))[i + 1 + 1]? = some y' := e1
        rw [List.getElem?_cons_succ, List.getElem?_cons_succ] at e
        exact e
      have e2' : (frees σ fj)[i]? = some (some v) := by simpa using e2
      rw [List.getElem?_map] at e1'
      cases hp : fj[i]? with
      | none => rw [hp] at e1'; cases e1'
      | some p =>
        rw [hp] at e1'
        have ey : p.1 = y' := Option.some.inj e1'
        subst ey
        unfold frees at e2'
        rw [List.getElem?_map, hp] at e2'
        have e3 : (σ[p.2]?).join = some v := Option.some.inj e2'
        have e4 : σ[p.2]? = some (some v) := by
          cases q : σ[p.2]? with
          | none => rw [q] at e3; cases e3
          | some w => rw [q] at e3; cases w with
            | none => cases e3
            | some w => cases e3; rfl
        obtain ⟨f1, f2, f3⟩ := O.fr p (List.mem_of_getElem? hp)
        obtain ⟨m, hn, hl⟩ := I.loc
        obtain ⟨u, r, l⟩ := hl p.2 p.1 v f1 e4 (.inr f3)
        refine ⟨u, r, ?_⟩
        rcases l with ⟨k, _⟩ | ⟨k, c, e, z⟩
        · exfalso
          have k' : X.env.scope.names.lookup p.1 = some .local := k
          rcases f3 with f3 | f3 <;> rw [f3] at k' <;> cases k'
        · have q := O.has _ (mem_of_lookup f2) rfl
          cases ec : cl.lookup p.1 with
          | none => rw [show cl.lookup (p.1, NameKind.free).1 = cl.lookup p.1 from rfl, ec] at q; cases q
          | some c' =>
            have e' := O.sub' ec
            rw [e] at e'
            cases e'
            exact .inr ⟨relabel_free f2, c, ec, z.keeps hk⟩
  cell := fun y c e => let ⟨v, z⟩ := I.cell y c (O.sub' e); ⟨v, z.keeps hk⟩
  free := I.hok.fresh (Nat.le_refl _)
  freeC := fun y c e => I.freeC y c (O.sub' e)
  pin := fun p hp => by cases hp
  hok := I.hok.kept hk
  len := by
    show (none :: none :: frees σ fj).length = (x :: y :: fj.map (·.1)).length
    simp [frees]
  tr := fun p hp => by cases hp
  fix := fun p hp => by cases hp
end

/-! ### [e for x in it if c] -/
/-- W: by the turn, a measure, the list so far and the heap -/
def tLc2 (g : TG) (wi : TI) (fj : List (Str × Nat)) (tc : TT) (te : TE) : TE := fun σ H Q => wi σ H fun J H1 => ∀ acc, H1 acc = none →
  ∃ W : Nat → Nat → List V → Hp → Prop, (∃ m, W 0 m [] (upd H1 acc (.lst []))) ∧ ∀ i m ys H, W i m ys H →
    (J.stop i H ∧ Q (.ref acc) H) ∨ (J.go i H ∧ ∀ x H', J.yld i H x H' → ∀ o1 o2, g x (o1 :: o2 :: frees σ fj) H' fun σ2 H4 => ∃ a b, σ2 = some a :: some b :: frees σ fj ∧ tc σ2 H4 fun b H2 =>
      if b = true then te σ2 H2 fun v H3 => H3 acc = some (.lst ys) ∧ ys.length < sizeLine ∧ ∃ m', m' < m ∧ W (i + 1) m' (ys ++ [v]) (upd H3 acc (.lst (ys ++ [v])))
      else ∃ m', m' < m ∧ W (i + 1) m' ys H2)
section
variable {X : Cx} {sc : Scope} {cl : List (Str × Addr)} {fj : List (Str × Nat)} {x y : Str} {px py pt pos : Pos} {kt : Nat} {elt iter : Expr} {ifs : List Expr} {wi : TI} {tc : TT} {te : TE}
theorem lc_core2 (O : LcOk2 X sc cl fj x y) (hc : X.calm = true) (hA : X.A.handled = none) (hi : PI X (.Tuple [.Name x px, .Name y py] kt pt) iter wi)
    (hf : ∀ s₃ H₃ ex, PF (blk2 X sc cl fj x y s₃ H₃ ex) ifs tc) (he : ∀ s₃ H₃ ex, PE (blk2 X sc cl fj x y s₃ H₃ ex) elt te)
    {pins : List (Addr × Obj)} {s : Shared} {σ : St} {H : Hp} {Q : VK} (I : Inv X pins σ H s) (h : tLc2 (gTup X.K 2 (gCons (gName 0) (gCons (gName 1) gNil))) wi fj tc te σ H Q) {RR : Value → Addr → Result → Shared → Prop}
    (hRR : ∀ a C s' H' m, Inv X pins σ H' s' → Q (.ref a) H' → s'.heap.Ns C m → H' C = none → C ≠ X.env.locals → X.s₀.heap.objs.size ≤ C →
      (∀ y c, X.env.cells.lookup y = some c → c ≠ C) → (∀ p ∈ X.pn ++ pins, p.1 ≠ C) → RR (.ref a) C (.ok .next) s') :
    wpAny (model X.prog X.w) X.A (eval iter X.env) (fun xv s₁ => wpAny (model X.prog X.w) X.A (pyIter xv) (fun it s₂ => wpAny (model X.prog X.w) X.A (newList []) (fun acc s₃ =>
      wpAny (model X.prog X.w) X.A (newFunctionEnv sc X.env.globals cl [] X.env.qual none .none (some X.env)) (fun cenv s₄ =>
        codeAny (model X.prog X.w) X.A (.compStart (.ListComp elt [⟨.Tuple [.Name x px, .Name y py] kt pt, iter, ifs, 0⟩] sc pos) 0 it acc { cenv with scope := relabel sc X.env }) (RR acc cenv.locals) s₄) X.xe s₃) X.xe s₂) X.xe s₁) X.xe s := by
  refine thn (hi pins s σ H _ I h) fun v s1 h1 => thn h1 fun itv s2 h2 => ?_
  obtain ⟨it, fp, tn, J, H2, e, I2, T, st2, f2, hW⟩ := h2
  subst e
  have hacc : H2 s2.heap.objs.size = none := I2.hok.fresh (Nat.le_refl _)
  obtain ⟨W, ⟨m0, w0⟩, turn⟩ := hW _ hacc
  have I3 : Inv X pins σ (upd H2 s2.heap.objs.size (.lst [])) { s2 with heap := s2.heap.push { cls := .type "list", data := .seq ([] : List Value).toArray } } := I2.lnew (t' := s2.toks) (ys := []) (its := []) .nil (Nat.zero_le _)
  have old3 : ∀ b o, s2.heap.get? b = some o → (s2.heap.push { cls := .type "list", data := .seq ([] : List Value).toArray }).get? b = some o := fun b o q => Heap.get?_push_of_some _ q
  have st3 := T.keep _ _ _ st2 fun b _ o q => old3 b o q
  have ob3 := T.obj _ _ st3
  have ob2 := T.obj _ _ st2
  have f3 : ∀ b ∈ fp, FpOk X pins (upd H2 s2.heap.objs.size (.lst [])) b := fun b hb => by
    obtain ⟨o, q, _⟩ := ob2 b hb
    obtain ⟨g0, g⟩ := f2 b hb
    exact ⟨by rw [upd_ne (Nat.ne_of_lt (Heap.lt_size q))]; exact g0, g⟩
  refine wpAny_newObj_type ?_
  generalize hS3 : ({ s2 with heap := s2.heap.push { cls := .type "list", data := .seq ([] : List Value).toArray } } : Shared) = s3 at I3 ⊢
  have st3' : tn 0 s3.heap := by rw [← hS3]; exact st3
  have ob3' : ∀ b ∈ fp, ∃ o, s3.heap.get? b = some o ∧ ∀ v, o.data ≠ .cell v := by rw [← hS3]; exact ob3
  generalize hH3 : upd H2 s2.heap.objs.size (.lst []) = H3 at I3 w0 f3
  generalize hac : s2.heap.objs.size = ac at turn ⊢
  clear hS3 st3 ob3 old3
  refine wpAny_newFunctionEnv O.cell (by intro y hy; cases hy) (fun h₁ hns₁ hsb₁ => ?_) O.kind
  have hk1 : ∀ b o, s3.heap.get? b = some o → h₁.get? b = some o := fun b o q => (hsb₁.2 b (Nat.ne_of_lt (Heap.lt_size q))).trans (Heap.get?_push_of_some _ q)
  have B := blk2_inv (t := s3.toks + ([] : List (Str × Value)).length) O I3 f3 (fun b hb => let ⟨o, q, _⟩ := ob3' b hb; ⟨o, q⟩) hns₁ hk1
  generalize hX : blk2 X sc cl fj x y s3 H3 fp = X' at B
  have hPF := hf s3 H3 fp
  have hPE := he s3 H3 fp
  rw [hX] at hPF hPE
  have eA : X'.A = X.A := by rw [← hX]; rfl
  have eP : X'.prog = X.prog := by rw [← hX]; rfl
  have eW : X'.w = X.w := by rw [← hX]; rfl
  have eK : X'.K = X.K := by rw [← hX]; rfl
  have eC : X'.calm = true := by rw [← hX]; exact hc
  have eE : X'.env = compEnvC sc cl s3.heap.objs.size X.env := by rw [← hX]; rfl
  have eX : X'.xe = fun _ _ => False := by rw [← hX]; rfl
  have eex : X'.ex = fp := by rw [← hX]; rfl
  have epn : X'.pn = [] := by rw [← hX]; rfl
  have eO : X'.outer = X.stack := by rw [← hX]; rfl
  have eS : X'.s₀ = s3 := by rw [← hX]; rfl
  have eH : X'.H₀ = H3 := by rw [← hX]; rfl
  have eN : X'.N = x :: y :: fj.map (·.1) := by rw [← hX]; rfl
  have eF : X'.fx = [] := by rw [← hX]; rfl
  have stat : ∀ {H' : Hp}, (∀ b ∈ fp, H' b = none) → ∀ b ∈ fp, FpOk X' [] H' b := fun {H'} hn b hb => by
    obtain ⟨o, q, _⟩ := ob3' b hb
    obtain ⟨_, g1, g2, g3, g4, g5⟩ := f3 b hb
    refine ⟨hn b hb, ?_, ?_, .inl (by rw [eex]; exact hb), ?_, ?_⟩
    · rw [eE]; exact Nat.ne_of_lt (Heap.lt_size q)
    · show b ∉ frs X'.outer
      rw [eO]
      exact fun z => (List.mem_cons.mp (I3.stkSub b z)).elim g1 g2
    · rw [eE]; exact fun y c hc' => g4 y c (O.sub' hc')
    · rw [epn]; intro p hp; cases hp
  have loop : codeAny (model X.prog X.w) X.A (.compLoop (.ListComp elt [⟨.Tuple [.Name x px, .Name y py] kt pt, iter, ifs, 0⟩] sc pos) 0 (.ref it) (.ref ac) (compEnvC sc cl s3.heap.objs.size X.env)) (RR (.ref ac) s3.heap.objs.size)
      { s3 with heap := h₁, toks := s3.toks + ([] : List (Str × Value)).length } := by
    refine compLoop_go (fun n s' => ∃ i o o' ys H', Inv X' [] (o :: o' :: frees σ fj) H' s' ∧ tn i s'.heap ∧ (∀ b ∈ fp, H' b = none) ∧ W i n ys H') ?_ m0
      ⟨0, none, none, [], H3, B, T.keep _ _ _ st3' fun b _ o q => hk1 b o q, fun b hb => (f3 b hb).1, w0⟩
    rintro n s4 ⟨i, o4, o4', ys, H4, J4, st4, fr4, w4⟩
    rw [← eE, ← eP, ← eW, ← eA]
    rcases turn i n ys H4 w4 with ⟨stop, q⟩ | ⟨go, step⟩
    · have T' : Turn X'.prog X'.w X'.K (.Tuple [.Name x px, .Name y py] kt pt) J fp it tn := by rw [eP, eW, eK]; exact T
      refine thn (T'.done X' rfl rfl rfl eC i [] s4 _ H4 _ J4 (stat fr4) st4 stop) fun r s5 ⟨hr, J5⟩ => ?_
      subst hr
      have hb5 := J5.base
      rw [eS, eH, eex, show X'.fs = frs X.stack by show frs X'.outer = _; rw [eO]] at hb5
      have ho5 := J5.os
      rw [eS] at ho5
      have hk5 := J5.hok
      rw [eP, eW] at hk5
      have I5 : Inv X pins σ H4 s5 := I3.call' (ch := fp) ho5 hb5 hk5 J5.bare fun b hb => by
        obtain ⟨_, g1, g2, g3, g4, g5⟩ := f3 b hb
        exact ⟨g3, g1, g4, g5⟩
      obtain ⟨m5, n5, _⟩ := J5.loc
      have fr5 := J5.free
      rw [eE] at n5 fr5
      refine hRR ac s3.heap.objs.size s5 H4 m5 I5 q n5 fr5 (Ne.symm (Nat.ne_of_lt I3.lt)) I3.sz (fun y c hc' => ?_) fun p hp => ?_
      · obtain ⟨_, oc, q', _⟩ := I3.cell y c hc'
        exact Nat.ne_of_lt (Heap.lt_size q')
      · exact Nat.ne_of_lt (Heap.lt_size (I3.pin p hp).1)
    · have T' : Turn X'.prog X'.w X'.K (.Tuple [.Name x px, .Name y py] kt pt) J fp it tn := by rw [eP, eW, eK]; exact T
      refine thn (T'.item X' rfl rfl rfl eC i [] s4 _ H4 _ J4 (stat fr4) st4 go) fun r s5 ⟨u, hr, h5⟩ => ?_
      subst hr
      refine thn h5 fun _ s6 ⟨xv, H6, J6, r6, y6, st6, fr6⟩ => ?_
      have J6' := J6.pinned (stat fr6) (T.obj _ _ st6)
      have lx : X'.env.scope.names.lookup x = some .local := by rw [eE]; exact lookup_relabel_local O.hx
      have ly : X'.env.scope.names.lookup y = some .local := by rw [eE]; exact lookup_relabel_local O.hy
      have hA' : X'.A.handled = none := by rw [eA]; exact hA
      have pg0 : PG X' (.Name x px) (gName 0) := pg_name (by rw [eN]; exact O.nd) (by rw [eN]; rfl) (.inl lx) (.inr lx) (by rw [eF]; intro p hp; cases hp)
      have pg1 : PG X' (.Name y py) (gName 1) := pg_name (by rw [eN]; exact O.nd) (by rw [eN]; rfl) (.inl ly) (.inr ly) (by rw [eF]; intro p hp; cases hp)
      have pg : PG X' (.Tuple [.Name x px, .Name y py] kt pt) (gTup X.K 2 (gCons (gName 0) (gCons (gName 1) gNil))) := by
        rw [← eK]
        exact pg_tup hA' (pgs_cons pg0 (pgs_cons pg1 pgs_nil))
      have q6 := step xv H6 y6 o4 o4'
      refine wpAny_mono (pg _ s6 _ H6 xv u _ J6' r6 q6) (fun _ s7 ⟨σ7, H7, J7, av, bv, e7, q7⟩ => ?_) (by rw [eX]; exact fun _ _ f => f)
      subst e7
      refine wpAny_mono (hPF _ s7 _ H7 _ J7 q7) (fun b s8 ⟨H8, J8, q8⟩ => ?_) (by rw [eX]; exact fun _ _ f => f)
      have back : ∀ {H9 : Hp} {s9 : Shared} {o9 o9' : Option V}, Inv X' ([] ++ pinsAt fp s6.heap) (o9 :: o9' :: frees σ fj) H9 s9 → Inv X' [] (o9 :: o9' :: frees σ fj) H9 s9 ∧ tn (i + 1) s9.heap ∧ ∀ b ∈ fp, H9 b = none := fun {H9 s9 o9 o9'} J9 => by
        refine ⟨J9.unpinned, T.keep _ _ _ st6 fun b hb o q => (J9.pin (b, o) (List.mem_append_right _ (List.mem_append_right _ (mem_pinsAt hb q)))).1, fun b hb => ?_⟩
        obtain ⟨o, q, d⟩ := T.obj _ _ st6 b hb
        exact (J9.pin (b, o) (List.mem_append_right _ (List.mem_append_right _ (mem_pinsAt hb q)))).2.1
      cases b with
      | false =>
        obtain ⟨m', hm, w8⟩ : ∃ m', m' < n ∧ W (i + 1) m' ys H8 := q8
        obtain ⟨b1, b2, b3⟩ := back J8
        exact ⟨m', hm, i + 1, some av, some bv, ys, H8, b1, b2, b3, w8⟩
      | true =>
        refine wpAny_mono (hPE _ s8 _ H8 _ J8 q8) (fun uv s9 ⟨v9, H9, J9, r9, ha9, hl9, m', hm, w9⟩ => ?_) (by rw [eX]; exact fun _ _ f => f)
        refine wpAny_mono (mt_append (X := X') _ s9 _ H9 (.ref ac) [v9] (.ref ac) [uv] (fun _ H' => H' = upd H9 ac (.lst (ys ++ [v9]))) J9 rfl (.cons r9 .nil) ⟨ac, ys, v9, rfl, rfl, ha9, hl9, rfl⟩)
          (fun _ s10 ⟨_, H10, J10, _, e10⟩ => ?_) (by rw [eX]; exact fun _ _ f => f)
        subst e10
        obtain ⟨b1, b2, b3⟩ := back J10
        exact ⟨m', hm, i + 1, some av, some bv, ys ++ [v9], _, b1, b2, b3, w9⟩
  exact codeAny_compStart_list loop (T.self _ 0 _ _ _ (T.keep _ _ _ st3' fun b _ o q => hk1 b o q) loop)
theorem pe_lc2 (O : LcOk2 X sc cl fj x y) (hc : X.calm = true) (hA : X.A.handled = none) (hi : PI X (.Tuple [.Name x px, .Name y py] kt pt) iter wi)
    (hf : ∀ s₃ H₃ ex, PF (blk2 X sc cl fj x y s₃ H₃ ex) ifs tc) (he : ∀ s₃ H₃ ex, PE (blk2 X sc cl fj x y s₃ H₃ ex) elt te)
    (hs : ∀ x, foldedSetIterable iter X.env x = pure x := by intro _; rfl) : PE X (.ListComp elt [⟨.Tuple [.Name x px, .Name y py] kt pt, iter, ifs, 0⟩] sc pos) (tLc2 (gTup X.K 2 (gCons (gName 0) (gCons (gName 1) gNil))) wi fj tc te) := by
  intro pins s σ H Q I h
  rw [eval_ListComp]
  refine wpAny_comprehension_free (use := none) rfl hs O.clos O.kind O.names (lc_core2 O hc hA hi hf he I h (RR := fun acc C => compPost (model X.prog X.w) X.A X.xe none (EP X pins σ Q) acc C) ?_)
  intro a C s' H' m I' q hn hC hL hz h2 h3
  exact ⟨m, hn, fun h' hs' => ⟨.ref a, H', I'.turned (t' := s'.toks) (fun b o hb e => (hs'.2 b hb).trans e) hC hL (.inr hz) h2 h3, rfl, q⟩⟩
end
end L2
end
section
set_option Elab.async false
set_option linter.all false
set_option maxRecDepth 100000
set_option maxHeartbeats 4000000
/-! zip of two: lists, tuples, texts -/
namespace L2
open PySem PySem.Spec PySem.Calls PyProof.Rows

section
variable {prog : Program} {w : World} {A : Around} {E : Value → Shared → Prop} {s : Shared}
theorem nextOf_tuple_item {it t : Addr} {i : Nat} {items : Array Value} {x : Value} {Q : Value → Shared → Prop} (hit : s.heap.IsTupleIter it t i)
    (ht : s.heap.IsTuple t items) (hx : items[i]? = some x)
    (hQ : ∀ h', h'.IsTupleIter it t (i + 1) → Heap.SameBut it s.heap h' → Q x { s with heap := h' }) :
    wpAny (model prog w) A (Builtin.SmallTypes.nextOf (.ref it)) Q E s := by
  obtain ⟨o, ho, hc, hd⟩ := id hit
  obtain ⟨ol, hol, _, nl, hdl⟩ := ht
  unfold Builtin.SmallTypes.nextOf
  refine wpAny_bind (wpAny_callSpecial?_slot (name := Str.ofString "__next__") hit.typeIs F.slot_tuple_iterator_next
    (wpAny_call_entry F.slot_tuple_iterator_next hit.typeIs F.entry_tuple_iterator_next ?_ (F.args_tuple_iterator_next_1 _)))
  show wpAny _ _ (field (.ref it) 0 >>= _) _ _ s
  refine wpAny_bind (wpAny_field ho hd (x := .ref t) rfl ?_)
  show wpAny _ _ (if (Value.ref t == Value.none) = true then _ else _) _ _ s
  rw [if_neg (show ¬ ((Value.ref t == Value.none) = true) from Bool.false_ne_true)]
  show wpAny _ _ (field (.ref it) 1 >>= _) _ _ s
  refine wpAny_bind (wpAny_field ho hd (x := .int i 0) rfl ?_)
  show wpAny _ _ (seqItems? (.ref t) >>= _) _ _ s
  refine wpAny_bind (wpAny_seqItems hol hdl ?_)
  simp only [Int.toNat_natCast, hx]
  refine wpAny_bind (wpAny_setField ho hd (by simp) (wpAny_pure ⟨x, rfl, wpAny_pure (hQ _ ?_ (Heap.SameBut.update ..))⟩))
  exact ⟨_, Heap.get?_update_self _ ho (Obj.isFreed_of_fields (Obj.data_mapFields hd _)), (Obj.cls_mapFields ..).trans hc, by
    rw [Obj.data_mapFields hd]; simp [rawInt]⟩
theorem nextOf_tuple_endH {it t : Addr} {i : Nat} {items : Array Value} {Q : Value → Shared → Prop} (hh : HdAt A s.heap) (hit : s.heap.IsTupleIter it t i) (ht : s.heap.IsTuple t items) (hx : items[i]? = none)
    (hE : ∀ h' e, Heap.ExtBut it s.heap h' → (∃ o, h'.get? e = some o ∧ o.cls = .type "StopIteration") → E (.ref e) { s with heap := h' }) :
    wpAny (model prog w) A (Builtin.SmallTypes.nextOf (.ref it)) Q E s := by
  obtain ⟨o, ho, hc, hd⟩ := id hit
  obtain ⟨ol, hol, _, nl, hdl⟩ := ht
  unfold Builtin.SmallTypes.nextOf
  refine wpAny_bind (wpAny_callSpecial?_slot (name := Str.ofString "__next__") hit.typeIs F.slot_tuple_iterator_next
    (wpAny_call_entry F.slot_tuple_iterator_next hit.typeIs F.entry_tuple_iterator_next ?_ (F.args_tuple_iterator_next_1 _)))
  show wpAny _ _ (field (.ref it) 0 >>= _) _ _ s
  refine wpAny_bind (wpAny_field ho hd (x := .ref t) rfl ?_)
  show wpAny _ _ (if (Value.ref t == Value.none) = true then _ else _) _ _ s
  rw [if_neg (show ¬ ((Value.ref t == Value.none) = true) from Bool.false_ne_true)]
  show wpAny _ _ (field (.ref it) 1 >>= _) _ _ s
  refine wpAny_bind (wpAny_field ho hd (x := .int i 0) rfl ?_)
  show wpAny _ _ (seqItems? (.ref t) >>= _) _ _ s
  refine wpAny_bind (wpAny_seqItems hol hdl ?_)
  simp only [Int.toNat_natCast, hx]
  refine wpAny_bind (wpAny_rule (wpAny_bind (wpAny_setField ho hd (by simp) ?_)))
  show wpAny _ _ (newExc (.type "StopIteration") [] >>= _) _ _ _
  refine wpAny_bind ?_
  simp only [newExc, newTuple]
  refine wpAny_bind (wpAny_newObj_type ?_ (by size_fits))
  refine wpAny_bind (m := firstArgMember _ _) (wpAny_of_eq (a := Value.none) (by first | rfl | (simp only [firstArgMember]; rfl)) ?_)
  refine wpAny_newObj_type ?_ (by size_fits)
  refine raiseNew_hd (HdAt.two (A := A.in1) (it := it) hh (fun b o' hb e => (Heap.SameBut.update ..).extBut b o' hb e) (fun oe vs e e2 => by rw [ho] at e; cases e; rw [hd] at e2; cases e2; exact ⟨by simp, by simp⟩)) (Heap.get?_push_size _ rfl) rfl (by simp; omega) fun h' sb ⟨o', _, ho', hc', _⟩ => ?_
  refine hE _ _ (fun b ob hb e => (sb.2 b ?_).trans (((Heap.SameBut.update ..).extBut.push _).push _ b ob hb e)) ⟨o', ho', hc'⟩
  exact Nat.ne_of_lt (Nat.lt_of_lt_of_le (Heap.lt_size e) (by rw [Heap.size_push, Heap.size_after_update]; exact Nat.le_succ _))

structure ZAp (z TI TO i1 i2 : Addr) : Prop where
  TIz : TI ≠ z
  TOz : TO ≠ z
  i1z : i1 ≠ z
  i2z : i2 ≠ z
  TITO : TI ≠ TO
  TIi1 : TI ≠ i1
  TIi2 : TI ≠ i2
  TOi1 : TO ≠ i1
  TOi2 : TO ≠ i2
  i12 : i1 ≠ i2
/-- a draw of one source, from any heap in J -/
def DrawsU (prog : Program) (w : World) (A : Around) (s : Shared) (J : Heap → Prop) (i : Addr) (q p : Obj → Prop) (r : Value → Prop) : Prop :=
  ∀ (h : Heap) (t : Nat) (Q : Value → Shared → Prop) (E : Value → Shared → Prop), J h → (∃ o, h.get? i = some o ∧ q o) →
    (∀ u h' t', r u → (∃ o, h'.get? i = some o ∧ p o) → Heap.SameBut i h h' → Q u { s with heap := h', toks := t' }) → wpAny (model prog w) A (Builtin.SmallTypes.nextOf (.ref i)) Q E { s with heap := h, toks := t }
def EndsU (prog : Program) (w : World) (A : Around) (s : Shared) (J : Heap → Prop) (i : Addr) (q : Obj → Prop) : Prop :=
  ∀ (h : Heap) (t : Nat) (Q : Value → Shared → Prop) (E : Value → Shared → Prop), J h → (∃ o, h.get? i = some o ∧ q o) →
    (∀ h' e, Heap.ExtBut i h h' → (∃ o, h'.get? e = some o ∧ o.cls = .type "StopIteration") → E (.ref e) { s with heap := h', toks := t }) → wpAny (model prog w) A (Builtin.SmallTypes.nextOf (.ref i)) Q E { s with heap := h, toks := t }
theorem zip_itemG {z TI TO i1 i2 : Addr} {a b : Value} {J : Heap → Prop} {q1 q2 p1 p2 : Obj → Prop} {r1 r2 : Value → Prop} {Q : Value → Shared → Prop} (D : ZAp z TI TO i1 i2)
    (jk : ∀ c h h', (c = z ∨ c = TO ∨ c = i1 ∨ c = i2) → J h → Heap.ExtBut c h h' → J h') (j0 : J s.heap)
    (hz : IsZip s.heap z TI TO .none) (hTI : IsPair s.heap TI (.ref i1) (.ref i2)) (hTO : IsPair s.heap TO a b)
    (a1 : ∃ o, s.heap.get? i1 = some o ∧ q1 o) (a2 : ∃ o, s.heap.get? i2 = some o ∧ q2 o) (n1 : DrawsU prog w A s J i1 q1 p1 r1) (n2 : DrawsU prog w A s J i2 q2 p2 r2)
    (hQ : ∀ h' t' u v, r1 u → r2 v → IsZip h' z TI TO (rawInt s.heap.objs.size) → IsPair h' TO u v → (∃ o, h'.get? i1 = some o ∧ p1 o) → (∃ o, h'.get? i2 = some o ∧ p2 o) → IsPair h' s.heap.objs.size u v → h'.objs.size = s.heap.objs.size + 1 →
      (∀ c o, c ≠ z → c ≠ TO → c ≠ i1 → c ≠ i2 → s.heap.get? c = some o → h'.get? c = some o) → Q (.ref s.heap.objs.size) { s with heap := h', toks := t' }) :
    wpAny (model prog w) A (Builtin.«zip.__next__» ⟨[.ref z], []⟩) (fun fin s' => ∃ v, fin = .done (.ret v) ∧ Q v s') E s := by
  obtain ⟨o1, ho1, hq1⟩ := a1
  obtain ⟨o2, ho2, hq2⟩ := a2
  show wpAny _ _ (field (.ref z) 2 >>= _) _ _ _
  refine wpAny_bind (wpAny_field hz rfl (x := .bool false) rfl ?_)
  show wpAny _ _ (field (.ref z) 3 >>= _) _ _ _
  refine wpAny_bind (wpAny_field hz rfl (x := .ref TI) rfl ?_)
  refine wpAny_bind (wpAny_seqItems hTI rfl ?_)
  show wpAny _ _ (Builtin.SmallTypes.ownedTupleIsFree (.ref z) >>= _) _ _ _
  refine wpAny_bind ?_
  unfold Builtin.SmallTypes.ownedTupleIsFree
  refine wpAny_bind (wpAny_field hz rfl (x := .none) rfl (wpAny_pure ?_))
  simp only [if_true]
  refine wpAny_bind (wpAny_rule ?_)
  refine wpAny_bind (wpAny_field hz rfl (x := .ref TO) rfl ?_)
  refine wpAny_bind (wpAny_setField_rec hz (by simp) fun h₁ hz₁ hs₁ => ?_)
  replace hs₁ : Heap.SameBut z s.heap h₁ := hs₁
  replace hz₁ : IsZip h₁ z TI TO .ellipsis := hz₁
  have j1 : J h₁ := jk z _ _ (.inl rfl) j0 hs₁.extBut
  refine wpAny_bind ?_
  simp only [List.zipIdx_cons, List.zipIdx_nil, List.forIn_cons, List.forIn_nil]

  refine wpAny_bind (wpAny_bind (wpAny_onRaise ?_))
  show wpAny _ _ (Builtin.SmallTypes.nextOf (.ref i1) >>= _) _ _ _
  refine wpAny_bind (n1 h₁ s.toks _ _ j1 ⟨o1, hs₁.extBut _ _ D.i1z ho1, hq1⟩ fun x h₂ t₂ hx h1₂ hs₂ => wpAny_pure ?_)
  have j2 : J h₂ := jk i1 _ _ (.inr (.inr (.inl rfl))) j1 hs₂.extBut
  have hTO₂ : IsPair h₂ TO a b := hs₂.extBut _ _ D.TOi1 (hs₁.extBut _ _ D.TOz hTO)
  refine wpAny_bind (wpAny_seqItems (s := { s with heap := h₂, toks := t₂ }) hTO₂ rfl ?_)
  refine wpAny_bind (wpAny_updateSeq_pair (s := { s with heap := h₂, toks := t₂ }) hTO₂ fun h₃ hTO₃ hs₃ => ?_)
  replace hs₃ : Heap.SameBut TO h₂ h₃ := hs₃
  replace hTO₃ : IsPair h₃ TO x b := hTO₃
  have j3 : J h₃ := jk TO _ _ (.inr (.inl rfl)) j2 hs₃.extBut
  refine wpAny_bind (wpAny_letGo (wpAny_pure ?_))

  refine wpAny_bind (wpAny_bind (wpAny_onRaise ?_))
  show wpAny _ _ (Builtin.SmallTypes.nextOf (.ref i2) >>= _) _ _ _
  refine wpAny_bind (n2 h₃ t₂ _ _ j3 ⟨o2, hs₃.extBut _ _ D.TOi2.symm (hs₂.extBut _ _ D.i12.symm (hs₁.extBut _ _ D.i2z ho2)), hq2⟩ fun y h₄ t₄ hy h2₄ hs₄ => wpAny_pure ?_)
  have hTO₄ : IsPair h₄ TO x b := hs₄.extBut _ _ D.TOi2 hTO₃
  refine wpAny_bind (wpAny_seqItems (s := { s with heap := h₄, toks := t₄ }) hTO₄ rfl ?_)
  refine wpAny_bind (wpAny_updateSeq_pair (s := { s with heap := h₄, toks := t₄ }) hTO₄ fun h₅ hTO₅ hs₅ => ?_)
  replace hs₅ : Heap.SameBut TO h₄ h₅ := hs₅
  replace hTO₅ : IsPair h₅ TO x y := hTO₅
  refine wpAny_bind (wpAny_letGo (wpAny_pure (wpAny_pure ?_)))

  refine wpAny_bind (wpAny_seqItems (s := { s with heap := h₅, toks := t₄ }) hTO₅ rfl ?_)
  refine wpAny_bind (wpAny_newTuple ?_)
  have hsz : h₅.objs.size = s.heap.objs.size := by rw [hs₅.1, hs₄.1, hs₃.1, hs₂.1, hs₁.1]
  have hz₅ : IsZip h₅ z TI TO .ellipsis := hs₅.extBut _ _ D.TOz.symm (hs₄.extBut _ _ D.i2z.symm (hs₃.extBut _ _ D.TOz.symm (hs₂.extBut _ _ D.i1z.symm hz₁)))
  have hk₅ : ∀ c o, c ≠ z → c ≠ TO → c ≠ i1 → c ≠ i2 → s.heap.get? c = some o → h₅.get? c = some o := fun c o c1 c2 c3 c4 e =>
    hs₅.extBut _ _ c2 (hs₄.extBut _ _ c4 (hs₃.extBut _ _ c2 (hs₂.extBut _ _ c3 (hs₁.extBut _ _ c1 e))))
  obtain ⟨o1', g1, hp1⟩ := h1₂
  obtain ⟨o2', g2, hp2⟩ := h2₄
  have h1₅ : h₅.get? i1 = some o1' := hs₅.extBut _ _ D.TOi1.symm (hs₄.extBut _ _ D.i12 (hs₃.extBut _ _ D.TOi1.symm g1))
  have h2₅ : h₅.get? i2 = some o2' := hs₅.extBut _ _ D.TOi2.symm g2
  have hzlt : z < h₅.objs.size := Heap.lt_size hz₅
  show wpAny _ _ (Builtin.SmallTypes.ownedTupleHandOut (.ref z) (.ref h₅.objs.size) >>= _) _ _ _
  refine wpAny_bind ?_
  unfold Builtin.SmallTypes.ownedTupleHandOut
  have hz₆ : IsZip (h₅.push { cls := .type "tuple", data := .seq #[x, y] }) z TI TO .ellipsis := Heap.get?_push_of_some _ hz₅
  refine wpAny_bind (wpAny_setField_rec (s := { s with heap := h₅.push { cls := .type "tuple", data := .seq #[x, y] }, toks := t₄ }) hz₆ (by simp) fun h₇ hz₇ hs₇ => ?_)
  replace hz₇ : IsZip h₇ z TI TO (rawInt h₅.objs.size) := hz₇
  refine wpAny_setField_rec (s := { s with heap := h₇, toks := t₄ }) hz₇ (by simp) fun h₈ hz₈ hs₈ => ?_
  replace hz₈ : IsZip h₈ z TI TO (rawInt h₅.objs.size) := hz₈
  have up : ∀ c o, c ≠ z → h₅.get? c = some o → h₈.get? c = some o := fun c o c1 e => hs₈.extBut _ _ c1 (hs₇.extBut _ _ c1 (Heap.get?_push_of_some _ e))
  have hT₈ : IsPair h₈ h₅.objs.size x y := hs₈.extBut _ _ (Nat.ne_of_gt hzlt) (hs₇.extBut _ _ (Nat.ne_of_gt hzlt) (Heap.get?_push_size _ rfl))
  have hz8 : h₈.objs.size = h₅.objs.size + 1 := by rw [hs₈.1, hs₇.1, Heap.size_push]
  rw [hsz] at hz₈ hT₈ hz8
  refine wpAny_pure ⟨_, rfl, ?_⟩
  show Q (.ref h₅.objs.size) _
  rw [hsz]
  exact hQ h₈ t₄ x y hx hy hz₈ (up _ _ D.TOz hTO₅) ⟨o1', up _ _ D.i1z h1₅, hp1⟩ ⟨o2', up _ _ D.i2z h2₅, hp2⟩ hT₈ hz8 fun c o c1 c2 c3 c4 e => up c o c1 (hk₅ c o c1 c2 c3 c4 e)
theorem zip_endG {z TI TO i1 i2 : Addr} {a b : Value} {J : Heap → Prop} {q1 q2 p1 : Obj → Prop} {r1 : Value → Prop} {Q : Fin → Shared → Prop} (D : ZAp z TI TO i1 i2)
    (jk : ∀ c h h', (c = z ∨ c = TO ∨ c = i1 ∨ c = i2) → J h → Heap.ExtBut c h h' → J h') (j0 : J s.heap)
    (hz : IsZip s.heap z TI TO .none) (hTI : IsPair s.heap TI (.ref i1) (.ref i2)) (hTO : IsPair s.heap TO a b)
    (a1 : ∃ o, s.heap.get? i1 = some o ∧ q1 o) (a2 : ∃ o, s.heap.get? i2 = some o ∧ q2 o) (n : EndsU prog w A s J i1 q1 ∨ (DrawsU prog w A s J i1 q1 p1 r1 ∧ EndsU prog w A s J i2 q2))
    (hE : ∀ h' t' e, J h' → (∃ o, h'.get? e = some o ∧ o.cls = .type "StopIteration") → E (.ref e) { s with heap := h', toks := t' }) :
    wpAny (model prog w) A (Builtin.«zip.__next__» ⟨[.ref z], []⟩) Q E s := by
  obtain ⟨o1, ho1, hq1⟩ := a1
  obtain ⟨o2, ho2, hq2⟩ := a2
  show wpAny _ _ (field (.ref z) 2 >>= _) _ _ _
  refine wpAny_bind (wpAny_field hz rfl (x := .bool false) rfl ?_)
  show wpAny _ _ (field (.ref z) 3 >>= _) _ _ _
  refine wpAny_bind (wpAny_field hz rfl (x := .ref TI) rfl ?_)
  refine wpAny_bind (wpAny_seqItems hTI rfl ?_)
  show wpAny _ _ (Builtin.SmallTypes.ownedTupleIsFree (.ref z) >>= _) _ _ _
  refine wpAny_bind ?_
  unfold Builtin.SmallTypes.ownedTupleIsFree
  refine wpAny_bind (wpAny_field hz rfl (x := .none) rfl (wpAny_pure ?_))
  simp only [if_true]
  refine wpAny_bind (wpAny_rule ?_)
  refine wpAny_bind (wpAny_field hz rfl (x := .ref TO) rfl ?_)
  refine wpAny_bind (wpAny_setField_rec hz (by simp) fun h₁ hz₁ hs₁ => ?_)
  replace hs₁ : Heap.SameBut z s.heap h₁ := hs₁
  replace hz₁ : IsZip h₁ z TI TO .ellipsis := hz₁
  have j1 : J h₁ := jk z _ _ (.inl rfl) j0 hs₁.extBut
  refine wpAny_bind ?_
  simp only [List.zipIdx_cons, List.zipIdx_nil, List.forIn_cons, List.forIn_nil]
  refine wpAny_bind (wpAny_bind (wpAny_onRaise ?_))
  show wpAny _ _ (Builtin.SmallTypes.nextOf (.ref i1) >>= _) _ _ _
  rcases n with n1 | ⟨n1, n2⟩
  · refine wpAny_bind (n1 h₁ s.toks _ _ j1 ⟨o1, hs₁.extBut _ _ D.i1z ho1, hq1⟩ fun h₂ e hs₂ he => ?_)
    obtain ⟨oe, hoe, hce⟩ := he
    have hz₂ : IsZip h₂ z TI TO .ellipsis := hs₂ _ _ D.i1z.symm hz₁
    have hez : e ≠ z := fun x => by subst x; rw [hz₂] at hoe; cases hoe; simp at hce
    refine wpAny_setField_rec (s := { s with heap := h₂ }) hz₂ (by simp) fun h₃ _ hs₃ => ?_
    replace hs₃ : Heap.SameBut z h₂ h₃ := hs₃
    exact hE h₃ s.toks e (jk z _ _ (.inl rfl) (jk i1 _ _ (.inr (.inr (.inl rfl))) j1 hs₂) hs₃.extBut) ⟨oe, hs₃.extBut _ _ hez hoe, hce⟩
  · refine wpAny_bind (n1 h₁ s.toks _ _ j1 ⟨o1, hs₁.extBut _ _ D.i1z ho1, hq1⟩ fun x h₂ t₂ hx h1₂ hs₂ => wpAny_pure ?_)
    have j2 : J h₂ := jk i1 _ _ (.inr (.inr (.inl rfl))) j1 hs₂.extBut
    have hTO₂ : IsPair h₂ TO a b := hs₂.extBut _ _ D.TOi1 (hs₁.extBut _ _ D.TOz hTO)
    refine wpAny_bind (wpAny_seqItems (s := { s with heap := h₂, toks := t₂ }) hTO₂ rfl ?_)
    refine wpAny_bind (wpAny_updateSeq_pair (s := { s with heap := h₂, toks := t₂ }) hTO₂ fun h₃ hTO₃ hs₃ => ?_)
    replace hs₃ : Heap.SameBut TO h₂ h₃ := hs₃
    have j3 : J h₃ := jk TO _ _ (.inr (.inl rfl)) j2 hs₃.extBut
    refine wpAny_bind (wpAny_letGo (wpAny_pure ?_))
    refine wpAny_bind (wpAny_bind (wpAny_onRaise ?_))
    show wpAny _ _ (Builtin.SmallTypes.nextOf (.ref i2) >>= _) _ _ _
    refine wpAny_bind (n2 h₃ t₂ _ _ j3 ⟨o2, hs₃.extBut _ _ D.TOi2.symm (hs₂.extBut _ _ D.i12.symm (hs₁.extBut _ _ D.i2z ho2)), hq2⟩ fun h₄ e hs₄ he => ?_)
    obtain ⟨oe, hoe, hce⟩ := he
    have hz₄ : IsZip h₄ z TI TO .ellipsis := hs₄ _ _ D.i2z.symm (hs₃.extBut _ _ D.TOz.symm (hs₂.extBut _ _ D.i1z.symm hz₁))
    have hez : e ≠ z := fun x => by subst x; rw [hz₄] at hoe; cases hoe; simp at hce
    refine wpAny_setField_rec (s := { s with heap := h₄, toks := t₂ }) hz₄ (by simp) fun h₅ _ hs₅ => ?_
    replace hs₅ : Heap.SameBut z h₄ h₅ := hs₅
    exact hE h₅ t₂ e (jk z _ _ (.inl rfl) (jk i2 _ _ (.inr (.inr (.inr rfl))) j3 hs₄) hs₅.extBut) ⟨oe, hs₅.extBut _ _ hez hoe, hce⟩
end
/-! the sources -/
inductive ZS
  | lst (a : Addr)
  | tup (a : Addr)
  | txt (z : Str) (t : Tok)
def ZS.has (K : PySem.W.Frag) (H : Hp) : ZS → List V → Prop
  | .lst a, xs => SqL K H a xs
  | .tup a, xs => SqT K H a xs
  | .txt z _, xs => xs = z.cps.toList.map fun c => V.str ⟨#[c]⟩
def ZS.it (q : ZS) (k : Nat) : Obj → Prop := match q with
  | .lst a => fun o => o.cls = .type "list_iterator" ∧ o.data = .fields #[.ref a, .int k 0]
  | .tup a => fun o => o.cls = .type "tuple_iterator" ∧ o.data = .fields #[.ref a, .int k 0]
  | .txt z t => fun o => o.cls = .type "str_ascii_iterator" ∧ o.data = .fields #[.str z t, .int k 0]
section
variable {X : Cx} {pins : List (Addr × Obj)} {σ : St} {H : Hp} {s : Shared}
def ZJ (X : Cx) (pins : List (Addr × Obj)) (σ : St) (H : Hp) (s : Shared) (h : Heap) : Prop := ∀ t, Inv X pins σ H { s with heap := h, toks := t }
theorem ZJ.keeps {b : Addr} {h h' : Heap} (f : FpOk X pins H b) (j : ZJ X pins σ H s h) (e : Heap.ExtBut b h h') : ZJ X pins σ H s h' := by
  obtain ⟨f0, f1, f2, f3, f4, f5⟩ := f
  exact fun t => (j t).turned (t' := t) (fun c o hc q => e c o hc q) f0 f1 f3 f4 f5
theorem ZS.inj {q : ZS} {xs ys : List V} (I : Inv X pins σ H s) (h : q.has X.K H xs) (h' : q.has X.K H ys) : xs = ys := by
  cases q with
  | lst l => exact I.list_inj h h'
  | tup l => exact I.tuple_inj h h'
  | txt z t =>
    have h1 : xs = z.cps.toList.map fun c => V.str ⟨#[c]⟩ := h
    have h2 : ys = z.cps.toList.map fun c => V.str ⟨#[c]⟩ := h'
    rw [h1, h2]
theorem ZS.draws {q : ZS} {i : Addr} {k : Nat} {xs : List V} {x : V} {A : Around} (hx : q.has X.K H xs) (e : xs[k]? = some x) :
    DrawsU X.prog X.w A s (ZJ X pins σ H s) i (q.it k) (q.it (k + 1)) (RelV x) := by
  intro h t Q E j a f
  have I := j t
  cases q with
  | lst l =>
    obtain ⟨its, rv, p, hz⟩ := I.list hx
    obtain ⟨u, hu, ru⟩ := rv.get e
    exact wpAny_nextOf_list_item (s := { s with heap := h, toks := t }) a p.isList (x := u) (by simpa using hu) fun h' st' sb => f u h' t ru st' sb
  | tup l =>
    obtain ⟨its, rv, p, hz⟩ := I.tuple hx
    obtain ⟨u, hu, ru⟩ := rv.get e
    exact nextOf_tuple_item (s := { s with heap := h, toks := t }) a (show h.IsTuple l its.toArray from p) (x := u) (by simpa using hu) fun h' st' sb => f u h' t ru st' sb
  | txt z tz =>
    have hx' : xs = z.cps.toList.map fun c => V.str ⟨#[c]⟩ := hx
    rw [hx', List.getElem?_map] at e
    cases hc : z.cps.toList[k]? with
    | none => rw [hc] at e; cases e
    | some c =>
      rw [hc] at e
      cases e
      exact wpAny_nextOf_ascii_item (s := { s with heap := h, toks := t }) a (c := c) (by simpa using hc) fun h' st' sb => f _ h' _ ⟨_, rfl⟩ st' sb
theorem ZS.ends {q : ZS} {i : Addr} {k : Nat} {xs : List V} {A : Around} (hA : A.handled = X.A.handled) (hx : q.has X.K H xs) (e : xs.length ≤ k) :
    EndsU X.prog X.w A s (ZJ X pins σ H s) i (q.it k) := by
  intro h t Q E j a f
  have I := j t
  have hh : HdAt A h := by
    have hd := I.hd
    unfold HdAt at hd ⊢
    rw [hA]
    exact hd
  cases q with
  | lst l =>
    obtain ⟨its, rv, p, hz⟩ := I.list hx
    have hl := rv.length
    exact nextOf_endH (s := { s with heap := h, toks := t }) hh a p.isList (by simp; omega) fun h' e eb he => f h' e eb he
  | tup l =>
    obtain ⟨its, rv, p, hz⟩ := I.tuple hx
    have hl := rv.length
    exact nextOf_tuple_endH (s := { s with heap := h, toks := t }) hh a (show h.IsTuple l its.toArray from p) (by simp; omega) fun h' e eb he => f h' e eb he
  | txt z tz =>
    have hx' : xs = z.cps.toList.map fun c => V.str ⟨#[c]⟩ := hx
    have hl : xs.length = z.cps.size := by rw [hx']; simp
    exact nextOf_ascii_endH (s := { s with heap := h, toks := t }) hh a (Array.getElem?_eq_none (by omega)) fun h' e eb he => f h' e eb he
end
/-- (x0, y0), (x1, y1), ..: each a new tuple -/
def Itz (K : PySem.W.Frag) (a b : ZS) : It :=
  ⟨fun i H => ∃ xs ys x y, a.has K H xs ∧ b.has K H ys ∧ xs[i]? = some x ∧ ys[i]? = some y, fun i H v H' => ∃ p x y, v = .ref p ∧ H p = none ∧ H' = upd H p (.tup [x, y]) ∧ (∀ xs, a.has K H xs → xs[i]? = some x) ∧ ∀ ys, b.has K H ys → ys[i]? = some y,
    fun i H => ∃ xs ys, a.has K H xs ∧ b.has K H ys ∧ (xs.length ≤ i ∨ (i < xs.length ∧ ys.length ≤ i))⟩
def zipAt (z TI TO i1 i2 : Addr) (a b : ZS) (k : Nat) (h : Heap) : Prop := IsZip h z TI TO .none ∧ IsPair h TI (.ref i1) (.ref i2) ∧ (∃ u v, IsPair h TO u v) ∧ (∃ o, h.get? i1 = some o ∧ a.it k o) ∧ ∃ o, h.get? i2 = some o ∧ b.it k o
theorem ZS.nocell {q : ZS} {k : Nat} {o : Obj} (h : q.it k o) : ∀ v, o.data ≠ .cell v := by
  intro v z
  cases q <;> (obtain ⟨_, d⟩ := h; rw [d] at z; cases z)
theorem turn_zip {P : Program} {w : World} {K : PySem.W.Frag} {elts : List Expr} {x1} {pos : Pos} (z TI TO i1 i2 : Addr) (a b : ZS) (D : ZAp z TI TO i1 i2) :
    Turn P w K (.Tuple elts x1 pos) (Itz K a b) [z, TI, TO, i1, i2] z (zipAt z TI TO i1 i2 a b) where
  mem := by simp
  obj := fun i h st c hc => by
    obtain ⟨hz, hTI, ⟨u, v, hTO⟩, ⟨o1, g1, d1⟩, o2, g2, d2⟩ := st
    simp only [List.mem_cons, List.not_mem_nil, or_false] at hc
    rcases hc with rfl | rfl | rfl | rfl | rfl
    · exact ⟨_, hz, fun v q => by have q' : Data.fields _ = Data.cell v := q; cases q'⟩
    · exact ⟨_, hTI, fun v q => by have q' : Data.seq _ _ = Data.cell v := q; cases q'⟩
    · exact ⟨_, hTO, fun v q => by have q' : Data.seq _ _ = Data.cell v := q; cases q'⟩
    · exact ⟨o1, g1, ZS.nocell d1⟩
    · exact ⟨o2, g2, ZS.nocell d2⟩
  keep := fun i h h' st k => by
    obtain ⟨hz, hTI, ⟨u, v, hTO⟩, ⟨o1, g1, d1⟩, o2, g2, d2⟩ := st
    exact ⟨k z (by simp) _ hz, k TI (by simp) _ hTI, ⟨u, v, k TO (by simp) _ hTO⟩, ⟨o1, k i1 (by simp) _ g1, d1⟩, o2, k i2 (by simp) _ g2, d2⟩
  item := by
    intro X hP hw hK hc i pins s σ H E I hf st hg
    subst hP hw hK
    obtain ⟨hz, hTI, ⟨u0, v0, hTO⟩, a1, a2⟩ := st
    obtain ⟨xs, ys, x, y, hxs, hys, hx, hy⟩ := hg
    have fz := hf z (by simp)
    have fO := hf TO (by simp)
    have f1 := hf i1 (by simp)
    have f2 := hf i2 (by simp)
    have j0 : ZJ X pins σ H s s.heap := fun t => I.tok t
    have jk : ∀ c h h', (c = z ∨ c = TO ∨ c = i1 ∨ c = i2) → ZJ X pins σ H s h → Heap.ExtBut c h h' → ZJ X pins σ H s h' := by
      rintro c h h' (rfl | rfl | rfl | rfl) j e
      · exact j.keeps fz e
      · exact j.keeps fO e
      · exact j.keeps f1 e
      · exact j.keeps f2 e
    have hT : s.TypeIs (.ref z) "zip" := ⟨_, hz, rfl⟩
    unfold pyNext
    refine wpAny_bind (wpAny_attempt (wpAny_callSpecial?_slot (name := Str.ofString "__next__") hT F.slot_zip_next
      (wpAny_call_entry F.slot_zip_next hT F.entry_zip_next
        (zip_itemG D jk j0 hz hTI hTO a1 a2 (ZS.draws hxs hx) (ZS.draws hys hy) fun h' t' u v ru rv b1 b2 b3 b4 b5 b6 b7 => wpAny_pure ?_) (F.args_zip_next_1 _))))
    refine ⟨_, rfl, wpAny_letOwnedTupleGo_zip (s := { s with heap := h', toks := t' }) b1 fun h2 hz2 hs2 => ?_⟩
    replace hs2 : Heap.SameBut z h' h2 := hs2
    have hzl : z < s.heap.objs.size := Heap.lt_size hz
    have hTOl : TO < s.heap.objs.size := Heap.lt_size hTO
    obtain ⟨o1, g1, d1⟩ := a1
    obtain ⟨o2, g2, d2⟩ := a2
    have hi1 : i1 < s.heap.objs.size := Heap.lt_size g1
    have hi2 : i2 < s.heap.objs.size := Heap.lt_size g2
    obtain ⟨p1, k1, e1⟩ := b3
    obtain ⟨p2, k2, e2⟩ := b4
    have k1' : h2.get? i1 = some p1 := hs2.extBut _ _ D.i1z k1
    have k2' : h2.get? i2 = some p2 := hs2.extBut _ _ D.i2z k2
    have kO' : IsPair h2 TO u v := hs2.extBut _ _ D.TOz b2
    have kI' : IsPair h2 TI (.ref i1) (.ref i2) := hs2.extBut _ _ D.TIz (b7 _ _ D.TIz D.TITO D.TIi1 D.TIi2 hTI)
    have kp' : IsPair h2 s.heap.objs.size u v := hs2.extBut _ _ (Nat.ne_of_gt hzl) b5
    have hall : ∀ c o, c ≠ z → c ≠ TO → c ≠ i1 → c ≠ i2 → s.heap.get? c = some o → h2.get? c = some o := fun c o c1 c2 c3 c4 e => hs2.extBut _ _ c1 (b7 c o c1 c2 c3 c4 e)
    have hfr : H s.heap.objs.size = none := I.hok.fresh (Nat.le_refl _)
    -- one place after the other, then the new tuple
    have step : ∀ (c : Addr) (oc : Obj) (h1 : Heap), FpOk X pins H c → ZJ X pins σ H s h1 → (∃ o', h1.get? c = some o') → oc.isFreed = false → ∃ h2' : Heap, ZJ X pins σ H s h2' ∧ h2'.get? c = some oc ∧ h2'.objs.size = h1.objs.size ∧ ∀ b o, b ≠ c → (h2'.get? b = some o ↔ h1.get? b = some o) := by
      intro c oc h1 fc j ⟨o', e'⟩ hnf
      refine ⟨h1.update c (fun _ => oc), j.keeps fc (Heap.SameBut.update ..).extBut, Heap.get?_update_self (fun _ => oc) e' hnf, Heap.size_update .., fun b o hb => ?_⟩
      rw [Heap.get?_update_other _ _ (Ne.symm hb)]
    obtain ⟨m1, j1, q1, z1, w1⟩ := step z _ s.heap fz j0 ⟨_, hz⟩ (show ({ cls := .type "zip", dict := none, data := .fields #[.none, .bool false, .bool false, .ref TI, .ref TO], slots := #[] } : Obj).isFreed = false from rfl)
    obtain ⟨m2, j2, q2, z2, w2⟩ := step TO { cls := .type "tuple", data := .seq #[u, v] } m1 fO j1 ⟨_, (w1 _ _ D.TOz).mpr hTO⟩ rfl
    obtain ⟨m3, j3, q3, z3, w3⟩ := step i1 p1 m2 f1 j2 ⟨_, (w2 _ _ D.TOi1.symm).mpr ((w1 _ _ D.i1z).mpr g1)⟩ ((Heap.get?_some_iff.mp k1').2)
    obtain ⟨m4, j4, q4, z4, w4⟩ := step i2 p2 m3 f2 j3 ⟨_, (w3 _ _ D.i12.symm).mpr ((w2 _ _ D.TOi2.symm).mpr ((w1 _ _ D.i2z).mpr g2))⟩ ((Heap.get?_some_iff.mp k2').2)
    have fin : ∀ c o, m4.get? c = some o → h2.get? c = some o := fun c o q => by
      by_cases c4 : c = i2
      · subst c4; rw [q4] at q; cases q; exact k2'
      have q := (w4 _ _ c4).mp q
      by_cases c3 : c = i1
      · subst c3; rw [q3] at q; cases q; exact k1'
      have q := (w3 _ _ c3).mp q
      by_cases c2 : c = TO
      · subst c2; rw [q2] at q; cases q; exact kO'
      have q := (w2 _ _ c2).mp q
      by_cases c1 : c = z
      · subst c1; rw [q1] at q; cases q; exact hz2
      exact hall c o c1 c2 c3 c4 ((w1 _ _ c1).mp q)
    have I3 : Inv X pins σ (upd H s.heap.objs.size (.tup [x, y])) { s with heap := h2, toks := t' } :=
      (j4 s.toks).laid (a := s.heap.objs.size) (t' := t') fin (by show m4.objs.size ≤ _; rw [z4, z3, z2, z1]; exact Nat.le_refl _)
        (show ObjOk X.prog X.w _ h2 _ (.tup [x, y]) from ⟨by rw [sizeLine_eq]; simp, [u, v], .cons ru (.cons rv .nil), ⟨_, kp', rfl, _, rfl⟩⟩)
    refine ⟨.ref s.heap.objs.size, _, I3, rfl, ⟨_, x, y, rfl, hfr, rfl, fun xs' h' => by rw [ZS.inj I h' hxs]; exact hx, fun ys' h' => by rw [ZS.inj I h' hys]; exact hy⟩, ⟨hz2, kI', ⟨u, v, kO'⟩, ⟨p1, k1', e1⟩, p2, k2', e2⟩, fun c hc => ?_⟩
    have hc' : c ≠ s.heap.objs.size := by
      simp only [List.mem_cons, List.not_mem_nil, or_false] at hc
      rcases hc with rfl | rfl | rfl | rfl | rfl
      · exact Nat.ne_of_lt hzl
      · exact Nat.ne_of_lt (Heap.lt_size hTI)
      · exact Nat.ne_of_lt hTOl
      · exact Nat.ne_of_lt hi1
      · exact Nat.ne_of_lt hi2
    show upd H s.heap.objs.size _ c = none
    rw [upd_ne hc']
    exact (hf c hc).1
  done := by
    intro X hP hw hK hc i pins s σ H E I hf st hg
    subst hP hw hK
    obtain ⟨hz, hTI, ⟨u0, v0, hTO⟩, a1, a2⟩ := st
    obtain ⟨xs, ys, hxs, hys, hend⟩ := hg
    have fz := hf z (by simp)
    have fO := hf TO (by simp)
    have f1 := hf i1 (by simp)
    have f2 := hf i2 (by simp)
    have j0 : ZJ X pins σ H s s.heap := fun t => I.tok t
    have jk : ∀ c h h', (c = z ∨ c = TO ∨ c = i1 ∨ c = i2) → ZJ X pins σ H s h → Heap.ExtBut c h h' → ZJ X pins σ H s h' := by
      rintro c h h' (rfl | rfl | rfl | rfl) j e
      · exact j.keeps fz e
      · exact j.keeps fO e
      · exact j.keeps f1 e
      · exact j.keeps f2 e
    have hT : s.TypeIs (.ref z) "zip" := ⟨_, hz, rfl⟩
    unfold pyNext
    refine wpAny_bind (wpAny_attempt (wpAny_callSpecial?_slot (name := Str.ofString "__next__") hT F.slot_zip_next
      (wpAny_call_entry F.slot_zip_next hT F.entry_zip_next (zip_endG (p1 := a.it (i + 1)) (r1 := fun _ => True) D jk j0 hz hTI hTO a1 a2 ?_ fun h' t' e hj he => ?_) (F.args_zip_next_1 _))))
    · rcases hend with hl | ⟨hi, hl⟩
      · exact .inl (ZS.ends rfl hxs hl)
      · refine .inr ⟨fun h t Q E j a f => ZS.draws hxs (List.getElem?_eq_getElem hi) h t Q E j a fun u h' t' _ c1 c2 => f u h' t' trivial c1 c2, ZS.ends rfl hys hl⟩
    · obtain ⟨o, ho, hc⟩ := he
      refine wpAny_bind (wpAny_isInstance (s := { s with heap := h', toks := t' }) (T := "StopIteration") (b := true) ⟨o, ho, hc⟩ isSubtype_stop ?_)
      exact wpAny_pure ⟨rfl, hj t'⟩
  self := fun _ _ _ _ _ st h => wpAny_pyIter_zip st.1 h
/-! zip(a, b) made -/
theorem boot_zip : bootBuiltins "zip" = some (.type "zip") := by decide +kernel
theorem zap_new (n : Nat) : ZAp (n + 4) (n + 2) (n + 3) n (n + 1) := by
  constructor <;> (intro z; have z' : (_ : Nat) = _ := z; omega)
abbrev zstH1 (h : Heap) (x : Str) (t : Tok) : Heap := h.push { cls := .type "str_ascii_iterator", data := .fields #[.str x t, .int 0 0] }
abbrev zstH2 (h : Heap) (x : Str) (t : Tok) (l : Addr) : Heap := (zstH1 h x t).push { cls := .type "tuple_iterator", data := .fields #[.ref l, .int 0 0] }
abbrev zstH3 (h : Heap) (x : Str) (t : Tok) (l : Addr) : Heap := (zstH2 h x t l).push { cls := .type "tuple", data := .seq #[.ref h.objs.size, .ref (zstH1 h x t).objs.size] }
abbrev zstH4 (h : Heap) (x : Str) (t : Tok) (l : Addr) : Heap := (zstH3 h x t l).push { cls := .type "tuple", data := .seq #[.none, .none] }
abbrev zstH5 (h : Heap) (x : Str) (t : Tok) (l : Addr) : Heap := (zstH4 h x t l).push { cls := .type "zip", data := .fields #[.none, .bool false, .bool false, .ref (zstH2 h x t l).objs.size, .ref (zstH3 h x t l).objs.size] }
section
variable {prog : Program} {w : World} {A : Around} {E : Value → Shared → Prop} {s : Shared}
end
section
variable {X : Cx} {elts : List Expr} {pos : Pos}
theorem zip_fp {pins : List (Addr × Obj)} {σ : St} {H : Hp} {s : Shared} (I : Inv X pins σ H s) : ∀ b ∈ [s.heap.objs.size + 4, s.heap.objs.size + 2, s.heap.objs.size + 3, s.heap.objs.size, s.heap.objs.size + 1], FpOk X pins H b := by
  intro b hb
  have hb' : s.heap.objs.size ≤ b := by
    simp only [List.mem_cons, List.not_mem_nil, or_false] at hb
    rcases hb with rfl | rfl | rfl | rfl | rfl
    · exact Nat.le_add_right _ _
    · exact Nat.le_add_right _ _
    · exact Nat.le_add_right _ _
    · exact Nat.le_refl _
    · exact Nat.le_add_right _ _
  exact I.fpOk hb' (I.hok.fresh hb')
def iZipL (K : PySem.W.Frag) (ta : TA) : TI := fun σ H R => ta σ H fun vs H1 => ∃ a b, vs = [.ref a, .ref b] ∧ (∃ xs, SqL K H1 a xs) ∧ (∃ ys, SqL K H1 b ys) ∧ R (Itz K (.lst a) (.lst b)) H1
theorem pi_zipL {l m : Expr} {ta : TA} {x1} {p cpos : Pos} (hg : Gl X "zip") (hm : X.mg "zip" = none) (ha : PA X [l, m] ta) (he : starEach [l, m] X.env = (false, eval l X.env) :: starEach [m] X.env := by rfl) (hpl : (backTo cpos (starEach [m] X.env)).any (·.1) = false := by rfl) :
    PI X (.Tuple elts x1 pos) (.Call (.Name "zip" p) [l, m] [] cpos) (iZipL X.K ta) := by
  intro pins s σ H R I h
  refine Call_ (ld_blt I hg hm boot_zip (PyProof.Rows.callWith_type1 (thn (ha cpos pins s σ H _ I h) fun us s1 ⟨vs, H1, I1, r1, q1⟩ => ?_) he hpl))
  obtain ⟨a, b, e, ⟨xs, hx⟩, ⟨ys, hy⟩, q⟩ := q1
  subst e
  obtain ⟨u, v, rfl, rx, ry⟩ := Vals.two r1
  cases rx
  cases ry
  obtain ⟨its, rv, pl, hz⟩ := I1.list hx
  obtain ⟨its2, rv2, pl2, hz2⟩ := I1.list hy
  refine call_zip_2 pl.isList pl2.isList fun h' hzp hTI hTO hi1 hi2 hsz hk => ?_
  refine wpAny_pyIter_zip (s := { s1 with heap := h' }) hzp ?_
  exact ⟨s1.heap.objs.size + 4, _, _, _, H1, rfl, I1.kept (t' := s1.toks) hk, turn_zip _ (s1.heap.objs.size + 2) (s1.heap.objs.size + 3) s1.heap.objs.size (s1.heap.objs.size + 1) (.lst a) (.lst b) (zap_new _), ⟨hzp, hTI, ⟨_, _, hTO⟩, hi1, hi2⟩, zip_fp I1, q⟩
def iZipT (K : PySem.W.Frag) (ta : TA) : TI := fun σ H R => ta σ H fun vs H1 => ∃ z b, vs = [.str z, .ref b] ∧ z.cps.all (· < 128) = true ∧ (∃ ys, SqT K H1 b ys) ∧ ∀ t, R (Itz K (.txt z t) (.tup b)) H1
end
end L2
end
section
set_option Elab.async false
set_option linter.all false
set_option maxRecDepth 100000
set_option maxHeartbeats 4000000
/-! comprehensions whose parts tell values and make nothing that is kept -/
namespace BK
open PySem L2
theorem lc_pure {It0 : It} {fj : List (Str × Nat)} {tc : TT} {te : TE} {σ : St} {H : Hp} {Q : Addr → Hp → Prop} (xs : List V) (hn : xs.length ≤ 1000) (hgo : ∀ i H', i < xs.length → Same H H' → It0.go i H') (hstop : ∀ H', Same H H' → It0.stop xs.length H')
    (hy : ∀ i H1 x H', i < xs.length → Same H H1 → It0.yld i H1 x H' → H' = H1 ∧ xs[i]? = some x) (p : V → Bool) (f : V → V)
    (ht : ∀ x H' (Qf : Bool → Hp → Prop), x ∈ xs → Same H H' → (∀ H3, Same H' H3 → Qf (p x) H3) → tc (some x :: frees σ fj) H' Qf)
    (hs : ∀ x H' (Qf : VK), x ∈ xs → p x = true → Same H H' → (∀ H3, Same H' H3 → Qf (f x) H3) → te (some x :: frees σ fj) H' Qf)
    (hd : ∀ acc H', H acc = none → Same H H' → H' acc = some (.lst ((xs.filter p).map f)) → Q acc H') :
    ∀ acc, H acc = none → ∃ W : Nat → Nat → List V → Hp → Prop, (∃ m, W 0 m [] (upd H acc (.lst []))) ∧ ∀ i m ys H, W i m ys H →
      (It0.stop i H ∧ Q acc H) ∨ (It0.go i H ∧ ∀ x H', It0.yld i H x H' → tc (some x :: frees σ fj) H' fun b H2 =>
        if b = true then te (some x :: frees σ fj) H2 fun v H3 => H3 acc = some (.lst ys) ∧ ys.length < sizeLine ∧ ∃ m', m' < m ∧ W (i + 1) m' (ys ++ [v]) (upd H3 acc (.lst (ys ++ [v])))
        else ∃ m', m' < m ∧ W (i + 1) m' ys H2) := by
  intro acc hacc
  refine ⟨fun i m ys H' => m = xs.length - i ∧ i ≤ xs.length ∧ ys = ((xs.take i).filter p).map f ∧ H' acc = some (.lst ys) ∧ Same H H', ⟨xs.length, by simp, Nat.zero_le _, by simp, upd_same, same_new hacc _⟩, ?_⟩
  rintro i m ys H' ⟨rfl, hi, rfl, h1, s1⟩
  by_cases hx : i < xs.length
  · refine .inr ⟨hgo i H' hx s1, fun v H2 hv' => ?_⟩
    obtain ⟨rfl, hv⟩ := hy i H' v H2 hx s1 hv'
    have hm := List.mem_of_getElem? hv
    have lt : (((xs.take i).filter p).map f).length < sizeLine := small1000 (by
      rw [List.length_map]
      have := List.length_filter_le p (xs.take i)
      rw [List.length_take] at this
      omega)
    have tk : xs.take (i + 1) = xs.take i ++ [v] := by rw [List.take_add_one, hv]; rfl
    refine ht v _ _ hm s1 fun H3 s3 => ?_
    cases e : p v with
    | false =>
      refine iteF ⟨xs.length - (i + 1), by omega, rfl, hx, ?_, s3 _ _ h1, s1.trans s3⟩
      rw [tk, List.filter_append, List.filter_cons, if_neg (by rw [e]; exact Bool.false_ne_true), List.filter_nil, List.append_nil]
    | true =>
      refine iteT (hs v _ _ hm e (s1.trans s3) fun H4 s4 => ?_)
      refine ⟨s4 _ _ (s3 _ _ h1), lt, xs.length - (i + 1), by omega, rfl, hx, ?_, upd_same, same_upd hacc ((s1.trans s3).trans s4) _⟩
      rw [tk, List.filter_append, List.filter_cons, if_pos e, List.filter_nil, List.map_append]
      rfl
  · have e : i = xs.length := by omega
    subst e
    refine .inl ⟨hstop H' s1, hd acc H' hacc s1 ?_⟩
    rw [List.take_length] at h1
    exact h1
section
variable {K : PySem.W.Frag} {fj : List (Str × Nat)} {tc : TT} {te : TE} {σ : St} {H : Hp} {Q : Addr → Hp → Prop}
theorem lc_pureL {a : Addr} {xs : List V} (hn : xs.length ≤ 1000) (ha : SqL K H a xs) (p : V → Bool) (f : V → V)
    (ht : ∀ x H' (Qf : Bool → Hp → Prop), x ∈ xs → Same H H' → (∀ H3, Same H' H3 → Qf (p x) H3) → tc (some x :: frees σ fj) H' Qf)
    (hs : ∀ x H' (Qf : VK), x ∈ xs → p x = true → Same H H' → (∀ H3, Same H' H3 → Qf (f x) H3) → te (some x :: frees σ fj) H' Qf)
    (hd : ∀ acc H', H acc = none → Same H H' → H' acc = some (.lst ((xs.filter p).map f)) → Q acc H') :
    ∀ acc, H acc = none → ∃ W : Nat → Nat → List V → Hp → Prop, (∃ m, W 0 m [] (upd H acc (.lst []))) ∧ ∀ i m ys H, W i m ys H →
      ((Itl K a).stop i H ∧ Q acc H) ∨ ((Itl K a).go i H ∧ ∀ x H', (Itl K a).yld i H x H' → tc (some x :: frees σ fj) H' fun b H2 =>
        if b = true then te (some x :: frees σ fj) H2 fun v H3 => H3 acc = some (.lst ys) ∧ ys.length < sizeLine ∧ ∃ m', m' < m ∧ W (i + 1) m' (ys ++ [v]) (upd H3 acc (.lst (ys ++ [v])))
        else ∃ m', m' < m ∧ W (i + 1) m' ys H2) :=
  lc_pure xs hn (fun i H' hi s => ⟨xs, xs[i], s.seq ha, List.getElem?_eq_getElem hi⟩) (fun H' s => ⟨xs, s.seq ha, Nat.le_refl _⟩) (fun i H1 x H' _ s y => ⟨y.1, y.2 xs (s.seq ha)⟩) p f ht hs hd
end
/-- the one sign of a text -/
def chrV : V → Nat
  | .str z => z.cps.getD 0 0
  | _ => 0
theorem filter_all {α : Type} (xs : List α) : (xs.filter fun _ => true) = xs := List.filter_eq_self.mpr fun _ _ => rfl
/-- [e for x, y in zip(a, b)], e a value of both -/
theorem lc2_map {K : PySem.W.Frag} {a b : ZS} {xs ys : List V} {fj : List (Str × Nat)} {te : TE} {σ : St} {H : Hp} {Q : Addr → Hp → Prop} (hn : xs.length ≤ 1000) (ha : ∀ H', Same H H' → a.has K H' xs) (hb : ∀ H', Same H H' → b.has K H' ys)
    (f : V → V → V) (hs : ∀ (i : Nat) x y H' (Qf : VK), xs[i]? = some x → ys[i]? = some y → Same H H' → (∀ H3, Same H' H3 → Qf (f x y) H3) → te (some x :: some y :: frees σ fj) H' Qf)
    (hd : ∀ acc H', H acc = none → Same H H' → H' acc = some (.lst (List.zipWith f xs ys)) → Q acc H') :
    ∀ acc, H acc = none → ∃ W : Nat → Nat → List V → Hp → Prop, (∃ m, W 0 m [] (upd H acc (.lst []))) ∧ ∀ i m zs H, W i m zs H →
      ((Itz K a b).stop i H ∧ Q acc H) ∨ ((Itz K a b).go i H ∧ ∀ x H', (Itz K a b).yld i H x H' → ∀ o1 o2, gTup K 2 (gCons (gName 0) (gCons (gName 1) gNil)) x (o1 :: o2 :: frees σ fj) H' fun σ2 H4 => ∃ a b, σ2 = some a :: some b :: frees σ fj ∧ tYes σ2 H4 fun b H2 =>
        if b = true then te σ2 H2 fun v H3 => H3 acc = some (.lst zs) ∧ zs.length < sizeLine ∧ ∃ m', m' < m ∧ W (i + 1) m' (zs ++ [v]) (upd H3 acc (.lst (zs ++ [v])))
        else ∃ m', m' < m ∧ W (i + 1) m' zs H2) := by
  intro acc hacc
  refine ⟨fun i m zs H' => m = xs.length - i ∧ i ≤ xs.length ∧ i ≤ ys.length ∧ zs = (List.zipWith f xs ys).take i ∧ H' acc = some (.lst zs) ∧ Same H H', ⟨xs.length, by simp, Nat.zero_le _, Nat.zero_le _, by simp, upd_same, same_new hacc _⟩, ?_⟩
  rintro i m zs H' ⟨rfl, hi, hj, rfl, h1, s1⟩
  by_cases hx : i < xs.length
  · by_cases hy : i < ys.length
    · have ex : xs[i]? = some xs[i] := List.getElem?_eq_getElem hx
      have ey : ys[i]? = some ys[i] := List.getElem?_eq_getElem hy
      refine .inr ⟨⟨xs, ys, _, _, ha _ s1, hb _ s1, ex, ey⟩, fun v H2 hv o1 o2 => ?_⟩
      obtain ⟨p, x, y, rfl, hp, rfl, gx, gy⟩ := hv
      have e1 := (gx xs (ha _ s1)).symm.trans ex
      have e2 := (gy ys (hb _ s1)).symm.trans ey
      cases e1
      cases e2
      refine ⟨p, [xs[i], ys[i]], rfl, SqT.of upd_same, rfl, xs[i], [ys[i]], rfl, ys[i], [], rfl, rfl, xs[i], ys[i], rfl, ?_⟩
      dsimp only [tYes]
      rw [if_pos rfl]
      have s2 : Same H (upd H' p (.tup [xs[i], ys[i]])) := s1.trans (same_new hp _)
      refine hs i _ _ _ _ ex ey s2 fun H3 s3 => ?_
      have h3 : H3 acc = some (.lst ((List.zipWith f xs ys).take i)) := s3 _ _ (by rw [upd_ne (ne_of_none h1 hp)]; exact h1)
      refine ⟨h3, small1000 (by rw [List.length_take]; simp; omega), xs.length - (i + 1), by omega, rfl, hx, hy, ?_, upd_same, same_upd hacc (s2.trans s3) _⟩
      rw [List.take_add_one]
      congr 1
      rw [List.getElem?_zipWith, ex, ey]
      rfl
    · refine .inl ⟨⟨xs, ys, ha _ s1, hb _ s1, .inr ⟨hx, by omega⟩⟩, hd acc H' hacc s1 ?_⟩
      rw [List.take_of_length_le (by simp; omega)] at h1
      exact h1
  · refine .inl ⟨⟨xs, ys, ha _ s1, hb _ s1, .inl (by omega)⟩, hd acc H' hacc s1 ?_⟩
    rw [List.take_of_length_le (by simp; omega)] at h1
    exact h1
end BK
namespace L2
open PySem
section
variable {es : List Expr} {env : Env}
theorem star_con {v i p} : starEach (.Constant v i p :: es) env = (false, eval (.Constant v i p) env) :: starEach es env := rfl
end
end L2
end
section
set_option Elab.async false
set_option linter.all false
set_option maxRecDepth 100000
set_option maxHeartbeats 4000000
namespace K7
open PySem L2 BK
def top (i : Nat) : Stmt := PySem.Challenge.pw_blockkeep_k07_logs_and_pairs_refused.main.body.getD i (.Pass ⟨0, 0, 0, 0⟩)
abbrev s_is_whole : Stmt := top 12
theorem sc_is_whole : FnScope ["thing", "least", "most"] ["thing", "least", "most"] (defScope s_is_whole) := ⟨rfl, rfl, rfl, by decide +kernel, rfl, by decide +kernel, by decide +kernel⟩
abbrev s_empty_row : Stmt := top 16
theorem sc_empty_row : FnScope [] [] (defScope s_empty_row) := ⟨rfl, rfl, rfl, by decide +kernel, rfl, by decide +kernel, by decide +kernel⟩
abbrev s_Disk___init__ : Stmt := inClass (top 21) 0
theorem sc_Disk___init__ : FnScope ["self", "many"] ["self", "many"] (defScope s_Disk___init__) := ⟨rfl, rfl, rfl, by decide +kernel, rfl, by decide +kernel, by decide +kernel⟩
abbrev s_Disk_blocks : Stmt := inClass (top 21) 1
theorem sc_Disk_blocks : FnScope ["self"] ["self"] (defScope s_Disk_blocks) := ⟨rfl, rfl, rfl, by decide +kernel, rfl, by decide +kernel, by decide +kernel⟩
abbrev s_Disk_refuse_no_block : Stmt := inClass (top 21) 8
theorem sc_Disk_refuse_no_block : FnScope ["self", "block"] ["self", "block"] (defScope s_Disk_refuse_no_block) := ⟨rfl, rfl, rfl, by decide +kernel, rfl, by decide +kernel, by decide +kernel⟩
abbrev s_Disk_use_up_one : Stmt := inClass (top 21) 9
theorem sc_Disk_use_up_one : FnScope ["self"] ["self"] (defScope s_Disk_use_up_one) := ⟨rfl, rfl, rfl, by decide +kernel, rfl, by decide +kernel, by decide +kernel⟩
abbrev s_is_word : Stmt := top 13
theorem sc_is_word : FnScope ["thing"] ["thing"] (defScope s_is_word) := ⟨rfl, rfl, rfl, by decide +kernel, rfl, by decide +kernel, by decide +kernel⟩
abbrev s_are_words : Stmt := top 14
theorem sc_are_words : FnScope ["thing"] ["thing"] (defScope s_are_words) := ⟨rfl, rfl, rfl, by decide +kernel, rfl, by decide +kernel, by decide +kernel⟩
abbrev s_is_row : Stmt := top 15
theorem sc_is_row : FnScope ["thing"] ["thing"] (defScope s_is_row) := ⟨rfl, rfl, rfl, by decide +kernel, rfl, by decide +kernel, by decide +kernel⟩
abbrev s_Disk_write : Stmt := inClass (top 21) 3
theorem sc_Disk_write : FnScope ["self", "block", "row"] ["self", "block", "row"] (defScope s_Disk_write) := ⟨rfl, rfl, rfl, by decide +kernel, rfl, by decide +kernel, by decide +kernel⟩
abbrev s_Disk_writes : Stmt := inClass (top 21) 4
theorem sc_Disk_writes : FnScope ["self"] ["self"] (defScope s_Disk_writes) := ⟨rfl, rfl, rfl, by decide +kernel, rfl, by decide +kernel, by decide +kernel⟩
abbrev s_Disk_read : Stmt := inClass (top 21) 2
theorem sc_Disk_read : FnScope ["self", "block"] ["self", "block"] (defScope s_Disk_read) := ⟨rfl, rfl, rfl, by decide +kernel, rfl, by decide +kernel, by decide +kernel⟩
abbrev s_is_home : Stmt := top 27
theorem sc_is_home : FnScope ["disk", "block"] ["disk", "block"] (defScope s_is_home) := ⟨rfl, rfl, rfl, by decide +kernel, rfl, by decide +kernel, by decide +kernel⟩
abbrev s_are_rising_homes : Stmt := top 34
theorem sc_are_rising_homes : FnScope ["disk", "homes", "rising"] ["disk", "homes"] (defScope s_are_rising_homes) := ⟨rfl, rfl, rfl, by decide +kernel, rfl, by decide +kernel, by decide +kernel⟩
abbrev s_is_right_head : Stmt := top 33
theorem sc_is_right_head : FnScope ["disk", "head", "count", "homes", "behind"] ["disk", "head"] (defScope s_is_right_head) := ⟨rfl, rfl, rfl, by decide +kernel, rfl, by decide +kernel, by decide +kernel⟩
abbrev s_write_homes : Stmt := top 32
theorem sc_write_homes : FnScope ["disk", "pairs", "block", "row"] ["disk", "pairs"] (defScope s_write_homes) := ⟨rfl, rfl, rfl, by decide +kernel, rfl, by decide +kernel, by decide +kernel⟩
abbrev s_come_back : Stmt := top 29
theorem sc_come_back : FnScope ["disk", "head", "count"] ["disk"] (defScope s_come_back) := ⟨rfl, rfl, rfl, by decide +kernel, rfl, by decide +kernel, by decide +kernel⟩
abbrev s__law_is_right : Stmt := top 41
theorem sc__law_is_right : FnScope ["_law_head_here", "_law_many", "_law_last", "_law_home"] ["_law_head_here", "_law_many"] (defScope s__law_is_right) := ⟨rfl, rfl, rfl, by decide +kernel, rfl, by decide +kernel, by decide +kernel⟩
abbrev s__law_row : Stmt := top 37
theorem sc__law_row : FnScope ["_law_cell", "_law_first"] ["_law_cell"] (defScope s__law_row) := ⟨rfl, rfl, rfl, by decide +kernel, rfl, by decide +kernel, by decide +kernel⟩
abbrev s__law_word : Stmt := top 38
theorem sc__law_word : FnScope ["_law_e", "_law_some"] ["_law_e"] (defScope s__law_word) := ⟨rfl, rfl, rfl, by decide +kernel, rfl, by decide +kernel, by decide +kernel⟩
abbrev s__law_comes_back : Stmt := top 42
theorem sc__law_comes_back : FnScope ["_law_disk", "_law_head_here", "_law_k", "_law_rows", "_law_before", "_law_word_here", "_law_found", "_law_e", "_law_now", "_law_count"] ["_law_disk", "_law_head_here"] (defScope s__law_comes_back) := ⟨rfl, rfl, rfl, by decide +kernel, rfl, by decide +kernel, by decide +kernel⟩
abbrev s__law_cell_at : Stmt := top 36
theorem sc__law_cell_at : FnScope ["_law_script", "_law_k"] ["_law_script", "_law_k"] (defScope s__law_cell_at) := ⟨rfl, rfl, rfl, by decide +kernel, rfl, by decide +kernel, by decide +kernel⟩
abbrev s__law_homes : Stmt := top 39
theorem sc__law_homes : FnScope ["_law_script", "_law_many", "_law_count", "_law_homes_here", "_law_k"] ["_law_script", "_law_many", "_law_count"] (defScope s__law_homes) := ⟨rfl, rfl, rfl, by decide +kernel, rfl, by decide +kernel, by decide +kernel⟩
abbrev s__law_is_number : Stmt := top 44
theorem sc__law_is_number : FnScope ["_law_word_here"] ["_law_word_here"] (defScope s__law_is_number) := ⟨rfl, rfl, rfl, by decide +kernel, rfl, by decide +kernel, by decide +kernel⟩
abbrev s__law_due : Stmt := top 45
theorem sc__law_due : FnScope ["_law_pairs", "_law_many", "_law_last", "_law_block", "_law_row_here"] ["_law_pairs", "_law_many"] (defScope s__law_due) := ⟨rfl, rfl, rfl, by decide +kernel, rfl, by decide +kernel, by decide +kernel⟩
abbrev s_refuse_wrong_pairs : Stmt := top 30
theorem sc_refuse_wrong_pairs : FnScope ["disk", "pairs", "ahead", "block", "row"] ["disk", "pairs"] (defScope s_refuse_wrong_pairs) := ⟨rfl, rfl, rfl, by decide +kernel, rfl, by decide +kernel, by decide +kernel⟩
abbrev s_changed : Stmt := top 17
theorem sc_changed : FnScope ["row", "at", "words"] ["row", "at", "words"] (defScope s_changed) := ⟨rfl, rfl, rfl, by decide +kernel, rfl, by decide +kernel, by decide +kernel⟩
abbrev s_write_log : Stmt := top 31
theorem sc_write_log : FnScope ["disk", "pairs", "homes", "block", "row"] ["disk", "pairs"] (defScope s_write_log) := ⟨rfl, rfl, rfl, by decide +kernel, rfl, by decide +kernel, by decide +kernel⟩
abbrev s_commit : Stmt := top 28
theorem sc_commit : FnScope ["disk", "pairs"] ["disk", "pairs"] (defScope s_commit) := ⟨rfl, rfl, rfl, by decide +kernel, rfl, by decide +kernel, by decide +kernel⟩
abbrev s__law_odd_pair : Stmt := top 43
theorem sc__law_odd_pair : FnScope ["_law_pair", "_law_cell", "_law_many", "_law_ahead", "_law_far", "_law_block", "_law_good", "_law_rows", "_law_row_here"] ["_law_pair", "_law_cell", "_law_many", "_law_ahead"] (defScope s__law_odd_pair) := ⟨rfl, rfl, rfl, by decide +kernel, rfl, by decide +kernel, by decide +kernel⟩
abbrev s__law_commits : Stmt := top 46
theorem sc__law_commits : FnScope ["_law_script", "_law_disk", "_law_many", "_law_homes_here", "_law_pairs", "_law_goods", "_law_k", "_law_cell", "_law_at", "_law_ahead", "_law_rows", "_law_due_here", "_law_word_here", "_law_e"] ["_law_script", "_law_disk"] (defScope s__law_commits) := ⟨rfl, rfl, rfl, by decide +kernel, rfl, by decide +kernel, by decide +kernel⟩
abbrev s__law_head : Stmt := top 40
theorem sc__law_head : FnScope ["_law_script", "_law_many", "_law_homes_here", "_law_head_here", "_law_cell", "_law_at", "_law_far", "_law_words"] ["_law_script", "_law_many"] (defScope s__law_head) := ⟨rfl, rfl, rfl, by decide +kernel, rfl, by decide +kernel, by decide +kernel⟩
abbrev s_law : Stmt := top 47
theorem sc_law : FnScope ["_law_script", "_law_disk"] ["_law_script"] (defScope s_law) := ⟨rfl, rfl, rfl, by decide +kernel, rfl, by decide +kernel, by decide +kernel⟩
/-- the addresses of the text's classes and methods -/
structure Ad where
  cKeepError : Addr
  cBadRow : Addr
  cNoBlock : Addr
  cStopped : Addr
  cBadDisk : Addr
  cTooMuch : Addr
  cBadLog : Addr
  cDisk : Addr
  fDisk_init : Addr
  f_blocks : Addr
  f_refuse_no_block : Addr
  f_use_up_one : Addr
  f_write : Addr
  f_writes : Addr
  f_read : Addr
structure Txt (K : PySem.W.Frag) (mg : Str → Option Value) (a : Ad) : Prop where
  isinstance : mg "isinstance" = none
  int : mg "int" = none
  bool : mg "bool" = none
  list : mg "list" = none
  len : mg "len" = none
  all : mg "all" = none
  range : mg "range" = none
  ValueError : mg "ValueError" = none
  min : mg "min" = none
  max : mg "max" = none
  sorted : mg "sorted" = none
  zip : mg "zip" = none
  tuple : mg "tuple" = none
  cROW_WORDS : ∃ t, mg "ROW_WORDS" = some (.int 16 t)
  cMOST_WORD : ∃ t, mg "MOST_WORD" = some (.int 999999999 t)
  cLEAST_BLOCKS : ∃ t, mg "LEAST_BLOCKS" = some (.int 24 t)
  cMOST_BLOCKS : ∃ t, mg "MOST_BLOCKS" = some (.int 96 t)
  cLOG_HEAD_AT : ∃ t, mg "LOG_HEAD_AT" = some (.int 1 t)
  cLOG_ROWS_AT : ∃ t, mg "LOG_ROWS_AT" = some (.int 2 t)
  cMAPS_AT : ∃ t, mg "MAPS_AT" = some (.int 17 t)
  cMOST_HOMES : ∃ t, mg "MOST_HOMES" = some (.int 15 t)
  mKeepError : mg "KeepError" = some (.ref a.cKeepError)
  mBadRow : mg "BadRow" = some (.ref a.cBadRow)
  mNoBlock : mg "NoBlock" = some (.ref a.cNoBlock)
  mStopped : mg "Stopped" = some (.ref a.cStopped)
  mBadDisk : mg "BadDisk" = some (.ref a.cBadDisk)
  mTooMuch : mg "TooMuch" = some (.ref a.cTooMuch)
  mBadLog : mg "BadLog" = some (.ref a.cBadLog)
  mDisk : mg "Disk" = some (.ref a.cDisk)
  xBadRow : PySem.W.excIn K a.cBadRow veMro "ValueError.__new__" = true
  xNoBlock : PySem.W.excIn K a.cNoBlock veMro "ValueError.__new__" = true
  xStopped : PySem.W.excIn K a.cStopped veMro "ValueError.__new__" = true
  xBadDisk : PySem.W.excIn K a.cBadDisk veMro "ValueError.__new__" = true
  xTooMuch : PySem.W.excIn K a.cTooMuch veMro "ValueError.__new__" = true
  xBadLog : PySem.W.excIn K a.cBadLog veMro "ValueError.__new__" = true
  eNoBlock : ExcK K a.cNoBlock
  eBadRow : ExcK K a.cBadRow
  eTooMuch : ExcK K a.cTooMuch
  eBadLog : ExcK K a.cBadLog
  kKeepError : CatK K a.cKeepError
  sBadRow_KeepError : PySem.W.mroIn K a.cBadRow (.ref a.cKeepError) = some true
  sNoBlock_KeepError : PySem.W.mroIn K a.cNoBlock (.ref a.cKeepError) = some true
  sStopped_KeepError : PySem.W.mroIn K a.cStopped (.ref a.cKeepError) = some true
  sBadDisk_KeepError : PySem.W.mroIn K a.cBadDisk (.ref a.cKeepError) = some true
  sTooMuch_KeepError : PySem.W.mroIn K a.cTooMuch (.ref a.cKeepError) = some true
  sBadLog_KeepError : PySem.W.mroIn K a.cBadLog (.ref a.cKeepError) = some true
  qNoBlock_NoBlock : PySem.W.kitOne K (.ref a.cNoBlock) (.ref a.cNoBlock) = some true
  qNoBlock_BadRow : PySem.W.kitOne K (.ref a.cNoBlock) (.ref a.cBadRow) = some false
  qNoBlock_TooMuch : PySem.W.kitOne K (.ref a.cNoBlock) (.ref a.cTooMuch) = some false
  qNoBlock_BadLog : PySem.W.kitOne K (.ref a.cNoBlock) (.ref a.cBadLog) = some false
  qNoBlock_Stopped : PySem.W.kitOne K (.ref a.cNoBlock) (.ref a.cStopped) = some false
  qNoBlock_BadDisk : PySem.W.kitOne K (.ref a.cNoBlock) (.ref a.cBadDisk) = some false
  qNoBlock_ValueError : PySem.W.kitOne K (.ref a.cNoBlock) (.type "ValueError") = some true
  qBadRow_NoBlock : PySem.W.kitOne K (.ref a.cBadRow) (.ref a.cNoBlock) = some false
  qBadRow_BadRow : PySem.W.kitOne K (.ref a.cBadRow) (.ref a.cBadRow) = some true
  qBadRow_TooMuch : PySem.W.kitOne K (.ref a.cBadRow) (.ref a.cTooMuch) = some false
  qBadRow_BadLog : PySem.W.kitOne K (.ref a.cBadRow) (.ref a.cBadLog) = some false
  qBadRow_Stopped : PySem.W.kitOne K (.ref a.cBadRow) (.ref a.cStopped) = some false
  qBadRow_BadDisk : PySem.W.kitOne K (.ref a.cBadRow) (.ref a.cBadDisk) = some false
  qBadRow_ValueError : PySem.W.kitOne K (.ref a.cBadRow) (.type "ValueError") = some true
  qTooMuch_NoBlock : PySem.W.kitOne K (.ref a.cTooMuch) (.ref a.cNoBlock) = some false
  qTooMuch_BadRow : PySem.W.kitOne K (.ref a.cTooMuch) (.ref a.cBadRow) = some false
  qTooMuch_TooMuch : PySem.W.kitOne K (.ref a.cTooMuch) (.ref a.cTooMuch) = some true
  qTooMuch_BadLog : PySem.W.kitOne K (.ref a.cTooMuch) (.ref a.cBadLog) = some false
  qTooMuch_Stopped : PySem.W.kitOne K (.ref a.cTooMuch) (.ref a.cStopped) = some false
  qTooMuch_BadDisk : PySem.W.kitOne K (.ref a.cTooMuch) (.ref a.cBadDisk) = some false
  qTooMuch_ValueError : PySem.W.kitOne K (.ref a.cTooMuch) (.type "ValueError") = some true
  qBadLog_NoBlock : PySem.W.kitOne K (.ref a.cBadLog) (.ref a.cNoBlock) = some false
  qBadLog_BadRow : PySem.W.kitOne K (.ref a.cBadLog) (.ref a.cBadRow) = some false
  qBadLog_TooMuch : PySem.W.kitOne K (.ref a.cBadLog) (.ref a.cTooMuch) = some false
  qBadLog_BadLog : PySem.W.kitOne K (.ref a.cBadLog) (.ref a.cBadLog) = some true
  qBadLog_Stopped : PySem.W.kitOne K (.ref a.cBadLog) (.ref a.cStopped) = some false
  qBadLog_BadDisk : PySem.W.kitOne K (.ref a.cBadLog) (.ref a.cBadDisk) = some false
  qBadLog_ValueError : PySem.W.kitOne K (.ref a.cBadLog) (.type "ValueError") = some true
  clDisk : Cls K a.cDisk
  n_kept_rows : NoAttr K a.cDisk "kept_rows"
  n_writes_done : NoAttr K a.cDisk "writes_done"
  n_writes_left : NoAttr K a.cDisk "writes_left"
  mkDisk : Mk K a.cDisk a.fDisk_init
  m_blocks : Meth K a.cDisk "blocks" a.f_blocks
  m_refuse_no_block : Meth K a.cDisk "refuse_no_block" a.f_refuse_no_block
  m_use_up_one : Meth K a.cDisk "use_up_one" a.f_use_up_one
  m_write : Meth K a.cDisk "write" a.f_write
  m_writes : Meth K a.cDisk "writes" a.f_writes
  m_read : Meth K a.cDisk "read" a.f_read
/-- a def that keeps its promise, by its name; a method -/
def Df (P : Program) (w : World) (K : PySem.W.Frag) (mg : Str → Option Value) (base : Heap) (CX : CXT) (n : Nat) (x : Str) (ps : List Str) (sp : Sp) : Prop :=
  ∃ f fd, FnOk P w K mg base CX n f fd ps sp ∧ Binds K fd ps [] ∧ PySem.W.keepIn K (.ref f) = true ∧ mg x = some (.ref f)
def Mf (P : Program) (w : World) (K : PySem.W.Frag) (mg : Str → Option Value) (base : Heap) (CX : CXT) (n : Nat) (f : Addr) (ps : List Str) (sp : Sp) : Prop :=
  ∃ fd, FnOk P w K mg base CX n f fd ps sp ∧ Binds K fd ps []
end K7
end
section
set_option Elab.async false
set_option linter.all false
set_option maxRecDepth 100000
set_option maxHeartbeats 4000000
namespace K7
open PySem L2 BK
section
variable {P : Program} {w : World} {K : PySem.W.Frag} {mg : Str → Option Value} {base : Heap} {f : Addr} {fd : FuncData} {a : Ad}
/-! ### is_whole, is_word, is_row, empty_row -/
def spWhole (K : PySem.W.Frag) (_ : Ad) : Sp := fun vs H Q _ => ∃ v lo hi, vs = [v, .int lo, .int hi] ∧ Kd K H v ∧ Q (.bl (wholeV v lo hi)) H
theorem ok_is_whole (F : Fun K "is_whole" "is_whole" s_is_whole f fd) (T : Txt K mg a)  : FnOk P w K mg base CX0 1 f fd ["thing", "least", "most"] (spWhole K a) := by
  have nd := sc_is_whole.nd
  refine F.ok sc_is_whole (fun vs H Q E h => ?_) (fun cdv A outer s H vs Q E hr h => ?_)
  · obtain ⟨v, lo, hi, rfl, _⟩ := h
    rfl
  obtain ⟨v, lo, hi, rfl, ⟨t, ty, e1, e2, _⟩, q⟩ := h
  refine ⟨_, (pss_one (ps_ret (pe_and (pe_callB (call_isinst (T := "int")) rfl T.isinstance bt_isinstance (pa_cons (pv 0) (pa_cons (pe_bltn (v := .ty "int") rfl T.int bt_int rfl) pa_nil))) (pe_and (pe_not (pe_callB (call_isinst (T := "bool")) rfl T.isinstance bt_isinstance (pa_cons (pv 0) (pa_cons (pe_bltn (v := .ty "bool") rfl T.bool bt_bool rfl) pa_nil)))) (pe_one (pe_chain op_le op_le (pv 1) (pv 0) (pv 2))))))), ?_⟩
  refine ⟨_, rfl, _, t, _, rfl, ty, e1, _, rfl, ?_⟩
  cases v with
  | int i =>
    refine iteT ⟨_, rfl, _, t, _, rfl, ty, e2, _, rfl, _, rfl, iteT ?_⟩
    refine ⟨_, rfl, _, rfl, _, _, rfl, rfl, _, rfl, ?_⟩
    refine ite2 (fun c => ?_) (fun c => ?_)
    · refine ⟨_, rfl, _, _, rfl, rfl, ?_⟩
      have c' : decide (lo ≤ i) = true := c
      have : wholeV (.int i) lo hi = decide (i ≤ hi) := by show (decide (lo ≤ i) && decide (i ≤ hi)) = _; rw [c', Bool.true_and]
      rw [this] at q
      exact q
    · have c' : decide (lo ≤ i) = false := Bool.eq_false_iff.mpr c
      have : wholeV (.int i) lo hi = false := by show (decide (lo ≤ i) && decide (i ≤ hi)) = _; rw [c', Bool.false_and]
      rw [this] at q
      exact q
  | bl b => exact iteT ⟨_, rfl, _, t, _, rfl, ty, e2, _, rfl, _, rfl, iteF q⟩
  | _ => exact iteF q
def spWord (K : PySem.W.Frag) (_ : Ad) : Sp := fun vs H Q _ => ∃ v, vs = [v] ∧ Kd K H v ∧ Q (.bl (goodV v)) H
theorem ok_is_word (F : Fun K "is_word" "is_word" s_is_word f fd) (T : Txt K mg a) (D_is_whole : Df P w K mg base CX0 1 "is_whole" ["thing", "least", "most"] (spWhole K a)) : FnOk P w K mg base CX0 2 f fd ["thing"] (spWord K a) := by
  obtain ⟨_, _, Gis_whole, bis_whole, kis_whole, mis_whole⟩ := D_is_whole
  have nd := sc_is_word.nd
  refine F.ok sc_is_word (fun vs H Q E h => ?_) (fun cdv A outer s H vs Q E hr h => ?_)
  · obtain ⟨v, rfl, _⟩ := h
    rfl
  obtain ⟨v, rfl, kd, q⟩ := h
  refine ⟨_, (pss_one (ps_ret (pe_call Gis_whole (hr.mono (by decide)) rfl mis_whole kis_whole bis_whole .nil pass0 (pa_cons (pv 0) (pa_cons pe_int (pa_cons (pe_glob (v := .int 999999999) rfl T.cMOST_WORD.choose_spec ⟨_, rfl⟩) pa_nil)))))), ?_⟩
  exact ⟨_, rfl, v, 0, 999999999, rfl, kd, q⟩
def spAre (K : PySem.W.Frag) (_ : Ad) : Sp := fun vs H Q _ => ∃ v, vs = [v] ∧ Kd K H v ∧ ((isL H v = false ∧ Q (.bl false) H) ∨ ∃ a xs, v = .ref a ∧ H a = some (.lst xs) ∧ xs.length ≤ 1000 ∧ (∀ x ∈ xs, Kd K H x) ∧ ∀ H', Same H H' → Q (.bl (xs.all goodV)) H')
theorem ok_are_words (F : Fun K "are_words" "are_words" s_are_words f fd) (T : Txt K mg a) (D_is_word : Df P w K mg base CX0 2 "is_word" ["thing"] (spWord K a)) : FnOk P w K mg base CX0 3 f fd ["thing"] (spAre K a) := by
  obtain ⟨_, _, Gis_word, bis_word, kis_word, mis_word⟩ := D_is_word
  have nd := sc_are_words.nd
  refine F.ok sc_are_words (fun vs H Q E h => ?_) (fun cdv A outer s H vs Q E hr h => ?_)
  · obtain ⟨v, rfl, _⟩ := h
    rfl
  obtain ⟨v, rfl, ⟨t, ty, e1, e2, e3⟩, ha⟩ := h
  refine ⟨_, (pss_one (ps_ret (pe_and (pe_callB (call_isinst (T := "list")) rfl T.isinstance bt_isinstance (pa_cons (pv 0) (pa_cons (pe_bltn (v := .ty "list") rfl T.list bt_list rfl) pa_nil))) (pe_one (pe_callB (call_all rfl) rfl T.all bt_all (pa_cons (pe_lc (cl := []) (fj := []) (by exact ⟨rfl, by decide +kernel, rfl, by decide +kernel, rfl, fun _ h => (by cases h), by decide +kernel, fun _ h => (by cases h), by decide +kernel⟩) rfl (pi_list (pv 0)) (fun _ _ _ => pf_nil) (fun _ _ _ => (pe_call Gis_word (hr.mono (by decide)) rfl mis_word kis_word bis_word .nil pass0 (pa_cons (pv 0) pa_nil)))) pa_nil)))))), ?_⟩
  refine ⟨_, rfl, _, t, _, rfl, ty, e3, _, rfl, ?_⟩
  rcases ha with ⟨hl, q⟩ | ⟨p, xs, rfl, ha, hz, hk, q⟩
  · exact iteF' hl q
  · have hl : isL H (.ref p) = true := by show isLH (H _) = _; rw [ha]; rfl
    refine iteT' hl ⟨_, rfl, p, rfl, ⟨xs, SqL.of ha⟩, lc_test (sp := spWord K a) (g := goodV) (fun x H' Qf kd hq => ⟨x, rfl, kd, hq⟩) ha hz hk fun acc H' h1 h2 h3 => ?_⟩
    refine ⟨acc, xs.map goodV, rfl, SqL.of h3, ?_⟩
    rw [all_good]
    exact q H' h2
def RowA (K : PySem.W.Frag) (H : Hp) (v : V) (b : Bool) : Prop := Kd K H v ∧ ((isL H v = false ∧ b = false) ∨ ∃ a xs, v = .ref a ∧ H a = some (.lst xs) ∧ xs.length ≤ 1000 ∧ (∀ x ∈ xs, Kd K H x) ∧ b = (decide (xs.length = 16) && xs.all goodV))
theorem RowA.same {H H' : Hp} {v : V} {b : Bool} (h : RowA K H v b) (s : Same H H') : RowA K H' v b := by
  obtain ⟨kd, h⟩ := h
  refine ⟨kd.same s, ?_⟩
  rcases h with ⟨h1, h2⟩ | ⟨p, xs, h1, h2, h3, h4, h5⟩
  · obtain ⟨t, ty, _⟩ := kd
    exact .inl ⟨by rw [isL_same s ty]; exact h1, h2⟩
  · exact .inr ⟨p, xs, h1, s _ _ h2, h3, fun x hx => (h4 x hx).same s, h5⟩
def spIsRow (K : PySem.W.Frag) (_ : Ad) : Sp := fun vs H Q _ => ∃ v b, vs = [v] ∧ RowA K H v b ∧ ∀ H', Same H H' → Q (.bl b) H'
theorem ok_is_row (F : Fun K "is_row" "is_row" s_is_row f fd) (T : Txt K mg a) (D_are_words : Df P w K mg base CX0 3 "are_words" ["thing"] (spAre K a)) : FnOk P w K mg base CX0 4 f fd ["thing"] (spIsRow K a) := by
  obtain ⟨_, _, Gare_words, bare_words, kare_words, mare_words⟩ := D_are_words
  have nd := sc_is_row.nd
  refine F.ok sc_is_row (fun vs H Q E h => ?_) (fun cdv A outer s H vs Q E hr h => ?_)
  · obtain ⟨v, b, rfl, _⟩ := h
    rfl
  obtain ⟨v, b, rfl, ⟨kd, ha⟩, q⟩ := h
  refine ⟨_, (pss_one (ps_ret (pe_and (pe_call Gare_words (hr.mono (by decide)) rfl mare_words kare_words bare_words .nil pass0 (pa_cons (pv 0) pa_nil)) (pe_one (pe_cmpR op_eq (pe_callB call_len_seq rfl T.len bt_len (pa_cons (pv 0) pa_nil)) (pe_glob (v := .int 16) rfl T.cROW_WORDS.choose_spec ⟨_, rfl⟩) (nomark _)))))), ?_⟩
  rcases ha with ⟨hl, rfl⟩ | ⟨p, xs, rfl, ha, hz, hk, rfl⟩
  · exact ⟨_, rfl, _, rfl, kd, .inl ⟨hl, _, rfl, iteF (q _ (Same.refl _))⟩⟩
  · refine ⟨_, rfl, _, rfl, kd, .inr ⟨p, xs, rfl, ha, hz, hk, fun H' s' => ⟨_, rfl, ?_⟩⟩⟩
    have qq := q H' s'
    refine ite2 (fun c => ?_) (fun c => ?_)
    · refine ⟨_, rfl, p, xs, rfl, .inl (SqL.of (s' _ _ ha)), rfl, ?_⟩
      rw [dec_V, show decide ((xs.length : Int) = 16) = decide (xs.length = 16) from decide_eq_decide.mpr (by omega)]
      have c' : xs.all goodV = true := c
      rw [c', Bool.and_true] at qq
      exact qq
    · have c' : xs.all goodV = false := Bool.eq_false_iff.mpr c
      rw [c', Bool.and_false] at qq
      exact qq
def spEmpty (_ : PySem.W.Frag) (_ : Ad) : Sp := fun vs H Q _ => vs = [] ∧ ∀ p H', H p = none → Same H H' → H' p = some (.lst ((List.replicate 16 (0 : Int)).map V.int)) → Q (.ref p) H'
theorem ok_empty_row (F : Fun K "empty_row" "empty_row" s_empty_row f fd) (T : Txt K mg a)  : FnOk P w K mg base CX0 1 f fd [] (spEmpty K a) := by
  have nd := sc_empty_row.nd
  refine F.ok sc_empty_row (fun vs H Q E h => ?_) (fun cdv A outer s H vs Q E hr h => ?_)
  · obtain ⟨rfl, _⟩ := h
    rfl
  obtain ⟨rfl, q⟩ := h
  refine ⟨_, (pss_one (ps_ret (pe_op op_rep (pe_lst (pa_cons pe_int pa_nil)) (pe_glob (v := .int 16) rfl T.cROW_WORDS.choose_spec ⟨_, rfl⟩)))), ?_⟩
  refine ⟨(by show 1 ≤ sizeLine; decide), fun p hp => ?_⟩
  refine ⟨p, 16, [.int 0], rfl, rfl, upd_same, by decide, by decide, (by show 1 * 16 ≤ sizeLine; decide), fun r hr' => ?_⟩
  have hrH : H r = none := (same_new hp (.lst [.int 0])).free hr'
  exact q r _ hrH ((same_new hp _).trans (same_new hr' _)) upd_same
def spChanged (_ : PySem.W.Frag) (_ : Ad) : Sp := fun vs H Q _ => ∃ (r wd : Addr) (xs ys : List V) (k : Nat), vs = [.ref r, .int k, .ref wd] ∧ H r = some (.lst xs) ∧ H wd = some (.lst ys) ∧ xs.length ≤ 300 ∧ ys.length ≤ 300 ∧ ∀ p H', H p = none → Same H H' → H' p = some (.lst (xs.take k ++ ys ++ xs.drop (k + ys.length))) → Q (.ref p) H'
theorem ok_changed (F : Fun K "changed" "changed" s_changed f fd) (T : Txt K mg a)  : FnOk P w K mg base CX0 1 f fd ["row", "at", "words"] (spChanged K a) := by
  have nd := sc_changed.nd
  refine F.ok sc_changed (fun vs H Q E h => ?_) (fun cdv A outer s H vs Q E hr h => ?_)
  · obtain ⟨r, wd, xs, ys, k, rfl, _⟩ := h
    rfl
  obtain ⟨r, wd, xs, ys, k, rfl, hr0, hw, z1, z2, q⟩ := h
  refine ⟨_, (pss_one (ps_ret (pe_op op_cat (pe_op op_cat (pe_slice sl_list (pv 0) po_none (po_some (pv 1))) (pv 2)) (pe_slice sl_list (pv 0) (po_some (pe_op op_add (pv 1) (pe_callB call_len_seq rfl T.len bt_len (pa_cons (pv 2) pa_nil)))) po_none)))), ?_⟩
  refine ⟨_, rfl, _, rfl, _, rfl, r, xs, rfl, SqL.of hr0, fun p1 n1 => ?_⟩
  rw [cut_to]
  have s1 := same_new n1 (.lst (xs.take k))
  refine ⟨_, rfl, p1, wd, _, _, rfl, rfl, upd_same, s1 _ _ hw, small (by rw [List.length_take]; omega), fun p2 n2 => ?_⟩
  have s2 := s1.trans (same_new n2 (.lst (xs.take k ++ ys)))
  refine ⟨_, rfl, _, rfl, _, rfl, wd, ys, rfl, .inl (SqL.of (s2 _ _ hw)), _, _, rfl, rfl, _, rfl, r, xs, rfl, SqL.of (s2 _ _ hr0), fun p3 n3 => ?_⟩
  dsimp only
  rw [show (k : Int) + (ys.length : Int) = ((k + ys.length : Nat) : Int) by omega, cut_from]
  have s3 := s2.trans (same_new n3 (.lst (xs.drop (k + ys.length))))
  refine ⟨p2, p3, _, _, rfl, rfl, same_new n3 _ _ _ upd_same, upd_same, small (by rw [List.length_append, List.length_take, List.length_drop]; omega), fun p4 n4 => ?_⟩
  exact q p4 _ (s3.free n4) (s3.trans (same_new n4 _)) upd_same
end
end K7
end
section
set_option Elab.async false
set_option linter.all false
set_option maxRecDepth 100000
set_option maxHeartbeats 4000000
namespace K7
open PySem L2 BK
section
variable {P : Program} {w : World} {K : PySem.W.Frag} {mg : Str → Option Value} {base : Heap} {f : Addr} {fd : FuncData} {a : Ad}
/-! ### the disk -/
def spInit (K : PySem.W.Frag) (a : Ad) : Sp := fun vs H Q E => ∃ (x dx : Addr) (v : V), vs = [.ref x, v] ∧ H x = some (.ins a.cDisk dx []) ∧ Kd K H v ∧
  ((∃ m : Nat, v = .int m ∧ 24 ≤ m ∧ m ≤ 96 ∧ ∀ kr H', H kr = none → Chg [x] H H' → DiskAt a.cDisk H' x kr (List.replicate m (List.replicate 16 0)) 0 none → Q .non H') ∨ (wholeV v 24 96 = false ∧ E (.ref a.cBadDisk) none H))
theorem rows_of {H : Hp} {vs : List V} {n : Nat} {acc : Addr} (hl : vs.length = n) (g : Nat → List Int) (h : ∀ i v, vs[i]? = some v → ∃ r, v = .ref r ∧ r ≠ acc ∧ H r = some (.lst ((g i).map V.int))) : ∃ rs : List Addr, vs = rs.map V.ref ∧ acc ∉ rs ∧ RowsAt H rs ((List.range n).map g) := by
  refine ⟨vs.map fun v => match v with | .ref r => r | _ => 0, ?_, ?_, by simp [hl], fun i r row h1 h2 => ?_⟩
  · rw [List.map_map]
    conv => lhs; rw [← List.map_id vs]
    refine List.map_congr_left fun v hv => ?_
    obtain ⟨i, hi, e⟩ := List.mem_iff_getElem.mp hv
    obtain ⟨r, e1, _⟩ := h i v (by rw [← e]; exact List.getElem?_eq_getElem hi)
    subst e1; rfl
  · intro hm
    obtain ⟨v, hv, e⟩ := List.mem_map.mp hm
    obtain ⟨i, hi, e'⟩ := List.mem_iff_getElem.mp hv
    obtain ⟨r, e1, e2, _⟩ := h i v (by rw [← e']; exact List.getElem?_eq_getElem hi)
    subst e1; exact e2 e
  · rw [List.getElem?_map] at h1 h2
    cases q : vs[i]? with
    | none => rw [q] at h1; cases h1
    | some v =>
      obtain ⟨r', e1, _, e3⟩ := h i v q
      rw [q] at h1
      subst e1
      cases h1
      have hi : i < n := by rw [← hl]; exact (List.getElem?_eq_some_iff.mp q).1
      rw [List.getElem?_range hi] at h2
      cases h2
      exact e3
theorem good_zero : GoodRow (List.replicate 16 0) := ⟨by simp, fun x hx => by rw [List.eq_of_mem_replicate hx]; decide⟩
theorem map_const (n : Nat) (r : List Int) : (List.range n).map (fun _ => r) = List.replicate n r := by
  rw [List.map_const']; simp
theorem ok_Disk___init__ (F : Fun K "__init__" "Disk.__init__" s_Disk___init__ f fd) (T : Txt K mg a) (D_is_whole : Df P w K mg base CX0 1 "is_whole" ["thing", "least", "most"] (spWhole K a)) (D_empty_row : Df P w K mg base CX0 1 "empty_row" [] (spEmpty K a)) : FnOk P w K mg base (CXE P w) 2 f fd ["self", "many"] (spInit K a) := by
  obtain ⟨_, _, Gis_whole, bis_whole, kis_whole, mis_whole⟩ := D_is_whole
  obtain ⟨_, _, Gempty_row, bempty_row, kempty_row, mempty_row⟩ := D_empty_row
  have nd := sc_Disk___init__.nd
  refine F.okE sc_Disk___init__ (fun vs H Q E h => ?_) (fun cdv A outer s H vs Q E hr hA h => ?_)
  · obtain ⟨x, dx, v, rfl, _⟩ := h
    rfl
  obtain ⟨x, dx, v, rfl, hx, kd, hq⟩ := h
  refine ⟨_, (pss_cons (ps_if (pt_not (pt_val (pe_call Gis_whole (hr.mono (by decide)) rfl mis_whole kis_whole bis_whole .nil pass0 (pa_cons (pv 1) (pa_cons (pe_glob (v := .int 24) rfl T.cLEAST_BLOCKS.choose_spec ⟨_, rfl⟩) (pa_cons (pe_glob (v := .int 96) rfl T.cMOST_BLOCKS.choose_spec ⟨_, rfl⟩) pa_nil)))))) (pss_one (ps_raise (out_fn (fun _ _ _ h => h)) rfl hA rfl T.mBadDisk T.xBadDisk (pa_cons pe_str pa_nil))) pss_nil)
    (pss_cons (ps_fld (pv 0) (pe_lc (cl := []) (fj := []) (by exact ⟨rfl, by decide +kernel, rfl, by decide +kernel, rfl, fun _ h => (by cases h), by decide +kernel, fun _ h => (by cases h), by decide +kernel⟩) rfl (pi_range1 rfl T.range (pa_cons (pv 1) pa_nil)) (fun _ _ _ => pf_nil) (fun _ _ _ => (pe_call0 Gempty_row (hr.mono (by decide)) rfl mempty_row kempty_row bempty_row .nil pass0))) rfl)
    (pss_cons (ps_fld (pv 0) pe_int rfl)
    (pss_one (ps_fld (pv 0) pe_non rfl))))), ?_⟩
  refine ⟨_, rfl, v, 24, 96, rfl, kd, _, rfl, ?_⟩
  rcases hq with ⟨m, rfl, h1, h2, q⟩ | ⟨hw, q⟩
  · have hw : wholeV (.int (m : Int)) 24 96 = true := by show (decide ((24 : Int) ≤ m) && decide ((m : Int) ≤ 96)) = true; rw [decide_eq_true (by omega), decide_eq_true (by omega)]; rfl
    refine iteF' (by rw [hw]; rfl) ?_
    refine ⟨_, rfl, _, rfl, by omega, by omega, ?_⟩
    rw [show ((m : Int)).toNat = m by omega]
    refine lc_vals (n := m) (by omega) (fun acc H i v => ∃ r, v = .ref r ∧ r ≠ acc ∧ H r = some (.lst ((List.replicate 16 (0 : Int)).map V.int))) ?_ ?_ ?_
    · rintro acc H H' i v k ⟨r, e1, e2, e3⟩
      exact ⟨r, e1, e2, k _ _ e2 e3⟩
    · intro acc i H' Qf hi h0 s1 ha k
      exact ⟨rfl, fun p H3 np s3 hp => k _ _ s3 ⟨p, rfl, fun z => ha (by rw [← z]; exact np), hp⟩⟩
    · intro acc vs H' h0 s1 hacc hl hg
      obtain ⟨rs, rfl, nm, hR⟩ := rows_of hl (fun _ => List.replicate 16 0) hg
      rw [map_const] at hR
      have hx' := s1 _ _ hx
      have nx : x ≠ acc := ne_of hx' hacc (fun z => by cases z)
      refine ⟨_, rfl, x, a.cDisk, dx, _, rfl, hx', T.clDisk, T.n_kept_rows, by decide, ?_⟩
      refine ⟨_, rfl, x, a.cDisk, dx, _, rfl, upd_same, T.clDisk, T.n_writes_done, (by show 1 < 1000; decide), ?_⟩
      rw [upd_upd]
      refine ⟨_, rfl, x, a.cDisk, dx, _, rfl, upd_same, T.clDisk, T.n_writes_left, (by show 2 < 1000; decide), ?_⟩
      rw [upd_upd]
      have c : Chg [x] H (upd H' x (.ins a.cDisk dx [("kept_rows", .ref acc), ("writes_done", .int 0), ("writes_left", .non)])) := (Chg.of s1).upd (by simp) _
      refine q acc _ h0 c ⟨⟨dx, rs, upd_same, by rw [upd_ne (Ne.symm nx)]; exact hacc, hR.1, fun i r row e1 e2 => ?_⟩, by simp; omega, by simp; omega, fun row hrow => by rw [List.eq_of_mem_replicate hrow]; exact good_zero⟩
      have hr := hR.2 i r row e1 e2
      rw [upd_ne (ne_of hr hx' (fun z => by cases z))]
      exact hr
  · exact iteT' (by rw [hw]; rfl) ⟨(by show 1 ≤ 1000; decide), q⟩
def spBlocks (_ : PySem.W.Frag) (a : Ad) : Sp := fun vs H Q _ => ∃ (d kr : Addr) (R : List (List Int)) (n : Int) (l : Option Int), vs = [.ref d] ∧ DiskAt a.cDisk H d kr R n l ∧ Q (.int R.length) H
theorem ok_Disk_blocks (F : Fun K "blocks" "Disk.blocks" s_Disk_blocks f fd) (T : Txt K mg a)  : FnOk P w K mg base (CXE P w) 1 f fd ["self"] (spBlocks K a) := by
  have nd := sc_Disk_blocks.nd
  refine F.okE sc_Disk_blocks (fun vs H Q E h => ?_) (fun cdv A outer s H vs Q E hr hA h => ?_)
  · obtain ⟨d, kr, R, n, l, rfl, _⟩ := h
    rfl
  obtain ⟨d, kr, R, n, l, rfl, D, q⟩ := h
  obtain ⟨dx, rs, h1, h2, h3⟩ := D.ex
  refine ⟨_, (pss_one (ps_ret (pe_callB call_len_seq rfl T.len bt_len (pa_cons (pe_fld (pv 0) rfl) pa_nil)))), ?_⟩
  refine ⟨_, rfl, d, a.cDisk, dx, _, _, rfl, h1, T.clDisk, T.n_kept_rows, rfl, kr, _, rfl, .inl (SqL.of h2), ?_⟩
  rw [List.length_map, h3.1]
  exact q
def spRefuse (K : PySem.W.Frag) (a : Ad) : Sp := fun vs H Q E => ∃ (d kr : Addr) (R : List (List Int)) (n : Int) (l : Option Int) (v : V), vs = [.ref d, v] ∧ DiskAt a.cDisk H d kr R n l ∧ Kd K H v ∧
  if wholeV v 0 ((R.length : Int) - 1) = true then Q .non H else E (.ref a.cNoBlock) none H
theorem ok_Disk_refuse_no_block (F : Fun K "refuse_no_block" "Disk.refuse_no_block" s_Disk_refuse_no_block f fd) (T : Txt K mg a) (D_is_whole : Df P w K mg base CX0 1 "is_whole" ["thing", "least", "most"] (spWhole K a)) (M_Disk_blocks : Mf P w K mg base (CXE P w) 1 a.f_blocks ["self"] (spBlocks K a)) : FnOk P w K mg base (CXE P w) 2 f fd ["self", "block"] (spRefuse K a) := by
  obtain ⟨_, _, Gis_whole, bis_whole, kis_whole, mis_whole⟩ := D_is_whole
  obtain ⟨_, G_blocks, b_blocks⟩ := M_Disk_blocks
  have nd := sc_Disk_refuse_no_block.nd
  refine F.okE sc_Disk_refuse_no_block (fun vs H Q E h => ?_) (fun cdv A outer s H vs Q E hr hA h => ?_)
  · obtain ⟨d, kr, R, n, l, v, rfl, _⟩ := h
    rfl
  obtain ⟨d, kr, R, n, l, v, rfl, D, kd, q⟩ := h
  obtain ⟨dx, h1⟩ := D.at
  refine ⟨_, (pss_one (ps_if (pt_not (pt_val (pe_call Gis_whole (hr.mono (by decide)) rfl mis_whole kis_whole bis_whole .nil pass0 (pa_cons (pv 1) (pa_cons pe_int (pa_cons (pe_op op_sub (pe_meth0 (pv 0) T.clDisk T.m_blocks G_blocks (hr.mono (by decide)) b_blocks .nil (passes_fn (fun _ _ _ h => h)) (hcm := (.inr hA))) pe_int) pa_nil)))))) (pss_one (ps_raise (out_fn (fun _ _ _ h => h)) rfl hA rfl T.mNoBlock T.xNoBlock (pa_cons pe_str pa_nil))) pss_nil)), ?_⟩
  refine ⟨_, rfl, _, rfl, d, dx, _, rfl, h1, rfl, d, kr, R, n, l, rfl, D, _, _, rfl, rfl, v, 0, _, rfl, kd, _, rfl, ?_⟩
  by_cases hw : wholeV v 0 ((R.length : Int) - 1) = true
  · rw [if_pos hw] at q
    exact iteF' (by rw [hw]; rfl) q
  · rw [if_neg hw] at q
    exact iteT' (by rw [Bool.eq_false_iff.mpr hw]; rfl) ⟨(by show 1 ≤ 1000; decide), q⟩
def spRead (K : PySem.W.Frag) (a : Ad) : Sp := fun vs H Q E => ∃ (d kr : Addr) (R : List (List Int)) (n : Int) (l : Option Int) (v : V), vs = [.ref d, v] ∧ DiskAt a.cDisk H d kr R n l ∧ Kd K H v ∧
  ((∃ (b : Nat) (row : List Int), v = .int b ∧ R[b]? = some row ∧ ∀ p H', H p = none → Same H H' → H' p = some (.lst (row.map V.int)) → Q (.ref p) H') ∨ (wholeV v 0 ((R.length : Int) - 1) = false ∧ E (.ref a.cNoBlock) none H))
theorem whole_of {b m : Nat} (h : b < m) : wholeV (.int (b : Int)) 0 ((m : Int) - 1) = true := by
  show (decide ((0 : Int) ≤ b) && decide ((b : Int) ≤ (m : Int) - 1)) = true
  rw [decide_eq_true (by omega), decide_eq_true (by omega)]; rfl
theorem ok_Disk_read (F : Fun K "read" "Disk.read" s_Disk_read f fd) (T : Txt K mg a) (M_Disk_refuse_no_block : Mf P w K mg base (CXE P w) 2 a.f_refuse_no_block ["self", "block"] (spRefuse K a)) : FnOk P w K mg base (CXE P w) 3 f fd ["self", "block"] (spRead K a) := by
  obtain ⟨_, G_refuse_no_block, b_refuse_no_block⟩ := M_Disk_refuse_no_block
  have nd := sc_Disk_read.nd
  refine F.okE sc_Disk_read (fun vs H Q E h => ?_) (fun cdv A outer s H vs Q E hr hA h => ?_)
  · obtain ⟨d, kr, R, n, l, v, rfl, _⟩ := h
    rfl
  obtain ⟨d, kr, R, n, l, v, rfl, D, kd, hq⟩ := h
  obtain ⟨dx, rs, h1, h2, h3⟩ := D.ex
  refine ⟨_, (pss_cons (ps_expr (pe_meth (pv 0) T.clDisk T.m_refuse_no_block G_refuse_no_block (hr.mono (by decide)) b_refuse_no_block .nil (passes_fn (fun _ _ _ h => h)) (pa_cons (pv 1) pa_nil) (hcm := (.inr hA))))
    (pss_one (ps_ret (pe_callTy call_list_of rfl T.list bt_list (pa_cons (pe_ix ix_list (pe_fld (pv 0) rfl) (pv 1) (fun _ _ => rfl)) pa_nil))))), ?_⟩
  refine ⟨_, rfl, d, dx, _, rfl, h1, rfl, _, rfl, d, kr, R, n, l, v, rfl, D, kd, ?_⟩
  rcases hq with ⟨b, row, rfl, hb, q⟩ | ⟨hw, q⟩
  · have hb' : b < R.length := (List.getElem?_eq_some_iff.mp hb).1
    refine iteT' (whole_of hb') ?_
    obtain ⟨r, e1, e2⟩ := h3.get hb'
    rw [show R[b] = row by rw [List.getElem?_eq_getElem hb'] at hb; exact Option.some.inj hb] at e2
    have e3 : atI (rs.map V.ref) (b : Int) = some (.ref r) := atI_nat (by rw [List.getElem?_map, e1]; rfl)
    refine ⟨_, rfl, d, a.cDisk, dx, _, _, rfl, h1, T.clDisk, T.n_kept_rows, rfl, _, rfl, kr, _, _, .ref r, rfl, rfl, SqL.of h2, e3, r, _, rfl, .inl (SqL.of e2), fun p np => ?_⟩
    exact q p _ np (same_new np _) upd_same
  · exact iteF' hw q
def spWrites (_ : PySem.W.Frag) (a : Ad) : Sp := fun vs H Q _ => ∃ (d kr : Addr) (R : List (List Int)) (n : Int) (l : Option Int), vs = [.ref d] ∧ DiskAt a.cDisk H d kr R n l ∧ Q (.int n) H
theorem ok_Disk_writes (F : Fun K "writes" "Disk.writes" s_Disk_writes f fd) (T : Txt K mg a)  : FnOk P w K mg base (CXE P w) 1 f fd ["self"] (spWrites K a) := by
  have nd := sc_Disk_writes.nd
  refine F.okE sc_Disk_writes (fun vs H Q E h => ?_) (fun cdv A outer s H vs Q E hr hA h => ?_)
  · obtain ⟨d, kr, R, n, l, rfl, _⟩ := h
    rfl
  obtain ⟨d, kr, R, n, l, rfl, D, q⟩ := h
  obtain ⟨dx, h1⟩ := D.at
  refine ⟨_, (pss_one (ps_ret (pe_fld (pv 0) rfl))), ?_⟩
  exact ⟨_, rfl, d, a.cDisk, dx, _, _, rfl, h1, T.clDisk, T.n_writes_done, rfl, q⟩
def spUseUp (_ : PySem.W.Frag) (a : Ad) : Sp := fun vs H Q E => ∃ (d kr : Addr) (R : List (List Int)) (n : Int) (l : Option Int), vs = [.ref d] ∧ DiskAt a.cDisk H d kr R n l ∧
  match l with
  | none => Q .non H
  | some k => (k < 1 → E (.ref a.cStopped) none H) ∧ (¬ k < 1 → ∀ H', Chg [d] H H' → DiskAt a.cDisk H' d kr R n (some (k - 1)) → Q .non H')
theorem ok_Disk_use_up_one (F : Fun K "use_up_one" "Disk.use_up_one" s_Disk_use_up_one f fd) (T : Txt K mg a)  : FnOk P w K mg base (CXE P w) 1 f fd ["self"] (spUseUp K a) := by
  have nd := sc_Disk_use_up_one.nd
  refine F.okE sc_Disk_use_up_one (fun vs H Q E h => ?_) (fun cdv A outer s H vs Q E hr hA h => ?_)
  · obtain ⟨d, kr, R, n, l, rfl, _⟩ := h
    rfl
  obtain ⟨d, kr, R, n, l, rfl, D, q⟩ := h
  obtain ⟨dx, h1⟩ := D.at
  refine ⟨_, (pss_cons (ps_if (pt_cmpR op_isN (pe_fld (pv 0) rfl) pe_non (nomark _)) (pss_one ps_retN) pss_nil)
    (pss_cons (ps_if (pt_cmpR op_lt (pe_fld (pv 0) rfl) pe_int (nomark _)) (pss_one (ps_raise (out_fn (fun _ _ _ h => h)) rfl hA rfl T.mStopped T.xStopped (pa_cons pe_str pa_nil))) pss_nil)
    (pss_one (ps_fld (pv 0) (pe_op op_sub (pe_fld (pv 0) rfl) pe_int) rfl)))), ?_⟩
  cases l with
  | none => exact ⟨_, rfl, d, a.cDisk, dx, _, _, rfl, h1, T.clDisk, T.n_writes_left, rfl, rfl, _, rfl, iteT' (by rfl) q⟩
  | some k =>
    refine ⟨_, rfl, d, a.cDisk, dx, _, _, rfl, h1, T.clDisk, T.n_writes_left, rfl, rfl, _, rfl, iteF' (by rfl) ?_⟩
    refine ⟨_, rfl, d, a.cDisk, dx, _, _, rfl, h1, T.clDisk, T.n_writes_left, rfl, _, _, rfl, rfl, _, rfl, ?_⟩
    refine ite2 (fun c => ⟨(by show 1 ≤ 1000; decide), q.1 (of_decide_eq_true c)⟩) (fun c => ?_)
    refine ⟨_, rfl, d, a.cDisk, dx, _, _, rfl, h1, T.clDisk, T.n_writes_left, rfl, _, _, rfl, rfl, _, rfl, d, a.cDisk, dx, _, rfl, h1, T.clDisk, T.n_writes_left, (by show 3 < 1000; decide), ?_⟩
    exact q.2 (of_decide_eq_false (Bool.eq_false_iff.mpr c)) _ ((Chg.of (Same.refl _)).upd (by simp) _) (D.put (n' := n) (l' := some (k - 1)) h1)
def spWrite0 (K : PySem.W.Frag) (a : Ad) : Sp := fun vs H Q E => ∃ (d kr : Addr) (R : List (List Int)) (n : Int) (l : Option Int) (v r : V) (ok : Bool), vs = [.ref d, v, r] ∧ DiskAt a.cDisk H d kr R n l ∧ Kd K H v ∧ RowA K H r ok ∧
  ((wholeV v 0 ((R.length : Int) - 1) = false ∧ E (.ref a.cNoBlock) none H) ∨
   (wholeV v 0 ((R.length : Int) - 1) = true ∧ ok = false ∧ ∀ H', Same H H' → E (.ref a.cBadRow) none H') ∨
   (wholeV v 0 ((R.length : Int) - 1) = true ∧ ok = true ∧ (∃ k, l = some k ∧ k < 1) ∧ ∀ H', Same H H' → E (.ref a.cStopped) none H') ∨
   (∃ (b : Nat) (p : Addr) (row : List Int), v = .int b ∧ b < R.length ∧ r = .ref p ∧ H p = some (.lst (row.map V.int)) ∧ GoodRow row ∧ (∀ k, l = some k → ¬ k < 1) ∧
     ∀ H', Chg [d, kr] H H' → DiskAt a.cDisk H' d kr (R.set b row) (n + 1) (l.map (· - 1)) → (∀ u, H u ≠ none → NoRowAt H kr u → NoRowAt H' kr u) → Q .non H'))
@[irreducible] def spWrite (K : PySem.W.Frag) (a : Ad) : Sp := spWrite0 K a
theorem rowA_good {H : Hp} {p : Addr} {row : List Int} (hp : H p = some (.lst (row.map V.int))) (g : GoodRow row) : RowA K H (.ref p) true := by
  refine ⟨.lst hp, .inr ⟨p, _, rfl, hp, by rw [List.length_map, g.1]; decide, fun x hx => ?_, ?_⟩⟩
  · obtain ⟨i, _, rfl⟩ := List.mem_map.mp hx
    exact .int i
  · rw [List.length_map, g.1, good_ints row g.2]; rfl
theorem ok_Disk_write (F : Fun K "write" "Disk.write" s_Disk_write f fd) (T : Txt K mg a) (M_Disk_refuse_no_block : Mf P w K mg base (CXE P w) 2 a.f_refuse_no_block ["self", "block"] (spRefuse K a)) (M_Disk_use_up_one : Mf P w K mg base (CXE P w) 1 a.f_use_up_one ["self"] (spUseUp K a)) (D_is_row : Df P w K mg base CX0 4 "is_row" ["thing"] (spIsRow K a)) : FnOk P w K mg base (CXE P w) 5 f fd ["self", "block", "row"] (spWrite K a) := by
  obtain ⟨_, G_refuse_no_block, b_refuse_no_block⟩ := M_Disk_refuse_no_block
  obtain ⟨_, G_use_up_one, b_use_up_one⟩ := M_Disk_use_up_one
  obtain ⟨_, _, Gis_row, bis_row, kis_row, mis_row⟩ := D_is_row
  have nd := sc_Disk_write.nd
  refine F.okE sc_Disk_write (fun vs H Q E h => ?_) (fun cdv A outer s H vs Q E hr hA h => ?_)
  · unfold spWrite at h
    obtain ⟨d, kr, R, n, l, v, r, ok, rfl, _⟩ := h
    rfl
  unfold spWrite at h
  obtain ⟨d, kr, R, n, l, v, r, ok, rfl, D, kd, rA, hq⟩ := h
  obtain ⟨dx, h1⟩ := D.at
  refine ⟨_, (pss_cons (ps_expr (pe_meth (pv 0) T.clDisk T.m_refuse_no_block G_refuse_no_block (hr.mono (by decide)) b_refuse_no_block .nil (passes_fn (fun _ _ _ h => h)) (pa_cons (pv 1) pa_nil) (hcm := (.inr hA))))
    (pss_cons (ps_if (pt_not (pt_val (pe_call Gis_row (hr.mono (by decide)) rfl mis_row kis_row bis_row .nil pass0 (pa_cons (pv 2) pa_nil)))) (pss_one (ps_raise (out_fn (fun _ _ _ h => h)) rfl hA rfl T.mBadRow T.xBadRow (pa_cons pe_str pa_nil))) pss_nil)
    (pss_cons (ps_expr (pe_meth0 (pv 0) T.clDisk T.m_use_up_one G_use_up_one (hr.mono (by decide)) b_use_up_one .nil (passes_fn (fun _ _ _ h => h)) (hcm := (.inr hA))))
    (pss_cons (ps_asg (pe_callTy call_list_of rfl T.list bt_list (pa_cons (pv 2) pa_nil)) (pg_sub (pe_fld (pv 0) rfl) (pv 1) set_list))
    (pss_one (ps_fld (pv 0) (pe_op op_add (pe_fld (pv 0) rfl) pe_int) rfl)))))), ?_⟩
  refine ⟨_, rfl, d, dx, _, rfl, h1, rfl, _, rfl, d, kr, R, n, l, v, rfl, D, kd, ?_⟩
  rcases hq with ⟨hw, q⟩ | ⟨hw, rfl, q⟩ | ⟨hw, rfl, ⟨k, rfl, hk⟩, q⟩ | ⟨b, p, row, rfl, hb, rfl, hp, g, hl, q⟩
  · exact iteF' hw q
  · refine iteT' hw ⟨_, rfl, r, false, rfl, rA, fun H1 s1 => ⟨_, rfl, iteT' (by rfl) ⟨(by show 1 ≤ 1000; decide), q H1 s1⟩⟩⟩
  · refine iteT' hw ⟨_, rfl, r, true, rfl, rA, fun H1 s1 => ⟨_, rfl, iteF' (by rfl) ?_⟩⟩
    exact ⟨_, rfl, d, dx, _, rfl, s1 _ _ h1, rfl, d, kr, R, n, some k, rfl, D.same s1, fun _ => q H1 s1, fun z => absurd hk z⟩
  · refine iteT' (whole_of hb) ⟨_, rfl, _, ok, rfl, rA, fun H1 s1 => ?_⟩
    have hok : ok = true := by
      obtain ⟨_, h⟩ := rA
      rcases h with ⟨hL, _⟩ | ⟨p', xs, e1, e2, _, _, e5⟩
      · exfalso
        have : isL H (.ref p) = true := by show isLH (H _) = _; rw [hp]; rfl
        rw [this] at hL; cases hL
      · cases e1
        rw [hp] at e2
        cases e2
        rw [e5, List.length_map, g.1, good_ints row g.2]; rfl
    subst hok
    refine ⟨_, rfl, iteF' (by rfl) ?_⟩
    have D1 := D.same s1
    have fin : ∀ H2 l', Chg [d] H1 H2 → DiskAt a.cDisk H2 d kr R n l' → l' = l.map (· - 1) → tSeq (tAsg (tCB (fun xs H Q => ∃ p ys, xs = [.ref p] ∧ (SqL K H p ys ∨ SqT K H p ys) ∧ ∀ l, H l = none → Q (.ref l) (upd H l (.lst ys))) (tCons (tVar 2) tNil)) (gSub (tFld K (tVar 0) "kept_rows") (tVar 1) rSetL)) (sFld K (tVar 0) (tOp (rI0 fun i j => .int (i + j)) (tFld K (tVar 0) "writes_done") (tC (.int 1))) "writes_done") { nx := fun _ H' => Q .non H', rt := Q } (start ["self", "block", "row"] [.ref d, .int b, .ref p]) H2 := by
      rintro H2 l' c2 D2 rfl
      have hp2 : H2 p = some (.lst (row.map V.int)) := c2 _ _ (s1 _ _ hp) (by
        simp only [List.mem_singleton]
        exact ne_of hp h1 (fun z => by cases z))
      obtain ⟨dx2, rs, g1, g2, g3⟩ := D2.ex
      refine ⟨_, rfl, p, _, rfl, .inl (SqL.of hp2), fun q1 nq => ?_⟩
      have s3 := same_new nq (.lst (row.map V.int))
      have g1' := s3 _ _ g1
      have g2' := s3 _ _ g2
      have nkd : kr ≠ d := ne_of g2 g1 (fun z => by cases z)
      refine ⟨_, rfl, d, a.cDisk, dx2, _, _, rfl, g1', T.clDisk, T.n_kept_rows, rfl, _, rfl, kr, _, _, b, rfl, rfl, g2', ?_, ?_⟩
      · rw [List.length_map, g3.1]; unfold ixN; rw [if_pos (by omega), if_pos (by omega)]; simp
      · rw [show (rs.map V.ref).set b (.ref q1) = (rs.set b q1).map V.ref by rw [List.map_set]]
        have g1'' : (upd (upd H2 q1 (.lst (row.map V.int))) kr (.lst ((rs.set b q1).map V.ref))) d = some (.ins a.cDisk dx2 [("kept_rows", .ref kr), ("writes_done", .int n), ("writes_left", lv (l.map (· - 1)))]) := by rw [upd_ne (Ne.symm nkd)]; exact g1'
        refine ⟨_, rfl, d, a.cDisk, dx2, _, _, rfl, g1'', T.clDisk, T.n_writes_done, rfl, _, _, rfl, rfl, _, rfl, d, a.cDisk, dx2, _, rfl, g1'', T.clDisk, T.n_writes_done, (by show 3 < 1000; decide), ?_⟩
        have cA : Chg [d, kr] H (upd (upd (upd H2 q1 (.lst (row.map V.int))) kr (.lst ((rs.set b q1).map V.ref))) d (.ins a.cDisk dx2 [("kept_rows", .ref kr), ("writes_done", .int (n + 1)), ("writes_left", lv (l.map (· - 1)))])) :=
          (((((Chg.of s1).trans (c2.mono (by simp))).new nq _)).upd (by simp) _).upd (by simp) _
        refine q _ cA ⟨⟨dx2, rs.set b q1, upd_same, ?_, ?_⟩, by rw [List.length_set]; exact D.lo, by rw [List.length_set]; exact D.hi, fun x hx => ?_⟩ (fun u hu nu rs' hrs' hm => ?_)
        · rw [upd_ne nkd, upd_same]
        · have nq1 : q1 ≠ kr := Ne.symm (ne_of_none g2 nq)
          have nq2 : q1 ≠ d := Ne.symm (ne_of_none g1 nq)
          refine RowsAt.set (row := row) ⟨g3.1, fun i r x e1 e2 => ?_⟩ b ?_
          · have hr := g3.2 i r x e1 e2
            have gx := D.good x (List.mem_of_getElem? e2)
            rw [upd_ne (ne_of hr g1 (fun z => by cases z)), upd_ne (ne_of hr g2 (fun z => ref_ne_row gx.1 z.symm))]
            exact s3 _ _ hr
          · rw [upd_ne nq2, upd_ne nq1, upd_same]
        · rcases List.mem_or_eq_of_mem_set hx with z | z
          · exact D.good x z
          · rw [z]; exact g
        · rw [upd_ne nkd, upd_same] at hrs'
          have er : rs.set b q1 = rs' := refs_inj (by injection hrs' with z; injection z)
          subst er
          rcases List.mem_or_eq_of_mem_set hm with z | z
          · have nu2 : NoRowAt H2 kr u := (nu.chg D (Chg.of s1 (S := [])) (by simp)).chg D1 c2 (by simp only [List.mem_singleton]; exact nkd)
            exact nu2 rs g2 z
          · subst z
            cases hu' : H u with
            | none => exact hu hu'
            | some o =>
              by_cases hud : u = d
              · subst hud; rw [g1] at nq; cases nq
              · have := c2 _ _ (s1 _ _ hu') (by simp only [List.mem_singleton]; exact hud)
                rw [this] at nq; cases nq
    refine ⟨_, rfl, d, dx, _, rfl, s1 _ _ h1, rfl, d, kr, R, n, l, rfl, D1, ?_⟩
    cases l with
    | none => exact fin H1 none (Chg.of (Same.refl _)) D1 rfl
    | some k => exact ⟨fun z => absurd z (hl k rfl), fun _ H2 c2 D2 => fin H2 (some (k - 1)) c2 D2 rfl⟩
end
end K7
end
section
set_option Elab.async false
set_option linter.all false
set_option maxRecDepth 100000
set_option maxHeartbeats 4000000
namespace K7
open PySem L2 BK
section
variable {P : Program} {w : World} {K : PySem.W.Frag} {mg : Str → Option Value} {base : Heap} {f : Addr} {fd : FuncData} {a : Ad}
/-! ### the journal -/
def zeros : List Int := List.replicate 16 0
def spHome (K : PySem.W.Frag) (a : Ad) : Sp := fun vs H Q _ => ∃ (d kr : Addr) (S : DS) (v : V), vs = [.ref d, v] ∧ DkAt a.cDisk H d kr S ∧ Kd K H v ∧ Q (.bl (wholeV v 17 ((S.R.length : Int) - 1))) H
theorem ok_is_home (F : Fun K "is_home" "is_home" s_is_home f fd) (T : Txt K mg a) (D_is_whole : Df P w K mg base CX0 1 "is_whole" ["thing", "least", "most"] (spWhole K a)) (M_Disk_blocks : Mf P w K mg base (CXE P w) 1 a.f_blocks ["self"] (spBlocks K a)) : FnOk P w K mg base (CXE P w) 2 f fd ["disk", "block"] (spHome K a) := by
  obtain ⟨_, _, Gis_whole, bis_whole, kis_whole, mis_whole⟩ := D_is_whole
  obtain ⟨_, G_blocks, b_blocks⟩ := M_Disk_blocks
  have nd := sc_is_home.nd
  refine F.okE sc_is_home (fun vs H Q E h => ?_) (fun cdv A outer s H vs Q E hr hA h => ?_)
  · obtain ⟨d, kr, S, v, rfl, _⟩ := h
    rfl
  obtain ⟨d, kr, S, v, rfl, D, kd, q⟩ := h
  obtain ⟨dx, h1⟩ := D.at
  refine ⟨_, (pss_one (ps_ret (pe_call Gis_whole (hr.mono (by decide)) rfl mis_whole kis_whole bis_whole .nil pass0 (pa_cons (pv 1) (pa_cons (pe_glob (v := .int 17) rfl T.cMAPS_AT.choose_spec ⟨_, rfl⟩) (pa_cons (pe_op op_sub (pe_meth0 (pv 0) T.clDisk T.m_blocks G_blocks (hr.mono (by decide)) b_blocks .nil (passes_fn (fun _ _ _ h => h)) (hcm := (.inr hA))) pe_int) pa_nil)))))), ?_⟩
  exact ⟨_, rfl, _, rfl, d, dx, _, rfl, h1, rfl, d, kr, S.R, S.n, S.l, rfl, D, _, _, rfl, rfl, v, 17, _, rfl, kd, q⟩
def beh (h : Option Int) (i : Int) : Bool := match h with
  | some j => decide (i ≤ j)
  | none => false
/-- the first pair that is wrong: a block (true), a row (false) -/
def wrong (m : Int) : Option Int → List (V × V × Bool) → Option Bool
  | _, [] => none
  | h, (v, _, ok) :: r => match v with
    | .int i => if (decide (17 ≤ i) && decide (i ≤ m - 1)) = true then (if beh h i = true then some true else if ok = true then wrong m (some i) r else some false) else some true
    | _ => some true
abbrev PairsK (K : PySem.W.Frag) : Hp → Addr → List (V × V × Bool) → Prop := PairsV K (RowA K)
def spRefuseP (K : PySem.W.Frag) (a : Ad) : Sp := fun vs H Q E => ∃ (d kr ps : Addr) (S : DS) (L : List (V × V × Bool)), vs = [.ref d, .ref ps] ∧ DkAt a.cDisk H d kr S ∧ PairsK K H ps L ∧ (15 < L.length → E (.ref a.cTooMuch) none H) ∧
  (L.length ≤ 15 → ∀ H', Same H H' → match wrong S.R.length none L with | none => Q .non H' | some true => E (.ref a.cNoBlock) none H' | some false => E (.ref a.cBadRow) none H')
theorem wrong_v {m : Int} {h : Option Int} {v r : V} {ok : Bool} {L : List (V × V × Bool)} (hw : wholeV v 17 (m - 1) = false) : wrong m h ((v, r, ok) :: L) = some true := by
  cases v with
  | int i =>
    have hw' : (decide (17 ≤ i) && decide (i ≤ m - 1)) = false := hw
    show (if (decide (17 ≤ i) && decide (i ≤ m - 1)) = true then _ else _) = _
    rw [hw', if_neg (by decide)]
  | _ => rfl
theorem wrong_i {m : Int} {h : Option Int} {i : Int} {r : V} {ok : Bool} {L : List (V × V × Bool)} (hw : wholeV (.int i) 17 (m - 1) = true) : wrong m h ((.int i, r, ok) :: L) = (if beh h i = true then some true else if ok = true then wrong m (some i) L else some false) := by
  have hw' : (decide (17 ≤ i) && decide (i ≤ m - 1)) = true := hw
  show (if (decide (17 ≤ i) && decide (i ≤ m - 1)) = true then _ else _) = _
  rw [hw', if_pos rfl]
theorem whole_int {v : V} {lo hi : Int} (h : wholeV v lo hi = true) : ∃ i, v = .int i ∧ lo ≤ i ∧ i ≤ hi := by
  cases v with
  | int i =>
    have h' : (decide (lo ≤ i) && decide (i ≤ hi)) = true := h
    rw [Bool.and_eq_true, decide_eq_true_eq, decide_eq_true_eq] at h'
    exact ⟨i, rfl, h'.1, h'.2⟩
  | _ => cases h
theorem ok_refuse_wrong_pairs (F : Fun K "refuse_wrong_pairs" "refuse_wrong_pairs" s_refuse_wrong_pairs f fd) (T : Txt K mg a) (D_is_home : Df P w K mg base (CXE P w) 2 "is_home" ["disk", "block"] (spHome K a)) (D_is_row : Df P w K mg base CX0 4 "is_row" ["thing"] (spIsRow K a)) : FnOk P w K mg base (CXE P w) 5 f fd ["disk", "pairs"] (spRefuseP K a) := by
  obtain ⟨_, _, Gis_home, bis_home, kis_home, mis_home⟩ := D_is_home
  obtain ⟨_, _, Gis_row, bis_row, kis_row, mis_row⟩ := D_is_row
  have nd := sc_refuse_wrong_pairs.nd
  refine F.okE sc_refuse_wrong_pairs (fun vs H Q E h => ?_) (fun cdv A outer s H vs Q E hr hA h => ?_)
  · obtain ⟨d, kr, ps, S, L, rfl, _⟩ := h
    rfl
  obtain ⟨d, kr, ps, S, L, rfl, D, ⟨ts, h1, h2, h3⟩, q1, q2⟩ := h
  refine ⟨_, (pss_cons (ps_if (pt_cmpR op_gt (pe_callB call_len_seq rfl T.len bt_len (pa_cons (pv 1) pa_nil)) (pe_glob (v := .int 15) rfl T.cMOST_HOMES.choose_spec ⟨_, rfl⟩) (nomark _)) (pss_one (ps_raise (out_fn (fun _ _ _ h => h)) rfl hA rfl T.mTooMuch T.xTooMuch (pa_cons pe_str pa_nil))) pss_nil)
    (pss_cons (ps_set (i := 2) nd rfl (by first | exact Or.inl rfl | exact Or.inr rfl) pe_non)
    (pss_one (ps_for PassesOwn.leaving rfl (pi_list (pv 1)) (pg_tup hA (pgs_cons (pg_name (i := 3) nd rfl (by first | exact Or.inl rfl | exact Or.inr rfl)) (pgs_cons (pg_name (i := 4) nd rfl (by first | exact Or.inl rfl | exact Or.inr rfl)) pgs_nil))) (pss_cons (ps_if (pt_not (pt_val (pe_call Gis_home (hr.mono (by decide)) rfl mis_home kis_home bis_home .nil (passes_fn (fun _ _ _ h => h)) (pa_cons (pv 0) (pa_cons (pv 3) pa_nil)) (hcm := (.inr hA))))) (pss_one (ps_raise (out_fn (fun _ _ _ h => h)) rfl hA rfl T.mNoBlock T.xNoBlock (pa_cons pe_str pa_nil))) pss_nil)
    (pss_cons (ps_if (PW.pt (pw_and (pt_cmpR op_notN (pv 2) pe_non (nomark _)) (pw_and1 (pt_cmpR op_le (pv 3) (pv 2) (nomark _))))) (pss_one (ps_raise (out_fn (fun _ _ _ h => h)) rfl hA rfl T.mNoBlock T.xNoBlock (pa_cons pe_str pa_nil))) pss_nil)
    (pss_cons (ps_if (pt_not (pt_val (pe_call Gis_row (hr.mono (by decide)) rfl mis_row kis_row bis_row .nil pass0 (pa_cons (pv 4) pa_nil)))) (pss_one (ps_raise (out_fn (fun _ _ _ h => h)) rfl hA rfl T.mBadRow T.xBadRow (pa_cons pe_str pa_nil))) pss_nil)
    (pss_one (ps_set (i := 2) nd rfl (by first | exact Or.inl rfl | exact Or.inr rfl) (pv 3)))))))))), ?_⟩
  refine ⟨_, rfl, ps, _, rfl, .inl (SqL.of h1), _, _, rfl, rfl, _, rfl, ?_⟩
  rw [List.length_map, h2]
  by_cases hl : 15 < L.length
  · exact iteT' (decide_eq_true (by omega)) ⟨(by show 1 ≤ 1000; decide), q1 hl⟩
  refine iteF' (decide_eq_false (by omega)) ?_
  have q3 := q2 (by omega)
  refine ⟨_, rfl, ps, rfl, ⟨_, SqL.of h1⟩, for_list (xs := ts.map V.ref) (fun i σ' H' => ∃ (hd : Option Int) (o3 o4 : Option V), σ' = [some (.ref d), some (.ref ps), some (lv hd), o3, o4] ∧ Same H H' ∧ wrong S.R.length none L = wrong S.R.length hd (L.drop i)) ⟨none, none, none, rfl, Same.refl _, rfl⟩ (fun i σ2 H2 _ ⟨_, _, _, _, s2, _⟩ => SqL.of (s2 _ _ h1)) ?_ ?_⟩
  · rintro i v σ2 H2 hv ⟨hd, o3, o4, rfl, s2, ew⟩
    have hi : i < L.length := by
      have := (List.getElem?_eq_some_iff.mp hv).1
      rw [List.length_map, h2] at this
      exact this
    have ht : ts[i]? = some (ts[i]'(by omega)) := List.getElem?_eq_getElem (by omega)
    rw [List.getElem?_map, ht] at hv
    cases hv
    obtain ⟨p1, p2, p3⟩ := h3 i _ _ ht (List.getElem?_eq_getElem hi)
    rw [List.drop_eq_getElem_cons hi] at ew
    generalize L[i] = x at p1 p2 p3 ew
    obtain ⟨v, r, ok⟩ := x
    have D2 := D.same s2
    refine ⟨_, _, rfl, SqT.of (s2 _ _ p1), rfl, _, _, rfl, _, _, rfl, rfl, ?_⟩
    refine ⟨_, rfl, _, rfl, d, kr, S, v, rfl, D2, p2.same s2, _, rfl, ?_⟩
    have q4 := fun H' s' => q3 H' s'
    rw [ew] at q4
    by_cases hw : wholeV v 17 ((S.R.length : Int) - 1) = true
    case neg =>
      have hw' := Bool.eq_false_iff.mpr hw
      rw [wrong_v hw'] at q4
      exact iteT' (by rw [hw']; rfl) ⟨(by show 1 ≤ 1000; decide), q4 H2 s2⟩
    refine iteF' (by rw [hw]; rfl) ?_
    obtain ⟨j, rfl, hj1, hj2⟩ := whole_int hw
    rw [wrong_i hw] at q4 ew
    have fin : beh hd j = false → tSeq (tIfS (tNot (tB (tCall (spIsRow K a) [] E0 (tCons (tVar 4) tNil)))) (tRaise E a.cBadRow (tCons (tC (.str "a row is a list of 16 words")) tNil)) tNext) (tAsg (tVar 3) (gName 2)) { nx := fun σ' H' => ∃ (hd : Option Int) (o3 o4 : Option V), σ' = [some (.ref d), some (.ref ps), some (lv hd), o3, o4] ∧ Same H H' ∧ wrong S.R.length none L = wrong S.R.length hd (L.drop (i + 1)), rt := Q } [some (.ref d), some (.ref ps), some (lv hd), some (.int j), some r] H2 := by
      intro hn
      rw [hn, if_neg (by decide)] at q4 ew
      refine ⟨_, rfl, r, ok, rfl, p3.same s2, fun H3 s3 => ⟨_, rfl, ?_⟩⟩
      cases ok with
      | false =>
        rw [if_neg (by decide)] at q4
        exact iteT ⟨(by show 1 ≤ 1000; decide), q4 H3 (s2.trans s3)⟩
      | true =>
        rw [if_pos rfl] at ew
        exact iteF ⟨_, rfl, some j, _, _, rfl, s2.trans s3, ew⟩
    cases hd with
    | none => exact ⟨_, rfl, rfl, _, rfl, iteF' (by rfl) (iteF (fin rfl))⟩
    | some k =>
      refine ⟨_, rfl, rfl, _, rfl, iteT' (by rfl) ⟨_, rfl, _, rfl, _, _, rfl, rfl, _, rfl, ?_⟩⟩
      by_cases hk : j ≤ k
      · refine iteT' (decide_eq_true hk) ⟨(by show 1 ≤ 1000; decide), ?_⟩
        have e : beh (some k) j = true := decide_eq_true hk
        rw [e, if_pos rfl] at q4
        exact q4 H2 s2
      · exact iteF' (decide_eq_false hk) (fin (decide_eq_false hk))
  · rintro σ2 H2 ⟨hd, o3, o4, rfl, s2, ew⟩
    have q4 := q3 H2 s2
    rw [ew, List.length_map, h2, List.drop_length] at q4
    exact q4
/-! ### write_homes, write_log -/
def spWHomes (K : PySem.W.Frag) (a : Ad) : Sp := fun vs H Q E => ∃ (d kr ps : Addr) (S : DS) (L : List (Nat × List Int)), vs = [.ref d, .ref ps] ∧ DkAt a.cDisk H d kr S ∧ PairsAt H ps L ∧ (∀ x ∈ L, x.1 < S.R.length ∧ GoodRow x.2) ∧
  ∀ H', Chg [d, kr] H H' → DkAt a.cDisk H' d kr (runW S (L ++ [(1, zeros)])).1 → (∀ u, H u ≠ none → NoRowAt H kr u → NoRowAt H' kr u) → if (runW S (L ++ [(1, zeros)])).2 = true then E (.ref a.cStopped) none H' else Q .non H'
/-- one write of the disk -/
theorem write_one {H : Hp} {d kr p : Addr} {S : DS} {b : Nat} {row : List Int} {Q : VK} {E : XK} (D : DkAt a.cDisk H d kr S) (hb : b < S.R.length) (hp : H p = some (.lst (row.map V.int))) (g : GoodRow row)
    (hs : S.stop = true → ∀ H', Same H H' → E (.ref a.cStopped) none H')
    (hn : ¬ S.stop = true → ∀ H', Chg [d, kr] H H' → DkAt a.cDisk H' d kr (S.put (b, row)) → (∀ u, H u ≠ none → NoRowAt H kr u → NoRowAt H' kr u) → Q .non H') :
    spWrite K a [.ref d, .int b, .ref p] H Q E := by
  unfold spWrite
  refine ⟨d, kr, S.R, S.n, S.l, .int b, .ref p, true, rfl, D, .int _, rowA_good hp g, ?_⟩
  by_cases h : S.stop = true
  · exact .inr (.inr (.inl ⟨whole_of hb, rfl, stop_iff h, hs h⟩))
  · exact .inr (.inr (.inr ⟨b, p, row, rfl, hb, rfl, hp, g, stop_not h, hn h⟩))
theorem put_len (S : DS) (x : Nat × List Int) : (S.put x).R.length = S.R.length := List.length_set
theorem chg_ne {S : List Addr} {H H' : Hp} {u : Addr} (c : Chg S H H') (n : ∀ b ∈ S, H' b ≠ none) (hu : H u ≠ none) : H' u ≠ none := by
  cases e : H u with
  | none => exact absurd e hu
  | some o =>
    by_cases hm : u ∈ S
    · exact n u hm
    · rw [c u o e hm]; simp
theorem dk_ne {H : Hp} {C d kr : Addr} {S : DS} (D : DkAt C H d kr S) : ∀ b ∈ [d, kr], H b ≠ none := by
  obtain ⟨dx, rs, g1, g2, _⟩ := D.ex
  intro b hb
  simp only [List.mem_cons, List.not_mem_nil, or_false] at hb
  rcases hb with e | e
  · rw [e, g1]; simp
  · rw [e, g2]; simp
theorem ok_write_homes (F : Fun K "write_homes" "write_homes" s_write_homes f fd) (T : Txt K mg a) (M_Disk_write : Mf P w K mg base (CXE P w) 5 a.f_write ["self", "block", "row"] (spWrite K a)) (D_empty_row : Df P w K mg base CX0 1 "empty_row" [] (spEmpty K a)) : FnOk P w K mg base (CXE P w) 6 f fd ["disk", "pairs"] (spWHomes K a) := by
  obtain ⟨_, G_write, b_write⟩ := M_Disk_write
  obtain ⟨_, _, Gempty_row, bempty_row, kempty_row, mempty_row⟩ := D_empty_row
  have nd := sc_write_homes.nd
  refine F.okE sc_write_homes (fun vs H Q E h => ?_) (fun cdv A outer s H vs Q E hr hA h => ?_)
  · obtain ⟨d, kr, ps, S, L, rfl, _⟩ := h
    rfl
  obtain ⟨d, kr, ps, S, L, rfl, D, PA, gL, q⟩ := h
  refine ⟨_, (pss_cons (ps_for PassesOwn.leaving rfl (pi_list (pv 1)) (pg_tup hA (pgs_cons (pg_name (i := 2) nd rfl (by first | exact Or.inl rfl | exact Or.inr rfl)) (pgs_cons (pg_name (i := 3) nd rfl (by first | exact Or.inl rfl | exact Or.inr rfl)) pgs_nil))) (pss_one (ps_expr (pe_meth (pv 0) T.clDisk T.m_write G_write (hr.mono (by decide)) b_write .nil (passes_fn (fun _ _ _ h => h)) (pa_cons (pv 2) (pa_cons (pv 3) pa_nil)) (hcm := (.inr hA))))))
    (pss_one (ps_expr (pe_meth (pv 0) T.clDisk T.m_write G_write (hr.mono (by decide)) b_write .nil (passes_fn (fun _ _ _ h => h)) (pa_cons (pe_glob (v := .int 1) rfl T.cLOG_HEAD_AT.choose_spec ⟨_, rfl⟩) (pa_cons (pe_call0 Gempty_row (hr.mono (by decide)) rfl mempty_row kempty_row bempty_row .nil pass0) pa_nil)) (hcm := (.inr hA)))))), ?_⟩
  obtain ⟨ts, rs, PT⟩ := PA
  obtain ⟨h1, h2, h2', h3⟩ := id PT
  have gR : ∀ x ∈ L, GoodRow x.2 := fun x hx => (gL x hx).2
  have hlo := D.lo
  refine ⟨_, rfl, ps, rfl, ⟨_, SqL.of h1⟩, for_list (xs := ts.map V.ref) (fun i σ' H' => ∃ (o2 o3 : Option V), σ' = [some (.ref d), some (.ref ps), o2, o3] ∧ Chg [d, kr] H H' ∧ (runW S (L.take i)).2 = false ∧ DkAt a.cDisk H' d kr (runW S (L.take i)).1 ∧ (∀ u, H u ≠ none → NoRowAt H kr u → NoRowAt H' kr u)) ⟨none, none, rfl, Chg.of (Same.refl _), rfl, D, fun _ _ h => h⟩ (fun i σ2 H2 _ ⟨_, _, _, c2, _⟩ => SqL.of (PT.chg D gR c2).1) ?_ ?_⟩
  · rintro i v σ2 H2 hv ⟨o2, o3, rfl, c2, ns, D2, nr2⟩
    have hi : i < L.length := by
      have := (List.getElem?_eq_some_iff.mp hv).1
      rw [List.length_map, h2] at this
      exact this
    have ht : ts[i]? = some (ts[i]'(by omega)) := List.getElem?_eq_getElem (by omega)
    rw [List.getElem?_map, ht] at hv
    cases hv
    obtain ⟨p1, p2⟩ := (PT.chg D gR c2).2.2.2 i (by omega) (by omega) hi
    have hm : L[i] ∈ L := List.getElem_mem hi
    have tk : L.take (i + 1) = L.take i ++ [L[i]] := by rw [List.take_add_one, List.getElem?_eq_getElem hi]; rfl
    have er : runW S (L.take (i + 1)) = runW (runW S (L.take i)).1 [L[i]] := by rw [tk, runW_app, ns, if_neg (by decide)]
    obtain ⟨dx, d1⟩ := D2.at
    refine ⟨_, _, rfl, SqT.of p1, rfl, _, _, rfl, _, _, rfl, rfl, ?_⟩
    refine ⟨_, rfl, d, dx, _, rfl, d1, rfl, _, rfl, _, rfl, write_one D2 (by rw [runW_len]; exact (gL _ hm).1) p2 (gL _ hm).2 (fun hs H3 s3 => ?_) (fun hs H3 c3 D3 nr3 => ?_)⟩
    · have es : runW S (L ++ [(1, zeros)]) = ((runW S (L.take i)).1, true) := by
        have e1 : runW (runW S (L.take i)).1 ([L[i]] ++ (L.drop (i + 1) ++ [(1, zeros)])) = ((runW S (L.take i)).1, true) := if_pos hs
        rw [show L ++ [(1, zeros)] = L.take i ++ ([L[i]] ++ (L.drop (i + 1) ++ [(1, zeros)])) by rw [← List.append_assoc [L[i]], ← List.append_assoc, show L.take i ++ ([L[i]] ++ L.drop (i + 1)) = L by rw [← List.append_assoc, ← tk, List.take_append_drop]], runW_app, ns, if_neg (by decide), e1]
      have := q H3 (c2.trans (Chg.of s3)) (by rw [es]; exact D2.same s3) (fun u hu nu => (nr2 u hu nu).chg D2 (Chg.of s3 (S := [])) (by simp))
      rw [es, if_pos rfl] at this
      exact this
    · have e1 : runW (runW S (L.take i)).1 [L[i]] = ((runW S (L.take i)).1.put L[i], false) := if_neg hs
      refine ⟨_, _, rfl, c2.trans c3, by rw [er, e1], by rw [er, e1]; exact D3, fun u hu nu => nr3 u (chg_ne c2 (dk_ne D2) hu) (nr2 u hu nu)⟩
  · rintro σ2 H2 ⟨o2, o3, rfl, c2, ns, D2, nr2⟩
    rw [List.length_map, h2, List.take_length] at ns D2
    obtain ⟨dx, d1⟩ := D2.at
    have es : runW S (L ++ [(1, zeros)]) = runW (runW S L).1 [(1, zeros)] := by rw [runW_app, ns, if_neg (by decide)]
    refine ⟨_, rfl, d, dx, _, rfl, d1, rfl, rfl, fun p H3 np s3 hp => ?_⟩
    refine write_one (b := 1) (D2.same s3) (by rw [runW_len]; omega) hp good_zero (fun hs H4 s4 => ?_) (fun hs H4 c4 D4 nr4 => ?_)
    · have e1 : runW (runW S L).1 [(1, zeros)] = ((runW S L).1, true) := if_pos hs
      have := q H4 (c2.trans (Chg.of (s3.trans s4))) (by rw [es, e1]; exact D2.same (s3.trans s4)) (fun u hu nu => (nr2 u hu nu).chg D2 (Chg.of (s3.trans s4) (S := [])) (by simp))
      rw [es, e1, if_pos rfl] at this
      exact this
    · have e1 : runW (runW S L).1 [(1, zeros)] = ((runW S L).1.put (1, zeros), false) := if_neg hs
      have := q H4 ((c2.trans (Chg.of s3)).trans c4) (by rw [es, e1]; exact D4) (fun u hu nu => nr4 u (by
        have z := chg_ne c2 (dk_ne D2) hu
        cases e : H2 u with
        | none => exact absurd e z
        | some o => rw [s3 _ _ e]; simp) ((nr2 u hu nu).chg D2 (Chg.of s3 (S := [])) (by simp)))
      rw [es, e1] at this
      exact this
def headOf (L : List (Nat × List Int)) : List Int := [(L.length : Int)] ++ (L.map fun x => (x.1 : Int)) ++ List.replicate (15 - L.length) 0
def rowsOf (L : List (Nat × List Int)) (i : Nat) : List (Nat × List Int) := (List.range i).map fun j => (2 + j, (L.getD j (0, [])).2)
def logOf (L : List (Nat × List Int)) : List (Nat × List Int) := rowsOf L L.length ++ [(1, headOf L)]
def spWLog (K : PySem.W.Frag) (a : Ad) : Sp := fun vs H Q E => ∃ (d kr ps : Addr) (S : DS) (L : List (Nat × List Int)), vs = [.ref d, .ref ps] ∧ DkAt a.cDisk H d kr S ∧ PairsAt H ps L ∧ L.length ≤ 15 ∧ (∀ x ∈ L, x.1 < S.R.length ∧ GoodRow x.2) ∧
  ∀ H', Chg [d, kr] H H' → DkAt a.cDisk H' d kr (runW S (logOf L)).1 → (∀ u, H u ≠ none → NoRowAt H kr u → NoRowAt H' kr u) → if (runW S (logOf L)).2 = true then E (.ref a.cStopped) none H' else Q .non H'
theorem head_good {L : List (Nat × List Int)} (hl : L.length ≤ 15) {m : Nat} (hm : m ≤ 96) (g : ∀ x ∈ L, x.1 < m) : GoodRow (headOf L) := by
  refine ⟨by unfold headOf; simp; omega, fun x hx => ?_⟩
  unfold headOf at hx
  simp only [List.mem_append, List.mem_singleton, List.mem_map] at hx
  rcases hx with (e | ⟨y, hy, e⟩) | e
  · subst e; omega
  · have := g y hy; subst e; omega
  · rw [List.eq_of_mem_replicate e]; decide
theorem rowsOf_succ {L : List (Nat × List Int)} {i : Nat} (hi : i < L.length) : rowsOf L (i + 1) = rowsOf L i ++ [(2 + i, L[i].2)] := by
  unfold rowsOf
  rw [List.range_succ, List.map_append]
  simp [List.getD_eq_getElem?_getD, List.getElem?_eq_getElem hi]
theorem noRow_off {H : Hp} {C d kr u : Addr} {S : DS} (D : DkAt C H d kr S) (n : NoRowAt H kr u) {p : Addr} (hp : p ≠ kr) (o : HO) : NoRowAt (L2.upd H p o) kr u := fun rs hrs => by
  rw [upd_ne (Ne.symm hp)] at hrs
  exact n rs hrs
theorem ok_write_log (F : Fun K "write_log" "write_log" s_write_log f fd) (T : Txt K mg a) (M_Disk_write : Mf P w K mg base (CXE P w) 5 a.f_write ["self", "block", "row"] (spWrite K a)) (D_changed : Df P w K mg base CX0 1 "changed" ["row", "at", "words"] (spChanged K a)) (D_empty_row : Df P w K mg base CX0 1 "empty_row" [] (spEmpty K a)) : FnOk P w K mg base (CXE P w) 6 f fd ["disk", "pairs"] (spWLog K a) := by
  obtain ⟨_, G_write, b_write⟩ := M_Disk_write
  obtain ⟨_, _, Gchanged, bchanged, kchanged, mchanged⟩ := D_changed
  obtain ⟨_, _, Gempty_row, bempty_row, kempty_row, mempty_row⟩ := D_empty_row
  have nd := sc_write_log.nd
  refine F.okE sc_write_log (fun vs H Q E h => ?_) (fun cdv A outer s H vs Q E hr hA h => ?_)
  · obtain ⟨d, kr, ps, S, L, rfl, _⟩ := h
    rfl
  obtain ⟨d, kr, ps, S, L, rfl, D, PA, hl, gL, q⟩ := h
  refine ⟨_, (pss_cons (ps_set (i := 2) nd rfl (by first | exact Or.inl rfl | exact Or.inr rfl) (pe_lst pa_nil))
    (pss_cons (ps_for PassesOwn.leaving rfl (pi_list (pv 1)) (pg_tup hA (pgs_cons (pg_name (i := 3) nd rfl (by first | exact Or.inl rfl | exact Or.inr rfl)) (pgs_cons (pg_name (i := 4) nd rfl (by first | exact Or.inl rfl | exact Or.inr rfl)) pgs_nil))) (pss_cons (ps_expr (pe_meth (pv 0) T.clDisk T.m_write G_write (hr.mono (by decide)) b_write .nil (passes_fn (fun _ _ _ h => h)) (pa_cons (pe_op op_add (pe_glob (v := .int 2) rfl T.cLOG_ROWS_AT.choose_spec ⟨_, rfl⟩) (pe_callB call_len_seq rfl T.len bt_len (pa_cons (pv 2) pa_nil))) (pa_cons (pv 4) pa_nil)) (hcm := (.inr hA))))
    (pss_one (ps_expr (pe_bm PySem.F.plainAttrs_list PySem.F.slot_list_append PySem.F.type_list_append mt_append (pv 2) (pa_cons (pv 3) pa_nil))))))
    (pss_one (ps_expr (pe_meth (pv 0) T.clDisk T.m_write G_write (hr.mono (by decide)) b_write .nil (passes_fn (fun _ _ _ h => h)) (pa_cons (pe_glob (v := .int 1) rfl T.cLOG_HEAD_AT.choose_spec ⟨_, rfl⟩) (pa_cons (pe_call Gchanged (hr.mono (by decide)) rfl mchanged kchanged bchanged .nil pass0 (pa_cons (pe_call0 Gempty_row (hr.mono (by decide)) rfl mempty_row kempty_row bempty_row .nil pass0) (pa_cons pe_int (pa_cons (pe_op op_cat (pe_lst (pa_cons (pe_callB call_len_seq rfl T.len bt_len (pa_cons (pv 2) pa_nil)) pa_nil)) (pv 2)) pa_nil)))) pa_nil)) (hcm := (.inr hA))))))), ?_⟩
  obtain ⟨ts, rs, PT⟩ := PA
  obtain ⟨h1, h2, h2', h3⟩ := id PT
  have gR : ∀ x ∈ L, GoodRow x.2 := fun x hx => (gL x hx).2
  have hlo := D.lo
  have hhi := D.hi
  refine ⟨(by show 0 ≤ sizeLine; decide), fun hm nhm => ?_⟩
  have s0 := same_new nhm (.lst [])
  obtain ⟨dx0, rs0, y1, y2, _⟩ := D.ex
  have hmd : hm ≠ d := Ne.symm (ne_of_none y1 nhm)
  have hmk : hm ≠ kr := Ne.symm (ne_of_none y2 nhm)
  refine ⟨_, rfl, ps, rfl, ⟨_, SqL.of (s0 _ _ h1)⟩, for_list (xs := ts.map V.ref) (fun i σ' H' => ∃ (o3 o4 : Option V), σ' = [some (.ref d), some (.ref ps), some (.ref hm), o3, o4] ∧ Chg [d, kr] H H' ∧ H' hm = some (.lst ((L.take i).map fun x => V.int x.1)) ∧ (runW S (rowsOf L i)).2 = false ∧ DkAt a.cDisk H' d kr (runW S (rowsOf L i)).1 ∧ NoRowAt H' kr hm ∧ (∀ u, H u ≠ none → NoRowAt H kr u → NoRowAt H' kr u))
    ⟨none, none, rfl, Chg.of s0, upd_same, rfl, D.same s0, (D.noRow nhm).chg D (Chg.of s0 (S := [])) (by simp), fun u hu nu => nu.chg D (Chg.of s0 (S := [])) (by simp)⟩ (fun i σ2 H2 _ ⟨_, _, _, c2, _⟩ => SqL.of (PT.chg D gR c2).1) ?_ ?_⟩
  · rintro i v σ2 H2 hv ⟨o3, o4, rfl, c2, hh2, ns, D2, nh2, nr2⟩
    have hi : i < L.length := by
      have := (List.getElem?_eq_some_iff.mp hv).1
      rw [List.length_map, h2] at this
      exact this
    have ht : ts[i]? = some (ts[i]'(by omega)) := List.getElem?_eq_getElem (by omega)
    rw [List.getElem?_map, ht] at hv
    cases hv
    obtain ⟨p1, p2⟩ := (PT.chg D gR c2).2.2.2 i (by omega) (by omega) hi
    have hm' : L[i] ∈ L := List.getElem_mem hi
    obtain ⟨dx, d1⟩ := D2.at
    refine ⟨_, _, rfl, SqT.of p1, rfl, _, _, rfl, _, _, rfl, rfl, ?_⟩
    refine ⟨_, rfl, d, dx, _, rfl, d1, rfl, _, rfl, hm, _, rfl, .inl (SqL.of hh2), _, _, rfl, rfl, _, rfl, ?_⟩
    dsimp only
    rw [show (2 : Int) + (((L.take i).map fun x => V.int x.1).length : Int) = ((2 + i : Nat) : Int) by rw [List.length_map, List.length_take]; omega]
    have er := rowsOf_succ hi
    refine write_one (b := 2 + i) D2 (by rw [runW_len]; omega) p2 (gL _ hm').2 (fun hs H3 s3 => ?_) (fun hs H3 c3 D3 nr3 => ?_)
    · have es : runW S (logOf L) = ((runW S (rowsOf L i)).1, true) := by
        have hsp : ∀ k, i + 1 + k ≤ L.length → ∃ Z, rowsOf L (i + 1 + k) = rowsOf L (i + 1) ++ Z := fun k => by
          induction k with
          | zero => exact fun _ => ⟨[], by simp⟩
          | succ k ih =>
            intro hk
            obtain ⟨Z, hZ⟩ := ih (by omega)
            exact ⟨Z ++ [(2 + (i + 1 + k), L[i + 1 + k].2)], by rw [show i + 1 + (k + 1) = (i + 1 + k) + 1 by omega, rowsOf_succ (by omega), hZ, List.append_assoc]⟩
        obtain ⟨Z, hZ⟩ := hsp (L.length - (i + 1)) (by omega)
        rw [show i + 1 + (L.length - (i + 1)) = L.length by omega, er] at hZ
        have e1 : runW (runW S (rowsOf L i)).1 ([(2 + i, L[i].2)] ++ (Z ++ [(1, headOf L)])) = ((runW S (rowsOf L i)).1, true) := if_pos hs
        unfold logOf
        rw [hZ, List.append_assoc, List.append_assoc, runW_app, ns, if_neg (by decide), e1]
      have := q H3 (c2.trans (Chg.of s3)) (by rw [es]; exact D2.same s3) (fun u hu nu => (nr2 u hu nu).chg D2 (Chg.of s3 (S := [])) (by simp))
      rw [es, if_pos rfl] at this
      exact this
    · have e1 : runW S (rowsOf L (i + 1)) = ((runW S (rowsOf L i)).1.put (2 + i, L[i].2), false) := by
        rw [er, runW_app, ns, if_neg (by decide)]; exact if_neg hs
      have hh3 : H3 hm = some (.lst ((L.take i).map fun x => V.int x.1)) := c3 _ _ hh2 (by simp [hmd, hmk])
      refine ⟨_, rfl, .inl ⟨rfl, _, SqL.of hh3⟩, _, rfl, hm, _, _, rfl, rfl, hh3, small1000 (by rw [List.length_map, List.length_take]; omega), ?_⟩
      have nh3 : NoRowAt H3 kr hm := nr3 hm (by rw [hh2]; simp) nh2
      refine ⟨_, _, rfl, (c2.trans c3).upd0 nhm _, ?_, by rw [e1], by rw [e1]; exact D3.off nh3 hmd hmk _, noRow_off D3 nh3 hmk _, fun u hu nu => noRow_off D3 (nr3 u (chg_ne c2 (dk_ne D2) hu) (nr2 u hu nu)) hmk _⟩
      rw [upd_same, List.take_add_one, List.getElem?_eq_getElem hi, List.map_append]
      rfl
  · rintro σ2 H2 ⟨o3, o4, rfl, c2, hh2, ns, D2, nh2, nr2⟩
    rw [List.length_map, h2] at hh2 ns D2
    rw [List.take_length] at hh2
    obtain ⟨dx, d1⟩ := D2.at
    have es : runW S (logOf L) = runW (runW S (rowsOf L L.length)).1 [(1, headOf L)] := by unfold logOf; rw [runW_app, ns, if_neg (by decide)]
    refine ⟨_, rfl, d, dx, _, rfl, d1, rfl, rfl, fun p H3 np s3 hp => ?_⟩
    have hh3 := s3 _ _ hh2
    refine ⟨_, rfl, hm, _, rfl, .inl (SqL.of hh3), (by show 1 ≤ sizeLine; decide), fun l1 m1 => ?_⟩
    have t1 := same_new m1 (.lst [.int ((L.map fun x => V.int x.1).length : Int)])
    refine ⟨_, rfl, l1, hm, _, _, rfl, rfl, upd_same, t1 _ _ hh3, small (by rw [List.length_map]; simp; omega), fun l2 m2 => ?_⟩
    have t2 := t1.trans (same_new m2 (.lst ([.int ((L.map fun x => V.int x.1).length : Int)] ++ L.map fun x => V.int x.1)))
    refine ⟨p, l2, _, _, 0, rfl, t2 _ _ hp, upd_same, by simp, by simp; omega, fun p5 H5 n5 s5 h5 => ?_⟩
    have sA := s3.trans (t2.trans s5)
    have hrow : H5 p5 = some (.lst ((headOf L).map V.int)) := by
      rw [h5]
      have e0 : ((List.replicate 16 (0 : Int)).map V.int).drop (0 + ([V.int ((L.map fun x => V.int x.1).length : Int)] ++ L.map fun x => V.int x.1).length) = (List.replicate (15 - L.length) (0 : Int)).map V.int := by
        rw [List.map_replicate, List.map_replicate, List.drop_replicate]
        congr 1
        simp
      rw [e0, List.take_zero, List.nil_append]
      unfold headOf
      rw [List.map_append, List.map_append, List.length_map, List.map_map]
      rfl
    refine write_one (b := 1) (D2.same sA) (by rw [runW_len]; omega) hrow (head_good hl hhi fun x hx => (gL x hx).1) (fun hs H6 s6 => ?_) (fun hs H6 c6 D6 nr6 => ?_)
    · have e1 : runW (runW S (rowsOf L L.length)).1 [(1, headOf L)] = ((runW S (rowsOf L L.length)).1, true) := if_pos hs
      have := q H6 (c2.trans (Chg.of (sA.trans s6))) (by rw [es, e1]; exact D2.same (sA.trans s6)) (fun u hu nu => (nr2 u hu nu).chg D2 (Chg.of (sA.trans s6) (S := [])) (by simp))
      rw [es, e1, if_pos rfl] at this
      exact this
    · have e1 : runW (runW S (rowsOf L L.length)).1 [(1, headOf L)] = ((runW S (rowsOf L L.length)).1.put (1, headOf L), false) := if_neg hs
      have := q H6 ((c2.trans (Chg.of sA)).trans c6) (by rw [es, e1]; exact D6) (fun u hu nu => nr6 u (by
        have z := chg_ne c2 (dk_ne D2) hu
        cases e : H2 u with
        | none => exact absurd e z
        | some o => rw [sA _ _ e]; simp) ((nr2 u hu nu).chg D2 (Chg.of sA (S := [])) (by simp)))
      rw [es, e1] at this
      exact this
/-! ### commit -/
def allOf (L : List (Nat × List Int)) : List (Nat × List Int) := if L = [] then [] else logOf L ++ (L ++ [(1, zeros)])
def spCommit (K : PySem.W.Frag) (a : Ad) : Sp := fun vs H Q E => ∃ (d kr ps : Addr) (S : DS), vs = [.ref d, .ref ps] ∧ DkAt a.cDisk H d kr S ∧
  ((∃ L : List (V × V × Bool), PairsK K H ps L ∧ ((15 < L.length ∧ E (.ref a.cTooMuch) none H) ∨ (L.length ≤ 15 ∧ wrong S.R.length none L = some true ∧ ∀ H', Same H H' → E (.ref a.cNoBlock) none H') ∨ (L.length ≤ 15 ∧ wrong S.R.length none L = some false ∧ ∀ H', Same H H' → E (.ref a.cBadRow) none H'))) ∨
   (∃ G : List (Nat × List Int), PairsAt H ps G ∧ G.length ≤ 15 ∧ Rises S.R.length none G ∧ (∀ x ∈ G, GoodRow x.2) ∧
     ∀ H', Chg [d, kr] H H' → DkAt a.cDisk H' d kr (runW S (allOf G)).1 → (∀ u, H u ≠ none → NoRowAt H kr u → NoRowAt H' kr u) → if (runW S (allOf G)).2 = true then E (.ref a.cStopped) none H' else Q .non H'))
theorem good_right {m : Int} {h : Option Int} {G : List (Nat × List Int)} (r : Rises m h G) (rs : List Addr) (hl : rs.length = G.length) : wrong m h (List.zipWith (fun (x : Nat × List Int) r => (V.int x.1, V.ref r, true)) G rs) = none := by
  induction G generalizing h rs with
  | nil => rfl
  | cons x G ih =>
    cases rs with
    | nil => cases hl
    | cons p rs =>
      obtain ⟨r1, r2, r3, r4⟩ := r
      show wrong m h ((V.int x.1, V.ref p, true) :: List.zipWith _ G rs) = none
      rw [wrong_i (by show (decide (17 ≤ (x.1 : Int)) && decide ((x.1 : Int) ≤ m - 1)) = true; rw [decide_eq_true (by omega), decide_eq_true r2]; rfl)]
      have e : beh h (x.1 : Int) = false := by
        cases h with
        | none => rfl
        | some j => exact decide_eq_false (by have := r3 j rfl; omega)
      rw [e, if_neg (by decide), if_pos rfl]
      exact ih r4 rs (by simpa using hl)
theorem ok_commit (F : Fun K "commit" "commit" s_commit f fd) (T : Txt K mg a) (D_refuse_wrong_pairs : Df P w K mg base (CXE P w) 5 "refuse_wrong_pairs" ["disk", "pairs"] (spRefuseP K a)) (D_write_log : Df P w K mg base (CXE P w) 6 "write_log" ["disk", "pairs"] (spWLog K a)) (D_write_homes : Df P w K mg base (CXE P w) 6 "write_homes" ["disk", "pairs"] (spWHomes K a)) : FnOk P w K mg base (CXE P w) 7 f fd ["disk", "pairs"] (spCommit K a) := by
  obtain ⟨_, _, Grefuse_wrong_pairs, brefuse_wrong_pairs, krefuse_wrong_pairs, mrefuse_wrong_pairs⟩ := D_refuse_wrong_pairs
  obtain ⟨_, _, Gwrite_log, bwrite_log, kwrite_log, mwrite_log⟩ := D_write_log
  obtain ⟨_, _, Gwrite_homes, bwrite_homes, kwrite_homes, mwrite_homes⟩ := D_write_homes
  have nd := sc_commit.nd
  refine F.okE sc_commit (fun vs H Q E h => ?_) (fun cdv A outer s H vs Q E hr hA h => ?_)
  · obtain ⟨d, kr, ps, S, rfl, _⟩ := h
    rfl
  obtain ⟨d, kr, ps, S, rfl, D, hq⟩ := h
  refine ⟨_, (pss_cons (ps_expr (pe_call Grefuse_wrong_pairs (hr.mono (by decide)) rfl mrefuse_wrong_pairs krefuse_wrong_pairs brefuse_wrong_pairs .nil (passes_fn (fun _ _ _ h => h)) (pa_cons (pv 0) (pa_cons (pv 1) pa_nil)) (hcm := (.inr hA))))
    (pss_one (ps_if (pt_cmpR op_gt (pe_callB call_len_seq rfl T.len bt_len (pa_cons (pv 1) pa_nil)) pe_int (nomark _)) (pss_cons (ps_expr (pe_call Gwrite_log (hr.mono (by decide)) rfl mwrite_log kwrite_log bwrite_log .nil (passes_fn (fun _ _ _ h => h)) (pa_cons (pv 0) (pa_cons (pv 1) pa_nil)) (hcm := (.inr hA))))
    (pss_one (ps_expr (pe_call Gwrite_homes (hr.mono (by decide)) rfl mwrite_homes kwrite_homes bwrite_homes .nil (passes_fn (fun _ _ _ h => h)) (pa_cons (pv 0) (pa_cons (pv 1) pa_nil)) (hcm := (.inr hA)))))) pss_nil))), ?_⟩
  rcases hq with ⟨L, PK, hq⟩ | ⟨G, PA, hl, ri, gG, q⟩
  · refine ⟨_, rfl, _, rfl, d, kr, ps, S, L, rfl, D, PK, fun h => ?_, fun h H' s' => ?_⟩
    · rcases hq with ⟨_, q⟩ | ⟨z, _⟩ | ⟨z, _⟩
      · exact q
      · omega
      · omega
    · rcases hq with ⟨z, _⟩ | ⟨_, e, q⟩ | ⟨_, e, q⟩
      · omega
      · rw [e]; exact q H' s'
      · rw [e]; exact q H' s'
  · obtain ⟨ts, rs, PT⟩ := id PA
    obtain ⟨h1, h2, h2', h3⟩ := id PT
    have lz : (List.zipWith (fun (x : Nat × List Int) r => (V.int x.1, V.ref r, true)) G rs).length = G.length := by rw [List.length_zipWith, h2']; omega
    refine ⟨_, rfl, _, rfl, d, kr, ps, S, List.zipWith (fun (x : Nat × List Int) r => (V.int x.1, V.ref r, true)) G rs, rfl, D, ⟨ts, h1, by rw [lz]; exact h2, fun i t x e1 e2 => ?_⟩, fun h => absurd h (by rw [lz]; omega), fun h H1 s1 => ?_⟩
    · obtain ⟨hi, rfl⟩ := List.getElem?_eq_some_iff.mp e1
      obtain ⟨hj, rfl⟩ := List.getElem?_eq_some_iff.mp e2
      rw [List.getElem_zipWith]
      obtain ⟨p1, p2⟩ := h3 i hi (by omega) (by omega)
      exact ⟨p1, .int _, rowA_good p2 (gG _ (List.getElem_mem _))⟩
    · rw [good_right ri rs h2']
      have D1 := D.same s1
      have PA1 := PA.same s1
      refine ⟨_, rfl, ps, _, rfl, .inl (SqL.of (s1 _ _ h1)), _, _, rfl, rfl, _, rfl, ?_⟩
      rw [List.length_map, h2]
      have gb : ∀ x ∈ G, x.1 < S.R.length ∧ GoodRow x.2 := fun x hx => ⟨by have := ri.all x hx; omega, gG x hx⟩
      have nrs : ∀ u, H u ≠ none → NoRowAt H kr u → H1 u ≠ none ∧ NoRowAt H1 kr u := fun u hu nu => ⟨by
        cases e : H u with
        | none => exact absurd e hu
        | some o => rw [s1 _ _ e]; simp, nu.chg D (Chg.of s1 (S := [])) (by simp)⟩
      by_cases hG : G = []
      · subst hG
        refine iteF' (by simp) ?_
        have := q H1 (Chg.of s1) D1 (fun u hu nu => (nrs u hu nu).2)
        exact this
      · have hpos : 0 < G.length := List.length_pos_iff.mpr hG
        refine iteT' (decide_eq_true (by omega)) ⟨_, rfl, _, rfl, d, kr, ps, S, G, rfl, D1, PA1, hl, gb, fun H2 c2 D2 nr2 => ?_⟩
        have ea : runW S (allOf G) = if (runW S (logOf G)).2 = true then runW S (logOf G) else runW (runW S (logOf G)).1 (G ++ [(1, zeros)]) := by
          unfold allOf; rw [if_neg hG, runW_app]
        by_cases hst : (runW S (logOf G)).2 = true
        · rw [if_pos hst] at ea ⊢
          have := q H2 ((Chg.of s1).trans c2) (by rw [ea]; exact D2) (fun u hu nu => nr2 u (nrs u hu nu).1 (nrs u hu nu).2)
          rw [ea, if_pos hst] at this
          exact this
        · rw [if_neg hst] at ea ⊢
          refine ⟨_, rfl, _, rfl, d, kr, ps, (runW S (logOf G)).1, G, rfl, D2, ?_, fun x hx => ⟨by rw [runW_len]; exact (gb x hx).1, (gb x hx).2⟩, fun H3 c3 D3 nr3 => ?_⟩
          · obtain ⟨ts1, rs1, PT1⟩ := PA1
            exact ⟨ts1, rs1, PT1.chg D1 gG c2⟩
          · have := q H3 (((Chg.of s1).trans c2).trans c3) (by rw [ea]; exact D3) (fun u hu nu => nr3 u (chg_ne c2 (dk_ne D2) (nrs u hu nu).1) (nr2 u (nrs u hu nu).1 (nrs u hu nu).2))
            rw [ea] at this
            split at this
            · rename_i z; rw [if_pos z]; exact this
            · rename_i z; rw [if_neg z]; exact this
end
end K7
end
section
set_option Elab.async false
set_option linter.all false
set_option maxRecDepth 100000
set_option maxHeartbeats 4000000
namespace K7
open PySem L2 BK
section
variable {P : Program} {w : World} {K : PySem.W.Frag} {mg : Str → Option Value} {base : Heap} {f : Addr} {fd : FuncData} {a : Ad}
/-! ### are_rising_homes, is_right_head, come_back -/
def risesB (hs : List Int) : Bool := (List.zipWith (fun x y : Int => decide (x < y)) hs (hs.drop 1)).all id
def homesB (m : Nat) (hs : List Int) : Bool := hs.all fun h => wholeV (.int h) 17 ((m : Int) - 1)
def valI : V → Int
  | .int i => i
  | _ => 0
def spRising (K : PySem.W.Frag) (a : Ad) : Sp := fun vs H Q _ => ∃ (d kr p : Addr) (S : DS) (hs : List Int), vs = [.ref d, .ref p] ∧ DkAt a.cDisk H d kr S ∧ H p = some (.lst (hs.map V.int)) ∧ hs.length ≤ 15 ∧ ∀ H', Same H H' → Q (.bl (risesB hs && homesB S.R.length hs)) H'
theorem ok_are_rising_homes (F : Fun K "are_rising_homes" "are_rising_homes" s_are_rising_homes f fd) (T : Txt K mg a) (D_is_home : Df P w K mg base (CXE P w) 2 "is_home" ["disk", "block"] (spHome K a)) : FnOk P w K mg base (CXE P w) 3 f fd ["disk", "homes"] (spRising K a) := by
  obtain ⟨_, _, Gis_home, bis_home, kis_home, mis_home⟩ := D_is_home
  have nd := sc_are_rising_homes.nd
  refine F.okE sc_are_rising_homes (fun vs H Q E h => ?_) (fun cdv A outer s H vs Q E hr hA h => ?_)
  · obtain ⟨d, kr, p, S, hs, rfl, _⟩ := h
    rfl
  obtain ⟨d, kr, p, S, hs, rfl, D, hp, hl, q⟩ := h
  refine ⟨_, (pss_cons (ps_set (i := 2) nd rfl (by first | exact Or.inl rfl | exact Or.inr rfl) (pe_callB (call_all rfl) rfl T.all bt_all (pa_cons (pe_lc2 (cl := []) (fj := []) (by exact ⟨rfl, by decide +kernel, rfl, by decide +kernel, rfl, rfl, fun _ h => (by cases h), by decide +kernel, fun _ h => (by cases h), by decide +kernel⟩) rfl hA (pi_zipL rfl T.zip (pa_cons (pv 1) (pa_cons (pe_slice sl_list (pv 1) (po_some pe_int) po_none) pa_nil))) (fun _ _ _ => pf_nil) (fun _ _ _ => (pe_cmpR op_lt (pv 0) (pv 1) (nomark _)))) pa_nil)))
    (pss_one (ps_ret (pe_and (pv 2) (pe_one (pe_callB (call_all rfl) rfl T.all bt_all (pa_cons (pe_lc (cl := [("disk", s.heap.objs.size + 1)]) (fj := [("disk", 0)]) (by exact LcOk.of ["disk"] rfl (by decide +kernel) rfl (by decide +kernel) rfl (fun p h => (by rw [List.mem_singleton.mp h]; rfl)) rfl (by decide +kernel) (fun p h => (by rw [List.mem_singleton.mp h]; exact ⟨rfl, rfl, .inl rfl⟩)) (by decide +kernel)) rfl (pi_list (pv 1)) (fun _ _ _ => pf_nil) (fun _ _ _ => (pe_call Gis_home (hr.mono (by decide)) rfl mis_home kis_home bis_home .nil passesE0 (pa_cons (pv 1) (pa_cons (pv 0) pa_nil)) (hcm := (.inr hA))))) pa_nil))))))), ?_⟩
  refine ⟨_, rfl, _, rfl, _, rfl, p, _, rfl, SqL.of hp, fun t nt => ?_⟩
  have e1 : cutV (hs.map V.int) (some (1 : Int)) none = (hs.drop 1).map V.int := by
    rw [show (1 : Int) = ((1 : Nat) : Int) from rfl, cut_from, List.map_drop]
  rw [e1]
  have s1 := same_new nt (.lst ((hs.drop 1).map V.int))
  have hp1 := s1 _ _ hp
  have ht1 := upd_same (H := H) (a := t) (o := .lst ((hs.drop 1).map V.int))
  have D1 := D.same s1
  generalize upd H t (.lst ((hs.drop 1).map V.int)) = H1 at s1 hp1 ht1 D1 ⊢
  refine ⟨p, t, rfl, ⟨_, SqL.of hp1⟩, ⟨_, SqL.of ht1⟩, lc2_map (xs := hs.map V.int) (ys := (hs.drop 1).map V.int) (by rw [List.length_map]; omega) (fun H' s' => SqL.of (s' _ _ hp1)) (fun H' s' => SqL.of (s' _ _ ht1)) (fun x y => .bl (decide (valI x < valI y))) (fun i x y H' Qf hx hy s' k => ?_) (fun acc H2 n2 s2 h2 => ?_)⟩
  · obtain ⟨x, _, rfl⟩ := List.mem_map.mp (List.mem_of_getElem? hx)
    obtain ⟨y, _, rfl⟩ := List.mem_map.mp (List.mem_of_getElem? hy)
    exact ⟨_, rfl, _, rfl, _, _, rfl, rfl, k H' (Same.refl _)⟩
  have e2 : List.zipWith (fun x y => V.bl (decide (valI x < valI y))) (hs.map V.int) ((hs.drop 1).map V.int) = (List.zipWith (fun x y : Int => decide (x < y)) hs (hs.drop 1)).map V.bl := by
    rw [List.zipWith_map, List.map_zipWith]
    rfl
  rw [e2] at h2
  refine ⟨acc, _, rfl, SqL.of h2, ?_⟩
  have s12 := s1.trans s2
  have hp2 := s2 _ _ hp1
  have D2 := D1.same s2
  refine ⟨_, rfl, _, rfl, ite2 (fun c => ?_) (fun c => ?_)⟩
  · refine ⟨_, rfl, p, rfl, ⟨_, SqL.of hp2⟩, lc_pureL (xs := hs.map V.int) (by rw [List.length_map]; omega) (SqL.of hp2) (fun _ => true) (fun v => .bl (wholeV v 17 ((S.R.length : Int) - 1))) (fun _ H' Qf _ _ k => k H' (Same.refl _)) (fun v H' Qf hv _ s' k => ?_) (fun acc2 H3 n3 s3 h3 => ?_)⟩
    · obtain ⟨x, _, rfl⟩ := List.mem_map.mp hv
      exact ⟨_, rfl, _, rfl, d, kr, S, _, rfl, D2.same s', .int _, k H' (Same.refl _)⟩
    · rw [filter_all, List.map_map] at h3
      refine ⟨acc2, hs.map fun h => wholeV (.int h) 17 ((S.R.length : Int) - 1), rfl, SqL.of (by rw [h3, List.map_map]; rfl), ?_⟩
      have := q H3 (s12.trans s3)
      have c' : risesB hs = true := c
      rw [c', Bool.true_and] at this
      rw [show ((hs.map fun h => wholeV (.int h) 17 ((S.R.length : Int) - 1)).all id) = homesB S.R.length hs by rw [List.all_map]; rfl]
      exact this
  · have := q H2 s12
    have c' : risesB hs = false := Bool.eq_false_iff.mpr c
    rw [c', Bool.false_and] at this
    exact this
theorem cut_mid' (xs : List V) (i j : Nat) (h : j ≤ xs.length) (h2 : i ≤ j) : cutV xs (some (i : Int)) (some (j : Int)) = (xs.drop i).take (j - i) := by
  unfold cutV
  rw [HT.sIx_nat, HT.sIx_nat, Nat.min_eq_left h, Nat.min_eq_left (Nat.le_trans h2 h)]
def cntOf (row : List Int) : Int := row.getD 0 0
def homesOf (row : List Int) : List Int := (row.drop 1).take (cntOf row).toNat
def restOf (row : List Int) : List Int := row.drop (1 + (cntOf row).toNat)
def rightB (m : Nat) (row : List Int) : Bool := decide (cntOf row ≤ 15) && ((risesB (homesOf row) && homesB m (homesOf row)) && (restOf row).all fun x => decide (x = 0))
def spRight (K : PySem.W.Frag) (a : Ad) : Sp := fun vs H Q _ => ∃ (d kr p : Addr) (S : DS) (row : List Int), vs = [.ref d, .ref p] ∧ DkAt a.cDisk H d kr S ∧ H p = some (.lst (row.map V.int)) ∧ GoodRow row ∧ ∀ H', Same H H' → Q (.bl (rightB S.R.length row)) H'
theorem row_at {row : List Int} {k : Nat} (h : k < row.length) : atI (row.map V.int) (k : Int) = some (.int (row.getD k 0)) :=
  atI_nat (by rw [List.getElem?_map, List.getElem?_eq_getElem h, List.getD_eq_getElem?_getD, List.getElem?_eq_getElem h]; rfl)
theorem ok_is_right_head (F : Fun K "is_right_head" "is_right_head" s_is_right_head f fd) (T : Txt K mg a) (D_are_rising_homes : Df P w K mg base (CXE P w) 3 "are_rising_homes" ["disk", "homes"] (spRising K a)) : FnOk P w K mg base (CXE P w) 4 f fd ["disk", "head"] (spRight K a) := by
  obtain ⟨_, _, Gare_rising_homes, bare_rising_homes, kare_rising_homes, mare_rising_homes⟩ := D_are_rising_homes
  have nd := sc_is_right_head.nd
  refine F.okE sc_is_right_head (fun vs H Q E h => ?_) (fun cdv A outer s H vs Q E hr hA h => ?_)
  · obtain ⟨d, kr, p, S, row, rfl, _⟩ := h
    rfl
  obtain ⟨d, kr, p, S, row, rfl, D, hp, ⟨h16, hg⟩, q⟩ := h
  refine ⟨_, (pss_cons (ps_set (i := 2) nd rfl (by first | exact Or.inl rfl | exact Or.inr rfl) (pe_ix ix_list (pv 1) pe_int (fun _ _ => rfl)))
    (pss_cons (ps_if (pt_cmpR op_gt (pv 2) (pe_glob (v := .int 15) rfl T.cMOST_HOMES.choose_spec ⟨_, rfl⟩) (nomark _)) (pss_one (ps_ret pe_bl)) pss_nil)
    (pss_cons (ps_set (i := 3) nd rfl (by first | exact Or.inl rfl | exact Or.inr rfl) (pe_slice sl_list (pv 1) (po_some pe_int) (po_some (pe_op op_add pe_int (pv 2)))))
    (pss_cons (ps_set (i := 4) nd rfl (by first | exact Or.inl rfl | exact Or.inr rfl) (pe_slice sl_list (pv 1) (po_some (pe_op op_add pe_int (pv 2))) po_none))
    (pss_one (ps_ret (pe_and (pe_call Gare_rising_homes (hr.mono (by decide)) rfl mare_rising_homes kare_rising_homes bare_rising_homes .nil (passes_fn (fun _ _ _ h => h)) (pa_cons (pv 0) (pa_cons (pv 3) pa_nil)) (hcm := (.inr hA))) (pe_one (pe_callB (call_all rfl) rfl T.all bt_all (pa_cons (pe_lc (cl := []) (fj := []) (by exact ⟨rfl, by decide +kernel, rfl, by decide +kernel, rfl, fun _ h => (by cases h), by decide +kernel, fun _ h => (by cases h), by decide +kernel⟩) rfl (pi_list (pv 4)) (fun _ _ _ => pf_nil) (fun _ _ _ => (pe_cmpR op_eq (pv 0) pe_int (nomark _)))) pa_nil)))))))))), ?_⟩
  have h0 : 0 ≤ cntOf row := by
    unfold cntOf
    rw [List.getD_eq_getElem?_getD, List.getElem?_eq_getElem (by omega)]
    exact (hg _ (List.getElem_mem _)).1
  refine ⟨_, rfl, p, _, _, _, rfl, rfl, SqL.of hp, row_at (k := 0) (by omega), ?_⟩
  refine ⟨_, rfl, _, _, rfl, rfl, _, rfl, ite2 (fun c => ?_) (fun c => ?_)⟩
  · have c' : cntOf row > 15 := of_decide_eq_true c
    have := q H (Same.refl _)
    rw [show rightB S.R.length row = false by unfold rightB; rw [decide_eq_false (by omega)]; rfl] at this
    exact this
  have c' : cntOf row ≤ 15 := by have : ¬ cntOf row > 15 := of_decide_eq_false (Bool.eq_false_iff.mpr c); omega
  obtain ⟨n, en⟩ : ∃ n : Nat, cntOf row = (n : Int) := ⟨(cntOf row).toNat, by omega⟩
  have en' : row.getD 0 0 = (n : Int) := en
  have hn : n ≤ 15 := by omega
  rw [en']
  refine ⟨_, rfl, _, rfl, _, rfl, _, _, rfl, rfl, _, rfl, p, _, rfl, SqL.of hp, fun t nt => ?_⟩
  have e1 : cutV (row.map V.int) (some (1 : Int)) (some ((1 : Int) + (n : Int))) = (homesOf row).map V.int := by
    rw [show ((1 : Int) + (n : Int)) = ((1 + n : Nat) : Int) by omega, show (1 : Int) = ((1 : Nat) : Int) from rfl, cut_mid' _ _ _ (by rw [List.length_map]; omega) (by omega)]
    unfold homesOf
    rw [en, Int.toNat_natCast, List.map_take, List.map_drop, Nat.add_sub_cancel_left]
  have e2 : cutV (row.map V.int) (some ((1 : Int) + (n : Int))) none = (restOf row).map V.int := by
    rw [show ((1 : Int) + (n : Int)) = ((1 + n : Nat) : Int) by omega, cut_from]
    unfold restOf
    rw [en, Int.toNat_natCast, List.map_drop]
  dsimp only
  rw [e1]
  have s1 := same_new nt (.lst ((homesOf row).map V.int))
  refine ⟨_, rfl, _, rfl, _, _, rfl, rfl, _, rfl, p, _, rfl, SqL.of (s1 _ _ hp), fun u nu => ?_⟩
  dsimp only
  rw [e2]
  have s2 := s1.trans (same_new nu (.lst ((restOf row).map V.int)))
  have ht2 := same_new nu (.lst ((restOf row).map V.int)) _ _ (upd_same (H := H) (a := t) (o := .lst ((homesOf row).map V.int)))
  have hu2 := upd_same (H := upd H t (.lst ((homesOf row).map V.int))) (a := u) (o := .lst ((restOf row).map V.int))
  generalize upd (upd H t (.lst ((homesOf row).map V.int))) u (.lst ((restOf row).map V.int)) = H2 at s2 ht2 hu2 ⊢
  refine ⟨_, rfl, _, rfl, d, kr, t, S, homesOf row, rfl, D.same s2, ht2, (by unfold homesOf; rw [List.length_take, List.length_drop]; omega), fun H3 s3 => ⟨_, rfl, ite2 (fun c => ?_) (fun c => ?_)⟩⟩
  · refine ⟨_, rfl, u, rfl, ⟨_, SqL.of (s3 _ _ hu2)⟩, lc_pureL (xs := (restOf row).map V.int) (by rw [List.length_map]; unfold restOf; rw [List.length_drop]; omega) (SqL.of (s3 _ _ hu2)) (fun _ => true) (fun v => .bl (decide (v = .int 0))) (fun _ H' Qf _ _ k => k H' (Same.refl _)) (fun v H' Qf hv _ s' k => ?_) (fun acc H4 n4 s4 h4 => ?_)⟩
    · obtain ⟨x, _, rfl⟩ := List.mem_map.mp hv
      exact ⟨_, rfl, rfl, k H' (Same.refl _)⟩
    · rw [filter_all, List.map_map] at h4
      refine ⟨acc, (restOf row).map fun x => decide (x = 0), rfl, SqL.of (by rw [h4, List.map_map]; congr 2; apply List.map_congr_left; intro x _; show V.bl (decide (V.int x = V.int 0)) = _; rw [dec_V]; rfl), ?_⟩
      have := q H4 (s2.trans (s3.trans s4))
      have c2 : (risesB (homesOf row) && homesB S.R.length (homesOf row)) = true := c
      rw [show rightB S.R.length row = ((restOf row).map fun x => decide (x = 0)).all id by unfold rightB; rw [decide_eq_true c', c2, Bool.true_and, Bool.true_and, List.all_map]; rfl] at this
      exact this
  · have := q H3 (s2.trans s3)
    have c2 : (risesB (homesOf row) && homesB S.R.length (homesOf row)) = false := Bool.eq_false_iff.mpr c
    rw [show rightB S.R.length row = false by unfold rightB; rw [c2, Bool.false_and, Bool.and_false]] at this
    exact this
def hd1 (S : DS) : List Int := S.R.getD 1 []
def cnt1 (S : DS) : Nat := (cntOf (hd1 S)).toNat
def backL (S : DS) : List (Nat × List Int) := (List.range (cnt1 S)).map fun i => (((hd1 S).getD (1 + i) 0).toNat, S.R.getD (2 + i) [])
theorem back_get (S : DS) (i : Nat) (h : i < (backL S).length) : (backL S)[i] = (((hd1 S).getD (1 + i) 0).toNat, S.R.getD (2 + i) []) := by simp [backL]
theorem right_is {m : Nat} {row : List Int} (h : rightB m row = true) : cntOf row ≤ 15 ∧ risesB (homesOf row) = true ∧ homesB m (homesOf row) = true ∧ ∀ x ∈ restOf row, x = 0 := by
  unfold rightB at h
  rw [Bool.and_eq_true, Bool.and_eq_true, Bool.and_eq_true, decide_eq_true_iff, List.all_eq_true] at h
  exact ⟨h.1, h.2.1.1, h.2.1.2, fun x hx => of_decide_eq_true (h.2.2 x hx)⟩
def spBack (K : PySem.W.Frag) (a : Ad) : Sp := fun vs H Q E => ∃ (d kr : Addr) (S : DS), vs = [.ref d] ∧ DkAt a.cDisk H d kr S ∧ (rightB S.R.length (hd1 S) = false → ∀ H', Same H H' → E (.ref a.cBadLog) none H') ∧
  (rightB S.R.length (hd1 S) = true → cnt1 S = 0 → ∀ H', Same H H' → Q (.int 0) H') ∧
  (rightB S.R.length (hd1 S) = true → 0 < cnt1 S → ∀ H', Chg [d, kr] H H' → DkAt a.cDisk H' d kr (runW S (backL S ++ [(1, zeros)])).1 → (∀ u, H u ≠ none → NoRowAt H kr u → NoRowAt H' kr u) → if (runW S (backL S ++ [(1, zeros)])).2 = true then E (.ref a.cStopped) none H' else Q (.int (cnt1 S)) H')
theorem ok_come_back (F : Fun K "come_back" "come_back" s_come_back f fd) (T : Txt K mg a) (M_Disk_read : Mf P w K mg base (CXE P w) 3 a.f_read ["self", "block"] (spRead K a)) (D_is_right_head : Df P w K mg base (CXE P w) 4 "is_right_head" ["disk", "head"] (spRight K a)) (D_write_homes : Df P w K mg base (CXE P w) 6 "write_homes" ["disk", "pairs"] (spWHomes K a)) : FnOk P w K mg base (CXE P w) 7 f fd ["disk"] (spBack K a) := by
  obtain ⟨_, G_read, b_read⟩ := M_Disk_read
  obtain ⟨_, _, Gis_right_head, bis_right_head, kis_right_head, mis_right_head⟩ := D_is_right_head
  obtain ⟨_, _, Gwrite_homes, bwrite_homes, kwrite_homes, mwrite_homes⟩ := D_write_homes
  have nd := sc_come_back.nd
  refine F.okE sc_come_back (fun vs H Q E h => ?_) (fun cdv A outer s H vs Q E hr hA h => ?_)
  · obtain ⟨d, kr, S, rfl, _⟩ := h
    rfl
  obtain ⟨d, kr, S, rfl, D, q1, q2, q3⟩ := h
  refine ⟨_, (pss_cons (ps_set (i := 1) nd rfl (by first | exact Or.inl rfl | exact Or.inr rfl) (pe_meth (pv 0) T.clDisk T.m_read G_read (hr.mono (by decide)) b_read .nil (passes_fn (fun _ _ _ h => h)) (pa_cons (pe_glob (v := .int 1) rfl T.cLOG_HEAD_AT.choose_spec ⟨_, rfl⟩) pa_nil) (hcm := (.inr hA))))
    (pss_cons (ps_if (pt_not (pt_val (pe_call Gis_right_head (hr.mono (by decide)) rfl mis_right_head kis_right_head bis_right_head .nil (passes_fn (fun _ _ _ h => h)) (pa_cons (pv 0) (pa_cons (pv 1) pa_nil)) (hcm := (.inr hA))))) (pss_one (ps_raise (out_fn (fun _ _ _ h => h)) rfl hA rfl T.mBadLog T.xBadLog (pa_cons pe_str pa_nil))) pss_nil)
    (pss_cons (ps_set (i := 2) nd rfl (by first | exact Or.inl rfl | exact Or.inr rfl) (pe_ix ix_list (pv 1) pe_int (fun _ _ => rfl)))
    (pss_cons (ps_if (pt_cmpR op_gt (pv 2) pe_int (nomark _)) (pss_one (ps_expr (pe_call Gwrite_homes (hr.mono (by decide)) rfl mwrite_homes kwrite_homes bwrite_homes .nil (passes_fn (fun _ _ _ h => h)) (pa_cons (pv 0) (pa_cons (pe_lc (cl := [("head", s.heap.objs.size + 2), ("disk", s.heap.objs.size + 1)]) (fj := [("disk", 0), ("head", 1)]) (by exact LcOk.of ["head", "disk"] rfl (by decide +kernel) rfl (by decide +kernel) rfl (fun p h => (by simp only [List.mem_cons, List.not_mem_nil, or_false] at h; rcases h with rfl | rfl <;> rfl)) rfl (by decide +kernel) (fun p h => (by simp only [List.mem_cons, List.not_mem_nil, or_false] at h; rcases h with rfl | rfl <;> exact ⟨rfl, rfl, .inl rfl⟩)) (by decide +kernel)) rfl (pi_range1 rfl T.range (pa_cons (pv 2) pa_nil)) (fun _ _ _ => pf_nil) (fun _ _ _ => (pe_tup (pa_cons (pe_ix (ix_listK (K := K) rfl) (pv 2) (pe_op op_add pe_int (pv 0)) (fun _ _ => rfl)) (pa_cons (pe_meth (pv 1) T.clDisk T.m_read G_read (hr.mono (by decide)) b_read .nil passesE0 (pa_cons (pe_op op_add (pe_glob (v := .int 2) rfl T.cLOG_ROWS_AT.choose_spec ⟨_, rfl⟩) (pv 0)) pa_nil) (hcm := (.inr hA))) pa_nil))))) pa_nil)) (hcm := (.inr hA))))) pss_nil)
    (pss_one (ps_ret (pv 2))))))), ?_⟩
  obtain ⟨dx, d1⟩ := D.at
  have hlo : 24 ≤ S.R.length := D.lo
  have hR : ∀ k, k < S.R.length → S.R[k]? = some (S.R.getD k []) := fun k hk => by rw [List.getD_eq_getElem?_getD, List.getElem?_eq_getElem hk]; rfl
  have gR : ∀ k, k < S.R.length → GoodRow (S.R.getD k []) := fun k hk => D.good _ (List.mem_of_getElem? (hR k hk))
  have g1 : GoodRow (hd1 S) := gR 1 (by omega)
  refine ⟨_, rfl, d, dx, _, rfl, d1, rfl, d, kr, S.R, S.n, S.l, .int 1, rfl, D, .int _, .inl ⟨1, hd1 S, rfl, hR 1 (by omega), fun p H1 np s1 hp => ?_⟩⟩
  refine ⟨_, rfl, _, rfl, d, kr, p, S, hd1 S, rfl, D.same s1, hp, g1, fun H2 s2 => ⟨_, rfl, ?_⟩⟩
  have s12 := s1.trans s2
  have hp2 := s2 _ _ hp
  have D2 := D.same s12
  by_cases hb : rightB S.R.length (hd1 S) = true
  case neg =>
    have hb' := Bool.eq_false_iff.mpr hb
    exact iteT' (by rw [hb']; rfl) ⟨(by show 1 ≤ 1000; decide), q1 hb' H2 s12⟩
  refine iteF' (by rw [hb]; rfl) ?_
  obtain ⟨r1, r2, r3, r4⟩ := right_is hb
  have h0 : 0 ≤ cntOf (hd1 S) := by
    have h16 := g1.1
    unfold cntOf
    rw [List.getD_eq_getElem?_getD, List.getElem?_eq_getElem (by omega)]
    exact (g1.2 _ (List.getElem_mem _)).1
  have ec : (hd1 S).getD 0 0 = ((cnt1 S : Nat) : Int) := by unfold cnt1; show cntOf (hd1 S) = _; omega
  have hc : cnt1 S ≤ 15 := by unfold cnt1; omega
  have h16 := g1.1
  refine ⟨_, rfl, p, _, _, _, rfl, rfl, SqL.of hp2, row_at (k := 0) (by omega), ?_⟩
  rw [ec]
  refine ⟨_, rfl, _, _, rfl, rfl, _, rfl, ?_⟩
  by_cases hz : cnt1 S = 0
  · refine iteF' (decide_eq_false (by show ¬ ((cnt1 S : Int) > 0); omega)) ⟨_, rfl, ?_⟩
    have := q2 hb hz H2 s12
    rw [show (cnt1 S : Int) = 0 by omega]
    exact this
  refine iteT' (decide_eq_true (by show (cnt1 S : Int) > 0; omega)) ?_
  refine ⟨_, rfl, _, rfl, (cnt1 S : Int), rfl, by omega, by omega, ?_⟩
  rw [Int.toNat_natCast]
  refine lc_vals (n := cnt1 S) (by omega) (fun acc H i v => ∃ t r, v = .ref t ∧ t ≠ acc ∧ r ≠ acc ∧ H t = some (.tup [.int ((hd1 S).getD (1 + i) 0), .ref r]) ∧ H r = some (.lst ((S.R.getD (2 + i) []).map V.int))) ?_ ?_ ?_
  · rintro acc H H' i v k ⟨t, r, z1, z2, z3, z4, z5⟩
    exact ⟨t, r, z1, z2, z3, k _ _ z2 z4, k _ _ z3 z5⟩
  · intro acc i H3 Qf hi ha s3 hna k
    have D3 := D2.same s3
    obtain ⟨dx3, d3⟩ := D3.at
    have hat : atI ((hd1 S).map V.int) (1 + (0 + (i : Int))) = some (.int ((hd1 S).getD (1 + i) 0)) := by
      rw [show (1 : Int) + (0 + (i : Int)) = ((1 + i : Nat) : Int) by omega]
      exact row_at (by omega)
    refine ⟨_, rfl, _, rfl, _, _, rfl, rfl, p, _, _, _, rfl, rfl, SqL.of (s3 _ _ hp2), hat, ?_⟩
    refine ⟨_, rfl, d, dx3, _, rfl, d3, rfl, _, rfl, _, _, rfl, rfl, d, kr, S.R, S.n, S.l, _, rfl, D3, .int _, .inl ⟨2 + i, S.R.getD (2 + i) [], by show V.int _ = V.int _; congr 1; omega, hR _ (by omega), fun r H5 nr s5 hr5 => ?_⟩⟩
    refine ⟨(by show 2 ≤ sizeLine; decide), fun t nt => k _ _ (s5.trans (same_new nt _)) ⟨t, r, rfl, fun z => ?_, fun z => ?_, upd_same, same_new nt _ _ _ hr5⟩⟩
    · cases e : H3 acc with
      | none => exact hna e
      | some o => rw [z, s5 _ _ e] at nt; cases nt
    · exact hna (by rw [← z]; exact nr)
  · intro acc vs H3 ha s3 hacc hlv hg
    obtain ⟨ts, rs, c1, c2, c3⟩ := choose2 (P := fun i t r => vs[i]? = some (.ref t) ∧ H3 t = some (.tup [.int ((hd1 S).getD (1 + i) 0), .ref r]) ∧ H3 r = some (.lst ((S.R.getD (2 + i) []).map V.int))) (cnt1 S) fun i hi => by
      obtain ⟨t, r, z1, _, _, z4, z5⟩ := hg i _ (List.getElem?_eq_getElem (by omega))
      exact ⟨t, r, by rw [← z1]; exact List.getElem?_eq_getElem (by omega), z4, z5⟩
    have ev : vs = ts.map V.ref := List.ext_getElem? fun i => by
      rw [List.getElem?_map]
      by_cases hi : i < cnt1 S
      · rw [(c3 i (by omega) (by omega)).1, List.getElem?_eq_getElem (by omega)]; rfl
      · rw [List.getElem?_eq_none (by omega), List.getElem?_eq_none (by omega)]; rfl
    subst ev
    have hh : ∀ i, i < cnt1 S → 17 ≤ (hd1 S).getD (1 + i) 0 ∧ (hd1 S).getD (1 + i) 0 ≤ (S.R.length : Int) - 1 := fun i hi => by
      have hm : (hd1 S).getD (1 + i) 0 ∈ homesOf (hd1 S) := by
        unfold homesOf
        refine List.mem_of_getElem? (i := i) ?_
        rw [show (cntOf (hd1 S)).toNat = cnt1 S from rfl, List.getElem?_take_of_lt hi, List.getElem?_drop, List.getElem?_eq_getElem (by omega), List.getD_eq_getElem?_getD, List.getElem?_eq_getElem (by omega)]
        rfl
      have := List.all_eq_true.mp r3 _ hm
      have this' : (decide ((17 : Int) ≤ (hd1 S).getD (1 + i) 0) && decide ((hd1 S).getD (1 + i) 0 ≤ (S.R.length : Int) - 1)) = true := this
      rw [Bool.and_eq_true, decide_eq_true_iff, decide_eq_true_iff] at this'
      exact this'
    have s13 := s12.trans s3
    refine ⟨d, kr, acc, S, backL S, rfl, D.same s13, ⟨ts, rs, hacc, by unfold backL; rw [List.length_map, List.length_range]; exact c1, by unfold backL; rw [List.length_map, List.length_range]; exact c2, fun i b1 b2 b3 => ?_⟩, fun x hx => ?_, fun H4 c4 D4 nr4 => ?_⟩
    · obtain ⟨_, z4, z5⟩ := c3 i b1 b2
      have hi : i < cnt1 S := by omega
      have e : (backL S)[i]'b3 = (((hd1 S).getD (1 + i) 0).toNat, S.R.getD (2 + i) []) := back_get S i b3
      have := (hh i hi).1
      rw [e]
      refine ⟨?_, z5⟩
      rw [z4]
      show some (HO.tup [V.int ((hd1 S).getD (1 + i) 0), _]) = some (HO.tup [V.int ((((hd1 S).getD (1 + i) 0).toNat : Nat) : Int), _])
      rw [show ((((hd1 S).getD (1 + i) 0).toNat : Nat) : Int) = (hd1 S).getD (1 + i) 0 by omega]
    · unfold backL at hx
      obtain ⟨i, hi, rfl⟩ := List.mem_map.mp hx
      have := hh i (List.mem_range.mp hi)
      exact ⟨by show ((hd1 S).getD (1 + i) 0).toNat < _; omega, gR _ (by have := List.mem_range.mp hi; omega)⟩
    · have := q3 hb (by omega) H4 ((Chg.of s13).trans c4) D4 (fun u hu nu => ?_)
      · split
        · rename_i hs
          rw [if_pos hs] at this
          exact this
        · rename_i hs
          rw [if_neg hs] at this
          exact ⟨_, rfl, this⟩
      · have hu3 : H3 u ≠ none := by
          cases e : H u with
          | none => exact absurd e hu
          | some o => rw [s13 _ _ e]; simp
        exact nr4 u hu3 (nu.chg D (Chg.of s13 (S := [])) (by simp))
end
end K7
end
section
set_option Elab.async false
set_option linter.all false
set_option maxRecDepth 100000
set_option maxHeartbeats 4000000
namespace K7
open PySem L2 BK
/-! ### what is seen of a disk: block 0 and the blocks from 17 on; a list of writes; the log -/
def putR (R : List (List Int)) (W : List (Nat × List Int)) : List (List Int) := W.foldl (fun R x => R.set x.1 x.2) R
def vw (R : List (List Int)) : List (List Int) := R.getD 0 [] :: R.drop 17
def putV (V : List (List Int)) (L : List (Nat × List Int)) : List (List Int) := L.foldl (fun V x => V.set (x.1 - 16) x.2) V
theorem putR_app (R : List (List Int)) (A B : List (Nat × List Int)) : putR R (A ++ B) = putR (putR R A) B := List.foldl_append ..
theorem putR_len (W : List (Nat × List Int)) : ∀ R : List (List Int), (putR R W).length = R.length := by
  induction W with
  | nil => intro R; rfl
  | cons x r ih => intro R; show (putR (R.set x.1 x.2) r).length = _; rw [ih, List.length_set]
theorem putR_off {W : List (Nat × List Int)} {k : Nat} (h : ∀ x ∈ W, x.1 ≠ k) : ∀ R : List (List Int), (putR R W)[k]? = R[k]? := by
  induction W with
  | nil => intro R; rfl
  | cons x r ih =>
    intro R
    show (putR (R.set x.1 x.2) r)[k]? = _
    rw [ih fun y hy => h y (List.mem_cons_of_mem _ hy), List.getElem?_set_ne (h x (List.mem_cons_self ..))]
/-! the rows of the log -/
theorem rowsOf_len (L : List (Nat × List Int)) (i : Nat) : (rowsOf L i).length = i := by unfold rowsOf; simp
/-- a commit is waited for: the log's head and rows tell L -/
structure Pend (R : List (List Int)) (L : List (Nat × List Int)) (T : List (List Int)) : Prop where
  head : R[1]? = some (headOf L)
  rows : ∀ i, i < L.length → R[2 + i]? = some ((L.getD i (0, [])).2)
  sees : putV (vw R) L = T
structure Rest (R : List (List Int)) (T : List (List Int)) : Prop where
  head : R[1]? = some zeros
  sees : vw R = T
theorem allOf_len {L : List (Nat × List Int)} (h : L ≠ []) : (allOf L).length = 2 * L.length + 2 := by
  unfold allOf logOf
  rw [if_neg h, List.length_append, List.length_append, List.length_append, rowsOf_len]
  simp only [List.length_singleton]
  omega
/-! the head tells L -/
end K7
end
section
set_option Elab.async false
set_option linter.all false
set_option maxRecDepth 100000
set_option maxHeartbeats 4000000
namespace K7
open PySem L2 BK
section
variable {P : Program} {w : World} {K : PySem.W.Frag} {mg : Str → Option Value} {base : Heap} {f : Addr} {fd : FuncData} {a : Ad}
/-! ### _law_cell_at -/
def cell (ns : List Int) (k : Int) : Int := ns.getD k.toNat 0
def spCell (K : PySem.W.Frag) (_ : Ad) : Sp := fun vs H Q _ => ∃ (p : Addr) (ns : List Int) (k : Int), vs = [.ref p, .int k] ∧ SqL K H p (ns.map V.int) ∧ 0 ≤ k ∧ Q (.int (cell ns k)) H
theorem ok__law_cell_at (F : Fun K "_law_cell_at" "_law_cell_at" s__law_cell_at f fd) (T : Txt K mg a)  : FnOk P w K mg base CX0 1 f fd ["_law_script", "_law_k"] (spCell K a) := by
  have nd := sc__law_cell_at.nd
  refine F.ok sc__law_cell_at (fun vs H Q E h => ?_) (fun cdv A outer s H vs Q E hr h => ?_)
  · obtain ⟨p, ns, k, rfl, _⟩ := h
    rfl
  obtain ⟨p, ns, k, rfl, hS, h0, q⟩ := h
  refine ⟨_, (pss_cons (ps_if (pt_cmpR op_lt (pv 1) (pe_callB call_len_seq rfl T.len bt_len (pa_cons (pv 0) pa_nil)) (nomark _)) (pss_one (ps_ret (pe_ix ix_list (pv 0) (pv 1) (fun _ _ => rfl)))) pss_nil)
    (pss_one (ps_ret pe_int))), ?_⟩
  refine ⟨_, rfl, _, rfl, p, _, rfl, .inl hS, _, _, rfl, rfl, _, rfl, ?_⟩
  refine ite2 (fun c => ?_) (fun c => ?_)
  · have c' : k < (((ns.map V.int).length : Nat) : Int) := of_decide_eq_true c
    rw [List.length_map] at c'
    have hk : k.toNat < ns.length := by omega
    have e : atI (ns.map V.int) ((k.toNat : Nat) : Int) = some (.int ns[k.toNat]) := atI_nat (by rw [List.getElem?_map, List.getElem?_eq_getElem hk]; rfl)
    rw [show ((k.toNat : Nat) : Int) = k by omega] at e
    refine ⟨_, rfl, _, rfl, p, _, k, _, rfl, rfl, hS, e, ?_⟩
    rw [show ns[k.toNat] = cell ns k by unfold cell; rw [List.getD_eq_getElem?_getD, List.getElem?_eq_getElem hk]; rfl]
    exact q
  · have c' : ¬ k < (((ns.map V.int).length : Nat) : Int) := of_decide_eq_false (Bool.eq_false_iff.mpr c)
    rw [List.length_map] at c'
    rw [show cell ns k = 0 by unfold cell; rw [List.getD_eq_getElem?_getD, List.getElem?_eq_none (by omega)]; rfl] at q
    exact q

/-! ### _law_row -/
def rowV (c i : Int) : Int := (c / 5 % 1000000000 + c / 35 % 1009 * i + 7919 * i * i) % 1000000000
def rowL (c : Int) : List Int := if c % 5 = 0 then List.replicate 16 (c / 5 % 2 * 999999999) else (List.range 16).map fun i : Nat => rowV c (0 + (i : Int))
theorem rowL_good (c : Int) : GoodRow (rowL c) := by
  unfold rowL
  split
  · refine ⟨by simp, fun x hx => ?_⟩
    rw [List.eq_of_mem_replicate hx]; omega
  · refine ⟨by simp, fun x hx => ?_⟩
    obtain ⟨i, _, rfl⟩ := List.mem_map.mp hx
    unfold rowV; omega
def spRowL (_ : PySem.W.Frag) (_ : Ad) : Sp := fun vs H Q _ => ∃ c, vs = [.int c] ∧ ∀ p H', H p = none → Same H H' → H' p = some (.lst ((rowL c).map V.int)) → Q (.ref p) H'
theorem ok__law_row (F : Fun K "_law_row" "_law_row" s__law_row f fd) (T : Txt K mg a)  : FnOk P w K mg base CX0 1 f fd ["_law_cell"] (spRowL K a) := by
  have nd := sc__law_row.nd
  refine F.ok sc__law_row (fun vs H Q E h => ?_) (fun cdv A outer s H vs Q E hr h => ?_)
  · obtain ⟨c, rfl, _⟩ := h
    rfl
  obtain ⟨c, rfl, q⟩ := h
  refine ⟨_, (pss_cons (ps_if (pt_cmpR op_eq (pe_op op_mod (pv 0) pe_int) pe_int (nomark _)) (pss_one (ps_ret (pe_op op_rep (pe_lst (pa_cons (pe_op op_mul (pe_op op_mod (pe_op op_fdiv (pv 0) pe_int) pe_int) pe_int) pa_nil)) pe_int))) pss_nil)
    (pss_cons (ps_set (i := 1) nd rfl (by first | exact Or.inl rfl | exact Or.inr rfl) (pe_op op_mod (pe_op op_fdiv (pv 0) pe_int) (pe_op op_pow pe_int pe_int)))
    (pss_one (ps_ret (pe_lc (cl := [("_law_first", s.heap.objs.size + 2), ("_law_cell", s.heap.objs.size + 1)]) (fj := [("_law_cell", 0), ("_law_first", 1)]) (by exact LcOk.of ["_law_first", "_law_cell"] rfl (by decide +kernel) rfl (by decide +kernel) rfl (fun p h => (by simp only [List.mem_cons, List.not_mem_nil, or_false] at h; rcases h with rfl | rfl <;> rfl)) rfl (by decide +kernel) (fun p h => (by simp only [List.mem_cons, List.not_mem_nil, or_false] at h; rcases h with rfl | rfl <;> exact ⟨rfl, rfl, .inl rfl⟩)) (by decide +kernel)) rfl (pi_range1 rfl T.range (pa_cons pe_int pa_nil)) (fun _ _ _ => pf_nil) (fun _ _ _ => (pe_op op_mod (pe_op op_add (pe_op op_add (pv 2) (pe_op op_mul (pe_op op_mod (pe_op op_fdiv (pv 1) pe_int) pe_int) (pv 0))) (pe_op op_mul (pe_op op_mul pe_int (pv 0)) (pv 0))) (pe_op op_pow pe_int pe_int)))))))), ?_⟩
  refine t_modeq (c := c) rfl (by decide) ?_
  by_cases h5 : c % 5 = 0
  · refine iteT' (decide_eq_true h5) ?_
    refine ⟨_, rfl, _, _, rfl, rfl, ⟨by decide, by decide⟩, _, _, rfl, rfl, (by show (0 : Int) < 2; decide), _, _, rfl, rfl, .inr ⟨by decide, by decide⟩, (by show 1 ≤ sizeLine; decide), fun p hp => ?_⟩
    refine ⟨p, 16, [.int (c / 5 % 2 * 999999999)], rfl, rfl, upd_same, by decide, by decide, (by show 1 * 16 ≤ sizeLine; decide), fun r hr' => ?_⟩
    refine q r _ ((same_new hp _).free hr') ((same_new hp _).trans (same_new hr' _)) ?_
    rw [upd_same, show rowL c = List.replicate 16 (c / 5 % 2 * 999999999) from if_pos h5]; rfl
  · refine iteF' (decide_eq_false h5) ?_
    refine ⟨_, rfl, _, _, rfl, rfl, ⟨by decide, by decide⟩, _, _, rfl, rfl, ⟨by decide, by decide, by decide⟩, _, _, rfl, rfl, (by show (0 : Int) < 10 ^ (9 : Int).toNat; decide), ?_⟩
    refine ⟨16, rfl, by decide, by decide, lc_ints (n := 16) (by decide) (fun i : Nat => rowV c (0 + (i : Int))) (fun i H1 Qf hi s1 k => ?_) (fun r H1 nr s1 hr' => q r H1 nr s1 (by rw [hr', show rowL c = (List.range 16).map fun i : Nat => rowV c (0 + (i : Int)) from if_neg h5]))⟩
    refine ⟨_, rfl, _, rfl, _, _, rfl, rfl, ⟨by decide, by decide⟩, _, _, rfl, rfl, (by show (0 : Int) < 1009; decide), _, rfl, _, _, rfl, rfl, .inl ⟨by omega, by omega⟩, _, _, rfl, rfl, _, rfl, _, _, rfl, rfl, .inl ⟨by decide, by decide⟩, _, rfl, _, _, rfl, rfl, .inl ⟨by omega, by omega⟩, _, _, rfl, rfl, _, _, rfl, rfl, ⟨by decide, by decide, by decide⟩, _, _, rfl, rfl, (by show (0 : Int) < 10 ^ (9 : Int).toNat; decide), ?_⟩
    exact k H1 (Same.refl _)

/-! ### _law_word -/
def Is4 (K : PySem.W.Frag) (a : Ad) (C : Addr) (j : Nat) : Prop := ExcK K C ∧ PySem.W.kitOne K (.ref C) (.ref a.cNoBlock) = some (decide (j = 0)) ∧ PySem.W.kitOne K (.ref C) (.ref a.cBadRow) = some (decide (j = 1)) ∧ PySem.W.kitOne K (.ref C) (.ref a.cTooMuch) = some (decide (j = 2)) ∧ PySem.W.kitOne K (.ref C) (.ref a.cBadLog) = some (decide (j = 3)) ∧ PySem.W.kitOne K (.ref C) (.ref a.cStopped) = some false ∧ PySem.W.kitOne K (.ref C) (.ref a.cBadDisk) = some false ∧ PySem.W.kitOne K (.ref C) (.type "ValueError") = some true ∧ j < 4
theorem is_block (T : Txt K mg a) : Is4 K a a.cNoBlock 0 := ⟨T.eNoBlock, T.qNoBlock_NoBlock, T.qNoBlock_BadRow, T.qNoBlock_TooMuch, T.qNoBlock_BadLog, T.qNoBlock_Stopped, T.qNoBlock_BadDisk, T.qNoBlock_ValueError, by decide⟩
theorem is_rowx (T : Txt K mg a) : Is4 K a a.cBadRow 1 := ⟨T.eBadRow, T.qBadRow_NoBlock, T.qBadRow_BadRow, T.qBadRow_TooMuch, T.qBadRow_BadLog, T.qBadRow_Stopped, T.qBadRow_BadDisk, T.qBadRow_ValueError, by decide⟩
theorem is_much (T : Txt K mg a) : Is4 K a a.cTooMuch 2 := ⟨T.eTooMuch, T.qTooMuch_NoBlock, T.qTooMuch_BadRow, T.qTooMuch_TooMuch, T.qTooMuch_BadLog, T.qTooMuch_Stopped, T.qTooMuch_BadDisk, T.qTooMuch_ValueError, by decide⟩
theorem is_log (T : Txt K mg a) : Is4 K a a.cBadLog 3 := ⟨T.eBadLog, T.qBadLog_NoBlock, T.qBadLog_BadRow, T.qBadLog_TooMuch, T.qBadLog_BadLog, T.qBadLog_Stopped, T.qBadLog_BadDisk, T.qBadLog_ValueError, by decide⟩
def kw6 (i : Nat) : Str := if i = 0 then "block" else if i = 1 then "row" else if i = 2 then "much" else if i = 3 then "log" else if i = 4 then "stopped" else "disk"
def spWordL (K : PySem.W.Frag) (a : Ad) : Sp := fun vs H Q _ => ∃ (e C : Addr) (j : Nat), vs = [.ref e] ∧ H e = some (.exc (.ref C)) ∧ Is4 K a C j ∧ ∀ H', Same H H' → Q (.str (kw6 j)) H'
theorem ok__law_word (F : Fun K "_law_word" "_law_word" s__law_word f fd) (T : Txt K mg a)  : FnOk P w K mg base CX0 1 f fd ["_law_e"] (spWordL K a) := by
  have nd := sc__law_word.nd
  refine F.ok sc__law_word (fun vs H Q E h => ?_) (fun cdv A outer s H vs Q E hr h => ?_)
  · obtain ⟨e, C, j, rfl, _⟩ := h
    rfl
  obtain ⟨e, C, j, rfl, he, ⟨eC, k0, k1, k2, k3, k4, k5, kV, hj⟩, q⟩ := h
  refine ⟨_, (pss_cons (ps_set (i := 1) nd rfl (by first | exact Or.inl rfl | exact Or.inr rfl) (pe_lst (pa_cons (pe_callB (call_isinstC (C := a.cNoBlock)) rfl T.isinstance bt_isinstance (pa_cons (pv 0) (pa_cons (pe_glob (v := .ref a.cNoBlock) rfl T.mNoBlock rfl) pa_nil))) (pa_cons (pe_callB (call_isinstC (C := a.cBadRow)) rfl T.isinstance bt_isinstance (pa_cons (pv 0) (pa_cons (pe_glob (v := .ref a.cBadRow) rfl T.mBadRow rfl) pa_nil))) (pa_cons (pe_callB (call_isinstC (C := a.cTooMuch)) rfl T.isinstance bt_isinstance (pa_cons (pv 0) (pa_cons (pe_glob (v := .ref a.cTooMuch) rfl T.mTooMuch rfl) pa_nil))) (pa_cons (pe_callB (call_isinstC (C := a.cBadLog)) rfl T.isinstance bt_isinstance (pa_cons (pv 0) (pa_cons (pe_glob (v := .ref a.cBadLog) rfl T.mBadLog rfl) pa_nil))) pa_nil))))))
    (pss_cons (ps_set (i := 1) nd rfl (by first | exact Or.inl rfl | exact Or.inr rfl) (pe_op op_cat (pv 1) (pe_lst (pa_cons (pe_callB (call_isinstC (C := a.cStopped)) rfl T.isinstance bt_isinstance (pa_cons (pv 0) (pa_cons (pe_glob (v := .ref a.cStopped) rfl T.mStopped rfl) pa_nil))) (pa_cons (pe_callB (call_isinstC (C := a.cBadDisk)) rfl T.isinstance bt_isinstance (pa_cons (pv 0) (pa_cons (pe_glob (v := .ref a.cBadDisk) rfl T.mBadDisk rfl) pa_nil))) pa_nil)))))
    (pss_cons (ps_if (pt_not (pt_val (pe_callB (call_isinst (T := "ValueError")) rfl T.isinstance bt_isinstance (pa_cons (pv 0) (pa_cons (pe_bltn (v := .ty "ValueError") rfl T.ValueError bt_ValueError rfl) pa_nil))))) (pss_one (ps_ret pe_str)) pss_nil)
    (pss_one (ps_ret (pe_bm PySem.F.plainAttrs_str PySem.F.slot_str_join PySem.F.type_str_join mt_join pe_str (pa_cons (pe_lc (cl := [("_law_some", s.heap.objs.size + 1)]) (fj := [("_law_some", 1)]) (by exact LcOk.of ["_law_some"] rfl (by decide +kernel) rfl (by decide +kernel) rfl (fun p h => (by rw [List.mem_singleton.mp h]; rfl)) rfl (by decide +kernel) (fun p h => (by rw [List.mem_singleton.mp h]; exact ⟨rfl, rfl, .inl rfl⟩)) (by decide +kernel)) rfl (pi_range1 rfl T.range (pa_cons pe_int pa_nil)) (fun _ _ _ => (pf_one (pt_val (pe_ix (ix_listK (K := K) rfl) (pv 1) (pv 0) (fun _ _ => rfl))))) (fun _ _ _ => (pe_ix (ix_listK (K := K) rfl) (by with_reducible exact (pe_lst (pa_cons pe_str (pa_cons pe_str (pa_cons pe_str (pa_cons pe_str (pa_cons pe_str (pa_cons pe_str pa_nil (hs := star_con)) (hs := star_con)) (hs := star_con)) (hs := star_con)) (hs := star_con)) (hs := star_con)))) (pv 0) (fun _ _ => rfl)))) pa_nil))))))), ?_⟩
  have ty : TyOf K H (.ref e) (.ref C) := .exc he eC
  refine ⟨_, rfl, _, .ref C, _, rfl, ty, k0, _, rfl, _, .ref C, _, rfl, ty, k1, _, rfl, _, .ref C, _, rfl, ty, k2, _, rfl, _, .ref C, _, rfl, ty, k3, (by show 4 ≤ sizeLine; decide), fun p np => ?_⟩
  have s1 := same_new np (.lst [.bl (decide (j = 0)), .bl (decide (j = 1)), .bl (decide (j = 2)), .bl (decide (j = 3))])
  have hp := upd_same (H := H) (a := p) (o := .lst [.bl (decide (j = 0)), .bl (decide (j = 1)), .bl (decide (j = 2)), .bl (decide (j = 3))])
  generalize upd H p (.lst [.bl (decide (j = 0)), .bl (decide (j = 1)), .bl (decide (j = 2)), .bl (decide (j = 3))]) = H1 at s1 hp ⊢
  have ty1 := tyof_same s1 ty
  refine ⟨_, rfl, _, rfl, _, .ref C, _, rfl, ty1, k4, _, rfl, _, .ref C, _, rfl, ty1, k5, (by show 2 ≤ sizeLine; decide), fun p2 n2 => ?_⟩
  have s2 := same_new n2 (.lst [.bl false, .bl false])
  refine ⟨p, p2, _, _, rfl, rfl, s2 _ _ hp, upd_same, (by show 6 ≤ sizeLine; decide), fun p3 n3 => ?_⟩
  have s3 := (s1.trans s2).trans (same_new n3 (.lst [.bl (decide (j = 0)), .bl (decide (j = 1)), .bl (decide (j = 2)), .bl (decide (j = 3)), .bl false, .bl false]))
  have hp3 := upd_same (H := upd H1 p2 (.lst [.bl false, .bl false])) (a := p3) (o := .lst [.bl (decide (j = 0)), .bl (decide (j = 1)), .bl (decide (j = 2)), .bl (decide (j = 3)), .bl false, .bl false])
  refine ⟨_, rfl, _, .ref C, true, rfl, tyof_same s3 ty, kV, _, rfl, iteF' (by rfl) ?_⟩
  refine ⟨rfl, ?_⟩
  refine ⟨6, rfl, by decide, by decide, lc_rangeF (lo := 0) (n := 6) (by decide) (fun i => decide (i = j)) (fun i => .str (kw6 i)) (fun i H2 Qb hi s2 k => ?_) (fun i H2 Qf hi hg s2 k => ?_) fun acc H2 na s2 hacc => ?_⟩
  · refine ⟨_, rfl, _, rfl, p3, _, _, .bl (decide (i = j)), rfl, rfl, SqL.of (s2 _ _ hp3), ?_, _, rfl, k _ (Same.refl _)⟩
    rw [Int.zero_add]
    refine atI_nat ?_
    rcases (show i = 0 ∨ i = 1 ∨ i = 2 ∨ i = 3 ∨ i = 4 ∨ i = 5 by omega) with z | z | z | z | z | z <;> subst z
    · show some (V.bl (decide (j = 0))) = _; rw [decide_eq_decide.mpr (show (j = 0 ↔ 0 = j) from eq_comm)]
    · show some (V.bl (decide (j = 1))) = _; rw [decide_eq_decide.mpr (show (j = 1 ↔ 1 = j) from eq_comm)]
    · show some (V.bl (decide (j = 2))) = _; rw [decide_eq_decide.mpr (show (j = 2 ↔ 2 = j) from eq_comm)]
    · show some (V.bl (decide (j = 3))) = _; rw [decide_eq_decide.mpr (show (j = 3 ↔ 3 = j) from eq_comm)]
    · show some (V.bl false) = _; rw [decide_eq_false (by omega)]
    · show some (V.bl false) = _; rw [decide_eq_false (by omega)]
  · refine ⟨(by show 6 ≤ sizeLine; decide), fun x nx => ⟨_, rfl, x, _, _, .str (kw6 i), rfl, rfl, SqL.of upd_same, ?_, k _ (same_new nx _)⟩⟩
    rw [Int.zero_add]
    refine atI_nat ?_
    rcases (show i = 0 ∨ i = 1 ∨ i = 2 ∨ i = 3 ∨ i = 4 ∨ i = 5 by omega) with z | z | z | z | z | z <;> (subst z; rfl)
  · have ef : ((List.range 6).filter fun i => decide (i = j)).map (fun i => V.str (kw6 i)) = [V.str (kw6 j)] := by
      rcases (show j = 0 ∨ j = 1 ∨ j = 2 ∨ j = 3 by omega) with z | z | z | z <;> (subst z; rfl)
    rw [ef] at hacc
    refine ⟨_, acc, [kw6 j], rfl, rfl, SqL.of hacc, ?_, ?_⟩
    · rcases (show j = 0 ∨ j = 1 ∨ j = 2 ∨ j = 3 by omega) with z | z | z | z <;> (subst z; decide +kernel)
    · have := q H2 (s3.trans s2)
      have ej : Txt.join " " [kw6 j] = kw6 j := by rcases (show j = 0 ∨ j = 1 ∨ j = 2 ∨ j = 3 by omega) with z | z | z | z <;> (subst z; decide +kernel)
      rw [ej]; exact this
/-! ### _law_is_number -/
def spIsNumber (K : PySem.W.Frag) (_ : Ad) : Sp := fun vs H Q _ => ∃ v, vs = [v] ∧ Kd K H v ∧ Q (.bl (goodV v)) H
theorem ok__law_is_number (F : Fun K "_law_is_number" "_law_is_number" s__law_is_number f fd) (T : Txt K mg a)  : FnOk P w K mg base CX0 1 f fd ["_law_word_here"] (spIsNumber K a) := by
  have nd := sc__law_is_number.nd
  refine F.ok sc__law_is_number (fun vs H Q E h => ?_) (fun cdv A outer s H vs Q E hr h => ?_)
  · obtain ⟨v, rfl, _⟩ := h
    rfl
  obtain ⟨v, rfl, kd, q⟩ := h
  refine ⟨_, (pss_one (ps_ret (pe_and (pe_callB (call_isinst (T := "int")) rfl T.isinstance bt_isinstance (pa_cons (pv 0) (pa_cons (pe_bltn (v := .ty "int") rfl T.int bt_int rfl) pa_nil))) (pe_and (pe_not (pe_callB (call_isinst (T := "bool")) rfl T.isinstance bt_isinstance (pa_cons (pv 0) (pa_cons (pe_bltn (v := .ty "bool") rfl T.bool bt_bool rfl) pa_nil)))) (pe_one (pe_chain op_le op_lt pe_int (pv 0) (pe_op op_pow pe_int pe_int))))))), ?_⟩
  obtain ⟨t, ty, e1, e2, _⟩ := kd
  refine ⟨_, rfl, _, t, _, rfl, ty, e1, _, rfl, ?_⟩
  cases v with
  | int i =>
    refine iteT ⟨_, rfl, _, t, _, rfl, ty, e2, _, rfl, _, rfl, iteT ⟨_, rfl, _, _, rfl, rfl, _, rfl, ite2 (fun c => ⟨_, _, rfl, rfl, ⟨by decide, by decide, by decide⟩, _, _, rfl, rfl, ?_⟩) (fun c => ?_)⟩⟩
    · have c' : (0 : Int) ≤ i := of_decide_eq_true c
      have e : goodV (.int i) = decide (i < 10 ^ (9 : Int).toNat) := by
        show (decide ((0 : Int) ≤ i) && decide (i ≤ 999999999)) = _
        rw [decide_eq_true c', Bool.true_and]
        exact decide_eq_decide.mpr (by show i ≤ 999999999 ↔ i < 1000000000; omega)
      rw [e] at q
      exact q
    · have c' : ¬ (0 : Int) ≤ i := of_decide_eq_false (Bool.eq_false_iff.mpr c)
      have e : goodV (.int i) = false := by
        show (decide ((0 : Int) ≤ i) && decide (i ≤ 999999999)) = _
        rw [decide_eq_false c']; rfl
      rw [e] at q
      exact q
  | bl b => exact iteT ⟨_, rfl, _, t, _, rfl, ty, e2, _, rfl, _, rfl, iteF q⟩
  | _ => exact iteF q
end
end K7
end
section
set_option Elab.async false
set_option linter.all false
set_option maxRecDepth 100000
set_option maxHeartbeats 4000000
namespace K7
open PySem L2 BK
section
variable {P : Program} {w : World} {K : PySem.W.Frag} {mg : Str → Option Value} {base : Heap} {f : Addr} {fd : FuncData} {a : Ad}
/-! ### _law_is_right -/
def seqR (m : Nat) : Int → List Int → Bool
  | _, [] => true
  | l, h :: r => (decide (l < h) && decide (h < (m : Int))) && seqR m h r
theorem seq_iff (m : Nat) : ∀ (hs : List Int) (l : Int), 16 ≤ l → (seqR m l hs = true ↔ (∀ h, hs.head? = some h → l < h) ∧ risesB hs = true ∧ homesB m hs = true)
  | [], l, _ => ⟨fun _ => ⟨fun h z => (by cases z), rfl, rfl⟩, fun _ => rfl⟩
  | h :: r, l, hl => by
    have hh : homesB m (h :: r) = ((decide ((17 : Int) ≤ h) && decide (h ≤ (m : Int) - 1)) && homesB m r) := rfl
    have hr : risesB (h :: r) = (match r with | [] => true | y :: _ => decide (h < y) && risesB r) := by
      cases r with
      | nil => rfl
      | cons y r => rfl
    show ((decide (l < h) && decide (h < (m : Int))) && seqR m h r) = true ↔ _
    rw [hh, hr]
    simp only [Bool.and_eq_true, decide_eq_true_iff, List.head?_cons, Option.some.injEq]
    constructor
    · rintro ⟨⟨z1, z2⟩, z3⟩
      obtain ⟨y1, y2, y3⟩ := (seq_iff m r h (by omega)).mp z3
      refine ⟨fun _ e => e ▸ z1, ?_, ⟨by omega, by omega⟩, y3⟩
      cases r with
      | nil => rfl
      | cons y r => simp only [Bool.and_eq_true, decide_eq_true_iff]; exact ⟨y1 y rfl, y2⟩
    · rintro ⟨z1, z2, ⟨z3, z4⟩, z5⟩
      have z1 := z1 h rfl
      refine ⟨⟨z1, by omega⟩, (seq_iff m r h (by omega)).mpr ⟨fun y hy => ?_, ?_, z5⟩⟩
      · cases r with
        | nil => cases hy
        | cons y' r =>
          simp only [Bool.and_eq_true, decide_eq_true_iff] at z2
          cases hy
          exact z2.1
      · cases r with
        | nil => rfl
        | cons y' r =>
          simp only [Bool.and_eq_true, decide_eq_true_iff] at z2
          exact z2.2
theorem seq_all (m : Nat) (hs : List Int) : seqR m 16 hs = (risesB hs && homesB m hs) := by
  rw [Bool.eq_iff_iff, seq_iff m hs 16 (by decide), Bool.and_eq_true]
  refine ⟨fun h => h.2, fun h => ⟨fun x hx => ?_, h⟩⟩
  have := List.all_eq_true.mp h.2 x (by cases hs with | nil => cases hx | cons y r => cases hx; exact List.mem_cons_self ..)
  have this' : (decide ((17 : Int) ≤ x) && decide (x ≤ (m : Int) - 1)) = true := this
  rw [Bool.and_eq_true, decide_eq_true_iff] at this'
  omega
def spIsRight (K : PySem.W.Frag) (_ : Ad) : Sp := fun vs H Q _ => ∃ (p : Addr) (row : List Int) (m : Nat), vs = [.ref p, .int m] ∧ H p = some (.lst (row.map V.int)) ∧ GoodRow row ∧ ∀ H', Same H H' → Q (.bl (rightB m row)) H'
theorem ok__law_is_right (F : Fun K "_law_is_right" "_law_is_right" s__law_is_right f fd) (T : Txt K mg a)  : FnOk P w K mg base (CXE P w) 1 f fd ["_law_head_here", "_law_many"] (spIsRight K a) := by
  have nd := sc__law_is_right.nd
  refine F.okE sc__law_is_right (fun vs H Q E h => ?_) (fun cdv A outer s H vs Q E hr hA h => ?_)
  · obtain ⟨p, row, m, rfl, _⟩ := h
    rfl
  obtain ⟨p, row, m, rfl, hp, ⟨h16, hg⟩, q⟩ := h
  refine ⟨_, (pss_cons (ps_if (pt_cmpR op_gt (pe_ix ix_list (pv 0) pe_int (fun _ _ => rfl)) pe_int (nomark _)) (pss_one (ps_ret pe_bl)) pss_nil)
    (pss_cons (ps_if (pt_cmpR (op_neD hr.units) (pe_lc (cl := []) (fj := []) (by exact ⟨rfl, by decide +kernel, rfl, by decide +kernel, rfl, fun _ h => (by cases h), by decide +kernel, fun _ h => (by cases h), by decide +kernel⟩) rfl (pi_list (pe_slice sl_list (pv 0) (po_some (pe_op op_add pe_int (pe_ix ix_list (pv 0) pe_int (fun _ _ => rfl)))) po_none)) (fun _ _ _ => (pf_one (pt_cmpR op_ne (pv 0) pe_int (nomark _)))) (fun _ _ _ => (pv 0))) (pe_lst pa_nil) (nomark _)) (pss_one (ps_ret pe_bl)) pss_nil)
    (pss_cons (ps_set (i := 2) nd rfl (by first | exact Or.inl rfl | exact Or.inr rfl) pe_int)
    (pss_cons (ps_for PassesOwn.leaving rfl (pi_list (pe_slice sl_list (pv 0) (po_some pe_int) (po_some (pe_op op_add pe_int (pe_ix ix_list (pv 0) pe_int (fun _ _ => rfl)))))) (pg_name (i := 3) nd rfl (by first | exact Or.inl rfl | exact Or.inr rfl)) (pss_cons (ps_if (pt_not (pt_chain op_lt op_lt (pv 2) (pv 3) (pv 1))) (pss_one (ps_ret pe_bl)) pss_nil)
    (pss_one (ps_set (i := 2) nd rfl (by first | exact Or.inl rfl | exact Or.inr rfl) (pv 3)))))
    (pss_one (ps_ret pe_bl)))))), ?_⟩
  have h0 : 0 ≤ cntOf row := by
    unfold cntOf
    rw [List.getD_eq_getElem?_getD, List.getElem?_eq_getElem (by omega)]
    exact (hg _ (List.getElem_mem _)).1
  refine ⟨_, rfl, p, _, _, _, rfl, rfl, SqL.of hp, row_at (k := 0) (by omega), _, _, rfl, rfl, _, rfl, ite2 (fun c => ?_) (fun c => ?_)⟩
  · have c' : cntOf row > 15 := of_decide_eq_true c
    have := q H (Same.refl _)
    rw [show rightB m row = false by unfold rightB; rw [decide_eq_false (by omega)]; rfl] at this
    exact this
  have c' : cntOf row ≤ 15 := by have : ¬ cntOf row > 15 := of_decide_eq_false (Bool.eq_false_iff.mpr c); omega
  obtain ⟨n, en⟩ : ∃ n : Nat, cntOf row = (n : Int) := ⟨(cntOf row).toNat, by omega⟩
  have en' : row.getD 0 0 = (n : Int) := en
  have hn : n ≤ 15 := by omega
  have at0 : atI (row.map V.int) 0 = some (.int (n : Int)) := by rw [← en']; exact row_at (k := 0) (by omega)
  have e1 : cutV (row.map V.int) (some (1 : Int)) (some ((1 : Int) + (n : Int))) = (homesOf row).map V.int := by
    rw [show ((1 : Int) + (n : Int)) = ((1 + n : Nat) : Int) by omega, show (1 : Int) = ((1 : Nat) : Int) from rfl, cut_mid' _ _ _ (by rw [List.length_map]; omega) (by omega)]
    unfold homesOf
    rw [en, Int.toNat_natCast, List.map_take, List.map_drop, Nat.add_sub_cancel_left]
  have e2 : cutV (row.map V.int) (some ((1 : Int) + (n : Int))) none = (restOf row).map V.int := by
    rw [show ((1 : Int) + (n : Int)) = ((1 + n : Nat) : Int) by omega, cut_from]
    unfold restOf
    rw [en, Int.toNat_natCast, List.map_drop]
  refine ⟨_, rfl, _, rfl, p, _, _, _, rfl, rfl, SqL.of hp, at0, _, _, rfl, rfl, _, rfl, p, _, rfl, SqL.of hp, fun u nu => ?_⟩
  dsimp (config := { proj := false, iota := false, eta := false, zeta := false }) only
  rw [e2]
  have s1 := same_new nu (.lst ((restOf row).map V.int))
  have hu := upd_same (H := H) (a := u) (o := .lst ((restOf row).map V.int))
  generalize upd H u (.lst ((restOf row).map V.int)) = H1 at s1 hu ⊢
  refine ⟨u, rfl, ⟨_, SqL.of hu⟩, lc_pureL (xs := (restOf row).map V.int) (by rw [List.length_map]; unfold restOf; rw [List.length_drop]; omega) (SqL.of hu) (fun v => !decide (v = .int 0)) (fun v => v) (fun v H' Qf hv s' k => ?_) (fun v H' Qf hv _ s' k => ?_) (fun acc H2 n2 s2 h2 => ?_)⟩
  · obtain ⟨x, _, rfl⟩ := List.mem_map.mp hv
    exact ⟨_, rfl, rfl, _, rfl, k H' (Same.refl _)⟩
  · exact ⟨_, rfl, k H' (Same.refl _)⟩
  have ef : (((restOf row).map V.int).filter fun v => !decide (v = .int 0)).map (fun v => v) = ((restOf row).filter fun x => !decide (x = 0)).map V.int := by
    rw [List.map_id', List.filter_map]
    congr 1
    apply List.filter_congr
    intro x _
    show (!decide (V.int x = V.int 0)) = _
    rw [dec_V]
  rw [ef] at h2
  have e3 : ((restOf row).all fun x => decide (x = 0)) = decide (((restOf row).filter fun x => !decide (x = 0)) = []) := by
    rw [Bool.eq_iff_iff, List.all_eq_true, decide_eq_true_iff, List.filter_eq_nil_iff]
    exact ⟨fun h x hx => by rw [h x hx]; decide, fun h x hx => by have := h x hx; simpa using this⟩
  have er : rightB m row = ((risesB (homesOf row) && homesB m (homesOf row)) && decide (((restOf row).filter fun x => !decide (x = 0)) = [])) := by
    unfold rightB
    rw [decide_eq_true c', Bool.true_and, e3]
  generalize (restOf row).filter (fun x => !decide (x = 0)) = zs at h2 er
  refine ⟨Nat.zero_le _, fun l3 n3 => ⟨.list (zs.map PyData.int), .list [], .lst (SqL.of (same_new n3 _ _ _ h2)) (dvs_ints _), .lst (SqL.of upd_same) .nil, PySem.W.ke_shaped_ints _, by decide +kernel, _, rfl, ?_⟩⟩
  have s3 := (s1.trans s2).trans (same_new n3 (.lst []))
  cases zs with
  | cons z zs =>
    refine iteT' (by rfl) ?_
    have := q _ s3
    rw [er, decide_eq_false (by simp), Bool.and_false] at this
    exact this
  | nil =>
    rw [decide_eq_true rfl, Bool.and_true, ← seq_all] at er
    refine iteF' (by rfl) ?_
    generalize upd H2 l3 (.lst []) = H3 at s3 ⊢
    have hp3 := s3 _ _ hp
    refine ⟨_, rfl, _, rfl, _, rfl, p, _, _, _, rfl, rfl, SqL.of hp3, at0, _, _, rfl, rfl, _, rfl, p, _, rfl, SqL.of hp3, fun y ny => ?_⟩
    dsimp (config := { proj := false, iota := false, eta := false, zeta := false }) only
    rw [e1]
    have s4 := same_new ny (.lst ((homesOf row).map V.int))
    have hy := upd_same (H := H3) (a := y) (o := .lst ((homesOf row).map V.int))
    generalize upd H3 y (.lst ((homesOf row).map V.int)) = H4 at s4 hy ⊢
    generalize homesOf row = hs at hy er
    refine ⟨y, rfl, ⟨_, SqL.of hy⟩, for_list (xs := hs.map V.int) (fun i σ' H' => ∃ (l : Int) (o3 : Option V), σ' = [some (.ref p), some (.int m), some (.int l), o3] ∧ Same H4 H' ∧ seqR m 16 hs = seqR m l (hs.drop i)) ⟨16, none, rfl, Same.refl _, rfl⟩ (fun i σ' H' _ ⟨_, _, _, e, _⟩ => SqL.of (e _ _ hy)) ?_ ?_⟩
    · rintro i v σ' H' hv ⟨l, o3, rfl, s5, es⟩
      have hi : i < hs.length := by
        have := (List.getElem?_eq_some_iff.mp hv).1
        rw [List.length_map] at this
        exact this
      rw [List.getElem?_map, List.getElem?_eq_getElem hi] at hv
      cases hv
      rw [List.drop_eq_getElem_cons hi] at es
      refine ⟨_, rfl, _, rfl, _, _, rfl, rfl, _, rfl, ?_⟩
      have bad : ¬ (l < hs[i] ∧ hs[i] < (m : Int)) → Q (.bl false) H' := fun h => by
        have := q _ ((s3.trans s4).trans s5)
        rw [er, es] at this
        rw [show seqR m l (hs[i] :: hs.drop (i + 1)) = false by
          show ((decide (l < hs[i]) && decide (hs[i] < (m : Int))) && _) = _
          rw [show (decide (l < hs[i]) && decide (hs[i] < (m : Int))) = false by
            rw [Bool.and_eq_false_iff, decide_eq_false_iff_not, decide_eq_false_iff_not]
            by_cases z : l < hs[i]
            · exact .inr fun y => h ⟨z, y⟩
            · exact .inl z]
          rfl] at this
        exact this
      refine ite2 (fun c => ⟨_, rfl, _, _, rfl, rfl, _, rfl, ite2 (fun c2 => ?_) (fun c2 => ?_)⟩) (fun c => ⟨_, rfl, iteT' (by rfl) ?_⟩)
      · exact bad fun z => by rw [decide_eq_true z.2] at c2; cases c2
      · refine ⟨_, rfl, hs[i], _, rfl, s5, ?_⟩
        have z1 : l < hs[i] := of_decide_eq_true c
        have z2 : hs[i] < (m : Int) := by
          by_cases z : hs[i] < (m : Int)
          · exact z
          · rw [decide_eq_false z] at c2; exact absurd rfl c2
        rw [es]
        show ((decide (l < hs[i]) && decide (hs[i] < (m : Int))) && _) = _
        rw [decide_eq_true z1, decide_eq_true z2]
        rfl
      · exact bad fun z => c (decide_eq_true z.1)
    · rintro σ' H' ⟨l, o3, rfl, s5, es⟩
      rw [List.length_map, List.drop_length] at es
      have := q _ ((s3.trans s4).trans s5)
      rw [er, es] at this
      exact this
end
end K7
end
section
set_option Elab.async false
set_option linter.all false
set_option maxRecDepth 100000
set_option maxHeartbeats 4000000
namespace K7
open PySem L2 BK
section
variable {P : Program} {w : World} {K : PySem.W.Frag} {mg : Str → Option Value} {base : Heap} {f : Addr} {fd : FuncData} {a : Ad}
/-! ### _law_homes -/
def spHomesL (K : PySem.W.Frag) (_ : Ad) : Sp := fun vs H Q _ => ∃ (sc : Addr) (ns : List Int) (n m : Nat), vs = [.ref sc, .int m, .int n] ∧ SqL K H sc (ns.map V.int) ∧ n ≤ 17 ∧ 24 ≤ m ∧ m ≤ 96 ∧
  ∀ (p : Addr) (hs : List Int) (H' : Hp), Same H H' → H p = none → H' p = some (.lst (hs.map V.int)) → hs.Pairwise (· < ·) → (∀ h ∈ hs, 17 ≤ h ∧ h ≤ (m : Int) - 1) → hs.length ≤ n → Q (.ref p) H'
theorem ok__law_homes (F : Fun K "_law_homes" "_law_homes" s__law_homes f fd) (T : Txt K mg a) (D__law_cell_at : Df P w K mg base CX0 1 "_law_cell_at" ["_law_script", "_law_k"] (spCell K a)) : FnOk P w K mg base (CXE P w) 2 f fd ["_law_script", "_law_many", "_law_count"] (spHomesL K a) := by
  obtain ⟨_, _, Gl_cell_at, bl_cell_at, kl_cell_at, ml_cell_at⟩ := D__law_cell_at
  have nd := sc__law_homes.nd
  refine F.okE sc__law_homes (fun vs H Q E h => ?_) (fun cdv A outer s H vs Q E hr hA h => ?_)
  · obtain ⟨sc, ns, n, m, rfl, _⟩ := h
    rfl
  obtain ⟨sc, ns, n, m, rfl, hS, hn, hm1, hm2, q⟩ := h
  refine ⟨_, (pss_cons (ps_set (i := 3) nd rfl (by first | exact Or.inl rfl | exact Or.inr rfl) pe_dict0)
    (pss_cons (ps_for PassesOwn.leaving rfl (pi_range1 rfl T.range (pa_cons (pv 2) pa_nil)) (pg_name (i := 4) nd rfl (by first | exact Or.inl rfl | exact Or.inr rfl)) (pss_one (ps_dput (hu_of hr) (pv 3) (pe_op op_add pe_int (pe_op op_mod (pe_op op_add (pe_op op_fdiv (pe_call Gl_cell_at (hr.mono (by decide)) rfl ml_cell_at kl_cell_at bl_cell_at .nil pass0 (pa_cons (pv 0) (pa_cons (pe_op op_add pe_int (pv 4)) pa_nil))) pe_int) (pe_op op_mul pe_int (pv 4))) (pe_op op_sub (pv 1) pe_int))) pe_bl rfl)))
    (pss_one (ps_ret (pe_callB (call_sortedD hA) rfl T.sorted bt_sorted (pa_cons (pv 3) pa_nil)))))), ?_⟩
  refine fun ho nho => ?_
  have s0 := same_new nho (.dK [])
  refine ⟨_, rfl, (n : Int), rfl, by omega, by omega, ?_⟩
  rw [Int.toNat_natCast]
  refine for_range (n := n) (fun i σ' H' => ∃ (ks : List Int) (kvs : List (Key × V)) (o4 : Option V), σ' = [some (.ref sc), some (.int m), some (.int n), some (.ref ho), o4] ∧ Same H H' ∧ ks.length ≤ i ∧ H' ho = some (.dK kvs) ∧ kvs.map (·.1) = ks.map (Sum.inl : Int → Key) ∧ ks.Nodup ∧ ∀ k ∈ ks, 17 ≤ k ∧ k ≤ (m : Int) - 1)
    ⟨[], [], none, rfl, s0, Nat.le_refl _, upd_same, rfl, .nil, fun k hk => (by cases hk)⟩ ?_ ?_
  · rintro i σ' H' hi ⟨ks, kvs, o4, rfl, s1, hl, e1, e2, nd', inn⟩
    refine ⟨_, rfl, _, rfl, _, rfl, _, _, rfl, rfl, sc, ns, _, rfl, s1.seq hS, by omega, ?_⟩
    generalize cell ns (8 + (0 + (i : Int))) = c
    have hlen : kvs.length = ks.length := by have := congrArg List.length e2; simpa using this
    obtain ⟨ks', k1, k2, k3, k4⟩ := putK_keys e2 (17 + (c / 3 + 5 * (0 + (i : Int))) % ((m : Int) - 17)) (.bl true)
    refine ⟨_, _, rfl, rfl, ⟨by decide, by decide⟩, _, rfl, _, _, rfl, rfl, .inl ⟨by decide, by decide⟩, _, _, rfl, rfl, _, rfl, _, _, rfl, rfl, _, _, rfl, rfl, (by show (0 : Int) < (m : Int) - 17; omega), _, _, rfl, rfl, ho, _, rfl, DPut.k (k := .inl (17 + (c / 3 + 5 * (0 + (i : Int))) % ((m : Int) - 17))) e1 (small1000 (by omega)), ?_⟩
    refine ⟨ks', _, _, rfl, same_upd nho s1 _, by omega, upd_same, k1, k3 nd', fun k hk => ?_⟩
    rcases (k2 k).mp hk with z | z
    · exact inn k z
    · have := Int.emod_nonneg (c / 3 + 5 * (0 + (i : Int))) (show (m : Int) - 17 ≠ 0 by omega)
      have := Int.emod_lt_of_pos (c / 3 + 5 * (0 + (i : Int))) (show (0 : Int) < (m : Int) - 17 by omega)
      omega
  · rintro σ' H' ⟨ks, kvs, o4, rfl, s1, hl, e1, e2, nd', inn⟩
    have hlen : kvs.length = ks.length := by have := congrArg List.length e2; simpa using this
    refine ⟨_, rfl, ho, kvs, ks, rfl, e1, e2, by omega, fun l ns' nl perm srt => ?_⟩
    have s2 := same_new nl (.lst (ns'.map V.int))
    exact q l ns' _ (s1.trans s2) (s1.free nl) upd_same (lt_of_le_nodup srt (perm.nodup_iff.mpr nd')) (fun h hh => inn h (perm.mem_iff.mp hh)) (by rw [perm.length_eq]; exact hl)
/-! ### _law_head -/
theorem at_row {row : List Int} (h16 : row.length = 16) {lo hi : Int} (hb : ∀ x ∈ row, lo ≤ x ∧ x ≤ hi) (j : Int) (h1 : -1 ≤ j) (h2 : j < 16) : ∃ (k : Nat) (x : Int), ixN (row.map V.int).length j = some k ∧ k < 16 ∧ atI (row.map V.int) j = some (.int x) ∧ lo ≤ x ∧ x ≤ hi := by
  obtain ⟨k, hk, e⟩ : ∃ k : Nat, k < 16 ∧ ixN (row.map V.int).length j = some k := by
    rw [List.length_map, h16]
    unfold ixN
    by_cases h0 : 0 ≤ j
    · exact ⟨j.toNat, by omega, by rw [if_pos h0, if_pos (by omega)]⟩
    · exact ⟨(j + (16 : Nat)).toNat, by omega, by rw [if_neg h0, if_pos (by omega)]⟩
  have hkr : k < row.length := by omega
  refine ⟨k, row[k], e, hk, ?_, hb _ (List.getElem_mem hkr)⟩
  unfold atI
  rw [e]
  show (row.map V.int)[k]? = _
  rw [List.getElem?_map, List.getElem?_eq_getElem hkr]
  rfl
theorem word_at {y y2 fa : Int} {m : Nat} (h1 : 0 ≤ y) (h2 : y ≤ 96) (h3 : 0 ≤ y2) (h4 : y2 ≤ 96) (h5 : 0 ≤ fa) (h6 : fa < 1000000000) (h7 : m ≤ 96) (c : Int) (h0 : 0 ≤ c) (h8 : c < 8) :
    ∃ z : Int, atI [V.int y, .int (y + 1), .int (if y - 1 > 0 then y - 1 else 0), .int 0, .int 16, .int (m : Int), .int fa, .int y2] c = some (.int z) ∧ 0 ≤ z ∧ z ≤ 999999999 := by
  rcases (show c = 0 ∨ c = 1 ∨ c = 2 ∨ c = 3 ∨ c = 4 ∨ c = 5 ∨ c = 6 ∨ c = 7 by omega) with e | e | e | e | e | e | e | e <;> subst e
  · exact ⟨_, rfl, by omega, by omega⟩
  · exact ⟨_, rfl, by omega, by omega⟩
  · refine ⟨_, rfl, ?_, ?_⟩ <;> (split <;> omega)
  · exact ⟨_, rfl, by omega, by omega⟩
  · exact ⟨_, rfl, by omega, by omega⟩
  · exact ⟨_, rfl, by omega, by omega⟩
  · exact ⟨_, rfl, by omega, by omega⟩
  · exact ⟨_, rfl, by omega, by omega⟩
theorem good_set {row : List Int} (h16 : row.length = 16) (hb : ∀ x ∈ row, 0 ≤ x ∧ x ≤ 999999999) (k : Nat) {x : Int} (h0 : 0 ≤ x) (h1 : x ≤ 999999999) : GoodRow (row.set k x) :=
  ⟨by rw [List.length_set]; exact h16, fun y hy => by
    rcases List.mem_or_eq_of_mem_set hy with z | z
    · exact hb y z
    · rw [z]; exact ⟨h0, h1⟩⟩
def spHeadL (K : PySem.W.Frag) (_ : Ad) : Sp := fun vs H Q _ => ∃ (sc : Addr) (ns : List Int) (m : Nat), vs = [.ref sc, .int m] ∧ SqL K H sc (ns.map V.int) ∧ 24 ≤ m ∧ m ≤ 96 ∧
  ∀ (p : Addr) (row : List Int) (H' : Hp), Same H H' → H p = none → H' p = some (.lst (row.map V.int)) → GoodRow row → Q (.ref p) H'
theorem ok__law_head (F : Fun K "_law_head" "_law_head" s__law_head f fd) (T : Txt K mg a) (D__law_homes : Df P w K mg base (CXE P w) 2 "_law_homes" ["_law_script", "_law_many", "_law_count"] (spHomesL K a)) (D__law_cell_at : Df P w K mg base CX0 1 "_law_cell_at" ["_law_script", "_law_k"] (spCell K a)) : FnOk P w K mg base (CXE P w) 3 f fd ["_law_script", "_law_many"] (spHeadL K a) := by
  obtain ⟨_, _, Gl_homes, bl_homes, kl_homes, ml_homes⟩ := D__law_homes
  obtain ⟨_, _, Gl_cell_at, bl_cell_at, kl_cell_at, ml_cell_at⟩ := D__law_cell_at
  have nd := sc__law_head.nd
  refine F.okE sc__law_head (fun vs H Q E h => ?_) (fun cdv A outer s H vs Q E hr hA h => ?_)
  · obtain ⟨sc, ns, m, rfl, _⟩ := h
    rfl
  obtain ⟨sc, ns, m, rfl, hS, hm1, hm2, q⟩ := h
  refine ⟨_, (pss_cons (ps_set (i := 2) nd rfl (by first | exact Or.inl rfl | exact Or.inr rfl) (pe_call Gl_homes (hr.mono (by decide)) rfl ml_homes kl_homes bl_homes .nil (passes_fn (fun _ _ _ h => h)) (pa_cons (pv 0) (pa_cons (pv 1) (pa_cons (pe_op op_mod (pe_call Gl_cell_at (hr.mono (by decide)) rfl ml_cell_at kl_cell_at bl_cell_at .nil pass0 (pa_cons (pv 0) (pa_cons pe_int pa_nil))) pe_int) pa_nil))) (hcm := (.inr hA))))
    (pss_cons (ps_set (i := 3) nd rfl (by first | exact Or.inl rfl | exact Or.inr rfl) (pe_op op_cat (pe_op op_cat (pe_lst (pa_cons (pe_callB call_len_seq rfl T.len bt_len (pa_cons (pv 2) pa_nil)) pa_nil)) (pv 2)) (pe_op op_rep (pe_lst (pa_cons pe_int pa_nil)) (pe_op op_sub pe_int (pe_callB call_len_seq rfl T.len bt_len (pa_cons (pv 2) pa_nil))))))
    (pss_cons (ps_set (i := 4) nd rfl (by first | exact Or.inl rfl | exact Or.inr rfl) (pe_call Gl_cell_at (hr.mono (by decide)) rfl ml_cell_at kl_cell_at bl_cell_at .nil pass0 (pa_cons (pv 0) (pa_cons pe_int pa_nil))))
    (pss_cons (ps_set (i := 5) nd rfl (by first | exact Or.inl rfl | exact Or.inr rfl) (pe_op op_mod (pe_op op_fdiv (pv 4) pe_int) pe_int))
    (pss_cons (ps_if (pt_cmpR op_eq (pe_op op_mod (pe_op op_fdiv (pv 4) pe_int) pe_int) pe_int (nomark _)) (pss_one (ps_set (i := 5) nd rfl (by first | exact Or.inl rfl | exact Or.inr rfl) (pe_op op_mod (pe_op op_fdiv (pv 4) pe_int) (pe_op op_add (pe_callB call_len_seq rfl T.len bt_len (pa_cons (pv 2) pa_nil)) pe_int)))) pss_nil)
    (pss_cons (ps_set (i := 6) nd rfl (by first | exact Or.inl rfl | exact Or.inr rfl) (pe_op op_mod (pe_op op_fdiv (pv 4) pe_int) (pe_op op_pow pe_int pe_int)))
    (pss_cons (ps_set (i := 7) nd rfl (by first | exact Or.inl rfl | exact Or.inr rfl) (pe_lst (pa_cons (pe_ix ix_list (pv 3) (pv 5) (fun _ _ => rfl)) (pa_cons (pe_op op_add (pe_ix ix_list (pv 3) (pv 5) (fun _ _ => rfl)) pe_int) (pa_cons (pe_callB (call_max2 hA) rfl T.max bt_max (pa_cons pe_int (pa_cons (pe_op op_sub (pe_ix ix_list (pv 3) (pv 5) (fun _ _ => rfl)) pe_int) pa_nil))) (pa_cons pe_int (pa_cons pe_int (pa_cons (pv 1) (pa_cons (pv 6) (pa_cons (pe_ix ix_list (pv 3) (pe_op op_sub (pv 5) pe_int) (fun _ _ => rfl)) pa_nil))))))))))
    (pss_cons (ps_asg (pe_ix ix_list (pv 7) (pe_op op_mod (pv 4) pe_int) (fun _ _ => rfl)) (pg_sub (pv 3) (pv 5) set_list))
    (pss_cons (ps_if (pt_cmpR op_eq (pe_op op_mod (pv 4) pe_int) pe_int (nomark _)) (pss_one (ps_asg (pe_op op_mod (pe_op op_fdiv (pv 4) pe_int) pe_int) (pg_sub (pv 3) (pe_op op_sub (pv 5) pe_int) set_list))) pss_nil)
    (pss_one (ps_ret (pv 3)))))))))))), ?_⟩
  have hc0 := Int.emod_nonneg (cell ns 2) (show (16 : Int) ≠ 0 by decide)
  have hc1 := Int.emod_lt_of_pos (cell ns 2) (show (0 : Int) < 16 by decide)
  obtain ⟨n, en⟩ : ∃ n : Nat, cell ns 2 % 16 = (n : Int) := ⟨(cell ns 2 % 16).toNat, by omega⟩
  refine ⟨_, rfl, _, rfl, _, rfl, sc, ns, 2, rfl, hS, by decide, _, _, rfl, rfl, (by show (0 : Int) < 16; decide), sc, ns, n, m, by rw [← en]; rfl, hS, by omega, hm1, hm2, fun ho hs H1 s1 nho hho pw inn hl => ?_⟩
  have hl15 : hs.length ≤ 15 := by omega
  have eml : (hs.map V.int).length = hs.length := List.length_map ..
  refine ⟨_, rfl, ho, _, rfl, .inl (SqL.of hho), (by show 1 ≤ sizeLine; decide), fun l1 n1 => ?_⟩
  have t1 := same_new n1 (.lst [.int ((hs.map V.int).length : Int)])
  refine ⟨_, rfl, l1, ho, _, _, rfl, rfl, upd_same, t1 _ _ hho, small (by show 1 + (hs.map V.int).length ≤ 1000; omega), fun l2 n2 => ?_⟩
  have t2 := same_new n2 (.lst ([V.int ((hs.map V.int).length : Int)] ++ hs.map V.int))
  refine ⟨(by show 1 ≤ sizeLine; decide), fun l3 n3 => ⟨_, rfl, ho, _, rfl, .inl (SqL.of (same_new n3 _ _ _ (t2 _ _ (t1 _ _ hho)))), _, _, rfl, rfl, l3, _, _, rfl, rfl, upd_same, by omega, by omega, ?_, fun l4 n4 => ?_⟩⟩
  · show 1 * ((15 : Int) - ((hs.map V.int).length : Int)).toNat ≤ sizeLine
    rw [Nat.one_mul]
    exact small (by omega)
  have t3 := same_new n3 (.lst [.int 0])
  have t4 := same_new n4 (.lst (List.replicate ((15 : Int) - ((hs.map V.int).length : Int)).toNat [V.int 0]).flatten)
  have sA := (((s1.trans t1).trans t2).trans t3).trans t4
  refine ⟨l2, l4, _, _, rfl, rfl, t4 _ _ (t3 _ _ upd_same), upd_same, ?_, fun l5 n5 => ?_⟩
  · rw [len_rep, List.length_append]
    exact small (by show 1 + (hs.map V.int).length + ((15 : Int) - ((hs.map V.int).length : Int)).toNat * 1 ≤ 1000; omega)
  obtain ⟨row0, er, h16, hb⟩ : ∃ row0 : List Int, ([V.int ((hs.map V.int).length : Int)] ++ hs.map V.int) ++ (List.replicate ((15 : Int) - ((hs.map V.int).length : Int)).toNat [V.int 0]).flatten = row0.map V.int ∧ row0.length = 16 ∧ ∀ x ∈ row0, 0 ≤ x ∧ x ≤ 96 := by
    refine ⟨([(hs.length : Int)] ++ hs) ++ List.replicate (15 - hs.length) 0, ?_, by simp; omega, fun x hx => ?_⟩
    · rw [List.length_map, show ((15 : Int) - (hs.length : Int)).toNat = 15 - hs.length by omega, List.map_append, List.map_append, List.map_replicate, List.flatten_replicate_singleton]
      rfl
    · rcases List.mem_append.mp hx with z | z
      · rcases List.mem_append.mp z with z | z
        · rw [List.mem_singleton.mp z]; omega
        · have := inn x z; omega
      · rw [List.eq_of_mem_replicate z]; omega
  rw [er]
  have t5 := same_new n5 (.lst (row0.map V.int))
  have sB := sA.trans t5
  have nl5 : H l5 = none := sA.free n5
  have hh5 := upd_same (H := upd (upd (upd (upd H1 l1 (.lst [.int ((hs.map V.int).length : Int)])) l2 (.lst ([V.int ((hs.map V.int).length : Int)] ++ hs.map V.int))) l3 (.lst [.int 0])) l4 (.lst (List.replicate ((15 : Int) - ((hs.map V.int).length : Int)).toNat [V.int 0]).flatten)) (a := l5) (o := .lst (row0.map V.int))
  have hho5 := t5 _ _ (t4 _ _ (t3 _ _ (t2 _ _ (t1 _ _ hho))))
  generalize upd (upd (upd (upd (upd H1 l1 (.lst [.int ((hs.map V.int).length : Int)])) l2 (.lst ([V.int ((hs.map V.int).length : Int)] ++ hs.map V.int))) l3 (.lst [.int 0])) l4 (.lst (List.replicate ((15 : Int) - ((hs.map V.int).length : Int)).toNat [V.int 0]).flatten)) l5 (.lst (row0.map V.int)) = H5 at sB hh5 hho5 ⊢
  clear t1 t2 t3 t4 t5 sA er n1 n2 n3 n4 n5
  refine ⟨_, rfl, sc, ns, 3, rfl, sB.seq hS, by decide, ?_⟩
  generalize cell ns 3 = c
  refine ⟨_, rfl, _, _, rfl, rfl, ⟨by decide, by decide⟩, _, _, rfl, rfl, (by show (0 : Int) < 16; decide), ?_⟩
  generalize hT : tSeq (tAsg (tOp _ (tOp _ (tVar 4) _) _) (gName 6)) _ = TL
  have tail : ∀ x : Int, 0 ≤ x → x < 16 → TL { nx := fun _ H' => Q .non H', rt := Q } [some (.ref sc), some (.int m), some (.ref ho), some (.ref l5), some (.int c), some (.int x), none, none] H5 := by
    intro x hx0 hx1
    rw [← hT]
    obtain ⟨k, y, ek, hk, ey, y0, y1⟩ := at_row h16 hb x (by omega) hx1
    obtain ⟨k2, y2, ek2, hk2, ey2, y20, y21⟩ := at_row h16 hb (x - 1) (by omega) (by omega)
    refine ⟨_, rfl, _, _, rfl, rfl, ⟨by decide, by decide⟩, _, _, rfl, rfl, ⟨by decide, by decide, by decide⟩, _, _, rfl, rfl, (by show (0 : Int) < 10 ^ (9 : Int).toNat; decide), ?_⟩
    have f0 := Int.emod_nonneg (c / 4096) (show (10 : Int) ^ (9 : Int).toNat ≠ 0 by decide)
    have f1 := Int.emod_lt_of_pos (c / 4096) (show (0 : Int) < (10 : Int) ^ (9 : Int).toNat by decide)
    dsimp (config := { proj := false, iota := false, eta := false, zeta := false }) only
    generalize c / 4096 % (10 : Int) ^ (9 : Int).toNat = fa at f0 f1 ⊢
    have f1 : fa < 1000000000 := f1
    refine ⟨_, rfl, _, rfl, l5, _, _, _, rfl, rfl, SqL.of hh5, ey, _, rfl, _, rfl, l5, _, _, _, rfl, rfl, SqL.of hh5, ey, _, _, rfl, rfl, _, rfl, _, rfl, l5, _, _, _, rfl, rfl, SqL.of hh5, ey, _, _, rfl, rfl, _, _, rfl, _, rfl, _, rfl, _, rfl, _, rfl, _, _, rfl, rfl, l5, _, _, _, rfl, rfl, SqL.of hh5, ey2, (by show 8 ≤ sizeLine; decide), fun lw nw => ?_⟩
    obtain ⟨z, ez, z0, z1⟩ := word_at y0 y1 y20 y21 f0 f1 hm2 (c % 8) (Int.emod_nonneg _ (by decide)) (Int.emod_lt_of_pos _ (by decide))
    have t6 := same_new nw (.lst [V.int y, .int (y + 1), .int (if y - 1 > 0 then y - 1 else 0), .int 0, .int 16, .int (m : Int), .int fa, .int y2])
    refine ⟨_, rfl, _, rfl, _, _, rfl, rfl, (by show (0 : Int) < 8; decide), lw, _, _, .int z, rfl, rfl, SqL.of upd_same, ez, _, rfl, _, rfl, l5, _, _, k, rfl, rfl, t6 _ _ hh5, ek, ?_⟩
    rw [← List.map_set]
    have hb' : ∀ x ∈ row0, 0 ≤ x ∧ x ≤ 999999999 := fun x hx => by have := hb x hx; omega
    have gA := good_set h16 hb' k z0 z1
    have sC := same_upd nl5 (sB.trans t6) (.lst ((row0.set k z).map V.int))
    refine ⟨_, rfl, _, _, rfl, rfl, (by show (0 : Int) < 16; decide), rfl, _, rfl, ite2 (fun c1 => ?_) (fun c1 => ?_)⟩
    · refine ⟨_, rfl, _, _, rfl, rfl, ⟨by decide, by decide⟩, _, _, rfl, rfl, (by show (0 : Int) < 100; decide), _, rfl, _, rfl, _, _, rfl, rfl, l5, _, _, k2, rfl, rfl, upd_same, by rw [List.length_map, List.length_set, ← List.length_map (f := V.int)]; exact ek2, ?_⟩
      rw [← List.map_set]
      have w0 := Int.emod_nonneg (c / 16) (show (100 : Int) ≠ 0 by decide)
      have w1 := Int.emod_lt_of_pos (c / 16) (show (0 : Int) < 100 by decide)
      exact ⟨_, rfl, q l5 _ _ (same_upd nl5 sC _) nl5 upd_same (good_set gA.1 gA.2 k2 w0 (by omega))⟩
    · exact ⟨_, rfl, q l5 _ _ sC nl5 upd_same gA⟩
  refine ⟨_, rfl, _, _, rfl, rfl, ⟨by decide, by decide⟩, _, _, rfl, rfl, (by show (0 : Int) < 2; decide), rfl, _, rfl, ite2 (fun c1 => ?_) (fun c1 => ?_)⟩
  · refine ⟨_, rfl, _, _, rfl, rfl, ⟨by decide, by decide⟩, _, rfl, ho, _, rfl, .inl (SqL.of hho5), _, _, rfl, rfl, _, _, rfl, rfl, (by show (0 : Int) < ((hs.map V.int).length : Int) + 1; omega), ?_⟩
    have w0 := Int.emod_nonneg (c / 256) (show ((hs.map V.int).length : Int) + 1 ≠ 0 by omega)
    have w1 := Int.emod_lt_of_pos (c / 256) (show (0 : Int) < ((hs.map V.int).length : Int) + 1 by omega)
    exact tail _ w0 (by omega)
  · exact tail _ (Int.emod_nonneg _ (by decide)) (Int.emod_lt_of_pos _ (by decide))
end
end K7
end
section
set_option Elab.async false
set_option linter.all false
set_option maxRecDepth 100000
set_option maxHeartbeats 4000000
namespace K7
open PySem L2 BK
section
variable {P : Program} {w : World} {K : PySem.W.Frag} {mg : Str → Option Value} {base : Heap} {f : Addr} {fd : FuncData} {a : Ad}
theorem getD_map (R : List (List Int)) : (List.range R.length).map (fun i => R.getD i []) = R := by
  apply List.ext_getElem?
  intro i
  rw [List.getElem?_map]
  by_cases hi : i < R.length
  · rw [List.getElem?_range hi]; simp [List.getD_eq_getElem?_getD, hi]
  · rw [List.getElem?_eq_none (by simpa using hi), List.getElem?_eq_none (by simpa using hi)]; rfl
/-- all rows of a disk, each a new list -/
theorem lc_rows {C : Addr} {fj : List (Str × Nat)} {te : TE} {σ : St} {H : Hp} {Q : Addr → Hp → Prop} {d kr : Addr} {S : DS} (D : DkAt C H d kr S)
    (hs : ∀ (i : Nat) (H1 : Hp) (Qf : VK) (hi : i < S.R.length), Same H H1 → (∀ p H3, H1 p = none → Same H1 H3 → H3 p = some (.lst ((S.R[i]).map V.int)) → Qf (.ref p) H3) → te (some (.int (0 + (i : Int))) :: frees σ fj) H1 Qf)
    (hd : ∀ lr qs H', H lr = none → Same H H' → H' lr = some (.lst (qs.map V.ref)) → RowsAt H' qs S.R → (∀ r ∈ qs, H r = none) → Q lr H') :
    ∀ acc, H acc = none → ∃ W : Nat → Nat → List V → Hp → Prop, (∃ m, W 0 m [] (upd H acc (.lst []))) ∧ ∀ i m ys H, W i m ys H →
      ((Itr 0 S.R.length).stop i H ∧ Q acc H) ∨ ((Itr 0 S.R.length).go i H ∧ ∀ x H', (Itr 0 S.R.length).yld i H x H' → tYes (some x :: frees σ fj) H' fun b H2 =>
        if b = true then te (some x :: frees σ fj) H2 fun v H3 => H3 acc = some (.lst ys) ∧ ys.length < sizeLine ∧ ∃ m', m' < m ∧ W (i + 1) m' (ys ++ [v]) (upd H3 acc (.lst (ys ++ [v])))
        else ∃ m', m' < m ∧ W (i + 1) m' ys H2) := by
  have hhi : S.R.length ≤ 96 := D.hi
  refine lc_vals (n := S.R.length) (by omega) (fun acc H' i v => ∃ r, v = .ref r ∧ r ≠ acc ∧ H' r = some (.lst ((S.R.getD i []).map V.int)) ∧ H r = none) ?_ ?_ ?_
  · rintro acc H H' i v k ⟨r, e1, e2, e3, e4⟩
    exact ⟨r, e1, e2, k _ _ e2 e3, e4⟩
  · intro acc i H1 Qf hi h0 s1 ha k
    refine hs i H1 Qf hi s1 fun p H3 np s3 hp => k _ _ s3 ⟨p, rfl, fun z => ha (by rw [← z]; exact np), ?_, s1.free np⟩
    rw [hp, List.getD_eq_getElem?_getD, List.getElem?_eq_getElem hi]; rfl
  · intro acc vs H1 h0 s1 hacc hl hg
    obtain ⟨rs, rfl, nm, hR⟩ := rows_of hl (fun i => S.R.getD i []) fun i v hv => by
      obtain ⟨r, z1, z2, z3, _⟩ := hg i v hv
      exact ⟨r, z1, z2, z3⟩
    rw [getD_map] at hR
    refine hd acc rs H1 h0 s1 hacc hR fun r hr => ?_
    obtain ⟨i, hi, e⟩ := List.mem_iff_getElem.mp hr
    obtain ⟨r', z1, _, _, z4⟩ := hg i (.ref r) (by rw [List.getElem?_map, List.getElem?_eq_getElem hi, e]; rfl)
    cases z1
    exact z4
theorem putR_good {W : List (Nat × List Int)} (g : ∀ x ∈ W, GoodRow x.2) : ∀ {R : List (List Int)}, (∀ row ∈ R, GoodRow row) → ∀ row ∈ putR R W, GoodRow row := by
  induction W with
  | nil => intro R h; exact h
  | cons x r ih =>
    intro R h
    refine ih (fun y hy => g y (List.mem_cons_of_mem _ hy)) (R := R.set x.1 x.2) fun row hr => ?_
    rcases List.mem_or_eq_of_mem_set hr with z | z
    · exact h row z
    · rw [z]; exact g x (List.mem_cons_self ..)
/-- a disk that isn't to be stopped comes back -/
theorem back_free {H : Hp} {Q : VK} {E : XK} {d kr : Addr} {S : DS} (D : DkAt a.cDisk H d kr S) (hl : S.l = none)
    (hb : rightB S.R.length (hd1 S) = false → ∀ H', Same H H' → E (.ref a.cBadLog) none H')
    (hk : rightB S.R.length (hd1 S) = true → ∀ H' S', Chg [d, kr] H H' → DkAt a.cDisk H' d kr S' → S'.R = (putR S.R (backL S)).set 1 zeros → S'.n = S.n + ((cnt1 S : Int) + 1) * (if decide ((cnt1 S : Int) > 0) = true then 1 else 0) → Q (.int (cnt1 S)) H') : spBack K a [.ref d] H Q E := by
  have hlo : 24 ≤ S.R.length := D.lo
  refine ⟨d, kr, S, rfl, D, hb, fun ok h0 H' s' => ?_, fun ok h0 H' c' D' _ => ?_⟩
  · have hz : hd1 S = zeros := by
      obtain ⟨r1, r2, r3, r4⟩ := right_is ok
      have g : GoodRow (hd1 S) := D.good _ (by unfold hd1; rw [List.getD_eq_getElem?_getD, List.getElem?_eq_getElem (by omega)]; exact List.getElem_mem _)
      have h0' : cntOf (hd1 S) = 0 := by
        have : 0 ≤ cntOf (hd1 S) := by
          have h16 := g.1
          unfold cntOf
          rw [List.getD_eq_getElem?_getD, List.getElem?_eq_getElem (by omega)]
          exact (g.2 _ (List.getElem_mem _)).1
        unfold cnt1 at h0
        omega
      unfold restOf at r4
      rw [h0'] at r4
      generalize hd1 S = row at g h0' r4
      unfold cntOf at h0'
      obtain ⟨h16, _⟩ := g
      refine List.eq_replicate_iff.mpr ⟨h16, fun x hx => ?_⟩
      cases row with
      | nil => cases hx
      | cons y r =>
        rcases List.mem_cons.mp hx with z | z
        · rw [z]; exact h0'
        · exact r4 x z
    have e1 : (putR S.R (backL S)).set 1 zeros = S.R := by
      have : backL S = [] := by unfold backL; rw [h0]; rfl
      rw [this]
      show S.R.set 1 zeros = S.R
      rw [← hz]
      unfold hd1
      rw [List.getD_eq_getElem?_getD, List.getElem?_eq_getElem (by omega)]
      exact List.set_getElem_self _
    have := hk ok H' S (Chg.of s') (D.same s') e1.symm (by rw [h0]; rw [if_neg (by decide)]; omega)
    rw [h0] at this
    exact this
  · rw [runW_free hl] at D' ⊢
    rw [if_neg Bool.false_ne_true]
    refine hk ok H' _ c' D' ?_ ?_
    · show putR S.R (backL S ++ [(1, zeros)]) = _
      rw [putR_app]; rfl
    · rw [if_pos (decide_eq_true (by omega)), List.length_append]
      show S.n + (((backL S).length + 1 : Nat) : Int) = _
      rw [show (backL S).length = cnt1 S by unfold backL; rw [List.length_map, List.length_range]]
      omega
def spComesBack (K : PySem.W.Frag) (a : Ad) : Sp := fun vs H Q _ => ∃ (d kr hp : Addr) (S : DS) (row : List Int), vs = [.ref d, .ref hp] ∧ DkAt a.cDisk H d kr S ∧ S.l = none ∧ H hp = some (.lst (row.map V.int)) ∧ GoodRow row ∧ ∀ H', Q (.bl true) H'
theorem ok__law_comes_back (F : Fun K "_law_comes_back" "_law_comes_back" s__law_comes_back f fd) (T : Txt K mg a) (M_Disk_write : Mf P w K mg base (CXE P w) 5 a.f_write ["self", "block", "row"] (spWrite K a)) (M_Disk_writes : Mf P w K mg base (CXE P w) 1 a.f_writes ["self"] (spWrites K a)) (D_come_back : Df P w K mg base (CXE P w) 7 "come_back" ["disk"] (spBack K a)) (D__law_is_right : Df P w K mg base (CXE P w) 1 "_law_is_right" ["_law_head_here", "_law_many"] (spIsRight K a)) (D__law_row : Df P w K mg base CX0 1 "_law_row" ["_law_cell"] (spRowL K a)) (M_Disk_read : Mf P w K mg base (CXE P w) 3 a.f_read ["self", "block"] (spRead K a)) (D__law_word : Df P w K mg base CX0 1 "_law_word" ["_law_e"] (spWordL K a)) (M_Disk_blocks : Mf P w K mg base (CXE P w) 1 a.f_blocks ["self"] (spBlocks K a)) : FnOk P w K mg base (CXE P w) 8 f fd ["_law_disk", "_law_head_here"] (spComesBack K a) := by
  obtain ⟨_, G_write, b_write⟩ := M_Disk_write
  obtain ⟨_, G_writes, b_writes⟩ := M_Disk_writes
  obtain ⟨_, _, Gcome_back, bcome_back, kcome_back, mcome_back⟩ := D_come_back
  obtain ⟨_, _, Gl_is_right, bl_is_right, kl_is_right, ml_is_right⟩ := D__law_is_right
  obtain ⟨_, _, Gl_row, bl_row, kl_row, ml_row⟩ := D__law_row
  obtain ⟨_, G_read, b_read⟩ := M_Disk_read
  obtain ⟨_, _, Gl_word, bl_word, kl_word, ml_word⟩ := D__law_word
  obtain ⟨_, G_blocks, b_blocks⟩ := M_Disk_blocks
  have nd := sc__law_comes_back.nd
  refine F.okE sc__law_comes_back (fun vs H Q E h => ?_) (fun cdv A outer s H vs Q E hr hA h => ?_)
  · obtain ⟨d, kr, hp, S, row, rfl, _⟩ := h
    rfl
  obtain ⟨d, kr, hp, S, row, rfl, D, hl, hhp, g, q⟩ := h
  refine ⟨_, (pss_cons (ps_for PassesOwn.leaving rfl (pi_range1 rfl T.range (pa_cons pe_int pa_nil)) (pg_name (i := 2) nd rfl (by first | exact Or.inl rfl | exact Or.inr rfl)) (pss_one (ps_expr (pe_meth (pv 0) T.clDisk T.m_write G_write (hr.mono (by decide)) b_write .nil (passes_fn (fun _ _ _ h => h)) (pa_cons (pe_op op_add pe_int (pv 2)) (pa_cons (pe_call Gl_row (hr.mono (by decide)) rfl ml_row kl_row bl_row .nil pass0 (pa_cons (pe_op op_add (pe_op op_add (pe_ix ix_list (pv 1) pe_int (fun _ _ => rfl)) (pe_op op_mul pe_int (pv 2))) pe_int) pa_nil)) pa_nil)) (hcm := (.inr hA))))))
    (pss_cons (ps_expr (pe_meth (pv 0) T.clDisk T.m_write G_write (hr.mono (by decide)) b_write .nil (passes_fn (fun _ _ _ h => h)) (pa_cons pe_int (pa_cons (pv 1) pa_nil)) (hcm := (.inr hA))))
    (pss_cons (ps_setLc (j := 3) (cl := [("_law_disk", s.heap.objs.size + 1)]) (fj := [("_law_disk", 0)]) (by exact LcOk.of ["_law_disk"] rfl (by decide +kernel) rfl (by decide +kernel) rfl (fun p h => (by rw [List.mem_singleton.mp h]; rfl)) rfl (by decide +kernel) (fun p h => (by rw [List.mem_singleton.mp h]; exact ⟨rfl, rfl, .inl rfl⟩)) (by decide +kernel)) rfl nd rfl (by first | exact Or.inl rfl | exact Or.inr rfl) (pi_range1 rfl T.range (pa_cons (pe_meth0 (pv 0) T.clDisk T.m_blocks G_blocks (hr.mono (by decide)) b_blocks .nil (passes_fn (fun _ _ _ h => h)) (hcm := (.inr hA))) pa_nil)) (fun _ _ _ => pf_nil) (fun _ _ _ => (pe_callTy (call_listK (K := K) rfl) rfl T.list bt_list (pa_cons (pe_meth (pv 1) T.clDisk T.m_read G_read (hr.mono (by decide)) b_read .nil passesE0 (pa_cons (pv 0) pa_nil) (hcm := (.inr hA))) pa_nil))))
    (pss_cons (ps_set (i := 4) nd rfl (by first | exact Or.inl rfl | exact Or.inr rfl) (pe_meth0 (pv 0) T.clDisk T.m_writes G_writes (hr.mono (by decide)) b_writes .nil (passes_fn (fun _ _ _ h => h)) (hcm := (.inr hA))))
    (pss_cons (ps_set (i := 5) nd rfl (by first | exact Or.inl rfl | exact Or.inr rfl) pe_str)
    (pss_cons (ps_try (i := 7) ["_law_found"] rfl rfl rfl rfl nd rfl rfl rfl T.mKeepError T.kKeepError (fun Ex pn fx xe hfx O => (pss_one (ps_set (i := 6) nd rfl (by first | exact Or.inl rfl | exact Or.inr rfl) (pe_call Gcome_back (hr.mono (by decide)) rfl mcome_back kcome_back bcome_back .nil (passes_out O rfl rfl) (pa_cons (pv 0) pa_nil) (hcm := (.inr hA))) (hfx := fun p h z => hfx p h (by rw [z]; simp))))) (fun e c pn => (pss_one (ps_set (i := 5) nd rfl (by first | exact Or.inl rfl | exact Or.inr rfl) (pe_call Gl_word (Room.mark (hr.mono (by decide))) rfl ml_word kl_word bl_word .nil pass0 (pa_cons (pv 7) pa_nil))))))
    (pss_cons (ps_setLc (j := 8) (cl := [("_law_disk", s.heap.objs.size + 1)]) (fj := [("_law_disk", 0)]) (by exact LcOk.of ["_law_disk"] rfl (by decide +kernel) rfl (by decide +kernel) rfl (fun p h => (by rw [List.mem_singleton.mp h]; rfl)) rfl (by decide +kernel) (fun p h => (by rw [List.mem_singleton.mp h]; exact ⟨rfl, rfl, .inl rfl⟩)) (by decide +kernel)) rfl nd rfl (by first | exact Or.inl rfl | exact Or.inr rfl) (pi_range1 rfl T.range (pa_cons (pe_meth0 (pv 0) T.clDisk T.m_blocks G_blocks (hr.mono (by decide)) b_blocks .nil (passes_fn (fun _ _ _ h => h)) (hcm := (.inr hA))) pa_nil)) (fun _ _ _ => pf_nil) (fun _ _ _ => (pe_callTy (call_listK (K := K) rfl) rfl T.list bt_list (pa_cons (pe_meth (pv 1) T.clDisk T.m_read G_read (hr.mono (by decide)) b_read .nil passesE0 (pa_cons (pv 0) pa_nil) (hcm := (.inr hA))) pa_nil))))
    (pss_cons (ps_if (pt_not (pt_val (pe_call Gl_is_right (hr.mono (by decide)) rfl ml_is_right kl_is_right bl_is_right .nil (passes_fn (fun _ _ _ h => h)) (pa_cons (pv 1) (pa_cons (pe_meth0 (pv 0) T.clDisk T.m_blocks G_blocks (hr.mono (by decide)) b_blocks .nil (passes_fn (fun _ _ _ h => h)) (hcm := (.inr hA))) pa_nil)) (hcm := (.inr hA))))) (pss_one (ps_ret (pe_and (pe_cmpR op_eq (pv 5) pe_str (nomark _)) (pe_and (pe_cmpR op_eq (pe_meth0 (pv 0) T.clDisk T.m_writes G_writes (hr.mono (by decide)) b_writes .nil (passes_fn (fun _ _ _ h => h)) (hcm := (.inr hA))) (pv 4) (nomark _)) (pe_one (pe_cmpR (op_eqD hr.units) (pv 8) (pv 3) (nomark _))))))) pss_nil)
    (pss_cons (ps_for PassesOwn.leaving rfl (pi_range1 rfl T.range (pa_cons (pe_ix ix_list (pv 1) pe_int (fun _ _ => rfl)) pa_nil)) (pg_name (i := 2) nd rfl (by first | exact Or.inl rfl | exact Or.inr rfl)) (pss_one (ps_asg (pe_ix ix_list (pv 3) (pe_op op_add pe_int (pv 2)) (fun _ _ => rfl)) (pg_sub (pv 3) (pe_ix ix_list (pv 1) (pe_op op_add pe_int (pv 2)) (fun _ _ => rfl)) set_list))))
    (pss_cons (ps_asg (pe_op op_rep (pe_lst (pa_cons pe_int pa_nil)) pe_int) (pg_sub (pv 3) pe_int set_list))
    (pss_cons (ps_if (PW.pt (pw_or (pt_cmpR op_ne (pv 5) pe_str (nomark _)) (pw_or (pt_not (pt_val (pe_callB (call_isinst (T := "int")) rfl T.isinstance bt_isinstance (pa_cons (pv 6) (pa_cons (pe_bltn (v := .ty "int") rfl T.int bt_int rfl) pa_nil))))) (pw_or (pt_val (pe_callB (call_isinst (T := "bool")) rfl T.isinstance bt_isinstance (pa_cons (pv 6) (pa_cons (pe_bltn (v := .ty "bool") rfl T.bool bt_bool rfl) pa_nil)))) (pw_or1 (pt_cmpR op_ne (pv 6) (pe_ix ix_list (pv 1) pe_int (fun _ _ => rfl)) (nomark _))))))) (pss_one (ps_ret pe_bl)) pss_nil)
    (pss_cons (ps_set (i := 9) nd rfl (by first | exact Or.inl rfl | exact Or.inr rfl) (pe_op op_mul (pe_op op_add (pe_ix ix_list (pv 1) pe_int (fun _ _ => rfl)) pe_int) (pe_callTy call_int1 rfl T.int bt_int (pa_cons (pe_cmpR op_gt (pe_ix ix_list (pv 1) pe_int (fun _ _ => rfl)) pe_int (nomark _)) pa_nil))))
    (pss_one (ps_ret (pe_and (pe_cmpR op_eq (pe_meth0 (pv 0) T.clDisk T.m_writes G_writes (hr.mono (by decide)) b_writes .nil (passes_fn (fun _ _ _ h => h)) (hcm := (.inr hA))) (pe_op op_add (pv 4) (pv 9)) (nomark _)) (pe_one (pe_cmpR (op_eqD hr.units) (pv 8) (pv 3) (nomark _)))))))))))))))))), ?_⟩
  have hlo : 24 ≤ S.R.length := D.lo
  have hhi : S.R.length ≤ 96 := D.hi
  have h16 := g.1
  have h0 : 0 ≤ cntOf row := by
    unfold cntOf
    rw [List.getD_eq_getElem?_getD, List.getElem?_eq_getElem (by omega)]
    exact (g.2 _ (List.getElem_mem _)).1
  have at0 : atI (row.map V.int) 0 = some (.int (cntOf row)) := row_at (k := 0) (by omega)
  have hpd : hp ∉ [d, kr] := by
    obtain ⟨_, _, z1, z2, _⟩ := D.ex
    simp only [List.mem_cons, List.not_mem_nil, or_false, not_or]
    exact ⟨ne_of hhp z1 (fun z => by cases z), ne_of hhp z2 (fun z => ref_ne_row h16 z.symm)⟩
  refine ⟨15, rfl, by decide, by decide, ?_⟩
  refine for_range (n := 15) (fun i σ' H' => ∃ (S' : DS) (o2 : Option V), σ' = [some (.ref d), some (.ref hp), o2, none, none, none, none, none, none, none] ∧ Chg [d, kr] H H' ∧ DkAt a.cDisk H' d kr S' ∧ S'.R.length = S.R.length ∧ S'.l = none)
    ⟨S, none, rfl, Chg.of (Same.refl _), D, rfl, hl⟩ ?_ ?_
  · rintro i σ' H1 hi ⟨S1, o2, rfl, c1, D1, el1, hl1⟩
    obtain ⟨dy, d1⟩ := D1.at
    refine ⟨_, rfl, d, dy, _, rfl, d1, rfl, _, rfl, _, _, rfl, rfl, _, rfl, hp, _, _, _, rfl, rfl, SqL.of (c1 _ _ hhp hpd), at0, _, rfl, _, _, rfl, rfl, .inl ⟨by decide, by decide⟩, _, _, rfl, rfl, _, _, rfl, rfl, _, rfl, fun p H2 n2 s2 hp2 => ?_⟩
    have hns : ¬ S1.stop = true := by unfold DS.stop; rw [hl1]; decide
    dsimp only
    rw [show (2 : Int) + (0 + (i : Int)) = ((2 + i : Nat) : Int) by omega]
    refine write_one (b := 2 + i) (D1.same s2) (by omega) hp2 (rowL_good _) (fun z => absurd z hns) (fun _ H3 c3 D3 _ => ?_)
    exact ⟨_, _, rfl, (c1.trans (Chg.of s2)).trans c3, D3, by rw [put_len]; exact el1, by show S1.l.map _ = none; rw [hl1]; rfl⟩
  rintro σ' H1 ⟨S1, o2, rfl, c1, D1, el1, hl1⟩
  obtain ⟨dy, d1⟩ := D1.at
  have hns : ¬ S1.stop = true := by unfold DS.stop; rw [hl1]; decide
  refine ⟨_, rfl, d, dy, _, rfl, d1, rfl, _, rfl, ?_⟩
  refine write_one (b := 1) D1 (by omega) (c1 _ _ hhp hpd) g (fun z => absurd z hns) (fun _ H2 c2 D2 _ => ?_)
  have el2 : (S1.put (1, row)).R.length = S.R.length := by rw [put_len]; exact el1
  have e1 : (S1.put (1, row)).R[1]? = some row := by
    show (S1.R.set 1 row)[1]? = _
    rw [List.getElem?_set_self (by omega)]
  have hl2 : (S1.put (1, row)).l = none := by show S1.l.map _ = none; rw [hl1]; rfl
  have hhp2 := c2 _ _ (c1 _ _ hhp hpd) hpd
  generalize S1.put (1, row) = S2 at D2 el2 e1 hl2
  have ehd : hd1 S2 = row := by unfold hd1; rw [List.getD_eq_getElem?_getD, e1]; rfl
  clear D1 c2 c1 D d1 hns
  obtain ⟨dy, d2⟩ := D2.at
  refine ⟨_, rfl, d, dy, _, rfl, d2, rfl, d, kr, S2.R, S2.n, S2.l, rfl, D2, _, rfl, by omega, by omega, ?_⟩
  rw [show ((S2.R.length : Int)).toNat = S2.R.length by omega]
  refine lc_rows D2 (fun i H1 Qf hi s1 k => ?_) fun lr qs H3 nlr s3 hlr hRows new3 => ?_
  · obtain ⟨x1, z1⟩ := (D2.same s1).at
    refine ⟨_, rfl, d, x1, _, rfl, z1, rfl, _, rfl, d, kr, S2.R, S2.n, S2.l, _, rfl, D2.same s1, .int _, .inl ⟨i, S2.R[i], by rw [Int.zero_add], List.getElem?_eq_getElem hi, fun u H4 nu s4 hu => ⟨u, _, rfl, .inl (SqL.of hu), fun p np => ?_⟩⟩⟩
    exact k p _ (s4.free np) (s4.trans (same_new np _)) upd_same
  have D3 := D2.same s3
  obtain ⟨dz, d3⟩ := D3.at
  refine ⟨_, rfl, d, dz, _, rfl, d3, rfl, d, kr, S2.R, S2.n, S2.l, rfl, D3, ?_⟩
  refine ⟨_, rfl, ?_⟩
  delta tNil
  refine back_free D3 hl2 (fun no H4 s4 => ⟨⟨_, rfl, T.sBadLog_KeepError⟩, fun e ne => ?_⟩) (fun ok H4 S4 c4 D4 eR eN => ?_)
  · rw [ehd] at no
    refine ⟨_, rfl, e, a.cBadLog, 3, rfl, upd_same, is_log T, fun H5 s5 => ?_⟩
    have s35 := (s4.trans (same_new ne (.exc (.ref a.cBadLog)))).trans s5
    have D5 := D3.same s35
    obtain ⟨dv, dv1⟩ := D5.at
    refine ⟨_, rfl, d, dv, _, rfl, dv1, rfl, d, kr, _, _, _, rfl, D5, _, rfl, by omega, by omega, ?_⟩
    rw [show ((S2.R.length : Int)).toNat = S2.R.length by omega]
    refine lc_rows D5 (fun i H1 Qf hi s1 k => ?_) fun l6 q6 H6 n6 s6 h6 hR6 _ => ?_
    · obtain ⟨x1, z1⟩ := (D5.same s1).at
      refine ⟨_, rfl, d, x1, _, rfl, z1, rfl, _, rfl, d, kr, S2.R, S2.n, S2.l, _, rfl, D5.same s1, .int _, .inl ⟨i, S2.R[i], by rw [Int.zero_add], List.getElem?_eq_getElem hi, fun u H4 nu s4 hu => ⟨u, _, rfl, .inl (SqL.of hu), fun p np => ?_⟩⟩⟩
      exact k p _ (s4.free np) (s4.trans (same_new np _)) upd_same
    have D6 := D5.same s6
    obtain ⟨du, du1⟩ := D6.at
    refine ⟨_, rfl, _, rfl, d, du, _, rfl, du1, rfl, d, kr, _, _, _, rfl, D6, hp, row, S2.R.length, rfl, s6 _ _ (s35 _ _ (s3 _ _ hhp2)), g, fun H7 s7 => ⟨_, rfl, iteT' (by rw [no]; rfl) ?_⟩⟩
    have D7 := D6.same s7
    obtain ⟨dw, dw1⟩ := D7.at
    refine ⟨_, rfl, rfl, _, rfl, iteT' (by decide +kernel) ⟨_, rfl, d, dw, _, rfl, dw1, rfl, d, kr, _, _, _, rfl, D7, _, rfl, rfl, _, rfl, iteT' (by simp) ⟨_, rfl, _, rfl, ?_⟩⟩⟩
    refine ⟨.list (S2.R.map fun row => PyData.list (row.map PyData.int)), .list (S2.R.map fun row => PyData.list (row.map PyData.int)), .lst (SqL.of (s7 _ _ h6)) (dvs_rows (hR6.chg (S := []) (Chg.of s7) (by simp))), .lst (SqL.of (s7 _ _ (s6 _ _ (s35 _ _ hlr)))) (dvs_rows (hRows.chg (S := []) (Chg.of ((s35.trans s6).trans s7)) (by simp))), shaped_rows _, shaped_rows _, ?_⟩
    rw [eqv_same (shaped_rows _)]
    exact q _
  · rw [ehd] at ok
    have el4 : S4.R.length = S.R.length := by rw [eR, List.length_set, putR_len]; exact el2
    have hhp4 := c4 _ _ (s3 _ _ hhp2) hpd
    have D5 := D4
    obtain ⟨dv, dv1⟩ := D5.at
    refine ⟨_, rfl, d, dv, _, rfl, dv1, rfl, d, kr, _, _, _, rfl, D5, _, rfl, by omega, by omega, ?_⟩
    rw [show ((S4.R.length : Int)).toNat = S4.R.length by omega]
    refine lc_rows D5 (fun i H1 Qf hi s1 k => ?_) fun l6 q6 H6 n6 s6 h6 hR6 _ => ?_
    · obtain ⟨x1, z1⟩ := (D5.same s1).at
      refine ⟨_, rfl, d, x1, _, rfl, z1, rfl, _, rfl, d, kr, S4.R, S4.n, S4.l, _, rfl, D5.same s1, .int _, .inl ⟨i, S4.R[i], by rw [Int.zero_add], List.getElem?_eq_getElem hi, fun u H4 nu s4 hu => ⟨u, _, rfl, .inl (SqL.of hu), fun p np => ?_⟩⟩⟩
      exact k p _ (s4.free np) (s4.trans (same_new np _)) upd_same
    have D6 := D5.same s6
    obtain ⟨du, du1⟩ := D6.at
    refine ⟨_, rfl, _, rfl, d, du, _, rfl, du1, rfl, d, kr, _, _, _, rfl, D6, hp, row, S4.R.length, rfl, s6 _ _ hhp4, g, fun H7 s7 => ⟨_, rfl, iteF' (by rw [el4, ← el2, ok]; rfl) ?_⟩⟩
    obtain ⟨r1, r2, r3, r4⟩ := right_is ok
    have ecn : cntOf row = ((cnt1 S2 : Nat) : Int) := by unfold cnt1; rw [ehd]; omega
    generalize hcn : cnt1 S2 = cn at ecn eN
    have hcn15 : cn ≤ 15 := by omega
    have hh : ∀ i, i < cn → 17 ≤ row.getD (1 + i) 0 ∧ row.getD (1 + i) 0 ≤ (S2.R.length : Int) - 1 := fun i hi => by
      have hm : row.getD (1 + i) 0 ∈ homesOf row := by
        unfold homesOf
        refine List.mem_of_getElem? (i := i) ?_
        rw [show (cntOf row).toNat = cn by omega, List.getElem?_take_of_lt hi, List.getElem?_drop, List.getElem?_eq_getElem (by omega), List.getD_eq_getElem?_getD, List.getElem?_eq_getElem (by omega)]
        rfl
      have := List.all_eq_true.mp r3 _ hm
      have this' : (decide ((17 : Int) ≤ row.getD (1 + i) 0) && decide (row.getD (1 + i) 0 ≤ (S2.R.length : Int) - 1)) = true := this
      rw [Bool.and_eq_true, decide_eq_true_iff, decide_eq_true_iff] at this'
      exact this'
    have ebl : (backL S2).length = cn := by unfold backL; rw [List.length_map, List.length_range]; exact hcn
    have hbg : ∀ x ∈ backL S2, 17 ≤ x.1 ∧ GoodRow x.2 := fun x hx => by
      unfold backL at hx
      obtain ⟨i, hi, rfl⟩ := List.mem_map.mp hx
      have hi' := List.mem_range.mp hi
      rw [hcn] at hi'
      have := hh i hi'
      refine ⟨by show 17 ≤ ((hd1 S2).getD (1 + i) 0).toNat; rw [ehd]; omega, ?_⟩
      refine D2.good _ (List.mem_of_getElem? (i := 2 + i) ?_)
      show S2.R[2 + i]? = some (S2.R.getD (2 + i) [])
      rw [List.getD_eq_getElem?_getD, List.getElem?_eq_getElem (by omega)]; rfl
    have nlrd : lr ∉ [d, kr] := by
      obtain ⟨_, _, z1, z2, _⟩ := D2.ex
      simp only [List.mem_cons, List.not_mem_nil, or_false, not_or]
      exact ⟨Ne.symm (ne_of_none z1 nlr), Ne.symm (ne_of_none z2 nlr)⟩
    have newd : ∀ r ∈ qs, r ∉ [d, kr] := fun r hr => by
      obtain ⟨_, _, z1, z2, _⟩ := D2.ex
      simp only [List.mem_cons, List.not_mem_nil, or_false, not_or]
      exact ⟨Ne.symm (ne_of_none z1 (new3 r hr)), Ne.symm (ne_of_none z2 (new3 r hr))⟩
    have s67 := s6.trans s7
    have hlr7 := s67 _ _ (c4 _ _ hlr nlrd)
    have hR7 : RowsAt H7 qs S2.R := (hRows.chg c4 newd).chg (S := []) (Chg.of s67) (by simp)
    have hhp7 := s67 _ _ hhp4
    have D7 := D6.same s7
    have h67 := s7 _ _ h6
    have hR67 : RowsAt H7 q6 S4.R := hR6.chg (S := []) (Chg.of s7) (by simp)
    have offI : ∀ {r : Addr} {rw' : List Int}, H7 r = some (.lst (rw'.map V.int)) → rw'.length = 16 → r ∉ [lr] := fun h1 h2 => by simp only [List.mem_singleton]; exact ne_of h1 hlr7 (fun z => ref_ne_row h2 z.symm)
    have hpl : hp ∉ [lr] := offI hhp7 h16
    have l6l : l6 ∉ [lr] := by simp only [List.mem_singleton]; exact Ne.symm (ne_of_none (c4 _ _ hlr nlrd) n6)
    have D7c : ∀ {H'}, Chg [lr] H7 H' → DkAt a.cDisk H' d kr S4 := fun c => by
      obtain ⟨_, _, z1, z2, _⟩ := D7.ex
      exact D7.chg c (by simp only [List.mem_singleton]; exact ne_of z1 hlr7 (fun z => by cases z)) (by simp only [List.mem_singleton]; exact fun z => nlrd (by rw [z]; simp)) (fun r row h1 h2 => offI h1 h2.1)
    refine ⟨_, rfl, hp, _, _, _, rfl, rfl, SqL.of hhp7, at0, _, rfl, by omega, by omega, ?_⟩
    rw [show (cntOf row).toNat = cn by omega]
    refine for_range (n := cn) (fun i σ' H' => ∃ (o2 : Option V) (qs' : List Addr), σ' = [some (.ref d), some (.ref hp), o2, some (.ref lr), some (.int S2.n), some (.str ""), some (.int cn), none, some (.ref l6), none] ∧ Chg [lr] H7 H' ∧ H' lr = some (.lst (qs'.map V.ref)) ∧ RowsAt H' qs' (putR S2.R ((backL S2).take i)))
      ⟨_, qs, by rw [← hcn]; rfl, Chg.of (Same.refl _), hlr7, hR7⟩ ?_ ?_
    · rintro i σ' H8 hi ⟨o2', qs', rfl, c8, hlr8, hR8⟩
      have lq : qs'.length = S2.R.length := by rw [hR8.1, putR_len]
      have hg8 : ∀ row ∈ putR S2.R ((backL S2).take i), GoodRow row := putR_good (fun x hx => (hbg x (List.mem_of_mem_take hx)).2) D2.good
      have e2 : (putR S2.R ((backL S2).take i))[2 + i]? = some (S2.R.getD (2 + i) []) := by
        rw [putR_off fun x hx => by have := (hbg x (List.mem_of_mem_take hx)).1; omega, List.getD_eq_getElem?_getD, List.getElem?_eq_getElem (by omega)]; rfl
      have hq : qs'[2 + i]? = some (qs'[2 + i]'(by omega)) := List.getElem?_eq_getElem (by omega)
      have hrow := hR8.2 (2 + i) _ _ hq e2
      have ha : atI (qs'.map V.ref) (2 + (0 + (i : Int))) = some (.ref (qs'[2 + i]'(by omega))) := by
        rw [show (2 : Int) + (0 + (i : Int)) = ((2 + i : Nat) : Int) by omega]
        exact atI_nat (by rw [List.getElem?_map, hq]; rfl)
      have hb : atI (row.map V.int) (1 + (0 + (i : Int))) = some (.int (row.getD (1 + i) 0)) := by
        rw [show (1 : Int) + (0 + (i : Int)) = ((1 + i : Nat) : Int) by omega]
        exact row_at (by omega)
      obtain ⟨y1, y2⟩ := hh i hi
      obtain ⟨k, ek⟩ : ∃ k : Nat, row.getD (1 + i) 0 = (k : Int) := ⟨(row.getD (1 + i) 0).toNat, by omega⟩
      rw [ek] at hb y1 y2
      refine ⟨_, rfl, _, rfl, _, _, rfl, rfl, lr, _, _, _, rfl, rfl, SqL.of hlr8, ha, _, rfl, _, rfl, _, rfl, _, _, rfl, rfl, hp, _, _, _, rfl, rfl, SqL.of (c8 _ _ hhp7 hpl), hb, lr, _, _, k, rfl, rfl, hlr8, ?_, ?_⟩
      · rw [List.length_map, lq]; unfold ixN; rw [if_pos (by omega), if_pos (by omega), Int.toNat_natCast]
      rw [← List.map_set]
      have cL : Chg [lr] H8 (upd H8 lr (.lst ((qs'.set k (qs'[2 + i]'(by omega))).map V.ref))) := (Chg.of (Same.refl _)).upd (by simp) _
      have off8 : ∀ {r : Addr} {rw' : List Int}, H8 r = some (.lst (rw'.map V.int)) → rw'.length = 16 → r ∉ [lr] := fun h1 h2 => by simp only [List.mem_singleton]; exact ne_of h1 hlr8 (fun z => ref_ne_row h2 z.symm)
      refine ⟨_, _, rfl, c8.upd (by simp) _, upd_same, ?_⟩
      have hb2 : (backL S2)[i]? = some (k, S2.R.getD (2 + i) []) := by
        rw [List.getElem?_eq_getElem (by omega), back_get, ehd, ek, Int.toNat_natCast]
      rw [List.take_add_one, hb2, putR_app]
      have g2 : GoodRow (S2.R.getD (2 + i) []) := hg8 _ (List.mem_of_getElem? e2)
      refine RowsAt.set (hR8.chg cL fun r hr' => ?_) _ (cL _ _ hrow (off8 hrow g2.1))
      obtain ⟨rw', hrw, e⟩ := hR8.all hr'
      exact off8 e (hg8 _ hrw).1
    rintro σ' H8 ⟨o2', qs', rfl, c8, hlr8, hR8⟩
    rw [List.take_of_length_le (by omega)] at hR8
    have hg8 : ∀ row ∈ putR S2.R (backL S2), GoodRow row := putR_good (fun x hx => (hbg x hx).2) D2.good
    refine ⟨(by show 1 ≤ sizeLine; decide), fun l8 n8 => ⟨l8, 16, _, rfl, rfl, upd_same, by decide, by decide, (by decide), fun lz nz => ?_⟩⟩
    have t8 := (same_new n8 (.lst [.int 0])).trans (same_new nz (.lst (List.replicate (16 : Int).toNat [V.int 0]).flatten))
    have hlz : (upd (upd H8 l8 (.lst [.int 0])) lz (.lst (List.replicate (16 : Int).toNat [V.int 0]).flatten)) lz = some (.lst (zeros.map V.int)) := upd_same
    have hlr9 := t8 _ _ hlr8
    have hR9 : RowsAt _ qs' (putR S2.R (backL S2)) := hR8.chg (S := []) (Chg.of t8) (by simp)
    have c9 := c8.trans (Chg.of t8)
    generalize upd (upd H8 l8 (.lst [.int 0])) lz (.lst (List.replicate (16 : Int).toNat [V.int 0]).flatten) = H9 at t8 hlz hlr9 hR9 c9 ⊢
    have lq : qs'.length = S2.R.length := by rw [hR8.1, putR_len]
    refine ⟨_, rfl, lr, _, _, 1, rfl, rfl, hlr9, ?_, ?_⟩
    · rw [List.length_map, lq]; unfold ixN; rw [if_pos (by omega), if_pos (by omega)]; rfl
    rw [← List.map_set]
    have off9 : ∀ {r : Addr} {rw' : List Int}, H9 r = some (.lst (rw'.map V.int)) → rw'.length = 16 → r ∉ [lr] := fun h1 h2 => by simp only [List.mem_singleton]; exact ne_of h1 hlr9 (fun z => ref_ne_row h2 z.symm)
    have cL : Chg [lr] H9 (upd H9 lr (.lst ((qs'.set 1 lz).map V.ref))) := (Chg.of (Same.refl _)).upd (by simp) _
    have hRA : RowsAt _ (qs'.set 1 lz) ((putR S2.R (backL S2)).set 1 zeros) := RowsAt.set (hR9.chg cL fun r hr' => by
      obtain ⟨rw', hrw, e⟩ := hR9.all hr'
      exact off9 e (hg8 _ hrw).1) 1 (cL _ _ hlz (off9 hlz rfl))
    have hlrA := upd_same (H := H9) (a := lr) (o := .lst ((qs'.set 1 lz).map V.ref))
    have cA := c9.trans cL
    generalize upd H9 lr (.lst ((qs'.set 1 lz).map V.ref)) = HA at cL hRA hlrA cA ⊢
    have hhpA := cA _ _ hhp7 hpl
    have DA := D7c cA
    obtain ⟨dw, dw1⟩ := DA.at
    obtain ⟨t, ty, y1, y2, _⟩ := (Kd.int (cn : Int) : Kd K HA (.int (cn : Int)))
    refine ⟨_, rfl, rfl, _, rfl, iteF' (by decide +kernel) ⟨_, rfl, _, t, _, rfl, ty, y1, _, rfl, iteF' (by rfl) ⟨_, rfl, _, t, _, rfl, ty, y2, _, rfl, iteF' (by rfl) ?_⟩⟩⟩
    refine ⟨_, rfl, _, rfl, hp, _, _, _, rfl, rfl, SqL.of hhpA, at0, rfl, _, rfl, iteF' (by rw [ecn]; simp) ?_⟩
    refine ⟨_, rfl, hp, _, _, _, rfl, rfl, SqL.of hhpA, at0, _, _, rfl, rfl, _, rfl, hp, _, _, _, rfl, rfl, SqL.of hhpA, at0, _, _, rfl, rfl, .inr ⟨_, rfl, _, _, rfl, rfl, .inr ⟨by split <;> decide, by split <;> decide⟩, ?_⟩⟩
    refine ⟨_, rfl, d, dw, _, rfl, dw1, rfl, d, kr, _, _, _, rfl, DA, _, rfl, _, rfl, _, _, rfl, rfl, rfl, _, rfl, iteT' ?_ ⟨_, rfl, _, rfl, ?_⟩⟩
    · rw [dec_V, ecn]
      exact decide_eq_true eN
    rw [← eR] at hRA
    refine ⟨.list (S4.R.map fun row => PyData.list (row.map PyData.int)), .list (S4.R.map fun row => PyData.list (row.map PyData.int)), .lst (SqL.of (cA _ _ h67 l6l)) (dvs_rows (hR67.chg cA fun r hr' => ?_)), .lst (SqL.of hlrA) (dvs_rows hRA), shaped_rows _, shaped_rows _, ?_⟩
    · obtain ⟨rw', hrw, e⟩ := hR67.all hr'
      exact offI e (D7.good _ hrw).1
    rw [eqv_same (shaped_rows _)]
    exact q _
end
end K7
end
section
set_option Elab.async false
set_option linter.all false
set_option maxRecDepth 100000
set_option maxHeartbeats 4000000
namespace K7
open PySem L2 BK
section
variable {P : Program} {w : World} {K : PySem.W.Frag} {mg : Str → Option Value} {base : Heap} {f : Addr} {fd : FuncData} {a : Ad}
/-! ### plain values, odd rows, odd blocks -/
def Scal : V → Prop
  | .int _ => True
  | .bl _ => True
  | .str s => (PyData.str s).canLay0 = true
  | .non => True
  | _ => False
theorem Scal.kd {x : V} (h : Scal x) (H : Hp) : Kd K H x := by
  cases x with
  | int i => exact .int i
  | bl b => exact .bl b
  | str s => exact .str s
  | non => exact .non
  | _ => cases h
theorem Scal.dv {x : V} (h : Scal x) (H : Hp) : ∃ d, DV K H x d ∧ d.canLay0 = true ∧ d.depth = 0 := by
  cases x with
  | int i => exact ⟨_, .int i, rfl, rfl⟩
  | bl b => exact ⟨_, .bl b, rfl, rfl⟩
  | str s => exact ⟨_, .str s, h, rfl⟩
  | non => exact ⟨_, .non, rfl, rfl⟩
  | _ => cases h
theorem scals_dv {xs : List V} (h : ∀ x ∈ xs, Scal x) (H : Hp) : ∃ ds, DVs K H xs ds ∧ PyData.canLayAll0 ds = true ∧ PyData.depthAll ds = 0 ∧ ds.length = xs.length := by
  induction xs with
  | nil => exact ⟨[], .nil, rfl, rfl, rfl⟩
  | cons x xs ih =>
    obtain ⟨ds, a1, a2, a3, a4⟩ := ih fun y hy => h y (List.mem_cons_of_mem _ hy)
    obtain ⟨d, b1, b2, b3⟩ := (h x (List.mem_cons_self ..)).dv (K := K) H
    refine ⟨d :: ds, .cons b1 a1, ?_, ?_, by simp [a4]⟩
    · simp only [PyData.canLayAll0, b2, a2, Bool.and_self]
    · simp only [PyData.depthAll, b3, a3]; rfl
def RowS (H : Hp) (r : V) (ok : Bool) : Prop := (r = .non ∧ ok = false) ∨ (∃ p xs, r = .ref p ∧ H p = some (.tup xs) ∧ (∀ x ∈ xs, Scal x) ∧ ok = false) ∨
  (∃ p xs, r = .ref p ∧ H p = some (.lst xs) ∧ xs.length ≤ 1000 ∧ (∀ x ∈ xs, Scal x) ∧ ok = (decide (xs.length = 16) && xs.all goodV))
theorem RowS.same {H H' : Hp} {r : V} {ok : Bool} (h : RowS H r ok) (s : Same H H') : RowS H' r ok := by
  rcases h with h | ⟨p, xs, h1, h2, h3⟩ | ⟨p, xs, h1, h2, h3⟩
  · exact .inl h
  · exact .inr (.inl ⟨p, xs, h1, s _ _ h2, h3⟩)
  · exact .inr (.inr ⟨p, xs, h1, s _ _ h2, h3⟩)
theorem RowS.rowA {H : Hp} {r : V} {ok : Bool} (h : RowS H r ok) : RowA K H r ok := by
  rcases h with ⟨rfl, rfl⟩ | ⟨p, xs, rfl, h2, _, rfl⟩ | ⟨p, xs, rfl, h2, h3, h4, h5⟩
  · exact ⟨.non, .inl ⟨rfl, rfl⟩⟩
  · exact ⟨.tup h2, .inl ⟨by show isLH (H p) = _; rw [h2]; rfl, rfl⟩⟩
  · exact ⟨.lst h2, .inr ⟨p, xs, rfl, h2, h3, fun x hx => (h4 x hx).kd H, h5⟩⟩
theorem RowS.dv {H : Hp} {r : V} {ok : Bool} (h : RowS H r ok) : ∃ d, DV K H r d ∧ d.canLay0 = true ∧ d.depth ≤ 1 := by
  rcases h with ⟨rfl, rfl⟩ | ⟨p, xs, rfl, h2, h3, rfl⟩ | ⟨p, xs, rfl, h2, h3, h4, h5⟩
  · exact ⟨_, .non, rfl, by decide⟩
  · obtain ⟨ds, a1, a2, a3, _⟩ := scals_dv (K := K) h3 H
    exact ⟨_, .tup (SqT.of h2) a1, by simp only [PyData.canLay0]; exact a2, by simp only [PyData.depth]; omega⟩
  · obtain ⟨ds, a1, a2, a3, _⟩ := scals_dv (K := K) h4 H
    exact ⟨_, .lst (SqL.of h2) a1, by simp only [PyData.canLay0]; exact a2, by simp only [PyData.depth]; omega⟩
def BlkS (H : Hp) (b : V) : Prop := Scal b ∨ ∃ p xs, b = .ref p ∧ H p = some (.lst xs) ∧ ∀ x ∈ xs, Scal x
theorem BlkS.same {H H' : Hp} {b : V} (h : BlkS H b) (s : Same H H') : BlkS H' b := h.imp id fun ⟨p, xs, h1, h2, h3⟩ => ⟨p, xs, h1, s _ _ h2, h3⟩
theorem BlkS.kd {H : Hp} {b : V} (h : BlkS H b) : Kd K H b := by
  rcases h with h | ⟨p, xs, rfl, h2, _⟩
  · exact h.kd H
  · exact .lst h2
theorem BlkS.dv {H : Hp} {b : V} (h : BlkS H b) : ∃ d, DV K H b d ∧ d.canLay0 = true ∧ d.depth ≤ 1 := by
  rcases h with h | ⟨p, xs, rfl, h2, h3⟩
  · obtain ⟨d, a1, a2, a3⟩ := h.dv (K := K) H
    exact ⟨d, a1, a2, by omega⟩
  · obtain ⟨ds, a1, a2, a3, _⟩ := scals_dv (K := K) h3 H
    exact ⟨_, .lst (SqL.of h2) a1, by simp only [PyData.canLay0]; exact a2, by simp only [PyData.depth]; omega⟩
/-- pairs, of any kind -/
def PrS (H : Hp) (t : Addr) (x : V × V × Bool) : Prop := H t = some (.tup [x.1, x.2.1]) ∧ BlkS H x.1 ∧ RowS H x.2.1 x.2.2
theorem PrS.same {H H' : Hp} {t : Addr} {x : V × V × Bool} (h : PrS H t x) (s : Same H H') : PrS H' t x := ⟨s _ _ h.1, h.2.1.same s, h.2.2.same s⟩
theorem PrS.dv {H : Hp} {t : Addr} {x : V × V × Bool} (h : PrS H t x) : ∃ d, DV K H (.ref t) d ∧ d.canLay0 = true ∧ d.depth ≤ 2 := by
  obtain ⟨h1, h2, h3⟩ := h
  obtain ⟨d, a1, a2, a3⟩ := h2.dv (K := K)
  obtain ⟨e, b1, b2, b3⟩ := h3.dv (K := K)
  refine ⟨_, .tup (SqT.of h1) (.cons a1 (.cons b1 .nil)), ?_, ?_⟩
  · simp only [PyData.canLay0, PyData.canLayAll0, a2, b2, Bool.and_self]
  · simp only [PyData.depth, PyData.depthAll]; omega
def PrsS (H : Hp) (ts : List Addr) (L : List (V × V × Bool)) : Prop := ts.length = L.length ∧ ∀ (i : Nat) (t : Addr) (x : V × V × Bool), ts[i]? = some t → L[i]? = some x → PrS H t x
theorem PrsS.same {H H' : Hp} {ts : List Addr} {L : List (V × V × Bool)} (h : PrsS H ts L) (s : Same H H') : PrsS H' ts L := ⟨h.1, fun i t x e1 e2 => (h.2 i t x e1 e2).same s⟩
theorem PrsS.pairs {H : Hp} {ps : Addr} {ts : List Addr} {L : List (V × V × Bool)} (h : PrsS H ts L) (hp : H ps = some (.lst (ts.map V.ref))) : PairsK K H ps L :=
  ⟨ts, hp, h.1, fun i t x e1 e2 => let z := h.2 i t x e1 e2; ⟨z.1, z.2.1.kd, z.2.2.rowA⟩⟩
theorem PrsS.dvs {H : Hp} : ∀ {ts : List Addr} {L : List (V × V × Bool)}, PrsS H ts L → ∃ ds, DVs K H (ts.map V.ref) ds ∧ PyData.canLayAll0 ds = true ∧ PyData.depthAll ds ≤ 2 ∧ ds.length = ts.length
  | [], _, _ => ⟨[], .nil, rfl, Nat.zero_le _, rfl⟩
  | t :: ts, [], h => by cases h.1
  | t :: ts, x :: L, h => by
    obtain ⟨ds, a1, a2, a3, a4⟩ := PrsS.dvs (ts := ts) (L := L) ⟨by have := h.1; simpa using this, fun i t x e1 e2 => h.2 (i + 1) t x e1 e2⟩
    obtain ⟨d, b1, b2, b3⟩ := (h.2 0 t x rfl rfl).dv (K := K)
    refine ⟨d :: ds, .cons b1 a1, ?_, ?_, by simp [a4]⟩
    · simp only [PyData.canLayAll0, b2, a2, Bool.and_self]
    · simp only [PyData.depthAll]; omega
theorem shaped3 {ds : List PyData} (c : PyData.canLayAll0 ds = true) (l : PyData.depthAll ds ≤ 3) : SeqAt.shaped (.list ds) = true := by
  have l' : (PyData.list ds).depth ≤ 64 := by simp only [PyData.depth]; omega
  have c' : (PyData.list ds).canLay0 = true := by simp only [PyData.canLay0]; exact c
  unfold SeqAt.shaped
  rw [c', Bool.true_and]
  exact decide_eq_true l'
theorem eqv_nil (ds : List PyData) : PyData.eqv (.list ds) (.list []) = decide (ds = []) := by
  cases ds with
  | nil => rfl
  | cons d ds => rfl
/-! ### _law_due -/
def dueW (m : Nat) (L : List (V × V × Bool)) : Str := if 15 < L.length then "much" else match wrong m none L with
  | none => ""
  | some true => "block"
  | some false => "row"
def spDueL (K : PySem.W.Frag) (_ : Ad) : Sp := fun vs H Q _ => ∃ (ps : Addr) (m : Nat) (ts : List Addr) (L : List (V × V × Bool)), vs = [.ref ps, .int m] ∧ H ps = some (.lst (ts.map V.ref)) ∧ PrsS H ts L ∧ ∀ H', Same H H' → Q (.str (dueW m L)) H'
/-- what was last: 16, or a home -/
def lastI : Option Int → Int
  | none => 16
  | some j => j
theorem fits {m : Nat} {hd : Option Int} (hj : ∀ j, hd = some j → 17 ≤ j) (i : Int) : (decide (lastI hd < i) && decide (i < (m : Int))) = ((decide (17 ≤ i) && decide (i ≤ (m : Int) - 1)) && !beh hd i) := by
  rw [Bool.eq_iff_iff]
  simp only [Bool.and_eq_true, Bool.not_eq_true', decide_eq_true_iff]
  cases hd with
  | none =>
    show (16 < i ∧ _) ↔ (_ ∧ false = false)
    constructor
    · rintro ⟨h1, h2⟩; exact ⟨⟨by omega, by omega⟩, rfl⟩
    · rintro ⟨⟨h1, h2⟩, _⟩; exact ⟨by omega, by omega⟩
  | some j =>
    have := hj j rfl
    show (j < i ∧ _) ↔ (_ ∧ decide (i ≤ j) = false)
    rw [decide_eq_false_iff_not]
    constructor
    · rintro ⟨h1, h2⟩; exact ⟨⟨by omega, by omega⟩, by omega⟩
    · rintro ⟨⟨h1, h2⟩, h3⟩; exact ⟨by omega, by omega⟩
theorem ok__law_due (F : Fun K "_law_due" "_law_due" s__law_due f fd) (T : Txt K mg a) (D__law_is_number : Df P w K mg base CX0 1 "_law_is_number" ["_law_word_here"] (spIsNumber K a)) : FnOk P w K mg base (CXE P w) 2 f fd ["_law_pairs", "_law_many"] (spDueL K a) := by
  obtain ⟨_, _, Gl_is_number, bl_is_number, kl_is_number, ml_is_number⟩ := D__law_is_number
  have nd := sc__law_due.nd
  refine F.okE sc__law_due (fun vs H Q E h => ?_) (fun cdv A outer s H vs Q E hr hA h => ?_)
  · obtain ⟨ps, m, ts, L, rfl, _⟩ := h
    rfl
  obtain ⟨ps, m, ts, L, rfl, hps, ⟨hlen, hP⟩, q⟩ := h
  refine ⟨_, (pss_cons (ps_if (pt_cmpR op_gt (pe_callB call_len_seq rfl T.len bt_len (pa_cons (pv 0) pa_nil)) pe_int (nomark _)) (pss_one (ps_ret pe_str)) pss_nil)
    (pss_cons (ps_set (i := 2) nd rfl (by first | exact Or.inl rfl | exact Or.inr rfl) pe_int)
    (pss_cons (ps_for PassesOwn.leaving rfl (pi_list (pv 0)) (pg_tup hA (pgs_cons (pg_name (i := 3) nd rfl (by first | exact Or.inl rfl | exact Or.inr rfl)) (pgs_cons (pg_name (i := 4) nd rfl (by first | exact Or.inl rfl | exact Or.inr rfl)) pgs_nil))) (pss_cons (ps_if (PW.pt (pw_or (pt_not (pt_val (pe_callB (call_isinst (T := "int")) rfl T.isinstance bt_isinstance (pa_cons (pv 3) (pa_cons (pe_bltn (v := .ty "int") rfl T.int bt_int rfl) pa_nil))))) (pw_or (pt_val (pe_callB (call_isinst (T := "bool")) rfl T.isinstance bt_isinstance (pa_cons (pv 3) (pa_cons (pe_bltn (v := .ty "bool") rfl T.bool bt_bool rfl) pa_nil)))) (pw_or1 (pt_not (pt_chain op_lt op_lt (pv 2) (pv 3) (pv 1))))))) (pss_one (ps_ret pe_str)) pss_nil)
    (pss_cons (ps_if (PW.pt (pw_or (pt_not (pt_val (pe_callB (call_isinst (T := "list")) rfl T.isinstance bt_isinstance (pa_cons (pv 4) (pa_cons (pe_bltn (v := .ty "list") rfl T.list bt_list rfl) pa_nil))))) (pw_or1 (pt_cmpR op_ne (pe_callB call_len_seq rfl T.len bt_len (pa_cons (pv 4) pa_nil)) pe_int (nomark _))))) (pss_one (ps_ret pe_str)) pss_nil)
    (pss_cons (ps_if (pt_cmpR (op_neD hr.units) (pe_lc (cl := []) (fj := []) (by exact ⟨rfl, by decide +kernel, rfl, by decide +kernel, rfl, fun _ h => (by cases h), by decide +kernel, fun _ h => (by cases h), by decide +kernel⟩) rfl (pi_list (pv 4)) (fun _ _ _ => (pf_one (pt_not (pt_val (pe_call Gl_is_number (hr.mono (by decide)) rfl ml_is_number kl_is_number bl_is_number .nil pass0 (pa_cons (pv 0) pa_nil)))))) (fun _ _ _ => (pv 0))) (pe_lst pa_nil) (nomark _)) (pss_one (ps_ret pe_str)) pss_nil)
    (pss_one (ps_set (i := 2) nd rfl (by first | exact Or.inl rfl | exact Or.inr rfl) (pv 3)))))))
    (pss_one (ps_ret pe_str))))), ?_⟩
  refine ⟨_, rfl, ps, _, rfl, .inl (SqL.of hps), _, _, rfl, rfl, _, rfl, ?_⟩
  rw [List.length_map, hlen]
  by_cases hl : 15 < L.length
  · refine iteT' (decide_eq_true (by omega)) ?_
    have := q _ (Same.refl _)
    unfold dueW at this
    rw [if_pos hl] at this
    exact this
  refine iteF' (decide_eq_false (by omega)) ?_
  have q' : ∀ H', Same H H' → Q (.str (match wrong m none L with | none => "" | some true => "block" | some false => "row")) H' := fun H' s' => by
    have := q H' s'
    unfold dueW at this
    rw [if_neg hl] at this
    exact this
  refine ⟨_, rfl, ps, rfl, ⟨_, SqL.of hps⟩, for_list (xs := ts.map V.ref) (fun i σ' H' => ∃ (hd : Option Int) (o3 o4 : Option V), σ' = [some (.ref ps), some (.int m), some (.int (lastI hd)), o3, o4] ∧ Same H H' ∧ (∀ j, hd = some j → 17 ≤ j) ∧ wrong m none L = wrong m hd (L.drop i)) ⟨none, none, none, rfl, Same.refl _, (fun j z => by cases z), rfl⟩ (fun i σ2 H2 _ ⟨_, _, _, _, s2, _⟩ => SqL.of (s2 _ _ hps)) ?_ ?_⟩
  · rintro i v σ2 H2 hv ⟨hd, o3, o4, rfl, s2, hj, ew⟩
    have hi : i < L.length := by
      have := (List.getElem?_eq_some_iff.mp hv).1
      rw [List.length_map, hlen] at this
      exact this
    have ht : ts[i]? = some (ts[i]'(by omega)) := List.getElem?_eq_getElem (by omega)
    rw [List.getElem?_map, ht] at hv
    cases hv
    obtain ⟨p1, p2, p3⟩ := (hP i _ _ ht (List.getElem?_eq_getElem hi)).same s2
    rw [List.drop_eq_getElem_cons hi] at ew
    generalize L[i] = x at p1 p2 p3 ew
    obtain ⟨v, r, ok⟩ := x
    refine ⟨_, _, rfl, SqT.of p1, rfl, _, _, rfl, _, _, rfl, rfl, ?_⟩
    obtain ⟨t, ty, k1, k2, _⟩ := p2.kd (K := K)
    have isbl : wrong m none L = some true → Q (.str "block") H2 := fun e => by
      have := q' H2 s2
      rw [e] at this
      exact this
    have isrow : wrong m none L = some false → ∀ H3, Same H2 H3 → Q (.str "row") H3 := fun e H3 s3 => by
      have := q' H3 (s2.trans s3)
      rw [e] at this
      exact this
    refine ⟨_, rfl, _, t, _, rfl, ty, k1, _, rfl, ?_⟩
    by_cases hv : ∃ i : Int, v = .int i
    case neg =>
      have hb := isbl (by rw [ew]; cases v with | int i => exact absurd ⟨i, rfl⟩ hv | _ => rfl)
      cases v with
      | int i => exact absurd ⟨i, rfl⟩ hv
      | bl b => exact iteF' (by rfl) ⟨_, rfl, _, t, _, rfl, ty, k2, _, rfl, iteT' (by rfl) hb⟩
      | _ => exact iteT' (by rfl) hb
    obtain ⟨n, rfl⟩ := hv
    refine iteF' (by rfl) ⟨_, rfl, _, t, _, rfl, ty, k2, _, rfl, iteF' (by rfl) ⟨_, rfl, _, rfl, _, _, rfl, rfl, _, rfl, ?_⟩⟩
    have ft := fits (m := m) hj n
    have nofit : (decide (lastI hd < n) && decide (n < (m : Int))) = false → Q (.str "block") H2 := fun z => isbl (by
      rw [z] at ft
      rw [ew]
      by_cases hw : wholeV (.int n) 17 ((m : Int) - 1) = true
      · rw [wrong_i hw]
        have hw' : (decide (17 ≤ n) && decide (n ≤ (m : Int) - 1)) = true := hw
        rw [hw', Bool.true_and] at ft
        rw [if_pos (by cases e : beh hd n with | true => rfl | false => rw [e] at ft; cases ft)]
      · exact wrong_v (Bool.eq_false_iff.mpr hw))
    refine ite2 (fun c => ⟨_, rfl, _, _, rfl, rfl, _, rfl, ite2 (fun c2 => ?_) (fun c2 => ?_)⟩) (fun c => ⟨_, rfl, iteT' (by rfl) ?_⟩)
    · refine nofit ?_
      have z : decide (n < (m : Int)) = false := by cases e : decide (n < (m : Int)) with | true => rw [e] at c2; cases c2 | false => rfl
      rw [z, Bool.and_false]
    · have z : decide (n < (m : Int)) = true := by cases e : decide (n < (m : Int)) with | true => rfl | false => rw [e] at c2; exact absurd rfl c2
      rw [z, c] at ft
      have ft' : ((decide (17 ≤ n) && decide (n ≤ (m : Int) - 1)) && !beh hd n) = true := ft.symm
      rw [Bool.and_eq_true] at ft'
      have hbf : beh hd n = false := by cases e : beh hd n with | true => rw [e] at ft'; cases ft'.2 | false => rfl
      have h17 : 17 ≤ n := by have := ft'.1; rw [Bool.and_eq_true, decide_eq_true_iff] at this; exact this.1
      rw [wrong_i (show wholeV (.int n) 17 ((m : Int) - 1) = true from ft'.1), hbf, if_neg Bool.false_ne_true] at ew
      obtain ⟨t', ty', _, _, k3⟩ := (p3.rowA (K := K)).1
      refine ⟨_, rfl, _, t', _, rfl, ty', k3, _, rfl, ?_⟩
      rcases p3 with ⟨rfl, rfl⟩ | ⟨p, xs, rfl, y2, y3, rfl⟩ | ⟨p, xs, rfl, y2, y3, y4, y5⟩
      · exact iteT' (by rfl) (isrow (by rw [ew]; rfl) _ (Same.refl _))
      · exact iteT' (by rw [show isL H2 (.ref p) = false by show isLH (H2 p) = _; rw [y2]; rfl]; rfl) (isrow (by rw [ew]; rfl) _ (Same.refl _))
      refine iteF' (by rw [show isL H2 (.ref p) = true by show isLH (H2 p) = _; rw [y2]; rfl]; rfl) ⟨_, rfl, p, _, rfl, .inl (SqL.of y2), rfl, _, rfl, ?_⟩
      by_cases h16 : xs.length = 16
      case neg =>
        refine iteT' (by rw [dec_V, decide_eq_false (by omega)]; rfl) (isrow ?_ _ (Same.refl _))
        rw [ew, show ok = _ from y5, decide_eq_false h16]; rfl
      refine iteF' (by rw [dec_V, decide_eq_true (by omega)]; rfl) ?_
      refine ⟨_, rfl, p, rfl, ⟨_, SqL.of y2⟩, lc_pureL (xs := xs) y3 (SqL.of y2) (fun v => !goodV v) (fun v => v) (fun x H' Qf hx s' k => ?_) (fun x H' Qf hx _ s' k => ?_) (fun acc H3 n3 s3 h3 => ?_)⟩
      · exact ⟨_, rfl, x, rfl, (y4 x hx).kd H', _, rfl, k H' (Same.refl _)⟩
      · exact ⟨_, rfl, k H' (Same.refl _)⟩
      rw [List.map_id'] at h3
      refine ⟨Nat.zero_le _, fun l9 n9 => ?_⟩
      have s9 := s3.trans (same_new n9 (.lst []))
      obtain ⟨ds, a1, a2, a3, a4⟩ := scals_dv (K := K) (xs := xs.filter fun v => !goodV v) (fun x hx => y4 x (List.mem_filter.mp hx).1) (upd H3 l9 (.lst []))
      refine ⟨.list ds, .list [], .lst (SqL.of (same_new n9 _ _ _ h3)) a1, .lst (SqL.of upd_same) .nil, shaped3 a2 (by omega), by decide +kernel, _, rfl, ?_⟩
      rw [eqv_nil]
      have y5' : ok = xs.all goodV := by rw [show ok = _ from y5, decide_eq_true h16]; rfl
      by_cases hf : (xs.filter fun v => !goodV v) = []
      · have : ds = [] := by rw [hf] at a4; exact List.length_eq_zero_iff.mp a4
        have hall : xs.all goodV = true := by
          rw [List.all_eq_true]
          intro x hx
          have := List.filter_eq_nil_iff.mp hf x hx
          simpa using this
        rw [y5', hall, if_pos rfl] at ew
        refine iteF' (by rw [decide_eq_true this]; rfl) ⟨_, rfl, some n, _, _, rfl, s2.trans s9, (fun j z => by cases z; exact h17), ew⟩
      · have : ds ≠ [] := fun z => hf (by rw [z] at a4; exact List.length_eq_zero_iff.mp a4.symm)
        have hall : xs.all goodV = false := by
          rw [Bool.eq_false_iff]
          intro h
          refine hf (List.filter_eq_nil_iff.mpr fun x hx => ?_)
          rw [List.all_eq_true.mp h x hx]; decide
        refine iteT' (by rw [decide_eq_false this]; rfl) (isrow ?_ _ s9)
        rw [ew, y5', hall]; rfl
    · refine nofit ?_
      rw [Bool.eq_false_iff.mpr c, Bool.false_and]
  · rintro σ2 H2 ⟨hd, o3, o4, rfl, s2, hj, ew⟩
    rw [List.length_map, hlen, List.drop_length] at ew
    have := q' H2 s2
    rw [ew] at this
    exact this
end
end K7
end
section
set_option Elab.async false
set_option linter.all false
set_option maxRecDepth 100000
set_option maxHeartbeats 4000000
namespace K7
open PySem L2 BK
section
variable {P : Program} {w : World} {K : PySem.W.Frag} {mg : Str → Option Value} {base : Heap} {f : Addr} {fd : FuncData} {a : Ad}
/-! ### _law_odd_pair -/
def RS (H : Hp) (r : V) : Prop := ∃ ok, RowS H r ok
theorem RS.same {H H' : Hp} {r : V} (h : RS H r) (s : Same H H') : RS H' r := let ⟨ok, z⟩ := h; ⟨ok, z.same s⟩
theorem rs_list {H : Hp} {p : Addr} {xs : List V} (h : H p = some (.lst xs)) (hz : xs.length ≤ 1000) (hs : ∀ x ∈ xs, Scal x) : RS H (.ref p) := ⟨_, .inr (.inr ⟨p, xs, rfl, h, hz, hs, rfl⟩)⟩
theorem rs_tup {H : Hp} {p : Addr} {xs : List V} (h : H p = some (.tup xs)) (hs : ∀ x ∈ xs, Scal x) : RS H (.ref p) := ⟨_, .inr (.inl ⟨p, xs, rfl, h, hs, rfl⟩)⟩
theorem sc_ints (row : List Int) : ∀ x ∈ row.map V.int, Scal x := fun x hx => by
  obtain ⟨i, _, rfl⟩ := List.mem_map.mp hx
  exact trivial
theorem cut15 (row : List Int) : cutV (row.map V.int) none (some 15) = (row.take 15).map V.int := by
  rw [show (15 : Int) = ((15 : Nat) : Int) from rfl, cut_to, List.map_take]
theorem cut1 (row : List Int) : cutV (row.map V.int) (some 1) none = (row.drop 1).map V.int := by
  rw [show (1 : Int) = ((1 : Nat) : Int) from rfl, cut_from, List.map_drop]
theorem sc_cut15 (row : List Int) : ∀ x ∈ cutV (row.map V.int) none (some 15), Scal x := by rw [cut15]; exact sc_ints _
theorem sc_cut1 (row : List Int) : ∀ x ∈ cutV (row.map V.int) (some 1) none, Scal x := by rw [cut1]; exact sc_ints _
theorem sc_app {xs ys : List V} (h1 : ∀ x ∈ xs, Scal x) (h2 : ∀ x ∈ ys, Scal x) : ∀ x ∈ xs ++ ys, Scal x := fun x hx => (List.mem_append.mp hx).elim (h1 x) (h2 x)
theorem blk_at {H : Hp} {lb : Addr} {fa ah : Int} {m : Nat} (hlb : H lb = some (.lst [.int 17])) (c : Int) (h0 : 0 ≤ c) (h9 : c < 10) :
    ∃ v, atI [V.int (-1), .int 0, .int 16, .int (m : Int), .int ((m : Int) + fa), .int (-1 - fa), .bl true, .non, .ref lb, .int ah] c = some v ∧ BlkS H v := by
  rcases (show c = 0 ∨ c = 1 ∨ c = 2 ∨ c = 3 ∨ c = 4 ∨ c = 5 ∨ c = 6 ∨ c = 7 ∨ c = 8 ∨ c = 9 by omega) with e | e | e | e | e | e | e | e | e | e <;> subst e
  case inr.inr.inr.inr.inr.inr.inr.inr.inl => exact ⟨_, rfl, .inr ⟨lb, _, rfl, hlb, by intro x hx; rw [List.mem_singleton.mp hx]; exact trivial⟩⟩
  all_goals exact ⟨_, rfl, .inl trivial⟩
theorem row_pick {H : Hp} {u1 u2 u3 u5 u7 u9 u11 u13 : Addr} {c : Int} (r1 : RS H (.ref u1)) (r2 : RS H (.ref u2)) (r3 : RS H (.ref u3)) (r5 : RS H (.ref u5)) (r7 : RS H (.ref u7)) (r9 : RS H (.ref u9)) (r11 : RS H (.ref u11)) (r13 : RS H (.ref u13)) (h0 : 0 ≤ c) (h9 : c < 9) :
    ∃ v, atI (([V.ref u1, .ref u2, .ref u3, .non] ++ [.ref u5, .ref u7]) ++ [.ref u9, .ref u11, .ref u13]) c = some v ∧ RS H v := by
  rcases (show c = 0 ∨ c = 1 ∨ c = 2 ∨ c = 3 ∨ c = 4 ∨ c = 5 ∨ c = 6 ∨ c = 7 ∨ c = 8 by omega) with e | e | e | e | e | e | e | e | e <;> subst e
  · exact ⟨_, rfl, r1⟩
  · exact ⟨_, rfl, r2⟩
  · exact ⟨_, rfl, r3⟩
  · exact ⟨_, rfl, _, .inl ⟨rfl, rfl⟩⟩
  · exact ⟨_, rfl, r5⟩
  · exact ⟨_, rfl, r7⟩
  · exact ⟨_, rfl, r9⟩
  · exact ⟨_, rfl, r11⟩
  · exact ⟨_, rfl, r13⟩
def spOddPair (K : PySem.W.Frag) (_ : Ad) : Sp := fun vs H Q _ => ∃ (t p : Addr) (hm c ah : Int) (row : List Int) (m : Nat), vs = [.ref t, .int c, .int m, .int ah] ∧ H t = some (.tup [.int hm, .ref p]) ∧ H p = some (.lst (row.map V.int)) ∧ row.length = 16 ∧
  ∀ (t' : Addr) (x : V × V × Bool) (H' : Hp), H t' = none → Same H H' → PrS H' t' x → Q (.ref t') H'
theorem ok__law_odd_pair (F : Fun K "_law_odd_pair" "_law_odd_pair" s__law_odd_pair f fd) (T : Txt K mg a)  : FnOk P w K mg base (CXE P w) 1 f fd ["_law_pair", "_law_cell", "_law_many", "_law_ahead"] (spOddPair K a) := by
  have nd := sc__law_odd_pair.nd
  refine F.okE sc__law_odd_pair (fun vs H Q E h => ?_) (fun cdv A outer s H vs Q E hr hA h => ?_)
  · obtain ⟨t, p, hm, c, ah, row, m, rfl, _⟩ := h
    rfl
  obtain ⟨t, p, hm, c, ah, row, m, rfl, ht, hp, h16, q⟩ := h
  refine ⟨_, (pss_cons (ps_set (i := 4) nd rfl (by first | exact Or.inl rfl | exact Or.inr rfl) (pe_op op_mod (pe_op op_fdiv (pv 1) pe_int) (pe_op op_pow pe_int pe_int)))
    (pss_cons (ps_set (i := 5) nd rfl (by first | exact Or.inl rfl | exact Or.inr rfl) (pe_ix ix_list (pe_lst (pa_cons (pe_un un_neg pe_int) (pa_cons pe_int (pa_cons pe_int (pa_cons (pv 2) (pa_cons (pe_op op_add (pv 2) (pv 4)) (pa_cons (pe_op op_sub (pe_un un_neg pe_int) (pv 4)) (pa_cons pe_bl (pa_cons pe_non (pa_cons (pe_lst (pa_cons pe_int pa_nil)) (pa_cons (pv 3) pa_nil))))))))))) (pe_op op_mod (pe_op op_fdiv (pv 1) pe_int) pe_int) (fun _ _ => rfl)))
    (pss_cons (ps_set (i := 6) nd rfl (by first | exact Or.inl rfl | exact Or.inr rfl) (pe_ix (ix_tupK (K := K) rfl) (pv 0) pe_int (fun _ _ => rfl)))
    (pss_cons (ps_set (i := 7) nd rfl (by first | exact Or.inl rfl | exact Or.inr rfl) (pe_lst (pa_cons (pe_slice sl_list (pv 6) po_none (po_some pe_int)) (pa_cons (pe_op op_cat (pv 6) (pe_lst (pa_cons pe_int pa_nil))) (pa_cons (pe_callTy call_tuple_of rfl T.tuple bt_tuple (pa_cons (pv 6) pa_nil)) (pa_cons pe_non pa_nil))))))
    (pss_cons (ps_set (i := 7) nd rfl (by first | exact Or.inl rfl | exact Or.inr rfl) (pe_op op_cat (pv 7) (pe_lst (pa_cons (pe_op op_cat (pe_lst (pa_cons (pe_un un_neg pe_int) pa_nil)) (pe_slice sl_list (pv 6) (po_some pe_int) po_none)) (pa_cons (pe_op op_cat (pe_slice sl_list (pv 6) po_none (po_some pe_int)) (pe_lst (pa_cons (pe_op op_pow pe_int pe_int) pa_nil))) pa_nil)))))
    (pss_cons (ps_set (i := 7) nd rfl (by first | exact Or.inl rfl | exact Or.inr rfl) (pe_op op_cat (pv 7) (pe_lst (pa_cons (pe_op op_cat (pe_lst (pa_cons pe_bl pa_nil)) (pe_slice sl_list (pv 6) (po_some pe_int) po_none)) (pa_cons (pe_op op_cat (pe_slice sl_list (pv 6) po_none (po_some pe_int)) (pe_lst (pa_cons pe_str pa_nil))) (pa_cons (pe_op op_cat (pe_slice sl_list (pv 6) po_none (po_some pe_int)) (pe_lst (pa_cons pe_non pa_nil))) pa_nil))))))
    (pss_cons (ps_set (i := 8) nd rfl (by first | exact Or.inl rfl | exact Or.inr rfl) (pe_ix ix_list (pv 7) (pe_op op_mod (pe_op op_fdiv (pv 1) pe_int) pe_int) (fun _ _ => rfl)))
    (pss_cons (ps_if (pt_cmpR op_eq (pe_op op_mod (pv 1) pe_int) pe_int (nomark _)) (pss_one (ps_ret (pe_tup (pa_cons (pv 5) (pa_cons (pv 6) pa_nil))))) pss_nil)
    (pss_cons (ps_if (pt_cmpR op_eq (pe_op op_mod (pv 1) pe_int) pe_int (nomark _)) (pss_one (ps_ret (pe_tup (pa_cons (pe_ix (ix_tupK (K := K) rfl) (pv 0) pe_int (fun _ _ => rfl)) (pa_cons (pv 8) pa_nil))))) pss_nil)
    (pss_one (ps_ret (pe_tup (pa_cons (pv 5) (pa_cons (pv 8) pa_nil)))))))))))))), ?_⟩
  have sH : Same H H := Same.refl _
  have e15l : (cutV (row.map V.int) none (some 15)).length = 15 := by rw [cut15, List.length_map, List.length_take]; omega
  have e1l : (cutV (row.map V.int) (some 1) none).length = 15 := by rw [cut1, List.length_map, List.length_drop]; omega
  refine ⟨_, rfl, _, _, rfl, rfl, ⟨by decide, by decide⟩, _, _, rfl, rfl, ⟨by decide, by decide, by decide⟩, _, _, rfl, rfl, (by show (0 : Int) < 10 ^ (20 : Int).toNat; decide), ?_⟩
  dsimp (config := { proj := false, iota := false, eta := false, zeta := false }) only
  generalize c / 60 % (10 : Int) ^ (20 : Int).toNat = fa
  refine ⟨_, rfl, _, rfl, _, rfl, _, rfl, _, _, rfl, rfl, _, rfl, _, rfl, _, _, rfl, rfl, (by show 1 ≤ sizeLine; decide), fun lb nlb => ?_⟩
  have z1 := same_new nlb (.lst [.int 17])
  have hlb := upd_same (H := H) (a := lb) (o := .lst [.int 17])
  have ht := z1 _ _ ht
  have hp := z1 _ _ hp
  have sH := sH.trans z1
  generalize upd H lb (.lst [.int 17]) = X1 at z1 hlb ht hp sH ⊢
  refine ⟨_, rfl, (by show 10 ≤ sizeLine; decide), fun lw nlw => ?_⟩
  have z2 := same_new nlw (.lst [.int (-1), .int 0, .int 16, .int (m : Int), .int ((m : Int) + fa), .int (-1 - fa), .bl true, .non, .ref lb, .int ah])
  have hlw := upd_same (H := X1) (a := lw) (o := .lst [.int (-1), .int 0, .int 16, .int (m : Int), .int ((m : Int) + fa), .int (-1 - fa), .bl true, .non, .ref lb, .int ah])
  have ht := z2 _ _ ht
  have hp := z2 _ _ hp
  have hlb := z2 _ _ hlb
  have sH := sH.trans z2
  generalize upd X1 lw (.lst [.int (-1), .int 0, .int 16, .int (m : Int), .int ((m : Int) + fa), .int (-1 - fa), .bl true, .non, .ref lb, .int ah]) = X2 at z2 hlw ht hp hlb sH ⊢
  obtain ⟨bv, ebv, hbv⟩ := blk_at (H := X2) (fa := fa) (ah := ah) (m := m) hlb (c / 6 % 10) (Int.emod_nonneg _ (by decide)) (Int.emod_lt_of_pos _ (by decide))
  refine ⟨_, rfl, _, _, rfl, rfl, ⟨by decide, by decide⟩, _, _, rfl, rfl, (by show (0 : Int) < 10; decide), lw, _, _, bv, rfl, rfl, SqL.of hlw, ebv, ?_⟩
  refine ⟨_, rfl, t, _, 1, .ref p, rfl, rfl, SqT.of ht, rfl, ?_⟩
  refine ⟨_, rfl, _, rfl, p, _, rfl, SqL.of hp, fun u1 nu1 => ?_⟩
  have z3 := same_new nu1 (.lst (cutV (row.map V.int) none (some 15)))
  have hu1 := upd_same (H := X2) (a := u1) (o := .lst (cutV (row.map V.int) none (some 15)))
  have ht := z3 _ _ ht
  have hp := z3 _ _ hp
  have hbv := hbv.same z3
  have sH := sH.trans z3
  generalize upd X2 u1 (.lst (cutV (row.map V.int) none (some 15))) = X3 at z3 hu1 ht hp hbv sH ⊢
  have ru1 : RS X3 (.ref u1) := rs_list hu1 (by simp only [List.length_append, List.length_map, e15l, e1l, List.length_cons, List.length_nil]; omega) (by exact sc_cut15 row)
  refine ⟨_, rfl, (by show 1 ≤ sizeLine; decide), fun l0 nl0 => ?_⟩
  have z4 := same_new nl0 (.lst [.int 0])
  have hl0 := upd_same (H := X3) (a := l0) (o := .lst [.int 0])
  have ht := z4 _ _ ht
  have hp := z4 _ _ hp
  have hbv := hbv.same z4
  have ru1 := ru1.same z4
  have sH := sH.trans z4
  generalize upd X3 l0 (.lst [.int 0]) = X4 at z4 hl0 ht hp hbv ru1 sH ⊢
  refine ⟨p, l0, _, _, rfl, rfl, hp, hl0, small (by simp only [List.length_map, List.length_cons, List.length_nil]; omega), fun u2 nu2 => ?_⟩
  have z5 := same_new nu2 (.lst (row.map V.int ++ [.int 0]))
  have hu2 := upd_same (H := X4) (a := u2) (o := .lst (row.map V.int ++ [.int 0]))
  have ht := z5 _ _ ht
  have hp := z5 _ _ hp
  have hbv := hbv.same z5
  have ru1 := ru1.same z5
  have hl0 := z5 _ _ hl0
  have sH := sH.trans z5
  generalize upd X4 u2 (.lst (row.map V.int ++ [.int 0])) = X5 at z5 hu2 ht hp hbv ru1 hl0 sH ⊢
  have ru2 : RS X5 (.ref u2) := rs_list hu2 (by simp only [List.length_append, List.length_map, e15l, e1l, List.length_cons, List.length_nil]; omega) (by exact sc_app (sc_ints row) (by intro x hx; rw [List.mem_singleton.mp hx]; exact trivial))
  refine ⟨_, rfl, p, _, rfl, .inl ⟨SqL.of hp, fun u3 nu3 => ?_⟩⟩
  have z6 := same_new nu3 (.tup (row.map V.int))
  have hu3 := upd_same (H := X5) (a := u3) (o := .tup (row.map V.int))
  have ht := z6 _ _ ht
  have hp := z6 _ _ hp
  have hbv := hbv.same z6
  have ru1 := ru1.same z6
  have ru2 := ru2.same z6
  have sH := sH.trans z6
  generalize upd X5 u3 (.tup (row.map V.int)) = X6 at z6 hu3 ht hp hbv ru1 ru2 sH ⊢
  have ru3 : RS X6 (.ref u3) := rs_tup hu3 (sc_ints row)
  refine ⟨(by show 4 ≤ sizeLine; decide), fun r1 nr1 => ?_⟩
  have z7 := same_new nr1 (.lst [.ref u1, .ref u2, .ref u3, .non])
  have hr1 := upd_same (H := X6) (a := r1) (o := .lst [.ref u1, .ref u2, .ref u3, .non])
  have ht := z7 _ _ ht
  have hp := z7 _ _ hp
  have hbv := hbv.same z7
  have ru1 := ru1.same z7
  have ru2 := ru2.same z7
  have ru3 := ru3.same z7
  have sH := sH.trans z7
  generalize upd X6 r1 (.lst [.ref u1, .ref u2, .ref u3, .non]) = X7 at z7 hr1 ht hp hbv ru1 ru2 ru3 sH ⊢
  refine ⟨_, rfl, _, rfl, (by show 1 ≤ sizeLine; decide), fun l1 nl1 => ?_⟩
  have z8 := same_new nl1 (.lst [.int (-1)])
  have hl1 := upd_same (H := X7) (a := l1) (o := .lst [.int (-1)])
  have ht := z8 _ _ ht
  have hp := z8 _ _ hp
  have hbv := hbv.same z8
  have ru1 := ru1.same z8
  have ru2 := ru2.same z8
  have ru3 := ru3.same z8
  have hr1 := z8 _ _ hr1
  have sH := sH.trans z8
  generalize upd X7 l1 (.lst [.int (-1)]) = X8 at z8 hl1 ht hp hbv ru1 ru2 ru3 hr1 sH ⊢
  refine ⟨_, rfl, _, rfl, p, _, rfl, SqL.of hp, fun u4 nu4 => ?_⟩
  have z9 := same_new nu4 (.lst (cutV (row.map V.int) (some 1) none))
  have hu4 := upd_same (H := X8) (a := u4) (o := .lst (cutV (row.map V.int) (some 1) none))
  have ht := z9 _ _ ht
  have hp := z9 _ _ hp
  have hbv := hbv.same z9
  have ru1 := ru1.same z9
  have ru2 := ru2.same z9
  have ru3 := ru3.same z9
  have hr1 := z9 _ _ hr1
  have hl1 := z9 _ _ hl1
  have sH := sH.trans z9
  generalize upd X8 u4 (.lst (cutV (row.map V.int) (some 1) none)) = X9 at z9 hu4 ht hp hbv ru1 ru2 ru3 hr1 hl1 sH ⊢
  refine ⟨l1, u4, _, _, rfl, rfl, hl1, hu4, small (by simp only [List.length_map, e15l, e1l, List.length_cons, List.length_nil]; omega), fun u5 nu5 => ?_⟩
  have z10 := same_new nu5 (.lst ([.int (-1)] ++ cutV (row.map V.int) (some 1) none))
  have hu5 := upd_same (H := X9) (a := u5) (o := .lst ([.int (-1)] ++ cutV (row.map V.int) (some 1) none))
  have ht := z10 _ _ ht
  have hp := z10 _ _ hp
  have hbv := hbv.same z10
  have ru1 := ru1.same z10
  have ru2 := ru2.same z10
  have ru3 := ru3.same z10
  have hr1 := z10 _ _ hr1
  have hl1 := z10 _ _ hl1
  have hu4 := z10 _ _ hu4
  have sH := sH.trans z10
  generalize upd X9 u5 (.lst ([.int (-1)] ++ cutV (row.map V.int) (some 1) none)) = X10 at z10 hu5 ht hp hbv ru1 ru2 ru3 hr1 hl1 hu4 sH ⊢
  have ru5 : RS X10 (.ref u5) := rs_list hu5 (by simp only [List.length_append, List.length_map, e15l, e1l, List.length_cons, List.length_nil]; omega) (by exact sc_app (by intro x hx; rw [List.mem_singleton.mp hx]; exact trivial) (sc_cut1 row))
  refine ⟨_, rfl, _, rfl, p, _, rfl, SqL.of hp, fun u6 nu6 => ?_⟩
  have z11 := same_new nu6 (.lst (cutV (row.map V.int) none (some 15)))
  have hu6 := upd_same (H := X10) (a := u6) (o := .lst (cutV (row.map V.int) none (some 15)))
  have ht := z11 _ _ ht
  have hp := z11 _ _ hp
  have hbv := hbv.same z11
  have ru1 := ru1.same z11
  have ru2 := ru2.same z11
  have ru3 := ru3.same z11
  have hr1 := z11 _ _ hr1
  have ru5 := ru5.same z11
  have sH := sH.trans z11
  generalize upd X10 u6 (.lst (cutV (row.map V.int) none (some 15))) = X11 at z11 hu6 ht hp hbv ru1 ru2 ru3 hr1 ru5 sH ⊢
  refine ⟨_, _, rfl, rfl, ⟨by decide, by decide, by decide⟩, (by show 1 ≤ sizeLine; decide), fun l2 nl2 => ?_⟩
  have z12 := same_new nl2 (.lst [.int ((10 : Int) ^ (9 : Int).toNat)])
  have hl2 := upd_same (H := X11) (a := l2) (o := .lst [.int ((10 : Int) ^ (9 : Int).toNat)])
  have ht := z12 _ _ ht
  have hp := z12 _ _ hp
  have hbv := hbv.same z12
  have ru1 := ru1.same z12
  have ru2 := ru2.same z12
  have ru3 := ru3.same z12
  have hr1 := z12 _ _ hr1
  have ru5 := ru5.same z12
  have hu6 := z12 _ _ hu6
  have sH := sH.trans z12
  generalize upd X11 l2 (.lst [.int ((10 : Int) ^ (9 : Int).toNat)]) = X12 at z12 hl2 ht hp hbv ru1 ru2 ru3 hr1 ru5 hu6 sH ⊢
  refine ⟨u6, l2, _, _, rfl, rfl, hu6, hl2, small (by simp only [List.length_map, e15l, e1l, List.length_cons, List.length_nil]; omega), fun u7 nu7 => ?_⟩
  have z13 := same_new nu7 (.lst (cutV (row.map V.int) none (some 15) ++ [.int ((10 : Int) ^ (9 : Int).toNat)]))
  have hu7 := upd_same (H := X12) (a := u7) (o := .lst (cutV (row.map V.int) none (some 15) ++ [.int ((10 : Int) ^ (9 : Int).toNat)]))
  have ht := z13 _ _ ht
  have hp := z13 _ _ hp
  have hbv := hbv.same z13
  have ru1 := ru1.same z13
  have ru2 := ru2.same z13
  have ru3 := ru3.same z13
  have hr1 := z13 _ _ hr1
  have ru5 := ru5.same z13
  have hu6 := z13 _ _ hu6
  have hl2 := z13 _ _ hl2
  have sH := sH.trans z13
  generalize upd X12 u7 (.lst (cutV (row.map V.int) none (some 15) ++ [.int ((10 : Int) ^ (9 : Int).toNat)])) = X13 at z13 hu7 ht hp hbv ru1 ru2 ru3 hr1 ru5 hu6 hl2 sH ⊢
  have ru7 : RS X13 (.ref u7) := rs_list hu7 (by simp only [List.length_append, List.length_map, e15l, e1l, List.length_cons, List.length_nil]; omega) (by exact sc_app (sc_cut15 row) (by intro x hx; rw [List.mem_singleton.mp hx]; exact trivial))
  refine ⟨(by show 2 ≤ sizeLine; decide), fun r2 nr2 => ?_⟩
  have z14 := same_new nr2 (.lst [.ref u5, .ref u7])
  have hr2 := upd_same (H := X13) (a := r2) (o := .lst [.ref u5, .ref u7])
  have ht := z14 _ _ ht
  have hp := z14 _ _ hp
  have hbv := hbv.same z14
  have ru1 := ru1.same z14
  have ru2 := ru2.same z14
  have ru3 := ru3.same z14
  have hr1 := z14 _ _ hr1
  have ru5 := ru5.same z14
  have ru7 := ru7.same z14
  have sH := sH.trans z14
  generalize upd X13 r2 (.lst [.ref u5, .ref u7]) = X14 at z14 hr2 ht hp hbv ru1 ru2 ru3 hr1 ru5 ru7 sH ⊢
  refine ⟨r1, r2, _, _, rfl, rfl, hr1, hr2, (by show 6 ≤ sizeLine; decide), fun r3 nr3 => ?_⟩
  have z15 := same_new nr3 (.lst ([.ref u1, .ref u2, .ref u3, .non] ++ [.ref u5, .ref u7]))
  have hr3 := upd_same (H := X14) (a := r3) (o := .lst ([.ref u1, .ref u2, .ref u3, .non] ++ [.ref u5, .ref u7]))
  have ht := z15 _ _ ht
  have hp := z15 _ _ hp
  have hbv := hbv.same z15
  have ru1 := ru1.same z15
  have ru2 := ru2.same z15
  have ru3 := ru3.same z15
  have hr1 := z15 _ _ hr1
  have ru5 := ru5.same z15
  have ru7 := ru7.same z15
  have hr2 := z15 _ _ hr2
  have sH := sH.trans z15
  generalize upd X14 r3 (.lst ([.ref u1, .ref u2, .ref u3, .non] ++ [.ref u5, .ref u7])) = X15 at z15 hr3 ht hp hbv ru1 ru2 ru3 hr1 ru5 ru7 hr2 sH ⊢
  refine ⟨_, rfl, (by show 1 ≤ sizeLine; decide), fun l3 nl3 => ?_⟩
  have z16 := same_new nl3 (.lst [.bl true])
  have hl3 := upd_same (H := X15) (a := l3) (o := .lst [.bl true])
  have ht := z16 _ _ ht
  have hp := z16 _ _ hp
  have hbv := hbv.same z16
  have ru1 := ru1.same z16
  have ru2 := ru2.same z16
  have ru3 := ru3.same z16
  have ru5 := ru5.same z16
  have ru7 := ru7.same z16
  have hr3 := z16 _ _ hr3
  have sH := sH.trans z16
  generalize upd X15 l3 (.lst [.bl true]) = X16 at z16 hl3 ht hp hbv ru1 ru2 ru3 ru5 ru7 hr3 sH ⊢
  refine ⟨_, rfl, _, rfl, p, _, rfl, SqL.of hp, fun u8 nu8 => ?_⟩
  have z17 := same_new nu8 (.lst (cutV (row.map V.int) (some 1) none))
  have hu8 := upd_same (H := X16) (a := u8) (o := .lst (cutV (row.map V.int) (some 1) none))
  have ht := z17 _ _ ht
  have hp := z17 _ _ hp
  have hbv := hbv.same z17
  have ru1 := ru1.same z17
  have ru2 := ru2.same z17
  have ru3 := ru3.same z17
  have ru5 := ru5.same z17
  have ru7 := ru7.same z17
  have hr3 := z17 _ _ hr3
  have hl3 := z17 _ _ hl3
  have sH := sH.trans z17
  generalize upd X16 u8 (.lst (cutV (row.map V.int) (some 1) none)) = X17 at z17 hu8 ht hp hbv ru1 ru2 ru3 ru5 ru7 hr3 hl3 sH ⊢
  refine ⟨l3, u8, _, _, rfl, rfl, hl3, hu8, small (by simp only [List.length_map, e15l, e1l, List.length_cons, List.length_nil]; omega), fun u9 nu9 => ?_⟩
  have z18 := same_new nu9 (.lst ([.bl true] ++ cutV (row.map V.int) (some 1) none))
  have hu9 := upd_same (H := X17) (a := u9) (o := .lst ([.bl true] ++ cutV (row.map V.int) (some 1) none))
  have ht := z18 _ _ ht
  have hp := z18 _ _ hp
  have hbv := hbv.same z18
  have ru1 := ru1.same z18
  have ru2 := ru2.same z18
  have ru3 := ru3.same z18
  have ru5 := ru5.same z18
  have ru7 := ru7.same z18
  have hr3 := z18 _ _ hr3
  have hl3 := z18 _ _ hl3
  have hu8 := z18 _ _ hu8
  have sH := sH.trans z18
  generalize upd X17 u9 (.lst ([.bl true] ++ cutV (row.map V.int) (some 1) none)) = X18 at z18 hu9 ht hp hbv ru1 ru2 ru3 ru5 ru7 hr3 hl3 hu8 sH ⊢
  have ru9 : RS X18 (.ref u9) := rs_list hu9 (by simp only [List.length_append, List.length_map, e15l, e1l, List.length_cons, List.length_nil]; omega) (by exact sc_app (by intro x hx; rw [List.mem_singleton.mp hx]; exact trivial) (sc_cut1 row))
  refine ⟨_, rfl, _, rfl, p, _, rfl, SqL.of hp, fun u10 nu10 => ?_⟩
  have z19 := same_new nu10 (.lst (cutV (row.map V.int) none (some 15)))
  have hu10 := upd_same (H := X18) (a := u10) (o := .lst (cutV (row.map V.int) none (some 15)))
  have ht := z19 _ _ ht
  have hp := z19 _ _ hp
  have hbv := hbv.same z19
  have ru1 := ru1.same z19
  have ru2 := ru2.same z19
  have ru3 := ru3.same z19
  have ru5 := ru5.same z19
  have ru7 := ru7.same z19
  have hr3 := z19 _ _ hr3
  have ru9 := ru9.same z19
  have sH := sH.trans z19
  generalize upd X18 u10 (.lst (cutV (row.map V.int) none (some 15))) = X19 at z19 hu10 ht hp hbv ru1 ru2 ru3 ru5 ru7 hr3 ru9 sH ⊢
  refine ⟨(by show 1 ≤ sizeLine; decide), fun l4 nl4 => ?_⟩
  have z20 := same_new nl4 (.lst [.str "1"])
  have hl4 := upd_same (H := X19) (a := l4) (o := .lst [.str "1"])
  have ht := z20 _ _ ht
  have hp := z20 _ _ hp
  have hbv := hbv.same z20
  have ru1 := ru1.same z20
  have ru2 := ru2.same z20
  have ru3 := ru3.same z20
  have ru5 := ru5.same z20
  have ru7 := ru7.same z20
  have hr3 := z20 _ _ hr3
  have ru9 := ru9.same z20
  have hu10 := z20 _ _ hu10
  have sH := sH.trans z20
  generalize upd X19 l4 (.lst [.str "1"]) = X20 at z20 hl4 ht hp hbv ru1 ru2 ru3 ru5 ru7 hr3 ru9 hu10 sH ⊢
  refine ⟨u10, l4, _, _, rfl, rfl, hu10, hl4, small (by simp only [List.length_map, e15l, e1l, List.length_cons, List.length_nil]; omega), fun u11 nu11 => ?_⟩
  have z21 := same_new nu11 (.lst (cutV (row.map V.int) none (some 15) ++ [.str "1"]))
  have hu11 := upd_same (H := X20) (a := u11) (o := .lst (cutV (row.map V.int) none (some 15) ++ [.str "1"]))
  have ht := z21 _ _ ht
  have hp := z21 _ _ hp
  have hbv := hbv.same z21
  have ru1 := ru1.same z21
  have ru2 := ru2.same z21
  have ru3 := ru3.same z21
  have ru5 := ru5.same z21
  have ru7 := ru7.same z21
  have hr3 := z21 _ _ hr3
  have ru9 := ru9.same z21
  have hu10 := z21 _ _ hu10
  have hl4 := z21 _ _ hl4
  have sH := sH.trans z21
  generalize upd X20 u11 (.lst (cutV (row.map V.int) none (some 15) ++ [.str "1"])) = X21 at z21 hu11 ht hp hbv ru1 ru2 ru3 ru5 ru7 hr3 ru9 hu10 hl4 sH ⊢
  have ru11 : RS X21 (.ref u11) := rs_list hu11 (by simp only [List.length_append, List.length_map, e15l, e1l, List.length_cons, List.length_nil]; omega) (by exact sc_app (sc_cut15 row) (by intro x hx; rw [List.mem_singleton.mp hx]; exact (by show (PyData.str "1").canLay0 = true; decide +kernel)))
  refine ⟨_, rfl, _, rfl, p, _, rfl, SqL.of hp, fun u12 nu12 => ?_⟩
  have z22 := same_new nu12 (.lst (cutV (row.map V.int) none (some 15)))
  have hu12 := upd_same (H := X21) (a := u12) (o := .lst (cutV (row.map V.int) none (some 15)))
  have ht := z22 _ _ ht
  have hp := z22 _ _ hp
  have hbv := hbv.same z22
  have ru1 := ru1.same z22
  have ru2 := ru2.same z22
  have ru3 := ru3.same z22
  have ru5 := ru5.same z22
  have ru7 := ru7.same z22
  have hr3 := z22 _ _ hr3
  have ru9 := ru9.same z22
  have ru11 := ru11.same z22
  have sH := sH.trans z22
  generalize upd X21 u12 (.lst (cutV (row.map V.int) none (some 15))) = X22 at z22 hu12 ht hp hbv ru1 ru2 ru3 ru5 ru7 hr3 ru9 ru11 sH ⊢
  refine ⟨(by show 1 ≤ sizeLine; decide), fun l5 nl5 => ?_⟩
  have z23 := same_new nl5 (.lst [.non])
  have hl5 := upd_same (H := X22) (a := l5) (o := .lst [.non])
  have ht := z23 _ _ ht
  have hp := z23 _ _ hp
  have hbv := hbv.same z23
  have ru1 := ru1.same z23
  have ru2 := ru2.same z23
  have ru3 := ru3.same z23
  have ru5 := ru5.same z23
  have ru7 := ru7.same z23
  have hr3 := z23 _ _ hr3
  have ru9 := ru9.same z23
  have ru11 := ru11.same z23
  have hu12 := z23 _ _ hu12
  have sH := sH.trans z23
  generalize upd X22 l5 (.lst [.non]) = X23 at z23 hl5 ht hp hbv ru1 ru2 ru3 ru5 ru7 hr3 ru9 ru11 hu12 sH ⊢
  refine ⟨u12, l5, _, _, rfl, rfl, hu12, hl5, small (by simp only [List.length_map, e15l, e1l, List.length_cons, List.length_nil]; omega), fun u13 nu13 => ?_⟩
  have z24 := same_new nu13 (.lst (cutV (row.map V.int) none (some 15) ++ [.non]))
  have hu13 := upd_same (H := X23) (a := u13) (o := .lst (cutV (row.map V.int) none (some 15) ++ [.non]))
  have ht := z24 _ _ ht
  have hp := z24 _ _ hp
  have hbv := hbv.same z24
  have ru1 := ru1.same z24
  have ru2 := ru2.same z24
  have ru3 := ru3.same z24
  have ru5 := ru5.same z24
  have ru7 := ru7.same z24
  have hr3 := z24 _ _ hr3
  have ru9 := ru9.same z24
  have ru11 := ru11.same z24
  have hu12 := z24 _ _ hu12
  have hl5 := z24 _ _ hl5
  have sH := sH.trans z24
  generalize upd X23 u13 (.lst (cutV (row.map V.int) none (some 15) ++ [.non])) = X24 at z24 hu13 ht hp hbv ru1 ru2 ru3 ru5 ru7 hr3 ru9 ru11 hu12 hl5 sH ⊢
  have ru13 : RS X24 (.ref u13) := rs_list hu13 (by simp only [List.length_append, List.length_map, e15l, e1l, List.length_cons, List.length_nil]; omega) (by exact sc_app (sc_cut15 row) (by intro x hx; rw [List.mem_singleton.mp hx]; exact trivial))
  refine ⟨(by show 3 ≤ sizeLine; decide), fun r4 nr4 => ?_⟩
  have z25 := same_new nr4 (.lst [.ref u9, .ref u11, .ref u13])
  have hr4 := upd_same (H := X24) (a := r4) (o := .lst [.ref u9, .ref u11, .ref u13])
  have ht := z25 _ _ ht
  have hp := z25 _ _ hp
  have hbv := hbv.same z25
  have ru1 := ru1.same z25
  have ru2 := ru2.same z25
  have ru3 := ru3.same z25
  have ru5 := ru5.same z25
  have ru7 := ru7.same z25
  have hr3 := z25 _ _ hr3
  have ru9 := ru9.same z25
  have ru11 := ru11.same z25
  have ru13 := ru13.same z25
  have sH := sH.trans z25
  generalize upd X24 r4 (.lst [.ref u9, .ref u11, .ref u13]) = X25 at z25 hr4 ht hp hbv ru1 ru2 ru3 ru5 ru7 hr3 ru9 ru11 ru13 sH ⊢
  refine ⟨r3, r4, _, _, rfl, rfl, hr3, hr4, (by show 9 ≤ sizeLine; decide), fun r5 nr5 => ?_⟩
  have z26 := same_new nr5 (.lst (([.ref u1, .ref u2, .ref u3, .non] ++ [.ref u5, .ref u7]) ++ [.ref u9, .ref u11, .ref u13]))
  have hr5 := upd_same (H := X25) (a := r5) (o := .lst (([.ref u1, .ref u2, .ref u3, .non] ++ [.ref u5, .ref u7]) ++ [.ref u9, .ref u11, .ref u13]))
  have ht := z26 _ _ ht
  have hp := z26 _ _ hp
  have hbv := hbv.same z26
  have ru1 := ru1.same z26
  have ru2 := ru2.same z26
  have ru3 := ru3.same z26
  have ru5 := ru5.same z26
  have ru7 := ru7.same z26
  have hr3 := z26 _ _ hr3
  have ru9 := ru9.same z26
  have ru11 := ru11.same z26
  have ru13 := ru13.same z26
  have hr4 := z26 _ _ hr4
  have sH := sH.trans z26
  generalize upd X25 r5 (.lst (([.ref u1, .ref u2, .ref u3, .non] ++ [.ref u5, .ref u7]) ++ [.ref u9, .ref u11, .ref u13])) = X26 at z26 hr5 ht hp hbv ru1 ru2 ru3 ru5 ru7 hr3 ru9 ru11 ru13 hr4 sH ⊢
  obtain ⟨rv, erv, hrv⟩ := row_pick (c := c / 60 % 9) ru1 ru2 ru3 ru5 ru7 ru9 ru11 ru13 (Int.emod_nonneg _ (by decide)) (Int.emod_lt_of_pos _ (by decide))
  refine ⟨_, rfl, _, rfl, _, _, rfl, rfl, ⟨by decide, by decide⟩, _, _, rfl, rfl, (by show (0 : Int) < 9; decide), r5, _, _, rv, rfl, rfl, SqL.of hr5, erv, ?_⟩
  have rp : RS X26 (.ref p) := rs_list hp (by rw [List.length_map]; omega) (sc_ints row)
  have fin : ∀ (b r : V) (t' : Addr), BlkS X26 b → RS X26 r → X26 t' = none → Q (.ref t') (upd X26 t' (.tup [b, r])) := fun b r t' hb ⟨ok, hr'⟩ nt => q t' (b, r, ok) _ (sH.free nt) (sH.trans (same_new nt _)) ⟨upd_same, hb.same (same_new nt _), hr'.same (same_new nt _)⟩
  refine ⟨_, rfl, _, _, rfl, rfl, (by show (0 : Int) < 3; decide), rfl, _, rfl, ite2 (fun _ => ?_) (fun _ => ?_)⟩
  · exact ⟨_, rfl, _, rfl, (by show 2 ≤ sizeLine; decide), fun t' nt => fin _ _ t' hbv rp nt⟩
  refine ⟨_, rfl, _, _, rfl, rfl, (by show (0 : Int) < 3; decide), rfl, _, rfl, ite2 (fun _ => ?_) (fun _ => ?_)⟩
  · exact ⟨_, rfl, t, _, 0, .int hm, rfl, rfl, SqT.of ht, rfl, _, rfl, (by show 2 ≤ sizeLine; decide), fun t' nt => fin _ _ t' (.inl trivial) hrv nt⟩
  · exact ⟨_, rfl, _, rfl, (by show 2 ≤ sizeLine; decide), fun t' nt => fin _ _ t' hbv hrv nt⟩
end
end K7
end
section
set_option Elab.async false
set_option linter.all false
set_option maxRecDepth 100000
set_option maxHeartbeats 4000000
namespace K7
open PySem L2 BK
section
variable {P : Program} {w : World} {K : PySem.W.Frag} {mg : Str → Option Value} {base : Heap} {f : Addr} {fd : FuncData} {a : Ad}
/-! ### _law_commits -/
theorem cm01 (b : Bool) : -(2 ^ 64 : Int) < (if b = true then (1 : Int) else 0) ∧ (if b = true then (1 : Int) else 0) < (2 ^ 64 : Int) := by cases b <;> decide
theorem ints_of_good : ∀ {xs : List V}, xs.all goodV = true → ∃ row : List Int, xs = row.map V.int ∧ ∀ r ∈ row, 0 ≤ r ∧ r ≤ 999999999
  | [], _ => ⟨[], rfl, fun r hr => by cases hr⟩
  | x :: xs, h => by
    rw [List.all_cons, Bool.and_eq_true] at h
    obtain ⟨row, e, g⟩ := ints_of_good h.2
    obtain ⟨i, rfl, h1, h2⟩ := whole_int h.1
    refine ⟨i :: row, by rw [e]; rfl, fun r hr => ?_⟩
    rcases List.mem_cons.mp hr with z | z
    · rw [z]; exact ⟨h1, h2⟩
    · exact g r z
theorem good_of {H : Hp} {m : Nat} : ∀ {L : List (V × V × Bool)} {ts : List Addr} {hd : Option Int}, PrsS H ts L → wrong m hd L = none → ∃ (rs : List Addr) (G : List (Nat × List Int)), PL H ts rs G ∧ Rises m hd G ∧ (∀ x ∈ G, GoodRow x.2) ∧ G.length = L.length
  | [], [], _, _, _ => ⟨[], [], ⟨rfl, rfl, fun i b1 b2 b3 => absurd b3 (Nat.not_lt_zero _)⟩, trivial, fun x hx => (by cases hx), rfl⟩
  | [], t :: ts, _, h, _ => by cases h.1
  | x :: L, [], _, h, _ => by cases h.1
  | (v, r, ok) :: L, t :: ts, hd, h, hw => by
    obtain ⟨p1, p2, p3⟩ := h.2 0 t (v, r, ok) rfl rfl
    have hv : wholeV v 17 ((m : Int) - 1) = true := by
      cases e : wholeV v 17 ((m : Int) - 1) with
      | true => rfl
      | false => rw [wrong_v e] at hw; cases hw
    obtain ⟨i, rfl, h1, h2⟩ := whole_int hv
    rw [wrong_i hv] at hw
    have hb : beh hd i = false := by cases e : beh hd i with | true => rw [e] at hw; cases hw | false => rfl
    rw [hb, if_neg Bool.false_ne_true] at hw
    have hok : ok = true := by cases ok with | true => rfl | false => cases hw
    subst hok
    rw [if_pos rfl] at hw
    obtain ⟨rs, G, ⟨g1, g2, g3⟩, g4, g5, g6⟩ := good_of (ts := ts) (L := L) ⟨by have := h.1; simpa using this, fun i t x e1 e2 => h.2 (i + 1) t x e1 e2⟩ hw
    rcases p3 with ⟨_, z⟩ | ⟨_, _, _, _, _, z⟩ | ⟨p, xs, rfl, y2, _, _, y5⟩
    · cases z
    · cases z
    have y5' : (decide (xs.length = 16) && xs.all goodV) = true := y5.symm
    rw [Bool.and_eq_true, decide_eq_true_iff] at y5'
    obtain ⟨row, rfl, gr⟩ := ints_of_good y5'.2
    have ei : ((i.toNat : Nat) : Int) = i := by omega
    refine ⟨p :: rs, (i.toNat, row) :: G, ⟨by simp [g1], by simp [g2], fun k b1 b2 b3 => ?_⟩, ⟨?_, ?_, ?_, ?_⟩, fun x hx => ?_, by simp [g6]⟩
    · cases k with
      | zero => exact ⟨by show H t = some (.tup [V.int ((i.toNat : Nat) : Int), .ref p]); rw [ei]; exact p1, y2⟩
      | succ k => exact g3 k (by simpa using b1) (by simpa using b2) (by simpa using b3)
    · show 17 ≤ i.toNat; omega
    · show ((i.toNat : Nat) : Int) ≤ (m : Int) - 1; omega
    · intro j hj
      subst hj
      have : ¬ i ≤ j := of_decide_eq_false hb
      show j < ((i.toNat : Nat) : Int)
      omega
    · show Rises m (some ((i.toNat : Nat) : Int)) G
      rw [ei]; exact g4
    · rcases List.mem_cons.mp hx with z | z
      · rw [z]; exact ⟨by rw [List.length_map] at y5'; exact y5'.1, gr⟩
      · exact g5 x z
def PA (H : Hp) (ts : List Addr) : Prop := ∀ t ∈ ts, ∃ x, PrS H t x
theorem PA.same {H H' : Hp} {ts : List Addr} (h : PA H ts) (s : Same H H') : PA H' ts := fun t ht => let ⟨x, z⟩ := h t ht; ⟨x, z.same s⟩
theorem PA.prs {H : Hp} : ∀ {ts : List Addr}, PA H ts → ∃ L, PrsS H ts L
  | [], _ => ⟨[], rfl, fun i t x e1 e2 => by cases e2⟩
  | t :: ts, h => by
    obtain ⟨x, hx⟩ := h t (List.mem_cons_self ..)
    obtain ⟨L, e, hL⟩ := PA.prs (ts := ts) fun y hy => h y (List.mem_cons_of_mem _ hy)
    refine ⟨x :: L, by simp [e], fun i t' x' e1 e2 => ?_⟩
    cases i with
    | zero => cases e1; cases e2; exact hx
    | succ i => exact hL i t' x' e1 e2
/-- the pairs that the law began with -/
def GP (H : Hp) (ts : List Addr) : Prop := ∀ t ∈ ts, ∃ (r : Addr) (hm : Int) (row : List Int), H t = some (.tup [.int hm, .ref r]) ∧ H r = some (.lst (row.map V.int)) ∧ row.length = 16
theorem GP.same {H H' : Hp} {ts : List Addr} (h : GP H ts) (s : Same H H') : GP H' ts := fun t ht => let ⟨r, hm, row, z1, z2, z3⟩ := h t ht; ⟨r, hm, row, s _ _ z1, s _ _ z2, z3⟩
theorem GP.pa {H : Hp} {ts : List Addr} (h : GP H ts) : PA H ts := fun t ht => by
  obtain ⟨r, hm, row, z1, z2, z3⟩ := h t ht
  exact ⟨(.int hm, .ref r, _), z1, .inl trivial, .inr (.inr ⟨r, _, rfl, z2, by rw [List.length_map]; omega, sc_ints row, rfl⟩)⟩
theorem at_list {ts : List Addr} {j : Int} (h1 : -1 ≤ j) (h2 : j < ts.length) (h0 : 0 < ts.length) : ∃ t ∈ ts, atI (ts.map V.ref) j = some (.ref t) := by
  obtain ⟨k, hk, e⟩ : ∃ k : Nat, k < ts.length ∧ ixN (ts.map V.ref).length j = some k := by
    rw [List.length_map]
    unfold ixN
    by_cases z : 0 ≤ j
    · exact ⟨j.toNat, by omega, by rw [if_pos z, if_pos (by omega)]⟩
    · exact ⟨(j + (ts.length : Nat)).toNat, by omega, by rw [if_neg z, if_pos (by omega)]⟩
  refine ⟨ts[k], List.getElem_mem hk, ?_⟩
  unfold atI
  rw [e]
  show (ts.map V.ref)[k]? = _
  rw [List.getElem?_map, List.getElem?_eq_getElem hk]
  rfl
def spCommits (K : PySem.W.Frag) (a : Ad) : Sp := fun vs H Q _ => ∃ (sc d kr : Addr) (ns : List Int) (S : DS), vs = [.ref sc, .ref d] ∧ SqL K H sc (ns.map V.int) ∧ DkAt a.cDisk H d kr S ∧ S.l = none ∧ S.n = 0 ∧ ∀ H', Q (.bl true) H'
theorem ok__law_commits (F : Fun K "_law_commits" "_law_commits" s__law_commits f fd) (T : Txt K mg a) (M_Disk_blocks : Mf P w K mg base (CXE P w) 1 a.f_blocks ["self"] (spBlocks K a)) (D__law_homes : Df P w K mg base (CXE P w) 2 "_law_homes" ["_law_script", "_law_many", "_law_count"] (spHomesL K a)) (D__law_due : Df P w K mg base (CXE P w) 2 "_law_due" ["_law_pairs", "_law_many"] (spDueL K a)) (D_commit : Df P w K mg base (CXE P w) 7 "commit" ["disk", "pairs"] (spCommit K a)) (D__law_cell_at : Df P w K mg base CX0 1 "_law_cell_at" ["_law_script", "_law_k"] (spCell K a)) (D__law_row : Df P w K mg base CX0 1 "_law_row" ["_law_cell"] (spRowL K a)) (M_Disk_read : Mf P w K mg base (CXE P w) 3 a.f_read ["self", "block"] (spRead K a)) (D__law_word : Df P w K mg base CX0 1 "_law_word" ["_law_e"] (spWordL K a)) (M_Disk_writes : Mf P w K mg base (CXE P w) 1 a.f_writes ["self"] (spWrites K a)) (D__law_odd_pair : Df P w K mg base (CXE P w) 1 "_law_odd_pair" ["_law_pair", "_law_cell", "_law_many", "_law_ahead"] (spOddPair K a)) : FnOk P w K mg base (CXE P w) 8 f fd ["_law_script", "_law_disk"] (spCommits K a) := by
  obtain ⟨_, G_blocks, b_blocks⟩ := M_Disk_blocks
  obtain ⟨_, _, Gl_homes, bl_homes, kl_homes, ml_homes⟩ := D__law_homes
  obtain ⟨_, _, Gl_due, bl_due, kl_due, ml_due⟩ := D__law_due
  obtain ⟨_, _, Gcommit, bcommit, kcommit, mcommit⟩ := D_commit
  obtain ⟨_, _, Gl_cell_at, bl_cell_at, kl_cell_at, ml_cell_at⟩ := D__law_cell_at
  obtain ⟨_, _, Gl_row, bl_row, kl_row, ml_row⟩ := D__law_row
  obtain ⟨_, G_read, b_read⟩ := M_Disk_read
  obtain ⟨_, _, Gl_word, bl_word, kl_word, ml_word⟩ := D__law_word
  obtain ⟨_, G_writes, b_writes⟩ := M_Disk_writes
  obtain ⟨_, _, Gl_odd_pair, bl_odd_pair, kl_odd_pair, ml_odd_pair⟩ := D__law_odd_pair
  have nd := sc__law_commits.nd
  refine F.okE sc__law_commits (fun vs H Q E h => ?_) (fun cdv A outer s H vs Q E hr hA h => ?_)
  · obtain ⟨sc, d, kr, ns, S, rfl, _⟩ := h
    rfl
  obtain ⟨sc, d, kr, ns, S, rfl, hS, D, hl, hn0, q⟩ := h
  refine ⟨_, (pss_cons (ps_set (i := 2) nd rfl (by first | exact Or.inl rfl | exact Or.inr rfl) (pe_meth0 (pv 1) T.clDisk T.m_blocks G_blocks (hr.mono (by decide)) b_blocks .nil (passes_fn (fun _ _ _ h => h)) (hcm := (.inr hA))))
    (pss_cons (ps_set (i := 3) nd rfl (by first | exact Or.inl rfl | exact Or.inr rfl) (pe_call Gl_homes (hr.mono (by decide)) rfl ml_homes kl_homes bl_homes .nil (passes_fn (fun _ _ _ h => h)) (pa_cons (pv 0) (pa_cons (pv 2) (pa_cons (pe_op op_mod (pe_call Gl_cell_at (hr.mono (by decide)) rfl ml_cell_at kl_cell_at bl_cell_at .nil pass0 (pa_cons (pv 0) (pa_cons pe_int pa_nil))) pe_int) pa_nil))) (hcm := (.inr hA))))
    (pss_cons (ps_setLc (j := 4) (cl := [("_law_script", s.heap.objs.size + 1)]) (fj := [("_law_script", 0)]) (by exact LcOk.of ["_law_script"] rfl (by decide +kernel) rfl (by decide +kernel) rfl (fun p h => (by rw [List.mem_singleton.mp h]; rfl)) rfl (by decide +kernel) (fun p h => (by rw [List.mem_singleton.mp h]; exact ⟨rfl, rfl, .inl rfl⟩)) (by decide +kernel)) rfl nd rfl (by first | exact Or.inl rfl | exact Or.inr rfl) (pi_list (pv 3)) (fun _ _ _ => pf_nil) (fun _ _ _ => (pe_tup (pa_cons (pv 0) (pa_cons (pe_call Gl_row (hr.mono (by decide)) rfl ml_row kl_row bl_row .nil pass0 (pa_cons (pe_call Gl_cell_at (hr.mono (by decide)) rfl ml_cell_at kl_cell_at bl_cell_at .nil pass0 (pa_cons (pv 1) (pa_cons (pe_op op_add pe_int (pe_op op_mod (pv 0) pe_int)) pa_nil))) pa_nil)) pa_nil)))))
    (pss_cons (ps_set (i := 5) nd rfl (by first | exact Or.inl rfl | exact Or.inr rfl) (pe_callTy call_list_of rfl T.list bt_list (pa_cons (pv 4) pa_nil)))
    (pss_cons (ps_for PassesOwn.leaving rfl (pi_range1 rfl T.range (pa_cons (pe_op op_mod (pe_call Gl_cell_at (hr.mono (by decide)) rfl ml_cell_at kl_cell_at bl_cell_at .nil pass0 (pa_cons (pv 0) (pa_cons pe_int pa_nil))) pe_int) pa_nil)) (pg_name (i := 6) nd rfl (by first | exact Or.inl rfl | exact Or.inr rfl)) (pss_one (ps_if (pt_cmpR (op_neD hr.units) (pv 4) (pe_lst pa_nil) (nomark _)) (pss_cons (ps_set (i := 7) nd rfl (by first | exact Or.inl rfl | exact Or.inr rfl) (pe_call Gl_cell_at (hr.mono (by decide)) rfl ml_cell_at kl_cell_at bl_cell_at .nil pass0 (pa_cons (pv 0) (pa_cons (pe_op op_add pe_int (pv 6)) pa_nil))))
    (pss_cons (ps_set (i := 8) nd rfl (by first | exact Or.inl rfl | exact Or.inr rfl) (pe_op op_mod (pv 7) (pe_callB call_len_seq rfl T.len bt_len (pa_cons (pv 4) pa_nil))))
    (pss_cons (ps_set (i := 9) nd rfl (by first | exact Or.inl rfl | exact Or.inr rfl) (pe_ix (ix_tupK (K := K) rfl) (pe_ix ix_list (pv 5) (pe_op op_sub (pv 8) pe_int) (fun _ _ => rfl)) pe_int (fun _ _ => rfl)))
    (pss_one (ps_set (i := 4) nd rfl (by first | exact Or.inl rfl | exact Or.inr rfl) (pe_op op_cat (pe_op op_cat (pe_slice sl_list (pv 4) po_none (po_some (pv 8))) (pe_lst (pa_cons (pe_call Gl_odd_pair (hr.mono (by decide)) rfl ml_odd_pair kl_odd_pair bl_odd_pair .nil (passes_fn (fun _ _ _ h => h)) (pa_cons (pe_ix ix_list (pv 5) (pv 8) (fun _ _ => rfl)) (pa_cons (pe_op op_fdiv (pv 7) pe_int) (pa_cons (pv 2) (pa_cons (pv 9) pa_nil)))) (hcm := (.inr hA))) pa_nil))) (pe_slice sl_list (pv 4) (po_some (pe_op op_add (pv 8) pe_int)) po_none))))))) pss_nil)))
    (pss_cons (ps_setLc (j := 10) (cl := [("_law_disk", s.heap.objs.size + 2)]) (fj := [("_law_disk", 1)]) (by exact LcOk.of ["_law_disk"] rfl (by decide +kernel) rfl (by decide +kernel) rfl (fun p h => (by rw [List.mem_singleton.mp h]; rfl)) rfl (by decide +kernel) (fun p h => (by rw [List.mem_singleton.mp h]; exact ⟨rfl, rfl, .inl rfl⟩)) (by decide +kernel)) rfl nd rfl (by first | exact Or.inl rfl | exact Or.inr rfl) (pi_range1 rfl T.range (pa_cons (pv 2) pa_nil)) (fun _ _ _ => pf_nil) (fun _ _ _ => (pe_callTy (call_listK (K := K) rfl) rfl T.list bt_list (pa_cons (pe_meth (pv 1) T.clDisk T.m_read G_read (hr.mono (by decide)) b_read .nil passesE0 (pa_cons (pv 0) pa_nil) (hcm := (.inr hA))) pa_nil))))
    (pss_cons (ps_set (i := 11) nd rfl (by first | exact Or.inl rfl | exact Or.inr rfl) (pe_call Gl_due (hr.mono (by decide)) rfl ml_due kl_due bl_due .nil (passes_fn (fun _ _ _ h => h)) (pa_cons (pv 4) (pa_cons (pv 2) pa_nil)) (hcm := (.inr hA))))
    (pss_cons (ps_set (i := 12) nd rfl (by first | exact Or.inl rfl | exact Or.inr rfl) pe_str)
    (pss_cons (ps_try (i := 13) [] rfl rfl rfl rfl nd rfl rfl rfl T.mKeepError T.kKeepError (fun Ex pn fx xe hfx O => (pss_one (ps_expr (pe_call Gcommit (hr.mono (by decide)) rfl mcommit kcommit bcommit .nil (passes_out O rfl rfl) (pa_cons (pv 1) (pa_cons (pe_callTy (call_listK (K := K) rfl) rfl T.list bt_list (pa_cons (pv 4) pa_nil)) pa_nil)) (hcm := (.inr hA)))))) (fun e c pn => (pss_one (ps_set (i := 12) nd rfl (by first | exact Or.inl rfl | exact Or.inr rfl) (pe_call Gl_word (Room.mark (hr.mono (by decide))) rfl ml_word kl_word bl_word .nil pass0 (pa_cons (pv 13) pa_nil))))))
    (pss_cons (ps_if (pt_cmpR op_eq (pv 11) pe_str (nomark _)) (pss_one (ps_ret (pe_and (pe_cmpR op_eq (pv 12) pe_str (nomark _)) (pe_one (pe_cmpR op_eq (pe_meth0 (pv 1) T.clDisk T.m_writes G_writes (hr.mono (by decide)) b_writes .nil (passes_fn (fun _ _ _ h => h)) (hcm := (.inr hA))) (pe_op op_mul (pe_op op_add (pe_op op_mul pe_int (pe_callB call_len_seq rfl T.len bt_len (pa_cons (pv 4) pa_nil))) pe_int) (pe_callTy call_int1 rfl T.int bt_int (pa_cons (pe_cmpR (op_neD hr.units) (pv 4) (pe_lst pa_nil) (nomark _)) pa_nil))) (nomark _)))))) pss_nil)
    (pss_one (ps_ret (pe_and (pe_cmpR op_eq (pv 12) (pv 11) (nomark _)) (pe_and (pe_cmpR op_eq (pe_meth0 (pv 1) T.clDisk T.m_writes G_writes (hr.mono (by decide)) b_writes .nil (passes_fn (fun _ _ _ h => h)) (hcm := (.inr hA))) pe_int (nomark _)) (pe_one (pe_cmpR (op_eqD hr.units) (pe_lc (cl := [("_law_disk", s.heap.objs.size + 2)]) (fj := [("_law_disk", 1)]) (by exact LcOk.of ["_law_disk"] rfl (by decide +kernel) rfl (by decide +kernel) rfl (fun p h => (by rw [List.mem_singleton.mp h]; rfl)) rfl (by decide +kernel) (fun p h => (by rw [List.mem_singleton.mp h]; exact ⟨rfl, rfl, .inl rfl⟩)) (by decide +kernel)) rfl (pi_range1 rfl T.range (pa_cons (pv 2) pa_nil)) (fun _ _ _ => pf_nil) (fun _ _ _ => (pe_meth (pv 1) T.clDisk T.m_read G_read (hr.mono (by decide)) b_read .nil passesE0 (pa_cons (pv 0) pa_nil) (hcm := (.inr hA))))) (pv 10) (nomark _))))))))))))))))), ?_⟩
  have hlo : 24 ≤ S.R.length := D.lo
  have hhi : S.R.length ≤ 96 := D.hi
  obtain ⟨dx, d1⟩ := D.at
  refine ⟨_, rfl, d, dx, _, rfl, d1, rfl, d, kr, S.R, S.n, S.l, rfl, D, ?_⟩
  have hc0 := Int.emod_nonneg (cell ns 2) (show (18 : Int) ≠ 0 by decide)
  have hc1 := Int.emod_lt_of_pos (cell ns 2) (show (0 : Int) < 18 by decide)
  obtain ⟨n, en⟩ : ∃ n : Nat, cell ns 2 % 18 = (n : Int) := ⟨(cell ns 2 % 18).toNat, by omega⟩
  refine ⟨_, rfl, _, rfl, _, rfl, sc, ns, 2, rfl, hS, by decide, _, _, rfl, rfl, (by show (0 : Int) < 18; decide), sc, ns, n, S.R.length, by rw [← en]; rfl, hS, by omega, hlo, hhi, fun ho hs H1 s1 nho hho pw inn hln => ?_⟩
  -- the pairs
  refine ⟨_, rfl, ho, rfl, ⟨_, SqL.of hho⟩, lc_valsL (xs := hs.map V.int) (by rw [List.length_map]; omega) hho (fun acc H i v => ∃ (t r : Addr) (hm : Int) (row : List Int), v = .ref t ∧ t ≠ acc ∧ r ≠ acc ∧ H t = some (.tup [.int hm, .ref r]) ∧ H r = some (.lst (row.map V.int)) ∧ row.length = 16) ?_ ?_ ?_⟩
  · rintro acc H H' i v k ⟨t, r, hm, row, z1, z2, z3, z4, z5, z6⟩
    exact ⟨t, r, hm, row, z1, z2, z3, k _ _ z2 z4, k _ _ z3 z5, z6⟩
  · intro acc i v H2 Qf hx h0 s2 hna k
    obtain ⟨hm, hmem, rfl⟩ := List.mem_map.mp (List.mem_of_getElem? hx)
    have := inn hm hmem
    refine ⟨_, rfl, _, rfl, _, rfl, _, _, rfl, rfl, (by show (0 : Int) < 20; decide), _, _, rfl, rfl, sc, ns, _, rfl, (s1.trans s2).seq hS, by omega, _, rfl, fun r H3 nr s3 hr3 => ⟨(by show 2 ≤ sizeLine; decide), fun t nt => ?_⟩⟩
    have na : ∀ {H4 : Hp} {u : Addr}, Same H2 H4 → H4 u = none → u ≠ acc := fun s nu z => by
      cases e : H2 acc with
      | none => exact hna e
      | some o => rw [z, s _ _ e] at nu; cases nu
    exact k _ _ (s3.trans (same_new nt _)) ⟨t, r, hm, _, rfl, na s3 nt, na (Same.refl _) nr, upd_same, same_new nt _ _ _ hr3, (rowL_good _).1⟩
  intro ps vs H2 nps s2 hps hlv hg
  obtain ⟨ts, rfl, gp⟩ : ∃ ts : List Addr, vs = ts.map V.ref ∧ GP H2 ts := by
    refine ⟨vs.map fun v => match v with | .ref r => r | _ => 0, ?_, fun t ht => ?_⟩
    · rw [List.map_map]
      conv => lhs; rw [← List.map_id vs]
      refine List.map_congr_left fun v hv => ?_
      obtain ⟨i, hi, e⟩ := List.mem_iff_getElem.mp hv
      obtain ⟨t, r, hm, row, z1, _⟩ := hg i v (by rw [List.getElem?_eq_getElem hi, e])
      rw [z1]; rfl
    · obtain ⟨v, hv, e⟩ := List.mem_map.mp ht
      obtain ⟨i, hi, e'⟩ := List.mem_iff_getElem.mp hv
      obtain ⟨t', r, hm, row, z1, _, _, z4, z5, z6⟩ := hg i v (by rw [List.getElem?_eq_getElem hi, e'])
      rw [z1] at e
      cases e
      exact ⟨r, hm, row, z4, z5, z6⟩
  rw [List.length_map, List.length_map] at hlv
  refine ⟨_, rfl, ps, _, rfl, .inl (SqL.of hps), fun gl ngl => ?_⟩
  have t3 := same_new ngl (.lst (ts.map V.ref))
  have hgl := upd_same (H := H2) (a := gl) (o := .lst (ts.map V.ref))
  have hps3 := t3 _ _ hps
  have gp3 := gp.same t3
  have s3 := (s1.trans s2).trans t3
  generalize upd H2 gl (.lst (ts.map V.ref)) = H3 at t3 hgl hps3 gp3 s3 ⊢
  clear hg gp hps nps hho pw t3 ngl
  refine ⟨_, rfl, sc, ns, 3, rfl, s3.seq hS, by decide, _, _, rfl, rfl, (by show (0 : Int) < 3; decide), _, rfl, by omega, by omega, ?_⟩
  generalize (cell ns 3 % 3).toNat = nk
  refine for_range (n := nk) (fun i σ' H' => ∃ (ps : Addr) (ps' : List Addr) (o6 o7 o8 o9 : Option V), σ' = [some (.ref sc), some (.ref d), some (.int S.R.length), some (.ref ho), some (.ref ps), some (.ref gl), o6, o7, o8, o9, none, none, none, none] ∧ Same H3 H' ∧ H' ps = some (.lst (ps'.map V.ref)) ∧ PA H' ps' ∧ ps'.length = ts.length)
    ⟨ps, ts, none, none, none, none, rfl, Same.refl _, hps3, gp3.pa, rfl⟩ ?_ ?_
  · rintro i σ' H4 hi ⟨pr, rs, o6, o7, o8, o9, rfl, s4, hpr, pa, hlr⟩
    have s34 := s3.trans s4
    have hgl4 := s4 _ _ hgl
    have gp4 := gp3.same s4
    refine ⟨_, rfl, Nat.zero_le _, fun l5 n5 => ?_⟩
    have t5 := same_new n5 (.lst [])
    have hpr5 := t5 _ _ hpr
    have pa5 := pa.same t5
    have hgl5 := t5 _ _ hgl4
    have gp5 := gp4.same t5
    have s5 := s4.trans t5
    have s35 := s34.trans t5
    obtain ⟨L, hL⟩ := pa5.prs
    obtain ⟨ds, a1, a2, a3, a4⟩ := hL.dvs (K := K)
    refine ⟨.list ds, .list [], .lst (SqL.of hpr5) a1, .lst (SqL.of upd_same) .nil, shaped3 a2 (by omega), by decide +kernel, _, rfl, ?_⟩
    rw [eqv_nil]
    generalize upd H4 l5 (.lst []) = H5 at t5 hpr5 pa5 hgl5 gp5 s5 s35 ⊢
    by_cases hds : ds = []
    · exact iteF' (by rw [decide_eq_true hds]; rfl) ⟨pr, rs, _, _, _, _, rfl, s5, hpr5, pa5, hlr⟩
    have hpos : 0 < rs.length := by
      rw [← a4]
      exact List.length_pos_iff.mpr hds
    refine iteT' (by rw [decide_eq_false hds]; rfl) ?_
    refine ⟨_, rfl, _, rfl, _, _, rfl, rfl, sc, ns, _, rfl, s35.seq hS, by omega, ?_⟩
    generalize cell ns (4 + (0 + (i : Int))) = c
    refine ⟨_, rfl, _, rfl, pr, _, rfl, .inl (SqL.of hpr5), _, _, rfl, rfl, (by show (0 : Int) < ((rs.map V.ref).length : Int); rw [List.length_map]; omega), ?_⟩
    rw [List.length_map]
    have w0 := Int.emod_nonneg c (show ((rs.length : Nat) : Int) ≠ 0 by omega)
    have w1 := Int.emod_lt_of_pos c (show (0 : Int) < ((rs.length : Nat) : Int) by omega)
    dsimp (config := { proj := false, iota := false, eta := false, zeta := false }) only
    obtain ⟨at', ea⟩ : ∃ at' : Nat, c % ((rs.length : Nat) : Int) = (at' : Int) := ⟨(c % ((rs.length : Nat) : Int)).toNat, by omega⟩
    rw [ea] at w0 w1 ⊢
    obtain ⟨t1, m1, et1⟩ := at_list (ts := ts) (j := (at' : Int) - 1) (by omega) (by omega) (by omega)
    obtain ⟨t2, m2, et2⟩ := at_list (ts := ts) (j := (at' : Int)) (by omega) (by omega) (by omega)
    obtain ⟨r1, hm1, row1, x1, _⟩ := gp5 t1 m1
    refine ⟨_, rfl, _, rfl, _, _, rfl, rfl, gl, _, _, .ref t1, rfl, rfl, SqL.of hgl5, et1, t1, _, 0, .int hm1, rfl, rfl, SqT.of x1, rfl, ?_⟩
    refine ⟨_, rfl, _, rfl, _, rfl, pr, _, rfl, SqL.of hpr5, fun u1 nu1 => ?_⟩
    rw [cut_to, ← List.map_take]
    have t6 := same_new nu1 (.lst ((rs.take at').map V.ref))
    have hu1 := upd_same (H := H5) (a := u1) (o := .lst ((rs.take at').map V.ref))
    generalize upd H5 u1 (.lst ((rs.take at').map V.ref)) = H6 at t6 hu1 ⊢
    obtain ⟨r2, hm2, row2, x2, x3, x4⟩ := (gp5.same t6) t2 m2
    refine ⟨_, rfl, _, rfl, gl, _, _, .ref t2, rfl, rfl, SqL.of (t6 _ _ hgl5), et2, _, rfl, _, _, rfl, rfl, ⟨by decide, by decide⟩, _, rfl, _, rfl, t2, r2, hm2, _, hm1, row2, S.R.length, rfl, x2, x3, x4, fun t' x H7 nt' t7 hx => ?_⟩
    refine ⟨(by show 1 ≤ sizeLine; decide), fun l2 nl2 => ?_⟩
    have t8 := same_new nl2 (.lst [.ref t'])
    have hl2 := upd_same (H := H7) (a := l2) (o := .lst [.ref t'])
    generalize upd H7 l2 (.lst [.ref t']) = H8 at t8 hl2 ⊢
    have htk : (rs.take at').length ≤ 17 := by rw [List.length_take]; omega
    refine ⟨u1, l2, _, _, rfl, rfl, t8 _ _ (t7 _ _ hu1), hl2, small (by rw [List.length_map]; show (rs.take at').length + 1 ≤ 1000; omega), fun u2 nu2 => ?_⟩
    have t9 := same_new nu2 (.lst ((rs.take at').map V.ref ++ [.ref t']))
    have hu2 := upd_same (H := H8) (a := u2) (o := .lst ((rs.take at').map V.ref ++ [.ref t']))
    generalize upd H8 u2 (.lst ((rs.take at').map V.ref ++ [.ref t'])) = H9 at t9 hu2 ⊢
    have s59 := ((t6.trans t7).trans t8).trans t9
    refine ⟨_, rfl, _, rfl, _, _, rfl, rfl, _, rfl, pr, _, rfl, SqL.of (s59 _ _ hpr5), fun u3 nu3 => ?_⟩
    dsimp (config := { proj := false, iota := false, eta := false, zeta := false }) only
    rw [show (at' : Int) + 1 = ((at' + 1 : Nat) : Int) by omega, cut_from, ← List.map_drop]
    have t10 := same_new nu3 (.lst ((rs.drop (at' + 1)).map V.ref))
    refine ⟨u2, u3, _, _, rfl, rfl, t10 _ _ hu2, upd_same, small (by rw [List.length_append, List.length_map, List.length_map, List.length_drop]; show (rs.take at').length + 1 + _ ≤ 1000; omega), fun u4 nu4 => ?_⟩
    have el : ((rs.take at').map V.ref ++ [.ref t']) ++ (rs.drop (at' + 1)).map V.ref = ((rs.take at' ++ [t']) ++ rs.drop (at' + 1)).map V.ref := by rw [List.map_append, List.map_append]; rfl
    rw [el]
    have t11 := same_new nu4 (.lst (((rs.take at' ++ [t']) ++ rs.drop (at' + 1)).map V.ref))
    have s5A := (s59.trans t10).trans t11
    have s7A := ((t8.trans t9).trans t10).trans t11
    refine ⟨u4, (rs.take at' ++ [t']) ++ rs.drop (at' + 1), _, _, _, _, rfl, s5.trans s5A, upd_same, fun t ht => ?_, ?_⟩
    · rcases List.mem_append.mp ht with z | z
      · rcases List.mem_append.mp z with z | z
        · exact pa5.same s5A t (List.mem_of_mem_take z)
        · rw [List.mem_singleton.mp z]; exact ⟨x, hx.same s7A⟩
      · exact pa5.same s5A t (List.mem_of_mem_drop z)
    · rw [List.length_append, List.length_append, List.length_take, List.length_drop, List.length_singleton]
      omega
  clear hgl gp3 hps3 ps
  rintro σ' H4 ⟨pr, rs, o6, o7, o8, o9, rfl, s4, hpr, pa, hlr⟩
  have D4 := D.same (s3.trans s4)
  refine ⟨_, rfl, _, rfl, by omega, by omega, ?_⟩
  rw [show ((S.R.length : Int)).toNat = S.R.length by omega]
  refine lc_rows D4 (fun i H1 Qf hi s1 k => ?_) fun lr qs H5 nlr s5 hlr5 hRows _ => ?_
  · obtain ⟨x1, z1⟩ := (D4.same s1).at
    refine ⟨_, rfl, d, x1, _, rfl, z1, rfl, _, rfl, d, kr, S.R, S.n, S.l, _, rfl, D4.same s1, .int _, .inl ⟨i, S.R[i], by rw [Int.zero_add], List.getElem?_eq_getElem hi, fun u H4 nu s4 hu => ⟨u, _, rfl, .inl (SqL.of hu), fun p np => ?_⟩⟩⟩
    exact k p _ (s4.free np) (s4.trans (same_new np _)) upd_same
  obtain ⟨L, hL⟩ := (pa.same s5).prs
  refine ⟨_, rfl, _, rfl, pr, S.R.length, rs, L, rfl, s5 _ _ hpr, hL, fun H6 s6 => ?_⟩
  have hpr6 := s6 _ _ (s5 _ _ hpr)
  have hL6 := hL.same s6
  have D6 := (D4.same s5).same s6
  have hlr6 := s6 _ _ hlr5
  have hRows6 : RowsAt H6 qs S.R := hRows.chg (S := []) (Chg.of s6) (by simp)
  generalize hT : tSeq (tIfS (tTest (tOp rEq (tVar 11) _)) _ _) _ = TL
  refine ⟨_, rfl, _, rfl, pr, _, rfl, .inl (SqL.of hpr6), fun p2 np2 => ?_⟩
  have t6 := same_new np2 (.lst (rs.map V.ref))
  have bad : ∀ (j : Nat) (H7 : Hp), j < 4 → dueW S.R.length L = kw6 j → Same H6 H7 → TL { nx := fun _ H' => Q .non H', rt := Q } [some (.ref sc), some (.ref d), some (.int S.R.length), some (.ref ho), some (.ref pr), some (.ref gl), o6, o7, o8, o9, some (.ref lr), some (.str (dueW S.R.length L)), some (.str (kw6 j)), none] H7 := by
    intro j H7 hj ej s7
    rw [← hT, ej]
    have D7 := D6.same s7
    obtain ⟨dw, dw1⟩ := D7.at
    have hne : decide (V.str (kw6 j) = V.str "") = false := by
      rcases (show j = 0 ∨ j = 1 ∨ j = 2 ∨ j = 3 by omega) with z | z | z | z <;> (subst z; decide +kernel)
    refine ⟨_, rfl, rfl, _, rfl, iteF' hne ?_⟩
    refine ⟨_, rfl, _, rfl, rfl, _, rfl, iteT' (decide_eq_true rfl) ⟨_, rfl, d, dw, _, rfl, dw1, rfl, d, kr, _, _, _, rfl, D7, rfl, _, rfl, iteT' (by rw [dec_V]; exact decide_eq_true hn0) ?_⟩⟩
    refine ⟨_, rfl, _, rfl, by omega, by omega, ?_⟩
    rw [show ((S.R.length : Int)).toNat = S.R.length by omega]
    refine lc_rows D7 (fun i H1 Qf hi s1 k => ?_) fun l8 q8 H8 n8 s8 h8 hR8 _ => ?_
    · obtain ⟨x1, z1⟩ := (D7.same s1).at
      exact ⟨_, rfl, d, x1, _, rfl, z1, rfl, _, rfl, d, kr, S.R, S.n, S.l, _, rfl, D7.same s1, .int _, .inl ⟨i, S.R[i], by rw [Int.zero_add], List.getElem?_eq_getElem hi, fun u H4 nu s4 hu => k u _ nu s4 hu⟩⟩
    refine ⟨_, rfl, .list (S.R.map fun row => PyData.list (row.map PyData.int)), .list (S.R.map fun row => PyData.list (row.map PyData.int)), .lst (SqL.of h8) (dvs_rows hR8), .lst (SqL.of (s8 _ _ (s7 _ _ hlr6))) (dvs_rows (hRows6.chg (S := []) (Chg.of (s7.trans s8)) (by simp))), shaped_rows _, shaped_rows _, ?_⟩
    rw [eqv_same (shaped_rows _)]
    exact q _
  refine ⟨d, kr, p2, S, rfl, D6.same t6, ?_⟩
  have PK : PairsK K (upd H6 p2 (.lst (rs.map V.ref))) p2 L := (hL6.same t6).pairs upd_same
  by_cases h15 : 15 < L.length
  · refine .inl ⟨L, PK, .inl ⟨h15, ⟨_, rfl, T.sTooMuch_KeepError⟩, fun e ne => ⟨_, rfl, e, a.cTooMuch, 2, rfl, upd_same, is_much T, fun H7 s7 => ?_⟩⟩⟩
    exact bad 2 H7 (by decide) (by unfold dueW; rw [if_pos h15]; rfl) ((t6.trans (same_new ne _)).trans s7)
  cases ew : wrong S.R.length none L with
  | some b =>
    cases b with
    | true =>
      refine .inl ⟨L, PK, .inr (.inl ⟨by omega, ew, fun H7 s7 => ⟨⟨_, rfl, T.sNoBlock_KeepError⟩, fun e ne => ⟨_, rfl, e, a.cNoBlock, 0, rfl, upd_same, is_block T, fun H8 s8 => ?_⟩⟩⟩)⟩
      exact bad 0 H8 (by decide) (by unfold dueW; rw [if_neg h15, ew]; rfl) (((t6.trans s7).trans (same_new ne _)).trans s8)
    | false =>
      refine .inl ⟨L, PK, .inr (.inr ⟨by omega, ew, fun H7 s7 => ⟨⟨_, rfl, T.sBadRow_KeepError⟩, fun e ne => ⟨_, rfl, e, a.cBadRow, 1, rfl, upd_same, is_rowx T, fun H8 s8 => ?_⟩⟩⟩)⟩
      exact bad 1 H8 (by decide) (by unfold dueW; rw [if_neg h15, ew]; rfl) (((t6.trans s7).trans (same_new ne _)).trans s8)
  | none =>
    obtain ⟨qs', G, gP, gR, gG, gl'⟩ := good_of (hL6.same t6) ew
    have gl15 : G.length ≤ 15 := by omega
    have PT : PairsTs (upd H6 p2 (.lst (rs.map V.ref))) pr rs qs' G := ⟨t6 _ _ hpr6, gP⟩
    have D6' := D6.same t6
    refine .inr ⟨G, ⟨rs, qs', upd_same, gP⟩, gl15, gR, gG, fun H7 c7 D7 _ => ?_⟩
    have PT7 := PT.chg D6' gG c7
    rw [runW_free hl] at D7 ⊢
    refine iteF ?_
    have ed : dueW S.R.length L = "" := by unfold dueW; rw [if_neg h15, ew]
    rw [ed]
    show TL _ _ _
    rw [← hT]
    obtain ⟨dw, dw1⟩ := D7.at
    refine ⟨_, rfl, rfl, _, rfl, iteT' (by decide +kernel) ⟨_, rfl, rfl, _, rfl, iteT' (by decide +kernel) ?_⟩⟩
    refine ⟨_, rfl, d, dw, _, rfl, dw1, rfl, d, kr, _, _, _, rfl, D7, _, rfl, pr, _, rfl, .inl (SqL.of PT7.1), _, _, rfl, rfl, .inl ⟨by decide, by decide⟩, _, _, rfl, rfl, _, rfl, Nat.zero_le _, fun l8 n8 => ?_⟩
    have t8 := same_new n8 (.lst [])
    have PT8 := PT7.same t8
    refine ⟨.list (pData G), .list [], .lst (SqL.of PT8.1) PT8.2.dvs, .lst (SqL.of upd_same) .nil, shaped_pairs G, by decide +kernel, .inr ⟨_, rfl, _, _, rfl, rfl, .inr (cm01 _), rfl, ?_⟩⟩
    rw [eqv_nil, dec_V]
    have eq : decide (S.n + ((allOf G).length : Int) = (2 * ((rs.map V.ref).length : Int) + 2) * (if (!decide (pData G = [])) = true then 1 else 0)) = true := by
      refine decide_eq_true ?_
      rw [hn0, List.length_map, PT.2.1]
      by_cases hG : G = []
      · subst hG; rfl
      · rw [allOf_len hG, if_pos (by rw [decide_eq_false (by unfold pData; simpa using hG)]; rfl)]
        omega
    have := q (upd H7 l8 (.lst []))
    rw [← eq] at this
    exact this
end
end K7
end
section
set_option Elab.async false
set_option linter.all false
set_option maxRecDepth 100000
set_option maxHeartbeats 4000000
namespace K7
open PySem L2 BK
section
variable {P : Program} {w : World} {K : PySem.W.Frag} {mg : Str → Option Value} {base : Heap} {f : Addr} {fd : FuncData} {a : Ad}
def spLaw (K : PySem.W.Frag) : Sp := fun vs H Q _ => ∃ (p : Addr) (ns : List Int), vs = [.ref p] ∧ SqL K H p (ns.map V.int) ∧ ns.length ≤ 63 ∧ ∀ H', Q (.bl true) H'
abbrev spLawA (K : PySem.W.Frag) (_ : Ad) : Sp := spLaw K
theorem ok_law (F : Fun K "law" "law" s_law f fd) (T : Txt K mg a) (M_Disk___init__ : Mf P w K mg base (CXE P w) 2 a.fDisk_init ["self", "many"] (spInit K a)) (D__law_comes_back : Df P w K mg base (CXE P w) 8 "_law_comes_back" ["_law_disk", "_law_head_here"] (spComesBack K a)) (D__law_commits : Df P w K mg base (CXE P w) 8 "_law_commits" ["_law_script", "_law_disk"] (spCommits K a)) (D__law_head : Df P w K mg base (CXE P w) 3 "_law_head" ["_law_script", "_law_many"] (spHeadL K a)) (D__law_cell_at : Df P w K mg base CX0 1 "_law_cell_at" ["_law_script", "_law_k"] (spCell K a)) (M_Disk_blocks : Mf P w K mg base (CXE P w) 1 a.f_blocks ["self"] (spBlocks K a)) : FnOk P w K mg base (CXE P w) 9 f fd ["_law_script"] (spLawA K a) := by
  obtain ⟨_, GDisk_init, bDisk_init⟩ := M_Disk___init__
  obtain ⟨_, _, Gl_comes_back, bl_comes_back, kl_comes_back, ml_comes_back⟩ := D__law_comes_back
  obtain ⟨_, _, Gl_commits, bl_commits, kl_commits, ml_commits⟩ := D__law_commits
  obtain ⟨_, _, Gl_head, bl_head, kl_head, ml_head⟩ := D__law_head
  obtain ⟨_, _, Gl_cell_at, bl_cell_at, kl_cell_at, ml_cell_at⟩ := D__law_cell_at
  obtain ⟨_, G_blocks, b_blocks⟩ := M_Disk_blocks
  have nd := sc_law.nd
  refine F.okE sc_law (fun vs H Q E h => ?_) (fun cdv A outer s H vs Q E hr hA h => ?_)
  · obtain ⟨sc, ns, rfl, _⟩ := h
    rfl
  obtain ⟨sc, ns, rfl, hS, h63, q⟩ := h
  refine ⟨_, (pss_cons (ps_set (i := 1) nd rfl (by first | exact Or.inl rfl | exact Or.inr rfl) (pe_make T.mkDisk GDisk_init (hr.mono (by decide)) rfl T.mDisk bDisk_init .nil (passes_fn (fun _ _ _ h => h)) (pa_cons (pe_op op_add pe_int (pe_op op_mod (pe_call Gl_cell_at (hr.mono (by decide)) rfl ml_cell_at kl_cell_at bl_cell_at .nil pass0 (pa_cons (pv 0) (pa_cons pe_int pa_nil))) pe_int)) pa_nil) (hcm := (.inr hA))))
    (pss_cons (ps_if (pt_cmpR op_eq (pe_op op_mod (pe_call Gl_cell_at (hr.mono (by decide)) rfl ml_cell_at kl_cell_at bl_cell_at .nil pass0 (pa_cons (pv 0) (pa_cons pe_int pa_nil))) pe_int) pe_int (nomark _)) (pss_one (ps_ret (pe_call Gl_commits (hr.mono (by decide)) rfl ml_commits kl_commits bl_commits .nil (passes_fn (fun _ _ _ h => h)) (pa_cons (pv 0) (pa_cons (pv 1) pa_nil)) (hcm := (.inr hA))))) pss_nil)
    (pss_one (ps_ret (pe_call Gl_comes_back (hr.mono (by decide)) rfl ml_comes_back kl_comes_back bl_comes_back .nil (passes_fn (fun _ _ _ h => h)) (pa_cons (pv 1) (pa_cons (pe_call Gl_head (hr.mono (by decide)) rfl ml_head kl_head bl_head .nil (passes_fn (fun _ _ _ h => h)) (pa_cons (pv 0) (pa_cons (pe_meth0 (pv 1) T.clDisk T.m_blocks G_blocks (hr.mono (by decide)) b_blocks .nil (passes_fn (fun _ _ _ h => h)) (hcm := (.inr hA))) pa_nil)) (hcm := (.inr hA))) pa_nil)) (hcm := (.inr hA))))))), ?_⟩
  refine ⟨_, rfl, sc, ns, 0, rfl, hS, by decide, _, _, rfl, rfl, (by show (0 : Int) < 73; decide), _, _, rfl, rfl, ?_⟩
  obtain ⟨m, em⟩ : ∃ m : Nat, 24 + cell ns 0 % 73 = (m : Int) := ⟨(24 + cell ns 0 % 73).toNat, by omega⟩
  have hm1 : 24 ≤ m := by omega
  have hm2 : m ≤ 96 := by omega
  dsimp only
  rw [em]
  refine fun d dx nd' ndx nex => ⟨d, dx, _, rfl, upd_same, .int _, .inl ⟨m, rfl, hm1, hm2, fun kr H1 nkr c1 D1 => ⟨rfl, ?_⟩⟩⟩
  have s0 : Same H (upd (upd H dx (.own d)) d (.ins a.cDisk dx [])) := fun b o e => by
    rw [upd_ne (ne_of_none e nd'), upd_ne (ne_of_none e ndx)]
    exact e
  have s1 : Same H H1 := fun b o e => c1 b o (s0 b o e) (by simp only [List.mem_singleton]; exact ne_of_none e nd')
  refine ⟨_, rfl, sc, ns, 1, rfl, s1.seq hS, by decide, _, _, rfl, rfl, (by show (0 : Int) < 2; decide), rfl, _, rfl, ite2 (fun _ => ?_) (fun _ => ?_)⟩
  · exact ⟨_, rfl, _, rfl, sc, d, kr, ns, ⟨_, _, _⟩, rfl, s1.seq hS, D1, rfl, rfl, q⟩
  · obtain ⟨dy, d1⟩ := D1.at
    refine ⟨_, rfl, _, rfl, _, rfl, d, dy, _, rfl, d1, rfl, d, kr, _, _, _, rfl, D1, sc, ns, m, by rw [List.length_replicate]; rfl, s1.seq hS, hm1, hm2, fun hp row H2 s2 nhp hhp g => ?_⟩
    exact ⟨d, kr, hp, ⟨_, _, _⟩, row, rfl, D1.same s2, rfl, hhp, g, q⟩
end
end K7
end
section
set_option Elab.async false
set_option linter.all false
set_option maxRecDepth 100000
set_option maxHeartbeats 4000000
namespace K7
open PySem L2 BK
theorem all_mk {l : PySem.W.OpenLaw} {w : World} {K : PySem.W.Frag} {h : Heap} {mg : Str → Option Value} {fa : Addr} {cKeepError cBadRow cNoBlock cStopped cBadDisk cTooMuch cBadLog cDisk fDisk_init f_blocks f_refuse_no_block f_use_up_one f_write f_writes f_read : Addr} (X : K.In h) (G : h.Ns mainGlobals mg) (hfa : mg "law" = some (.ref fa))
    {tROW_WORDS tMOST_WORD tLEAST_BLOCKS tMOST_BLOCKS tLOG_HEAD_AT tLOG_ROWS_AT tMAPS_AT tMOST_HOMES : Tok}
    {od1 an1 : Option Addr} {sl1 : Array (Option Value)} {oc1 kV1 dc1 pm1 cd1 ct1 : Value} {f1 : Addr}
    {od2 an2 : Option Addr} {sl2 : Array (Option Value)} {oc2 kV2 dc2 pm2 cd2 ct2 : Value} {f2 : Addr}
    {od3 an3 : Option Addr} {sl3 : Array (Option Value)} {oc3 kV3 dc3 pm3 cd3 ct3 : Value}
    {od4 an4 : Option Addr} {sl4 : Array (Option Value)} {oc4 kV4 dc4 pm4 cd4 ct4 : Value}
    {od5 an5 : Option Addr} {sl5 : Array (Option Value)} {oc5 kV5 dc5 pm5 cd5 ct5 : Value}
    {od6 an6 : Option Addr} {sl6 : Array (Option Value)} {oc6 kV6 dc6 pm6 cd6 ct6 : Value}
    {od7 an7 : Option Addr} {sl7 : Array (Option Value)} {oc7 kV7 dc7 pm7 cd7 ct7 : Value} {f7 : Addr}
    {od8 an8 : Option Addr} {sl8 : Array (Option Value)} {oc8 kV8 dc8 pm8 cd8 ct8 : Value} {f8 : Addr}
    {od9 an9 : Option Addr} {sl9 : Array (Option Value)} {oc9 kV9 dc9 pm9 cd9 ct9 : Value} {f9 : Addr}
    {od10 an10 : Option Addr} {sl10 : Array (Option Value)} {oc10 kV10 dc10 pm10 cd10 ct10 : Value}
    {od11 an11 : Option Addr} {sl11 : Array (Option Value)} {oc11 kV11 dc11 pm11 cd11 ct11 : Value}
    {od12 an12 : Option Addr} {sl12 : Array (Option Value)} {oc12 kV12 dc12 pm12 cd12 ct12 : Value}
    {od13 an13 : Option Addr} {sl13 : Array (Option Value)} {oc13 kV13 dc13 pm13 cd13 ct13 : Value} {f13 : Addr}
    {od14 an14 : Option Addr} {sl14 : Array (Option Value)} {oc14 kV14 dc14 pm14 cd14 ct14 : Value} {f14 : Addr}
    {od15 an15 : Option Addr} {sl15 : Array (Option Value)} {oc15 kV15 dc15 pm15 cd15 ct15 : Value} {f15 : Addr}
    {od16 an16 : Option Addr} {sl16 : Array (Option Value)} {oc16 kV16 dc16 pm16 cd16 ct16 : Value} {f16 : Addr}
    {od17 an17 : Option Addr} {sl17 : Array (Option Value)} {oc17 kV17 dc17 pm17 cd17 ct17 : Value} {f17 : Addr}
    {od18 an18 : Option Addr} {sl18 : Array (Option Value)} {oc18 kV18 dc18 pm18 cd18 ct18 : Value} {f18 : Addr}
    {od19 an19 : Option Addr} {sl19 : Array (Option Value)} {oc19 kV19 dc19 pm19 cd19 ct19 : Value} {f19 : Addr}
    {od20 an20 : Option Addr} {sl20 : Array (Option Value)} {oc20 kV20 dc20 pm20 cd20 ct20 : Value} {f20 : Addr}
    {od21 an21 : Option Addr} {sl21 : Array (Option Value)} {oc21 kV21 dc21 pm21 cd21 ct21 : Value} {f21 : Addr}
    {od22 an22 : Option Addr} {sl22 : Array (Option Value)} {oc22 kV22 dc22 pm22 cd22 ct22 : Value} {f22 : Addr}
    {od23 an23 : Option Addr} {sl23 : Array (Option Value)} {oc23 kV23 dc23 pm23 cd23 ct23 : Value} {f23 : Addr}
    {od24 an24 : Option Addr} {sl24 : Array (Option Value)} {oc24 kV24 dc24 pm24 cd24 ct24 : Value} {f24 : Addr}
    {od25 an25 : Option Addr} {sl25 : Array (Option Value)} {oc25 kV25 dc25 pm25 cd25 ct25 : Value} {f25 : Addr}
    {od26 an26 : Option Addr} {sl26 : Array (Option Value)} {oc26 kV26 dc26 pm26 cd26 ct26 : Value} {f26 : Addr}
    {od27 an27 : Option Addr} {sl27 : Array (Option Value)} {oc27 kV27 dc27 pm27 cd27 ct27 : Value} {f27 : Addr}
    {od28 an28 : Option Addr} {sl28 : Array (Option Value)} {oc28 kV28 dc28 pm28 cd28 ct28 : Value} {f28 : Addr}
    {od29 an29 : Option Addr} {sl29 : Array (Option Value)} {oc29 kV29 dc29 pm29 cd29 ct29 : Value} {f29 : Addr}
    {od30 an30 : Option Addr} {sl30 : Array (Option Value)} {oc30 kV30 dc30 pm30 cd30 ct30 : Value} {f30 : Addr}
    {od31 an31 : Option Addr} {sl31 : Array (Option Value)} {oc31 kV31 dc31 pm31 cd31 ct31 : Value} {f31 : Addr}
    {od32 an32 : Option Addr} {sl32 : Array (Option Value)} {oc32 kV32 dc32 pm32 cd32 ct32 : Value} {f32 : Addr}
    {od33 an33 : Option Addr} {sl33 : Array (Option Value)} {oc33 kV33 dc33 pm33 cd33 ct33 : Value} {f33 : Addr}
    (n_KeepError : PySem.W.nsIn K mainGlobals "KeepError" = some (some (.ref cKeepError)))
    (n_BadRow : PySem.W.nsIn K mainGlobals "BadRow" = some (some (.ref cBadRow)))
    (n_NoBlock : PySem.W.nsIn K mainGlobals "NoBlock" = some (some (.ref cNoBlock)))
    (n_Stopped : PySem.W.nsIn K mainGlobals "Stopped" = some (some (.ref cStopped)))
    (n_BadDisk : PySem.W.nsIn K mainGlobals "BadDisk" = some (some (.ref cBadDisk)))
    (n_TooMuch : PySem.W.nsIn K mainGlobals "TooMuch" = some (some (.ref cTooMuch)))
    (n_BadLog : PySem.W.nsIn K mainGlobals "BadLog" = some (some (.ref cBadLog)))
    (n_Disk : PySem.W.nsIn K mainGlobals "Disk" = some (some (.ref cDisk)))
    (a_fDisk_init : PySem.W.findIn K (.ref cDisk) "__init__" = some (some (.ref fDisk_init)))
    (a_f_blocks : PySem.W.findIn K (.ref cDisk) "blocks" = some (some (.ref f_blocks)))
    (a_f_refuse_no_block : PySem.W.findIn K (.ref cDisk) "refuse_no_block" = some (some (.ref f_refuse_no_block)))
    (a_f_use_up_one : PySem.W.findIn K (.ref cDisk) "use_up_one" = some (some (.ref f_use_up_one)))
    (a_f_write : PySem.W.findIn K (.ref cDisk) "write" = some (some (.ref f_write)))
    (a_f_writes : PySem.W.findIn K (.ref cDisk) "writes" = some (some (.ref f_writes)))
    (a_f_read : PySem.W.findIn K (.ref cDisk) "read" = some (some (.ref f_read)))
    (a1 : PySem.W.nsIn K mainGlobals "is_whole" = some (some (.ref f1)))
    (a2 : PySem.W.nsIn K mainGlobals "empty_row" = some (some (.ref f2)))
    (a7 : PySem.W.nsIn K mainGlobals "is_word" = some (some (.ref f7)))
    (a8 : PySem.W.nsIn K mainGlobals "are_words" = some (some (.ref f8)))
    (a9 : PySem.W.nsIn K mainGlobals "is_row" = some (some (.ref f9)))
    (a13 : PySem.W.nsIn K mainGlobals "is_home" = some (some (.ref f13)))
    (a14 : PySem.W.nsIn K mainGlobals "are_rising_homes" = some (some (.ref f14)))
    (a15 : PySem.W.nsIn K mainGlobals "is_right_head" = some (some (.ref f15)))
    (a16 : PySem.W.nsIn K mainGlobals "write_homes" = some (some (.ref f16)))
    (a17 : PySem.W.nsIn K mainGlobals "come_back" = some (some (.ref f17)))
    (a18 : PySem.W.nsIn K mainGlobals "_law_is_right" = some (some (.ref f18)))
    (a19 : PySem.W.nsIn K mainGlobals "_law_row" = some (some (.ref f19)))
    (a20 : PySem.W.nsIn K mainGlobals "_law_word" = some (some (.ref f20)))
    (a21 : PySem.W.nsIn K mainGlobals "_law_comes_back" = some (some (.ref f21)))
    (a22 : PySem.W.nsIn K mainGlobals "_law_cell_at" = some (some (.ref f22)))
    (a23 : PySem.W.nsIn K mainGlobals "_law_homes" = some (some (.ref f23)))
    (a24 : PySem.W.nsIn K mainGlobals "_law_is_number" = some (some (.ref f24)))
    (a25 : PySem.W.nsIn K mainGlobals "_law_due" = some (some (.ref f25)))
    (a26 : PySem.W.nsIn K mainGlobals "refuse_wrong_pairs" = some (some (.ref f26)))
    (a27 : PySem.W.nsIn K mainGlobals "changed" = some (some (.ref f27)))
    (a28 : PySem.W.nsIn K mainGlobals "write_log" = some (some (.ref f28)))
    (a29 : PySem.W.nsIn K mainGlobals "commit" = some (some (.ref f29)))
    (a30 : PySem.W.nsIn K mainGlobals "_law_odd_pair" = some (some (.ref f30)))
    (a31 : PySem.W.nsIn K mainGlobals "_law_commits" = some (some (.ref f31)))
    (a32 : PySem.W.nsIn K mainGlobals "_law_head" = some (some (.ref f32)))
    (a33 : PySem.W.nsIn K mainGlobals "law" = some (some (.ref f33)))
    (z_isinstance : PySem.W.nsIn K mainGlobals "isinstance" = some none)
    (z_int : PySem.W.nsIn K mainGlobals "int" = some none)
    (z_bool : PySem.W.nsIn K mainGlobals "bool" = some none)
    (z_list : PySem.W.nsIn K mainGlobals "list" = some none)
    (z_len : PySem.W.nsIn K mainGlobals "len" = some none)
    (z_all : PySem.W.nsIn K mainGlobals "all" = some none)
    (z_range : PySem.W.nsIn K mainGlobals "range" = some none)
    (z_ValueError : PySem.W.nsIn K mainGlobals "ValueError" = some none)
    (z_min : PySem.W.nsIn K mainGlobals "min" = some none)
    (z_max : PySem.W.nsIn K mainGlobals "max" = some none)
    (z_sorted : PySem.W.nsIn K mainGlobals "sorted" = some none)
    (z_zip : PySem.W.nsIn K mainGlobals "zip" = some none)
    (z_tuple : PySem.W.nsIn K mainGlobals "tuple" = some none)
    (v_ROW_WORDS : PySem.W.nsIn K mainGlobals "ROW_WORDS" = some (some (.int 16 tROW_WORDS)))
    (v_MOST_WORD : PySem.W.nsIn K mainGlobals "MOST_WORD" = some (some (.int 999999999 tMOST_WORD)))
    (v_LEAST_BLOCKS : PySem.W.nsIn K mainGlobals "LEAST_BLOCKS" = some (some (.int 24 tLEAST_BLOCKS)))
    (v_MOST_BLOCKS : PySem.W.nsIn K mainGlobals "MOST_BLOCKS" = some (some (.int 96 tMOST_BLOCKS)))
    (v_LOG_HEAD_AT : PySem.W.nsIn K mainGlobals "LOG_HEAD_AT" = some (some (.int 1 tLOG_HEAD_AT)))
    (v_LOG_ROWS_AT : PySem.W.nsIn K mainGlobals "LOG_ROWS_AT" = some (some (.int 2 tLOG_ROWS_AT)))
    (v_MAPS_AT : PySem.W.nsIn K mainGlobals "MAPS_AT" = some (some (.int 17 tMAPS_AT)))
    (v_MOST_HOMES : PySem.W.nsIn K mainGlobals "MOST_HOMES" = some (some (.int 15 tMOST_HOMES)))
    (x_BadRow : PySem.W.excIn K cBadRow veMro "ValueError.__new__" = true)
    (x_NoBlock : PySem.W.excIn K cNoBlock veMro "ValueError.__new__" = true)
    (x_Stopped : PySem.W.excIn K cStopped veMro "ValueError.__new__" = true)
    (x_BadDisk : PySem.W.excIn K cBadDisk veMro "ValueError.__new__" = true)
    (x_TooMuch : PySem.W.excIn K cTooMuch veMro "ValueError.__new__" = true)
    (x_BadLog : PySem.W.excIn K cBadLog veMro "ValueError.__new__" = true)
    (g0_NoBlock : PySem.W.findIn K (.ref cNoBlock) "__getattribute__" = some (some (.builtin "BaseException.__getattribute__")))
    (g1_NoBlock : PySem.W.findIn K (.ref cNoBlock) "__getattr__" = some none)
    (g2_NoBlock : PySem.W.findIn K (.ref cNoBlock) "__class__" = some (some (.builtin "object.__class__")))
    (g3_NoBlock : PySem.W.mroIn K cNoBlock (.type "BaseException") = some true)
    (g4_NoBlock : PySem.W.mroIn K cNoBlock (.type "object") = some true)
    (g5_NoBlock : PySem.W.findObj K cNoBlock none "__class__" = some (.bind (.builtin "getset_descriptor.__get__") (.builtin "object.__class__")))
    (g6_NoBlock : (PySem.W.clsIn K cNoBlock).isSome = true)
    (g0_BadRow : PySem.W.findIn K (.ref cBadRow) "__getattribute__" = some (some (.builtin "BaseException.__getattribute__")))
    (g1_BadRow : PySem.W.findIn K (.ref cBadRow) "__getattr__" = some none)
    (g2_BadRow : PySem.W.findIn K (.ref cBadRow) "__class__" = some (some (.builtin "object.__class__")))
    (g3_BadRow : PySem.W.mroIn K cBadRow (.type "BaseException") = some true)
    (g4_BadRow : PySem.W.mroIn K cBadRow (.type "object") = some true)
    (g5_BadRow : PySem.W.findObj K cBadRow none "__class__" = some (.bind (.builtin "getset_descriptor.__get__") (.builtin "object.__class__")))
    (g6_BadRow : (PySem.W.clsIn K cBadRow).isSome = true)
    (g0_TooMuch : PySem.W.findIn K (.ref cTooMuch) "__getattribute__" = some (some (.builtin "BaseException.__getattribute__")))
    (g1_TooMuch : PySem.W.findIn K (.ref cTooMuch) "__getattr__" = some none)
    (g2_TooMuch : PySem.W.findIn K (.ref cTooMuch) "__class__" = some (some (.builtin "object.__class__")))
    (g3_TooMuch : PySem.W.mroIn K cTooMuch (.type "BaseException") = some true)
    (g4_TooMuch : PySem.W.mroIn K cTooMuch (.type "object") = some true)
    (g5_TooMuch : PySem.W.findObj K cTooMuch none "__class__" = some (.bind (.builtin "getset_descriptor.__get__") (.builtin "object.__class__")))
    (g6_TooMuch : (PySem.W.clsIn K cTooMuch).isSome = true)
    (g0_BadLog : PySem.W.findIn K (.ref cBadLog) "__getattribute__" = some (some (.builtin "BaseException.__getattribute__")))
    (g1_BadLog : PySem.W.findIn K (.ref cBadLog) "__getattr__" = some none)
    (g2_BadLog : PySem.W.findIn K (.ref cBadLog) "__class__" = some (some (.builtin "object.__class__")))
    (g3_BadLog : PySem.W.mroIn K cBadLog (.type "BaseException") = some true)
    (g4_BadLog : PySem.W.mroIn K cBadLog (.type "object") = some true)
    (g5_BadLog : PySem.W.findObj K cBadLog none "__class__" = some (.bind (.builtin "getset_descriptor.__get__") (.builtin "object.__class__")))
    (g6_BadLog : (PySem.W.clsIn K cBadLog).isSome = true)
    (h0_KeepError : (match K.lookup cKeepError with | some ⟨.type "type", _, .cls _, _⟩ => true | _ => false) = true)
    (h1_KeepError : PySem.W.mroIn K cKeepError (.type "BaseException") = some true)
    (s_BadRow_KeepError : PySem.W.mroIn K cBadRow (.ref cKeepError) = some true)
    (s_NoBlock_KeepError : PySem.W.mroIn K cNoBlock (.ref cKeepError) = some true)
    (s_Stopped_KeepError : PySem.W.mroIn K cStopped (.ref cKeepError) = some true)
    (s_BadDisk_KeepError : PySem.W.mroIn K cBadDisk (.ref cKeepError) = some true)
    (s_TooMuch_KeepError : PySem.W.mroIn K cTooMuch (.ref cKeepError) = some true)
    (s_BadLog_KeepError : PySem.W.mroIn K cBadLog (.ref cKeepError) = some true)
    (q_NoBlock_NoBlock : PySem.W.kitOne K (.ref cNoBlock) (.ref cNoBlock) = some true)
    (q_NoBlock_BadRow : PySem.W.kitOne K (.ref cNoBlock) (.ref cBadRow) = some false)
    (q_NoBlock_TooMuch : PySem.W.kitOne K (.ref cNoBlock) (.ref cTooMuch) = some false)
    (q_NoBlock_BadLog : PySem.W.kitOne K (.ref cNoBlock) (.ref cBadLog) = some false)
    (q_NoBlock_Stopped : PySem.W.kitOne K (.ref cNoBlock) (.ref cStopped) = some false)
    (q_NoBlock_BadDisk : PySem.W.kitOne K (.ref cNoBlock) (.ref cBadDisk) = some false)
    (q_NoBlock_ValueError : PySem.W.kitOne K (.ref cNoBlock) (.type "ValueError") = some true)
    (q_BadRow_NoBlock : PySem.W.kitOne K (.ref cBadRow) (.ref cNoBlock) = some false)
    (q_BadRow_BadRow : PySem.W.kitOne K (.ref cBadRow) (.ref cBadRow) = some true)
    (q_BadRow_TooMuch : PySem.W.kitOne K (.ref cBadRow) (.ref cTooMuch) = some false)
    (q_BadRow_BadLog : PySem.W.kitOne K (.ref cBadRow) (.ref cBadLog) = some false)
    (q_BadRow_Stopped : PySem.W.kitOne K (.ref cBadRow) (.ref cStopped) = some false)
    (q_BadRow_BadDisk : PySem.W.kitOne K (.ref cBadRow) (.ref cBadDisk) = some false)
    (q_BadRow_ValueError : PySem.W.kitOne K (.ref cBadRow) (.type "ValueError") = some true)
    (q_TooMuch_NoBlock : PySem.W.kitOne K (.ref cTooMuch) (.ref cNoBlock) = some false)
    (q_TooMuch_BadRow : PySem.W.kitOne K (.ref cTooMuch) (.ref cBadRow) = some false)
    (q_TooMuch_TooMuch : PySem.W.kitOne K (.ref cTooMuch) (.ref cTooMuch) = some true)
    (q_TooMuch_BadLog : PySem.W.kitOne K (.ref cTooMuch) (.ref cBadLog) = some false)
    (q_TooMuch_Stopped : PySem.W.kitOne K (.ref cTooMuch) (.ref cStopped) = some false)
    (q_TooMuch_BadDisk : PySem.W.kitOne K (.ref cTooMuch) (.ref cBadDisk) = some false)
    (q_TooMuch_ValueError : PySem.W.kitOne K (.ref cTooMuch) (.type "ValueError") = some true)
    (q_BadLog_NoBlock : PySem.W.kitOne K (.ref cBadLog) (.ref cNoBlock) = some false)
    (q_BadLog_BadRow : PySem.W.kitOne K (.ref cBadLog) (.ref cBadRow) = some false)
    (q_BadLog_TooMuch : PySem.W.kitOne K (.ref cBadLog) (.ref cTooMuch) = some false)
    (q_BadLog_BadLog : PySem.W.kitOne K (.ref cBadLog) (.ref cBadLog) = some true)
    (q_BadLog_Stopped : PySem.W.kitOne K (.ref cBadLog) (.ref cStopped) = some false)
    (q_BadLog_BadDisk : PySem.W.kitOne K (.ref cBadLog) (.ref cBadDisk) = some false)
    (q_BadLog_ValueError : PySem.W.kitOne K (.ref cBadLog) (.type "ValueError") = some true)
    (pg_Disk : PySem.W.plainGet K cDisk Str.empty = true)
    (hd_Disk : PySem.W.hasDictIn K cDisk = true)
    (po_Disk : PySem.W.plainOver K cDisk = true)
    (sa_Disk : PySem.W.findIn K (.ref cDisk) "__setattr__" = some (some (.builtin "object.__setattr__")))
    (na_kept_rows : PySem.W.findIn K (.ref cDisk) "kept_rows" = some none)
    (na_writes_done : PySem.W.findIn K (.ref cDisk) "writes_done" = some none)
    (na_writes_left : PySem.W.findIn K (.ref cDisk) "writes_left" = some none)
    (mk_Disk : PySem.W.makesIn K cDisk = true)
    (i_fDisk_init : PySem.W.isFn K (.ref fDisk_init) = true)
    (kc_Disk : PySem.W.keepIn K (.ref cDisk) = true)
    (i_f_blocks : PySem.W.isFn K (.ref f_blocks) = true)
    (kp_f_blocks : PySem.W.keepIn K (.ref f_blocks) = true)
    (i_f_refuse_no_block : PySem.W.isFn K (.ref f_refuse_no_block) = true)
    (kp_f_refuse_no_block : PySem.W.keepIn K (.ref f_refuse_no_block) = true)
    (i_f_use_up_one : PySem.W.isFn K (.ref f_use_up_one) = true)
    (kp_f_use_up_one : PySem.W.keepIn K (.ref f_use_up_one) = true)
    (i_f_write : PySem.W.isFn K (.ref f_write) = true)
    (kp_f_write : PySem.W.keepIn K (.ref f_write) = true)
    (i_f_writes : PySem.W.isFn K (.ref f_writes) = true)
    (kp_f_writes : PySem.W.keepIn K (.ref f_writes) = true)
    (i_f_read : PySem.W.isFn K (.ref f_read) = true)
    (kp_f_read : PySem.W.keepIn K (.ref f_read) = true)
    (l1 : K.lookup f1 = some ⟨oc1, od1, .func (PySem.W.fnOf "is_whole" "is_whole" (defArgs s_is_whole) (defBody s_is_whole) (defScope s_is_whole) .none kV1 dc1 pm1 an1 cd1 ct1), sl1⟩)
    (c1 : PySem.W.codeIn K cd1 "is_whole" = true)
    (k1 : PySem.W.keepIn K (.ref f1) = true)
    (l2 : K.lookup f2 = some ⟨oc2, od2, .func (PySem.W.fnOf "empty_row" "empty_row" (defArgs s_empty_row) (defBody s_empty_row) (defScope s_empty_row) .none kV2 dc2 pm2 an2 cd2 ct2), sl2⟩)
    (c2 : PySem.W.codeIn K cd2 "empty_row" = true)
    (k2 : PySem.W.keepIn K (.ref f2) = true)
    (l3 : K.lookup fDisk_init = some ⟨oc3, od3, .func (PySem.W.fnOf "__init__" "Disk.__init__" (defArgs s_Disk___init__) (defBody s_Disk___init__) (defScope s_Disk___init__) .none kV3 dc3 pm3 an3 cd3 ct3), sl3⟩)
    (c3 : PySem.W.codeIn K cd3 "Disk.__init__" = true)
    (k3 : PySem.W.keepIn K (.ref fDisk_init) = true)
    (l4 : K.lookup f_blocks = some ⟨oc4, od4, .func (PySem.W.fnOf "blocks" "Disk.blocks" (defArgs s_Disk_blocks) (defBody s_Disk_blocks) (defScope s_Disk_blocks) .none kV4 dc4 pm4 an4 cd4 ct4), sl4⟩)
    (c4 : PySem.W.codeIn K cd4 "Disk.blocks" = true)
    (k4 : PySem.W.keepIn K (.ref f_blocks) = true)
    (l5 : K.lookup f_refuse_no_block = some ⟨oc5, od5, .func (PySem.W.fnOf "refuse_no_block" "Disk.refuse_no_block" (defArgs s_Disk_refuse_no_block) (defBody s_Disk_refuse_no_block) (defScope s_Disk_refuse_no_block) .none kV5 dc5 pm5 an5 cd5 ct5), sl5⟩)
    (c5 : PySem.W.codeIn K cd5 "Disk.refuse_no_block" = true)
    (k5 : PySem.W.keepIn K (.ref f_refuse_no_block) = true)
    (l6 : K.lookup f_use_up_one = some ⟨oc6, od6, .func (PySem.W.fnOf "use_up_one" "Disk.use_up_one" (defArgs s_Disk_use_up_one) (defBody s_Disk_use_up_one) (defScope s_Disk_use_up_one) .none kV6 dc6 pm6 an6 cd6 ct6), sl6⟩)
    (c6 : PySem.W.codeIn K cd6 "Disk.use_up_one" = true)
    (k6 : PySem.W.keepIn K (.ref f_use_up_one) = true)
    (l7 : K.lookup f7 = some ⟨oc7, od7, .func (PySem.W.fnOf "is_word" "is_word" (defArgs s_is_word) (defBody s_is_word) (defScope s_is_word) .none kV7 dc7 pm7 an7 cd7 ct7), sl7⟩)
    (c7 : PySem.W.codeIn K cd7 "is_word" = true)
    (k7 : PySem.W.keepIn K (.ref f7) = true)
    (l8 : K.lookup f8 = some ⟨oc8, od8, .func (PySem.W.fnOf "are_words" "are_words" (defArgs s_are_words) (defBody s_are_words) (defScope s_are_words) .none kV8 dc8 pm8 an8 cd8 ct8), sl8⟩)
    (c8 : PySem.W.codeIn K cd8 "are_words" = true)
    (k8 : PySem.W.keepIn K (.ref f8) = true)
    (l9 : K.lookup f9 = some ⟨oc9, od9, .func (PySem.W.fnOf "is_row" "is_row" (defArgs s_is_row) (defBody s_is_row) (defScope s_is_row) .none kV9 dc9 pm9 an9 cd9 ct9), sl9⟩)
    (c9 : PySem.W.codeIn K cd9 "is_row" = true)
    (k9 : PySem.W.keepIn K (.ref f9) = true)
    (l10 : K.lookup f_write = some ⟨oc10, od10, .func (PySem.W.fnOf "write" "Disk.write" (defArgs s_Disk_write) (defBody s_Disk_write) (defScope s_Disk_write) .none kV10 dc10 pm10 an10 cd10 ct10), sl10⟩)
    (c10 : PySem.W.codeIn K cd10 "Disk.write" = true)
    (k10 : PySem.W.keepIn K (.ref f_write) = true)
    (l11 : K.lookup f_writes = some ⟨oc11, od11, .func (PySem.W.fnOf "writes" "Disk.writes" (defArgs s_Disk_writes) (defBody s_Disk_writes) (defScope s_Disk_writes) .none kV11 dc11 pm11 an11 cd11 ct11), sl11⟩)
    (c11 : PySem.W.codeIn K cd11 "Disk.writes" = true)
    (k11 : PySem.W.keepIn K (.ref f_writes) = true)
    (l12 : K.lookup f_read = some ⟨oc12, od12, .func (PySem.W.fnOf "read" "Disk.read" (defArgs s_Disk_read) (defBody s_Disk_read) (defScope s_Disk_read) .none kV12 dc12 pm12 an12 cd12 ct12), sl12⟩)
    (c12 : PySem.W.codeIn K cd12 "Disk.read" = true)
    (k12 : PySem.W.keepIn K (.ref f_read) = true)
    (l13 : K.lookup f13 = some ⟨oc13, od13, .func (PySem.W.fnOf "is_home" "is_home" (defArgs s_is_home) (defBody s_is_home) (defScope s_is_home) .none kV13 dc13 pm13 an13 cd13 ct13), sl13⟩)
    (c13 : PySem.W.codeIn K cd13 "is_home" = true)
    (k13 : PySem.W.keepIn K (.ref f13) = true)
    (l14 : K.lookup f14 = some ⟨oc14, od14, .func (PySem.W.fnOf "are_rising_homes" "are_rising_homes" (defArgs s_are_rising_homes) (defBody s_are_rising_homes) (defScope s_are_rising_homes) .none kV14 dc14 pm14 an14 cd14 ct14), sl14⟩)
    (c14 : PySem.W.codeIn K cd14 "are_rising_homes" = true)
    (k14 : PySem.W.keepIn K (.ref f14) = true)
    (l15 : K.lookup f15 = some ⟨oc15, od15, .func (PySem.W.fnOf "is_right_head" "is_right_head" (defArgs s_is_right_head) (defBody s_is_right_head) (defScope s_is_right_head) .none kV15 dc15 pm15 an15 cd15 ct15), sl15⟩)
    (c15 : PySem.W.codeIn K cd15 "is_right_head" = true)
    (k15 : PySem.W.keepIn K (.ref f15) = true)
    (l16 : K.lookup f16 = some ⟨oc16, od16, .func (PySem.W.fnOf "write_homes" "write_homes" (defArgs s_write_homes) (defBody s_write_homes) (defScope s_write_homes) .none kV16 dc16 pm16 an16 cd16 ct16), sl16⟩)
    (c16 : PySem.W.codeIn K cd16 "write_homes" = true)
    (k16 : PySem.W.keepIn K (.ref f16) = true)
    (l17 : K.lookup f17 = some ⟨oc17, od17, .func (PySem.W.fnOf "come_back" "come_back" (defArgs s_come_back) (defBody s_come_back) (defScope s_come_back) .none kV17 dc17 pm17 an17 cd17 ct17), sl17⟩)
    (c17 : PySem.W.codeIn K cd17 "come_back" = true)
    (k17 : PySem.W.keepIn K (.ref f17) = true)
    (l18 : K.lookup f18 = some ⟨oc18, od18, .func (PySem.W.fnOf "_law_is_right" "_law_is_right" (defArgs s__law_is_right) (defBody s__law_is_right) (defScope s__law_is_right) .none kV18 dc18 pm18 an18 cd18 ct18), sl18⟩)
    (c18 : PySem.W.codeIn K cd18 "_law_is_right" = true)
    (k18 : PySem.W.keepIn K (.ref f18) = true)
    (l19 : K.lookup f19 = some ⟨oc19, od19, .func (PySem.W.fnOf "_law_row" "_law_row" (defArgs s__law_row) (defBody s__law_row) (defScope s__law_row) .none kV19 dc19 pm19 an19 cd19 ct19), sl19⟩)
    (c19 : PySem.W.codeIn K cd19 "_law_row" = true)
    (k19 : PySem.W.keepIn K (.ref f19) = true)
    (l20 : K.lookup f20 = some ⟨oc20, od20, .func (PySem.W.fnOf "_law_word" "_law_word" (defArgs s__law_word) (defBody s__law_word) (defScope s__law_word) .none kV20 dc20 pm20 an20 cd20 ct20), sl20⟩)
    (c20 : PySem.W.codeIn K cd20 "_law_word" = true)
    (k20 : PySem.W.keepIn K (.ref f20) = true)
    (l21 : K.lookup f21 = some ⟨oc21, od21, .func (PySem.W.fnOf "_law_comes_back" "_law_comes_back" (defArgs s__law_comes_back) (defBody s__law_comes_back) (defScope s__law_comes_back) .none kV21 dc21 pm21 an21 cd21 ct21), sl21⟩)
    (c21 : PySem.W.codeIn K cd21 "_law_comes_back" = true)
    (k21 : PySem.W.keepIn K (.ref f21) = true)
    (l22 : K.lookup f22 = some ⟨oc22, od22, .func (PySem.W.fnOf "_law_cell_at" "_law_cell_at" (defArgs s__law_cell_at) (defBody s__law_cell_at) (defScope s__law_cell_at) .none kV22 dc22 pm22 an22 cd22 ct22), sl22⟩)
    (c22 : PySem.W.codeIn K cd22 "_law_cell_at" = true)
    (k22 : PySem.W.keepIn K (.ref f22) = true)
    (l23 : K.lookup f23 = some ⟨oc23, od23, .func (PySem.W.fnOf "_law_homes" "_law_homes" (defArgs s__law_homes) (defBody s__law_homes) (defScope s__law_homes) .none kV23 dc23 pm23 an23 cd23 ct23), sl23⟩)
    (c23 : PySem.W.codeIn K cd23 "_law_homes" = true)
    (k23 : PySem.W.keepIn K (.ref f23) = true)
    (l24 : K.lookup f24 = some ⟨oc24, od24, .func (PySem.W.fnOf "_law_is_number" "_law_is_number" (defArgs s__law_is_number) (defBody s__law_is_number) (defScope s__law_is_number) .none kV24 dc24 pm24 an24 cd24 ct24), sl24⟩)
    (c24 : PySem.W.codeIn K cd24 "_law_is_number" = true)
    (k24 : PySem.W.keepIn K (.ref f24) = true)
    (l25 : K.lookup f25 = some ⟨oc25, od25, .func (PySem.W.fnOf "_law_due" "_law_due" (defArgs s__law_due) (defBody s__law_due) (defScope s__law_due) .none kV25 dc25 pm25 an25 cd25 ct25), sl25⟩)
    (c25 : PySem.W.codeIn K cd25 "_law_due" = true)
    (k25 : PySem.W.keepIn K (.ref f25) = true)
    (l26 : K.lookup f26 = some ⟨oc26, od26, .func (PySem.W.fnOf "refuse_wrong_pairs" "refuse_wrong_pairs" (defArgs s_refuse_wrong_pairs) (defBody s_refuse_wrong_pairs) (defScope s_refuse_wrong_pairs) .none kV26 dc26 pm26 an26 cd26 ct26), sl26⟩)
    (c26 : PySem.W.codeIn K cd26 "refuse_wrong_pairs" = true)
    (k26 : PySem.W.keepIn K (.ref f26) = true)
    (l27 : K.lookup f27 = some ⟨oc27, od27, .func (PySem.W.fnOf "changed" "changed" (defArgs s_changed) (defBody s_changed) (defScope s_changed) .none kV27 dc27 pm27 an27 cd27 ct27), sl27⟩)
    (c27 : PySem.W.codeIn K cd27 "changed" = true)
    (k27 : PySem.W.keepIn K (.ref f27) = true)
    (l28 : K.lookup f28 = some ⟨oc28, od28, .func (PySem.W.fnOf "write_log" "write_log" (defArgs s_write_log) (defBody s_write_log) (defScope s_write_log) .none kV28 dc28 pm28 an28 cd28 ct28), sl28⟩)
    (c28 : PySem.W.codeIn K cd28 "write_log" = true)
    (k28 : PySem.W.keepIn K (.ref f28) = true)
    (l29 : K.lookup f29 = some ⟨oc29, od29, .func (PySem.W.fnOf "commit" "commit" (defArgs s_commit) (defBody s_commit) (defScope s_commit) .none kV29 dc29 pm29 an29 cd29 ct29), sl29⟩)
    (c29 : PySem.W.codeIn K cd29 "commit" = true)
    (k29 : PySem.W.keepIn K (.ref f29) = true)
    (l30 : K.lookup f30 = some ⟨oc30, od30, .func (PySem.W.fnOf "_law_odd_pair" "_law_odd_pair" (defArgs s__law_odd_pair) (defBody s__law_odd_pair) (defScope s__law_odd_pair) .none kV30 dc30 pm30 an30 cd30 ct30), sl30⟩)
    (c30 : PySem.W.codeIn K cd30 "_law_odd_pair" = true)
    (k30 : PySem.W.keepIn K (.ref f30) = true)
    (l31 : K.lookup f31 = some ⟨oc31, od31, .func (PySem.W.fnOf "_law_commits" "_law_commits" (defArgs s__law_commits) (defBody s__law_commits) (defScope s__law_commits) .none kV31 dc31 pm31 an31 cd31 ct31), sl31⟩)
    (c31 : PySem.W.codeIn K cd31 "_law_commits" = true)
    (k31 : PySem.W.keepIn K (.ref f31) = true)
    (l32 : K.lookup f32 = some ⟨oc32, od32, .func (PySem.W.fnOf "_law_head" "_law_head" (defArgs s__law_head) (defBody s__law_head) (defScope s__law_head) .none kV32 dc32 pm32 an32 cd32 ct32), sl32⟩)
    (c32 : PySem.W.codeIn K cd32 "_law_head" = true)
    (k32 : PySem.W.keepIn K (.ref f32) = true)
    (l33 : K.lookup f33 = some ⟨oc33, od33, .func (PySem.W.fnOf "law" "law" (defArgs s_law) (defBody s_law) (defScope s_law) .none kV33 dc33 pm33 an33 cd33 ct33), sl33⟩)
    (c33 : PySem.W.codeIn K cd33 "law" = true)
    (k33 : PySem.W.keepIn K (.ref f33) = true) :
    ∃ fd : FuncData, (∀ (s : Shared) (v : Value), BindsTo s fd ⟨[v], []⟩ [("_law_script", v)]) ∧ ∀ base : Heap, K.In base → base.Ns mainGlobals mg → FnOk l.prog w K mg base (CXE l.prog w) 9 fa fd ["_law_script"] (spLaw K) := by
  have e := hfa.symm.trans (PySem.W.mg_of X G a33)
  cases e
  have T : Txt K mg (⟨cKeepError, cBadRow, cNoBlock, cStopped, cBadDisk, cTooMuch, cBadLog, cDisk, fDisk_init, f_blocks, f_refuse_no_block, f_use_up_one, f_write, f_writes, f_read⟩ : Ad) := ⟨PySem.W.mg_none_of X G z_isinstance, PySem.W.mg_none_of X G z_int, PySem.W.mg_none_of X G z_bool, PySem.W.mg_none_of X G z_list, PySem.W.mg_none_of X G z_len, PySem.W.mg_none_of X G z_all, PySem.W.mg_none_of X G z_range, PySem.W.mg_none_of X G z_ValueError, PySem.W.mg_none_of X G z_min, PySem.W.mg_none_of X G z_max, PySem.W.mg_none_of X G z_sorted, PySem.W.mg_none_of X G z_zip, PySem.W.mg_none_of X G z_tuple, ⟨_, PySem.W.mg_of X G v_ROW_WORDS⟩, ⟨_, PySem.W.mg_of X G v_MOST_WORD⟩, ⟨_, PySem.W.mg_of X G v_LEAST_BLOCKS⟩, ⟨_, PySem.W.mg_of X G v_MOST_BLOCKS⟩, ⟨_, PySem.W.mg_of X G v_LOG_HEAD_AT⟩, ⟨_, PySem.W.mg_of X G v_LOG_ROWS_AT⟩, ⟨_, PySem.W.mg_of X G v_MAPS_AT⟩, ⟨_, PySem.W.mg_of X G v_MOST_HOMES⟩, PySem.W.mg_of X G n_KeepError, PySem.W.mg_of X G n_BadRow, PySem.W.mg_of X G n_NoBlock, PySem.W.mg_of X G n_Stopped, PySem.W.mg_of X G n_BadDisk, PySem.W.mg_of X G n_TooMuch, PySem.W.mg_of X G n_BadLog, PySem.W.mg_of X G n_Disk, x_BadRow, x_NoBlock, x_Stopped, x_BadDisk, x_TooMuch, x_BadLog, ⟨g0_NoBlock, g1_NoBlock, g2_NoBlock, g3_NoBlock, g4_NoBlock, g5_NoBlock, g6_NoBlock⟩, ⟨g0_BadRow, g1_BadRow, g2_BadRow, g3_BadRow, g4_BadRow, g5_BadRow, g6_BadRow⟩, ⟨g0_TooMuch, g1_TooMuch, g2_TooMuch, g3_TooMuch, g4_TooMuch, g5_TooMuch, g6_TooMuch⟩, ⟨g0_BadLog, g1_BadLog, g2_BadLog, g3_BadLog, g4_BadLog, g5_BadLog, g6_BadLog⟩, ⟨h0_KeepError, h1_KeepError⟩, s_BadRow_KeepError, s_NoBlock_KeepError, s_Stopped_KeepError, s_BadDisk_KeepError, s_TooMuch_KeepError, s_BadLog_KeepError, q_NoBlock_NoBlock, q_NoBlock_BadRow, q_NoBlock_TooMuch, q_NoBlock_BadLog, q_NoBlock_Stopped, q_NoBlock_BadDisk, q_NoBlock_ValueError, q_BadRow_NoBlock, q_BadRow_BadRow, q_BadRow_TooMuch, q_BadRow_BadLog, q_BadRow_Stopped, q_BadRow_BadDisk, q_BadRow_ValueError, q_TooMuch_NoBlock, q_TooMuch_BadRow, q_TooMuch_TooMuch, q_TooMuch_BadLog, q_TooMuch_Stopped, q_TooMuch_BadDisk, q_TooMuch_ValueError, q_BadLog_NoBlock, q_BadLog_BadRow, q_BadLog_TooMuch, q_BadLog_BadLog, q_BadLog_Stopped, q_BadLog_BadDisk, q_BadLog_ValueError, ⟨pg_Disk, hd_Disk, po_Disk, sa_Disk⟩, na_kept_rows, na_writes_done, na_writes_left, ⟨mk_Disk, a_fDisk_init, i_fDisk_init, kc_Disk⟩, ⟨a_f_blocks, i_f_blocks, kp_f_blocks⟩, ⟨a_f_refuse_no_block, i_f_refuse_no_block, kp_f_refuse_no_block⟩, ⟨a_f_use_up_one, i_f_use_up_one, kp_f_use_up_one⟩, ⟨a_f_write, i_f_write, kp_f_write⟩, ⟨a_f_writes, i_f_writes, kp_f_writes⟩, ⟨a_f_read, i_f_read, kp_f_read⟩⟩
  have F1 := fun_mk (st := s_is_whole) l1 c1 k1
  have b1 := F1.binds (ps := ["thing", "least", "most"]) fun _ _ _ _ _ _ us hl => match us, hl with | [_, _, _], _ => rfl
  have F2 := fun_mk (st := s_empty_row) l2 c2 k2
  have b2 := F2.binds (ps := []) fun _ _ _ _ _ _ us hl => match us, hl with | [], _ => rfl
  have F3 := fun_mk (st := s_Disk___init__) l3 c3 k3
  have b3 := F3.binds (ps := ["self", "many"]) fun _ _ _ _ _ _ us hl => match us, hl with | [_, _], _ => rfl
  have F4 := fun_mk (st := s_Disk_blocks) l4 c4 k4
  have b4 := F4.binds (ps := ["self"]) fun _ _ _ _ _ _ us hl => match us, hl with | [_], _ => rfl
  have F5 := fun_mk (st := s_Disk_refuse_no_block) l5 c5 k5
  have b5 := F5.binds (ps := ["self", "block"]) fun _ _ _ _ _ _ us hl => match us, hl with | [_, _], _ => rfl
  have F6 := fun_mk (st := s_Disk_use_up_one) l6 c6 k6
  have b6 := F6.binds (ps := ["self"]) fun _ _ _ _ _ _ us hl => match us, hl with | [_], _ => rfl
  have F7 := fun_mk (st := s_is_word) l7 c7 k7
  have b7 := F7.binds (ps := ["thing"]) fun _ _ _ _ _ _ us hl => match us, hl with | [_], _ => rfl
  have F8 := fun_mk (st := s_are_words) l8 c8 k8
  have b8 := F8.binds (ps := ["thing"]) fun _ _ _ _ _ _ us hl => match us, hl with | [_], _ => rfl
  have F9 := fun_mk (st := s_is_row) l9 c9 k9
  have b9 := F9.binds (ps := ["thing"]) fun _ _ _ _ _ _ us hl => match us, hl with | [_], _ => rfl
  have F10 := fun_mk (st := s_Disk_write) l10 c10 k10
  have b10 := F10.binds (ps := ["self", "block", "row"]) fun _ _ _ _ _ _ us hl => match us, hl with | [_, _, _], _ => rfl
  have F11 := fun_mk (st := s_Disk_writes) l11 c11 k11
  have b11 := F11.binds (ps := ["self"]) fun _ _ _ _ _ _ us hl => match us, hl with | [_], _ => rfl
  have F12 := fun_mk (st := s_Disk_read) l12 c12 k12
  have b12 := F12.binds (ps := ["self", "block"]) fun _ _ _ _ _ _ us hl => match us, hl with | [_, _], _ => rfl
  have F13 := fun_mk (st := s_is_home) l13 c13 k13
  have b13 := F13.binds (ps := ["disk", "block"]) fun _ _ _ _ _ _ us hl => match us, hl with | [_, _], _ => rfl
  have F14 := fun_mk (st := s_are_rising_homes) l14 c14 k14
  have b14 := F14.binds (ps := ["disk", "homes"]) fun _ _ _ _ _ _ us hl => match us, hl with | [_, _], _ => rfl
  have F15 := fun_mk (st := s_is_right_head) l15 c15 k15
  have b15 := F15.binds (ps := ["disk", "head"]) fun _ _ _ _ _ _ us hl => match us, hl with | [_, _], _ => rfl
  have F16 := fun_mk (st := s_write_homes) l16 c16 k16
  have b16 := F16.binds (ps := ["disk", "pairs"]) fun _ _ _ _ _ _ us hl => match us, hl with | [_, _], _ => rfl
  have F17 := fun_mk (st := s_come_back) l17 c17 k17
  have b17 := F17.binds (ps := ["disk"]) fun _ _ _ _ _ _ us hl => match us, hl with | [_], _ => rfl
  have F18 := fun_mk (st := s__law_is_right) l18 c18 k18
  have b18 := F18.binds (ps := ["_law_head_here", "_law_many"]) fun _ _ _ _ _ _ us hl => match us, hl with | [_, _], _ => rfl
  have F19 := fun_mk (st := s__law_row) l19 c19 k19
  have b19 := F19.binds (ps := ["_law_cell"]) fun _ _ _ _ _ _ us hl => match us, hl with | [_], _ => rfl
  have F20 := fun_mk (st := s__law_word) l20 c20 k20
  have b20 := F20.binds (ps := ["_law_e"]) fun _ _ _ _ _ _ us hl => match us, hl with | [_], _ => rfl
  have F21 := fun_mk (st := s__law_comes_back) l21 c21 k21
  have b21 := F21.binds (ps := ["_law_disk", "_law_head_here"]) fun _ _ _ _ _ _ us hl => match us, hl with | [_, _], _ => rfl
  have F22 := fun_mk (st := s__law_cell_at) l22 c22 k22
  have b22 := F22.binds (ps := ["_law_script", "_law_k"]) fun _ _ _ _ _ _ us hl => match us, hl with | [_, _], _ => rfl
  have F23 := fun_mk (st := s__law_homes) l23 c23 k23
  have b23 := F23.binds (ps := ["_law_script", "_law_many", "_law_count"]) fun _ _ _ _ _ _ us hl => match us, hl with | [_, _, _], _ => rfl
  have F24 := fun_mk (st := s__law_is_number) l24 c24 k24
  have b24 := F24.binds (ps := ["_law_word_here"]) fun _ _ _ _ _ _ us hl => match us, hl with | [_], _ => rfl
  have F25 := fun_mk (st := s__law_due) l25 c25 k25
  have b25 := F25.binds (ps := ["_law_pairs", "_law_many"]) fun _ _ _ _ _ _ us hl => match us, hl with | [_, _], _ => rfl
  have F26 := fun_mk (st := s_refuse_wrong_pairs) l26 c26 k26
  have b26 := F26.binds (ps := ["disk", "pairs"]) fun _ _ _ _ _ _ us hl => match us, hl with | [_, _], _ => rfl
  have F27 := fun_mk (st := s_changed) l27 c27 k27
  have b27 := F27.binds (ps := ["row", "at", "words"]) fun _ _ _ _ _ _ us hl => match us, hl with | [_, _, _], _ => rfl
  have F28 := fun_mk (st := s_write_log) l28 c28 k28
  have b28 := F28.binds (ps := ["disk", "pairs"]) fun _ _ _ _ _ _ us hl => match us, hl with | [_, _], _ => rfl
  have F29 := fun_mk (st := s_commit) l29 c29 k29
  have b29 := F29.binds (ps := ["disk", "pairs"]) fun _ _ _ _ _ _ us hl => match us, hl with | [_, _], _ => rfl
  have F30 := fun_mk (st := s__law_odd_pair) l30 c30 k30
  have b30 := F30.binds (ps := ["_law_pair", "_law_cell", "_law_many", "_law_ahead"]) fun _ _ _ _ _ _ us hl => match us, hl with | [_, _, _, _], _ => rfl
  have F31 := fun_mk (st := s__law_commits) l31 c31 k31
  have b31 := F31.binds (ps := ["_law_script", "_law_disk"]) fun _ _ _ _ _ _ us hl => match us, hl with | [_, _], _ => rfl
  have F32 := fun_mk (st := s__law_head) l32 c32 k32
  have b32 := F32.binds (ps := ["_law_script", "_law_many"]) fun _ _ _ _ _ _ us hl => match us, hl with | [_, _], _ => rfl
  have F33 := fun_mk (st := s_law) l33 c33 k33
  refine ⟨PySem.W.fnOf "law" "law" (defArgs s_law) (defBody s_law) (defScope s_law) .none kV33 dc33 pm33 an33 cd33 ct33, fun s v => .of_eq rfl, fun base _ _ => ?_⟩
  have D_is_whole : Df l.prog w K mg base CX0 1 "is_whole" ["thing", "least", "most"] (spWhole K (⟨cKeepError, cBadRow, cNoBlock, cStopped, cBadDisk, cTooMuch, cBadLog, cDisk, fDisk_init, f_blocks, f_refuse_no_block, f_use_up_one, f_write, f_writes, f_read⟩ : Ad)) := ⟨_, _, ok_is_whole F1 T , b1, k1, PySem.W.mg_of X G a1⟩
  have D_empty_row : Df l.prog w K mg base CX0 1 "empty_row" [] (spEmpty K (⟨cKeepError, cBadRow, cNoBlock, cStopped, cBadDisk, cTooMuch, cBadLog, cDisk, fDisk_init, f_blocks, f_refuse_no_block, f_use_up_one, f_write, f_writes, f_read⟩ : Ad)) := ⟨_, _, ok_empty_row F2 T , b2, k2, PySem.W.mg_of X G a2⟩
  have M_Disk___init__ : Mf l.prog w K mg base (CXE l.prog w) 2 (⟨cKeepError, cBadRow, cNoBlock, cStopped, cBadDisk, cTooMuch, cBadLog, cDisk, fDisk_init, f_blocks, f_refuse_no_block, f_use_up_one, f_write, f_writes, f_read⟩ : Ad).fDisk_init ["self", "many"] (spInit K (⟨cKeepError, cBadRow, cNoBlock, cStopped, cBadDisk, cTooMuch, cBadLog, cDisk, fDisk_init, f_blocks, f_refuse_no_block, f_use_up_one, f_write, f_writes, f_read⟩ : Ad)) := ⟨_, ok_Disk___init__ F3 T D_is_whole D_empty_row, b3⟩
  have M_Disk_blocks : Mf l.prog w K mg base (CXE l.prog w) 1 (⟨cKeepError, cBadRow, cNoBlock, cStopped, cBadDisk, cTooMuch, cBadLog, cDisk, fDisk_init, f_blocks, f_refuse_no_block, f_use_up_one, f_write, f_writes, f_read⟩ : Ad).f_blocks ["self"] (spBlocks K (⟨cKeepError, cBadRow, cNoBlock, cStopped, cBadDisk, cTooMuch, cBadLog, cDisk, fDisk_init, f_blocks, f_refuse_no_block, f_use_up_one, f_write, f_writes, f_read⟩ : Ad)) := ⟨_, ok_Disk_blocks F4 T , b4⟩
  have M_Disk_refuse_no_block : Mf l.prog w K mg base (CXE l.prog w) 2 (⟨cKeepError, cBadRow, cNoBlock, cStopped, cBadDisk, cTooMuch, cBadLog, cDisk, fDisk_init, f_blocks, f_refuse_no_block, f_use_up_one, f_write, f_writes, f_read⟩ : Ad).f_refuse_no_block ["self", "block"] (spRefuse K (⟨cKeepError, cBadRow, cNoBlock, cStopped, cBadDisk, cTooMuch, cBadLog, cDisk, fDisk_init, f_blocks, f_refuse_no_block, f_use_up_one, f_write, f_writes, f_read⟩ : Ad)) := ⟨_, ok_Disk_refuse_no_block F5 T D_is_whole M_Disk_blocks, b5⟩
  have M_Disk_use_up_one : Mf l.prog w K mg base (CXE l.prog w) 1 (⟨cKeepError, cBadRow, cNoBlock, cStopped, cBadDisk, cTooMuch, cBadLog, cDisk, fDisk_init, f_blocks, f_refuse_no_block, f_use_up_one, f_write, f_writes, f_read⟩ : Ad).f_use_up_one ["self"] (spUseUp K (⟨cKeepError, cBadRow, cNoBlock, cStopped, cBadDisk, cTooMuch, cBadLog, cDisk, fDisk_init, f_blocks, f_refuse_no_block, f_use_up_one, f_write, f_writes, f_read⟩ : Ad)) := ⟨_, ok_Disk_use_up_one F6 T , b6⟩
  have D_is_word : Df l.prog w K mg base CX0 2 "is_word" ["thing"] (spWord K (⟨cKeepError, cBadRow, cNoBlock, cStopped, cBadDisk, cTooMuch, cBadLog, cDisk, fDisk_init, f_blocks, f_refuse_no_block, f_use_up_one, f_write, f_writes, f_read⟩ : Ad)) := ⟨_, _, ok_is_word F7 T D_is_whole, b7, k7, PySem.W.mg_of X G a7⟩
  have D_are_words : Df l.prog w K mg base CX0 3 "are_words" ["thing"] (spAre K (⟨cKeepError, cBadRow, cNoBlock, cStopped, cBadDisk, cTooMuch, cBadLog, cDisk, fDisk_init, f_blocks, f_refuse_no_block, f_use_up_one, f_write, f_writes, f_read⟩ : Ad)) := ⟨_, _, ok_are_words F8 T D_is_word, b8, k8, PySem.W.mg_of X G a8⟩
  have D_is_row : Df l.prog w K mg base CX0 4 "is_row" ["thing"] (spIsRow K (⟨cKeepError, cBadRow, cNoBlock, cStopped, cBadDisk, cTooMuch, cBadLog, cDisk, fDisk_init, f_blocks, f_refuse_no_block, f_use_up_one, f_write, f_writes, f_read⟩ : Ad)) := ⟨_, _, ok_is_row F9 T D_are_words, b9, k9, PySem.W.mg_of X G a9⟩
  have M_Disk_write : Mf l.prog w K mg base (CXE l.prog w) 5 (⟨cKeepError, cBadRow, cNoBlock, cStopped, cBadDisk, cTooMuch, cBadLog, cDisk, fDisk_init, f_blocks, f_refuse_no_block, f_use_up_one, f_write, f_writes, f_read⟩ : Ad).f_write ["self", "block", "row"] (spWrite K (⟨cKeepError, cBadRow, cNoBlock, cStopped, cBadDisk, cTooMuch, cBadLog, cDisk, fDisk_init, f_blocks, f_refuse_no_block, f_use_up_one, f_write, f_writes, f_read⟩ : Ad)) := ⟨_, ok_Disk_write F10 T M_Disk_refuse_no_block M_Disk_use_up_one D_is_row, b10⟩
  have M_Disk_writes : Mf l.prog w K mg base (CXE l.prog w) 1 (⟨cKeepError, cBadRow, cNoBlock, cStopped, cBadDisk, cTooMuch, cBadLog, cDisk, fDisk_init, f_blocks, f_refuse_no_block, f_use_up_one, f_write, f_writes, f_read⟩ : Ad).f_writes ["self"] (spWrites K (⟨cKeepError, cBadRow, cNoBlock, cStopped, cBadDisk, cTooMuch, cBadLog, cDisk, fDisk_init, f_blocks, f_refuse_no_block, f_use_up_one, f_write, f_writes, f_read⟩ : Ad)) := ⟨_, ok_Disk_writes F11 T , b11⟩
  have M_Disk_read : Mf l.prog w K mg base (CXE l.prog w) 3 (⟨cKeepError, cBadRow, cNoBlock, cStopped, cBadDisk, cTooMuch, cBadLog, cDisk, fDisk_init, f_blocks, f_refuse_no_block, f_use_up_one, f_write, f_writes, f_read⟩ : Ad).f_read ["self", "block"] (spRead K (⟨cKeepError, cBadRow, cNoBlock, cStopped, cBadDisk, cTooMuch, cBadLog, cDisk, fDisk_init, f_blocks, f_refuse_no_block, f_use_up_one, f_write, f_writes, f_read⟩ : Ad)) := ⟨_, ok_Disk_read F12 T M_Disk_refuse_no_block, b12⟩
  have D_is_home : Df l.prog w K mg base (CXE l.prog w) 2 "is_home" ["disk", "block"] (spHome K (⟨cKeepError, cBadRow, cNoBlock, cStopped, cBadDisk, cTooMuch, cBadLog, cDisk, fDisk_init, f_blocks, f_refuse_no_block, f_use_up_one, f_write, f_writes, f_read⟩ : Ad)) := ⟨_, _, ok_is_home F13 T D_is_whole M_Disk_blocks, b13, k13, PySem.W.mg_of X G a13⟩
  have D_are_rising_homes : Df l.prog w K mg base (CXE l.prog w) 3 "are_rising_homes" ["disk", "homes"] (spRising K (⟨cKeepError, cBadRow, cNoBlock, cStopped, cBadDisk, cTooMuch, cBadLog, cDisk, fDisk_init, f_blocks, f_refuse_no_block, f_use_up_one, f_write, f_writes, f_read⟩ : Ad)) := ⟨_, _, ok_are_rising_homes F14 T D_is_home, b14, k14, PySem.W.mg_of X G a14⟩
  have D_is_right_head : Df l.prog w K mg base (CXE l.prog w) 4 "is_right_head" ["disk", "head"] (spRight K (⟨cKeepError, cBadRow, cNoBlock, cStopped, cBadDisk, cTooMuch, cBadLog, cDisk, fDisk_init, f_blocks, f_refuse_no_block, f_use_up_one, f_write, f_writes, f_read⟩ : Ad)) := ⟨_, _, ok_is_right_head F15 T D_are_rising_homes, b15, k15, PySem.W.mg_of X G a15⟩
  have D_write_homes : Df l.prog w K mg base (CXE l.prog w) 6 "write_homes" ["disk", "pairs"] (spWHomes K (⟨cKeepError, cBadRow, cNoBlock, cStopped, cBadDisk, cTooMuch, cBadLog, cDisk, fDisk_init, f_blocks, f_refuse_no_block, f_use_up_one, f_write, f_writes, f_read⟩ : Ad)) := ⟨_, _, ok_write_homes F16 T M_Disk_write D_empty_row, b16, k16, PySem.W.mg_of X G a16⟩
  have D_come_back : Df l.prog w K mg base (CXE l.prog w) 7 "come_back" ["disk"] (spBack K (⟨cKeepError, cBadRow, cNoBlock, cStopped, cBadDisk, cTooMuch, cBadLog, cDisk, fDisk_init, f_blocks, f_refuse_no_block, f_use_up_one, f_write, f_writes, f_read⟩ : Ad)) := ⟨_, _, ok_come_back F17 T M_Disk_read D_is_right_head D_write_homes, b17, k17, PySem.W.mg_of X G a17⟩
  have D__law_is_right : Df l.prog w K mg base (CXE l.prog w) 1 "_law_is_right" ["_law_head_here", "_law_many"] (spIsRight K (⟨cKeepError, cBadRow, cNoBlock, cStopped, cBadDisk, cTooMuch, cBadLog, cDisk, fDisk_init, f_blocks, f_refuse_no_block, f_use_up_one, f_write, f_writes, f_read⟩ : Ad)) := ⟨_, _, ok__law_is_right F18 T , b18, k18, PySem.W.mg_of X G a18⟩
  have D__law_row : Df l.prog w K mg base CX0 1 "_law_row" ["_law_cell"] (spRowL K (⟨cKeepError, cBadRow, cNoBlock, cStopped, cBadDisk, cTooMuch, cBadLog, cDisk, fDisk_init, f_blocks, f_refuse_no_block, f_use_up_one, f_write, f_writes, f_read⟩ : Ad)) := ⟨_, _, ok__law_row F19 T , b19, k19, PySem.W.mg_of X G a19⟩
  have D__law_word : Df l.prog w K mg base CX0 1 "_law_word" ["_law_e"] (spWordL K (⟨cKeepError, cBadRow, cNoBlock, cStopped, cBadDisk, cTooMuch, cBadLog, cDisk, fDisk_init, f_blocks, f_refuse_no_block, f_use_up_one, f_write, f_writes, f_read⟩ : Ad)) := ⟨_, _, ok__law_word F20 T , b20, k20, PySem.W.mg_of X G a20⟩
  have D__law_comes_back : Df l.prog w K mg base (CXE l.prog w) 8 "_law_comes_back" ["_law_disk", "_law_head_here"] (spComesBack K (⟨cKeepError, cBadRow, cNoBlock, cStopped, cBadDisk, cTooMuch, cBadLog, cDisk, fDisk_init, f_blocks, f_refuse_no_block, f_use_up_one, f_write, f_writes, f_read⟩ : Ad)) := ⟨_, _, ok__law_comes_back F21 T M_Disk_write M_Disk_writes D_come_back D__law_is_right D__law_row M_Disk_read D__law_word M_Disk_blocks, b21, k21, PySem.W.mg_of X G a21⟩
  have D__law_cell_at : Df l.prog w K mg base CX0 1 "_law_cell_at" ["_law_script", "_law_k"] (spCell K (⟨cKeepError, cBadRow, cNoBlock, cStopped, cBadDisk, cTooMuch, cBadLog, cDisk, fDisk_init, f_blocks, f_refuse_no_block, f_use_up_one, f_write, f_writes, f_read⟩ : Ad)) := ⟨_, _, ok__law_cell_at F22 T , b22, k22, PySem.W.mg_of X G a22⟩
  have D__law_homes : Df l.prog w K mg base (CXE l.prog w) 2 "_law_homes" ["_law_script", "_law_many", "_law_count"] (spHomesL K (⟨cKeepError, cBadRow, cNoBlock, cStopped, cBadDisk, cTooMuch, cBadLog, cDisk, fDisk_init, f_blocks, f_refuse_no_block, f_use_up_one, f_write, f_writes, f_read⟩ : Ad)) := ⟨_, _, ok__law_homes F23 T D__law_cell_at, b23, k23, PySem.W.mg_of X G a23⟩
  have D__law_is_number : Df l.prog w K mg base CX0 1 "_law_is_number" ["_law_word_here"] (spIsNumber K (⟨cKeepError, cBadRow, cNoBlock, cStopped, cBadDisk, cTooMuch, cBadLog, cDisk, fDisk_init, f_blocks, f_refuse_no_block, f_use_up_one, f_write, f_writes, f_read⟩ : Ad)) := ⟨_, _, ok__law_is_number F24 T , b24, k24, PySem.W.mg_of X G a24⟩
  have D__law_due : Df l.prog w K mg base (CXE l.prog w) 2 "_law_due" ["_law_pairs", "_law_many"] (spDueL K (⟨cKeepError, cBadRow, cNoBlock, cStopped, cBadDisk, cTooMuch, cBadLog, cDisk, fDisk_init, f_blocks, f_refuse_no_block, f_use_up_one, f_write, f_writes, f_read⟩ : Ad)) := ⟨_, _, ok__law_due F25 T D__law_is_number, b25, k25, PySem.W.mg_of X G a25⟩
  have D_refuse_wrong_pairs : Df l.prog w K mg base (CXE l.prog w) 5 "refuse_wrong_pairs" ["disk", "pairs"] (spRefuseP K (⟨cKeepError, cBadRow, cNoBlock, cStopped, cBadDisk, cTooMuch, cBadLog, cDisk, fDisk_init, f_blocks, f_refuse_no_block, f_use_up_one, f_write, f_writes, f_read⟩ : Ad)) := ⟨_, _, ok_refuse_wrong_pairs F26 T D_is_home D_is_row, b26, k26, PySem.W.mg_of X G a26⟩
  have D_changed : Df l.prog w K mg base CX0 1 "changed" ["row", "at", "words"] (spChanged K (⟨cKeepError, cBadRow, cNoBlock, cStopped, cBadDisk, cTooMuch, cBadLog, cDisk, fDisk_init, f_blocks, f_refuse_no_block, f_use_up_one, f_write, f_writes, f_read⟩ : Ad)) := ⟨_, _, ok_changed F27 T , b27, k27, PySem.W.mg_of X G a27⟩
  have D_write_log : Df l.prog w K mg base (CXE l.prog w) 6 "write_log" ["disk", "pairs"] (spWLog K (⟨cKeepError, cBadRow, cNoBlock, cStopped, cBadDisk, cTooMuch, cBadLog, cDisk, fDisk_init, f_blocks, f_refuse_no_block, f_use_up_one, f_write, f_writes, f_read⟩ : Ad)) := ⟨_, _, ok_write_log F28 T M_Disk_write D_changed D_empty_row, b28, k28, PySem.W.mg_of X G a28⟩
  have D_commit : Df l.prog w K mg base (CXE l.prog w) 7 "commit" ["disk", "pairs"] (spCommit K (⟨cKeepError, cBadRow, cNoBlock, cStopped, cBadDisk, cTooMuch, cBadLog, cDisk, fDisk_init, f_blocks, f_refuse_no_block, f_use_up_one, f_write, f_writes, f_read⟩ : Ad)) := ⟨_, _, ok_commit F29 T D_refuse_wrong_pairs D_write_log D_write_homes, b29, k29, PySem.W.mg_of X G a29⟩
  have D__law_odd_pair : Df l.prog w K mg base (CXE l.prog w) 1 "_law_odd_pair" ["_law_pair", "_law_cell", "_law_many", "_law_ahead"] (spOddPair K (⟨cKeepError, cBadRow, cNoBlock, cStopped, cBadDisk, cTooMuch, cBadLog, cDisk, fDisk_init, f_blocks, f_refuse_no_block, f_use_up_one, f_write, f_writes, f_read⟩ : Ad)) := ⟨_, _, ok__law_odd_pair F30 T , b30, k30, PySem.W.mg_of X G a30⟩
  have D__law_commits : Df l.prog w K mg base (CXE l.prog w) 8 "_law_commits" ["_law_script", "_law_disk"] (spCommits K (⟨cKeepError, cBadRow, cNoBlock, cStopped, cBadDisk, cTooMuch, cBadLog, cDisk, fDisk_init, f_blocks, f_refuse_no_block, f_use_up_one, f_write, f_writes, f_read⟩ : Ad)) := ⟨_, _, ok__law_commits F31 T M_Disk_blocks D__law_homes D__law_due D_commit D__law_cell_at D__law_row M_Disk_read D__law_word M_Disk_writes D__law_odd_pair, b31, k31, PySem.W.mg_of X G a31⟩
  have D__law_head : Df l.prog w K mg base (CXE l.prog w) 3 "_law_head" ["_law_script", "_law_many"] (spHeadL K (⟨cKeepError, cBadRow, cNoBlock, cStopped, cBadDisk, cTooMuch, cBadLog, cDisk, fDisk_init, f_blocks, f_refuse_no_block, f_use_up_one, f_write, f_writes, f_read⟩ : Ad)) := ⟨_, _, ok__law_head F32 T D__law_homes D__law_cell_at, b32, k32, PySem.W.mg_of X G a32⟩
  exact ok_law F33 T M_Disk___init__ D__law_comes_back D__law_commits D__law_head D__law_cell_at M_Disk_blocks
theorem walk {l : PySem.W.OpenLaw} {q : Program} {loose : List Str} {XP : (Str → Option Value) → Heap → Prop} {YP : World → Heap → Prop} {d : DefRec} {K : Params → PySem.W.Frag} (hn : l.most = some 63) (hdf : d.params.defaults = [])
    (hY : ∀ (w : World) (h : Heap), YP w h → (K w.params).In h)
    (F : ∀ (w : World) (mg : Str → Option Value) (fa : Addr) (h : Heap), (K w.params).In h → h.Ns mainGlobals mg → mg d.name = some (.ref fa) →
      ∃ fd : FuncData, (∀ (s : Shared) (u : Value), BindsTo s fd ⟨[u], []⟩ [("_law_script", u)]) ∧ ∀ base : Heap, (K w.params).In base → base.Ns mainGlobals mg → FnOk l.prog w (K w.params) mg base (CXE l.prog w) 9 fa fd ["_law_script"] (spLaw (K w.params))) :
    PySem.W.WalkO q loose XP YP l.row.toRowW d [] (fun f vs => PySem.call f vs) :=
  L2.walk_of (n := 63) (k := 9) (x := "_law_script") (CX := fun w => CXE l.prog w) (sp := fun w => spLaw (K w.params)) hn (by decide) hdf ⟨by decide, by decide⟩ hY F (fun _ _ a ns hl _ hS => ⟨a, ns, rfl, hS, hl, fun _ => rfl⟩) fun _ _ _ _ _ z => cxe0 z
end K7
def PySem.W.Fast.tw6289462835599910695 : Nat := 0
def PySem.W.Fast.tw8190208298840260910 : Nat := 0
def PySem.W.Fast.tw10288058542156538536 : Nat := 0
def PySem.W.Fast.tw18108985080091978195 : Nat := 0
def PySem.W.Fast.tw15518894273534257440 : Nat := 0
def PySem.W.Fast.tw13656971762518395106 : Nat := 0
def PySem.W.Fast.tw16008594686665074615 : Nat := 0
def PySem.W.Fast.tw17305089164571073188 : Nat := 0
def PySem.W.Fast.tw12545644997984236936 : Nat := 0
def PySem.W.Fast.tw10902045237000067176 : Nat := 0
def PySem.W.Fast.tw14260950590930189824 : Nat := 0
def PySem.W.Fast.tw2183439888500274437 : Nat := 0
def PySem.W.Fast.tw16472386162628357201 : Nat := 0
def PySem.W.Fast.tw10448458269672581075 : Nat := 0
def PySem.W.Fast.tw15535464317966593914 : Nat := 0
def PySem.W.Fast.tw18320385900926277507 : Nat := 0
def PySem.W.Fast.tw17064548821645391449 : Nat := 0
def PySem.W.Fast.tw1152205201431484850 : Nat := 0
def PySem.W.Fast.tw4932153569598399855 : Nat := 0
def PySem.W.Fast.tw4161356387842154910 : Nat := 0
open PySem PySem.W PyProof.Rows
set_option maxRecDepth 100000 in
set_option maxHeartbeats 0 in
theorem PySem.Challenge.cw_blockkeep_k07_logs_and_pairs_refused_holds : PySem.Challenge.rw_blockkeep_k07_logs_and_pairs_refused.Holds := by
  w_on; o_law; k_head; (case hw => w_witness2)
  k_fill
  refine K7.walk (l := PySem.Challenge.rw_blockkeep_k07_logs_and_pairs_refused) rfl rfl (fun w h Y => PySem.W.kIn_of Y) ?F
  case F =>
    intro w mg fa h KX G hmg
    refine' K7.all_mk KX G hmg ?h_n_KeepError ?h_n_BadRow ?h_n_NoBlock ?h_n_Stopped ?h_n_BadDisk ?h_n_TooMuch ?h_n_BadLog ?h_n_Disk ?h_a_fDisk_init ?h_a_f_blocks ?h_a_f_refuse_no_block ?h_a_f_use_up_one ?h_a_f_write ?h_a_f_writes ?h_a_f_read ?h_a1 ?h_a2 ?h_a7 ?h_a8 ?h_a9 ?h_a13 ?h_a14 ?h_a15 ?h_a16 ?h_a17 ?h_a18 ?h_a19 ?h_a20 ?h_a21 ?h_a22 ?h_a23 ?h_a24 ?h_a25 ?h_a26 ?h_a27 ?h_a28 ?h_a29 ?h_a30 ?h_a31 ?h_a32 ?h_a33 ?h_z_isinstance ?h_z_int ?h_z_bool ?h_z_list ?h_z_len ?h_z_all ?h_z_range ?h_z_ValueError ?h_z_min ?h_z_max ?h_z_sorted ?h_z_zip ?h_z_tuple ?h_v_ROW_WORDS ?h_v_MOST_WORD ?h_v_LEAST_BLOCKS ?h_v_MOST_BLOCKS ?h_v_LOG_HEAD_AT ?h_v_LOG_ROWS_AT ?h_v_MAPS_AT ?h_v_MOST_HOMES ?h_x_BadRow ?h_x_NoBlock ?h_x_Stopped ?h_x_BadDisk ?h_x_TooMuch ?h_x_BadLog ?h_g0_NoBlock ?h_g1_NoBlock ?h_g2_NoBlock ?h_g3_NoBlock ?h_g4_NoBlock ?h_g5_NoBlock ?h_g6_NoBlock ?h_g0_BadRow ?h_g1_BadRow ?h_g2_BadRow ?h_g3_BadRow ?h_g4_BadRow ?h_g5_BadRow ?h_g6_BadRow ?h_g0_TooMuch ?h_g1_TooMuch ?h_g2_TooMuch ?h_g3_TooMuch ?h_g4_TooMuch ?h_g5_TooMuch ?h_g6_TooMuch ?h_g0_BadLog ?h_g1_BadLog ?h_g2_BadLog ?h_g3_BadLog ?h_g4_BadLog ?h_g5_BadLog ?h_g6_BadLog ?h_h0_KeepError ?h_h1_KeepError ?h_s_BadRow_KeepError ?h_s_NoBlock_KeepError ?h_s_Stopped_KeepError ?h_s_BadDisk_KeepError ?h_s_TooMuch_KeepError ?h_s_BadLog_KeepError ?h_q_NoBlock_NoBlock ?h_q_NoBlock_BadRow ?h_q_NoBlock_TooMuch ?h_q_NoBlock_BadLog ?h_q_NoBlock_Stopped ?h_q_NoBlock_BadDisk ?h_q_NoBlock_ValueError ?h_q_BadRow_NoBlock ?h_q_BadRow_BadRow ?h_q_BadRow_TooMuch ?h_q_BadRow_BadLog ?h_q_BadRow_Stopped ?h_q_BadRow_BadDisk ?h_q_BadRow_ValueError ?h_q_TooMuch_NoBlock ?h_q_TooMuch_BadRow ?h_q_TooMuch_TooMuch ?h_q_TooMuch_BadLog ?h_q_TooMuch_Stopped ?h_q_TooMuch_BadDisk ?h_q_TooMuch_ValueError ?h_q_BadLog_NoBlock ?h_q_BadLog_BadRow ?h_q_BadLog_TooMuch ?h_q_BadLog_BadLog ?h_q_BadLog_Stopped ?h_q_BadLog_BadDisk ?h_q_BadLog_ValueError ?h_pg_Disk ?h_hd_Disk ?h_po_Disk ?h_sa_Disk ?h_na_kept_rows ?h_na_writes_done ?h_na_writes_left ?h_mk_Disk ?h_i_fDisk_init ?h_kc_Disk ?h_i_f_blocks ?h_kp_f_blocks ?h_i_f_refuse_no_block ?h_kp_f_refuse_no_block ?h_i_f_use_up_one ?h_kp_f_use_up_one ?h_i_f_write ?h_kp_f_write ?h_i_f_writes ?h_kp_f_writes ?h_i_f_read ?h_kp_f_read ?h_l1 ?h_c1 ?h_k1 ?h_l2 ?h_c2 ?h_k2 ?h_l3 ?h_c3 ?h_k3 ?h_l4 ?h_c4 ?h_k4 ?h_l5 ?h_c5 ?h_k5 ?h_l6 ?h_c6 ?h_k6 ?h_l7 ?h_c7 ?h_k7 ?h_l8 ?h_c8 ?h_k8 ?h_l9 ?h_c9 ?h_k9 ?h_l10 ?h_c10 ?h_k10 ?h_l11 ?h_c11 ?h_k11 ?h_l12 ?h_c12 ?h_k12 ?h_l13 ?h_c13 ?h_k13 ?h_l14 ?h_c14 ?h_k14 ?h_l15 ?h_c15 ?h_k15 ?h_l16 ?h_c16 ?h_k16 ?h_l17 ?h_c17 ?h_k17 ?h_l18 ?h_c18 ?h_k18 ?h_l19 ?h_c19 ?h_k19 ?h_l20 ?h_c20 ?h_k20 ?h_l21 ?h_c21 ?h_k21 ?h_l22 ?h_c22 ?h_k22 ?h_l23 ?h_c23 ?h_k23 ?h_l24 ?h_c24 ?h_k24 ?h_l25 ?h_c25 ?h_k25 ?h_l26 ?h_c26 ?h_k26 ?h_l27 ?h_c27 ?h_k27 ?h_l28 ?h_c28 ?h_k28 ?h_l29 ?h_c29 ?h_k29 ?h_l30 ?h_c30 ?h_k30 ?h_l31 ?h_c31 ?h_k31 ?h_l32 ?h_c32 ?h_k32 ?h_l33 ?h_c33 ?h_k33
    (case h_n_KeepError => k_is)
    (case h_n_BadRow => k_is)
    (case h_n_NoBlock => k_is)
    (case h_n_Stopped => k_is)
    (case h_n_BadDisk => k_is)
    (case h_n_TooMuch => k_is)
    (case h_n_BadLog => k_is)
    (case h_n_Disk => k_is)
    (case h_a_fDisk_init => k_is)
    (case h_a_f_blocks => k_is)
    (case h_a_f_refuse_no_block => k_is)
    (case h_a_f_use_up_one => k_is)
    (case h_a_f_write => k_is)
    (case h_a_f_writes => k_is)
    (case h_a_f_read => k_is)
    (case h_a1 => k_is)
    (case h_a2 => k_is)
    (case h_a7 => k_is)
    (case h_a8 => k_is)
    (case h_a9 => k_is)
    (case h_a13 => k_is)
    (case h_a14 => k_is)
    (case h_a15 => k_is)
    (case h_a16 => k_is)
    (case h_a17 => k_is)
    (case h_a18 => k_is)
    (case h_a19 => k_is)
    (case h_a20 => k_is)
    (case h_a21 => k_is)
    (case h_a22 => k_is)
    (case h_a23 => k_is)
    (case h_a24 => k_is)
    (case h_a25 => k_is)
    (case h_a26 => k_is)
    (case h_a27 => k_is)
    (case h_a28 => k_is)
    (case h_a29 => k_is)
    (case h_a30 => k_is)
    (case h_a31 => k_is)
    (case h_a32 => k_is)
    (case h_a33 => k_is)
    (case h_z_isinstance => k_is)
    (case h_z_int => k_is)
    (case h_z_bool => k_is)
    (case h_z_list => k_is)
    (case h_z_len => k_is)
    (case h_z_all => k_is)
    (case h_z_range => k_is)
    (case h_z_ValueError => k_is)
    (case h_z_min => k_is)
    (case h_z_max => k_is)
    (case h_z_sorted => k_is)
    (case h_z_zip => k_is)
    (case h_z_tuple => k_is)
    (case h_v_ROW_WORDS => k_is)
    (case h_v_MOST_WORD => k_is)
    (case h_v_LEAST_BLOCKS => k_is)
    (case h_v_MOST_BLOCKS => k_is)
    (case h_v_LOG_HEAD_AT => k_is)
    (case h_v_LOG_ROWS_AT => k_is)
    (case h_v_MAPS_AT => k_is)
    (case h_v_MOST_HOMES => k_is)
    (case h_x_BadRow => k_exc)
    (case h_x_NoBlock => k_exc)
    (case h_x_Stopped => k_exc)
    (case h_x_BadDisk => k_exc)
    (case h_x_TooMuch => k_exc)
    (case h_x_BadLog => k_exc)
    (case h_g0_NoBlock => k_is)
    (case h_g1_NoBlock => k_is)
    (case h_g2_NoBlock => k_is)
    (case h_g3_NoBlock => k_is)
    (case h_g4_NoBlock => k_is)
    (case h_g5_NoBlock => kernel_rfl)
    (case h_g6_NoBlock => kernel_rfl)
    (case h_g0_BadRow => k_is)
    (case h_g1_BadRow => k_is)
    (case h_g2_BadRow => k_is)
    (case h_g3_BadRow => k_is)
    (case h_g4_BadRow => k_is)
    (case h_g5_BadRow => kernel_rfl)
    (case h_g6_BadRow => kernel_rfl)
    (case h_g0_TooMuch => k_is)
    (case h_g1_TooMuch => k_is)
    (case h_g2_TooMuch => k_is)
    (case h_g3_TooMuch => k_is)
    (case h_g4_TooMuch => k_is)
    (case h_g5_TooMuch => kernel_rfl)
    (case h_g6_TooMuch => kernel_rfl)
    (case h_g0_BadLog => k_is)
    (case h_g1_BadLog => k_is)
    (case h_g2_BadLog => k_is)
    (case h_g3_BadLog => k_is)
    (case h_g4_BadLog => k_is)
    (case h_g5_BadLog => kernel_rfl)
    (case h_g6_BadLog => kernel_rfl)
    (case h_h0_KeepError => kernel_rfl)
    (case h_h1_KeepError => k_is)
    (case h_s_BadRow_KeepError => k_is)
    (case h_s_NoBlock_KeepError => k_is)
    (case h_s_Stopped_KeepError => k_is)
    (case h_s_BadDisk_KeepError => k_is)
    (case h_s_TooMuch_KeepError => k_is)
    (case h_s_BadLog_KeepError => k_is)
    (case h_q_NoBlock_NoBlock => kernel_rfl)
    (case h_q_NoBlock_BadRow => kernel_rfl)
    (case h_q_NoBlock_TooMuch => kernel_rfl)
    (case h_q_NoBlock_BadLog => kernel_rfl)
    (case h_q_NoBlock_Stopped => kernel_rfl)
    (case h_q_NoBlock_BadDisk => kernel_rfl)
    (case h_q_NoBlock_ValueError => kernel_rfl)
    (case h_q_BadRow_NoBlock => kernel_rfl)
    (case h_q_BadRow_BadRow => kernel_rfl)
    (case h_q_BadRow_TooMuch => kernel_rfl)
    (case h_q_BadRow_BadLog => kernel_rfl)
    (case h_q_BadRow_Stopped => kernel_rfl)
    (case h_q_BadRow_BadDisk => kernel_rfl)
    (case h_q_BadRow_ValueError => kernel_rfl)
    (case h_q_TooMuch_NoBlock => kernel_rfl)
    (case h_q_TooMuch_BadRow => kernel_rfl)
    (case h_q_TooMuch_TooMuch => kernel_rfl)
    (case h_q_TooMuch_BadLog => kernel_rfl)
    (case h_q_TooMuch_Stopped => kernel_rfl)
    (case h_q_TooMuch_BadDisk => kernel_rfl)
    (case h_q_TooMuch_ValueError => kernel_rfl)
    (case h_q_BadLog_NoBlock => kernel_rfl)
    (case h_q_BadLog_BadRow => kernel_rfl)
    (case h_q_BadLog_TooMuch => kernel_rfl)
    (case h_q_BadLog_BadLog => kernel_rfl)
    (case h_q_BadLog_Stopped => kernel_rfl)
    (case h_q_BadLog_BadDisk => kernel_rfl)
    (case h_q_BadLog_ValueError => kernel_rfl)
    (case h_pg_Disk => k_is)
    (case h_hd_Disk => k_is)
    (case h_po_Disk => k_is)
    (case h_sa_Disk => k_is)
    (case h_na_kept_rows => k_is)
    (case h_na_writes_done => k_is)
    (case h_na_writes_left => k_is)
    (case h_mk_Disk => k_is)
    (case h_i_fDisk_init => k_is)
    (case h_kc_Disk => k_is)
    (case h_i_f_blocks => k_is)
    (case h_kp_f_blocks => k_is)
    (case h_i_f_refuse_no_block => k_is)
    (case h_kp_f_refuse_no_block => k_is)
    (case h_i_f_use_up_one => k_is)
    (case h_kp_f_use_up_one => k_is)
    (case h_i_f_write => k_is)
    (case h_kp_f_write => k_is)
    (case h_i_f_writes => k_is)
    (case h_kp_f_writes => k_is)
    (case h_i_f_read => k_is)
    (case h_kp_f_read => k_is)
    (case h_l1 => k_is)
    (case h_c1 => k_is)
    (case h_k1 => k_is)
    (case h_l2 => k_is)
    (case h_c2 => k_is)
    (case h_k2 => k_is)
    (case h_l3 => k_is)
    (case h_c3 => k_is)
    (case h_k3 => k_is)
    (case h_l4 => k_is)
    (case h_c4 => k_is)
    (case h_k4 => k_is)
    (case h_l5 => k_is)
    (case h_c5 => k_is)
    (case h_k5 => k_is)
    (case h_l6 => k_is)
    (case h_c6 => k_is)
    (case h_k6 => k_is)
    (case h_l7 => k_is)
    (case h_c7 => k_is)
    (case h_k7 => k_is)
    (case h_l8 => k_is)
    (case h_c8 => k_is)
    (case h_k8 => k_is)
    (case h_l9 => k_is)
    (case h_c9 => k_is)
    (case h_k9 => k_is)
    (case h_l10 => k_is)
    (case h_c10 => k_is)
    (case h_k10 => k_is)
    (case h_l11 => k_is)
    (case h_c11 => k_is)
    (case h_k11 => k_is)
    (case h_l12 => k_is)
    (case h_c12 => k_is)
    (case h_k12 => k_is)
    (case h_l13 => k_is)
    (case h_c13 => k_is)
    (case h_k13 => k_is)
    (case h_l14 => k_is)
    (case h_c14 => k_is)
    (case h_k14 => k_is)
    (case h_l15 => k_is)
    (case h_c15 => k_is)
    (case h_k15 => k_is)
    (case h_l16 => k_is)
    (case h_c16 => k_is)
    (case h_k16 => k_is)
    (case h_l17 => k_is)
    (case h_c17 => k_is)
    (case h_k17 => k_is)
    (case h_l18 => k_is)
    (case h_c18 => k_is)
    (case h_k18 => k_is)
    (case h_l19 => k_is)
    (case h_c19 => k_is)
    (case h_k19 => k_is)
    (case h_l20 => k_is)
    (case h_c20 => k_is)
    (case h_k20 => k_is)
    (case h_l21 => k_is)
    (case h_c21 => k_is)
    (case h_k21 => k_is)
    (case h_l22 => k_is)
    (case h_c22 => k_is)
    (case h_k22 => k_is)
    (case h_l23 => k_is)
    (case h_c23 => k_is)
    (case h_k23 => k_is)
    (case h_l24 => k_is)
    (case h_c24 => k_is)
    (case h_k24 => k_is)
    (case h_l25 => k_is)
    (case h_c25 => k_is)
    (case h_k25 => k_is)
    (case h_l26 => k_is)
    (case h_c26 => k_is)
    (case h_k26 => k_is)
    (case h_l27 => k_is)
    (case h_c27 => k_is)
    (case h_k27 => k_is)
    (case h_l28 => k_is)
    (case h_c28 => k_is)
    (case h_k28 => k_is)
    (case h_l29 => k_is)
    (case h_c29 => k_is)
    (case h_k29 => k_is)
    (case h_l30 => k_is)
    (case h_c30 => k_is)
    (case h_k30 => k_is)
    (case h_l31 => k_is)
    (case h_c31 => k_is)
    (case h_k31 => k_is)
    (case h_l32 => k_is)
    (case h_c32 => k_is)
    (case h_k32 => k_is)
    (case h_l33 => k_is)
    (case h_c33 => k_is)
    (case h_k33 => k_is)
end
