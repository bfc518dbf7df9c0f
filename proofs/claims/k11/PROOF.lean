import PyProof.Rows.All
import Wide.All
import OpenK.AllK
import Wide.FinOn
import Lean
import PyProof.EqAt
import PyProof.EqKinds
import PyProof.TupleCall
import PyProof.EqLayable
import PyProof.ConsumeWalk
import PySem.Challenge.RW_blockkeep_k11_words_of_nodes
section
set_option Elab.async false
set_option linter.all false
set_option maxRecDepth 100000
namespace L2
open PySem PySem.Spec PyProof.Rows
def Ctx (h : Heap) (e : Addr) (vs : Array Value) : Prop := vs[2]? = some .none ∨ ∃ (b : Addr) (ob : Obj) (vb : Array Value), vs[2]? = some (.ref b) ∧ b ≠ e ∧ h.get? b = some ob ∧ ob.data = .fields vb ∧ vb[2]? = some .none
def HdAt (A : Around) (h : Heap) : Prop := A.handled = none ∨ ∃ (e : Addr) (oe : Obj) (vs : Array Value), A.handled = some (.ref e) ∧ h.get? e = some oe ∧ oe.data = .fields vs ∧ Ctx h e vs
def HdOff (A : Around) (h : Heap) (a : Addr) : Prop := A.handled = none ∨ ∃ (e : Addr) (oe : Obj) (vs : Array Value), A.handled = some (.ref e) ∧ e ≠ a ∧ h.get? e = some oe ∧ oe.data = .fields vs ∧
 (vs[2]? = some .none ∨ ∃ (b : Addr) (ob : Obj) (vb : Array Value), vs[2]? = some (.ref b) ∧ b ≠ e ∧ b ≠ a ∧ h.get? b = some ob ∧ ob.data = .fields vb ∧ vb[2]? = some .none)
theorem entry_unchain : entryFor table "proto.unchain" = some Builtin.«proto.unchain» := entryFor_of_fast (by kernel_rfl)
section
variable {prog : Program} {w : World} {A : Around} {E : Value → Shared → Prop} {s : Shared}
theorem unchain_at {v o slow : Value} {t : Bool} {a : Addr} {oo : Obj} {vs : Array Value} {R : Result → Shared → Prop} (ho : o = .ref a) (hoe : s.heap.get? a = some oo) (hde : oo.data = .fields vs) (h2 : vs[2]? = some .none)
  (h : R (.ok (.ret .none)) s) : codeAny (model prog w) A (.builtin "proto.unchain" ⟨[v, o, slow, .bool t], []⟩) R s := by
 subst ho
 refine codeAny_builtin entry_unchain ?_
 unfold Builtin.«proto.unchain»
 refine wpAny_bind (wpAny_field hoe hde h2 ?_)
 rw [if_pos (by rfl)]
 refine wpAny_bind (wpAny_pure (wpAny_pure ?_))
 exact h
theorem raiseNew_hd {α : Type} {a : Addr} {o : Obj} {vs : Array Value} {Q : α → Shared → Prop} (hd : HdOff A s.heap a) (ho : s.heap.get? a = some o) (hdt : o.data = .fields vs) (h3 : 2 < vs.size)
  (h : ∀ h', Heap.SameBut a s.heap h' → (∃ o' v, h'.get? a = some o' ∧ o'.cls = o.cls ∧ o'.dict = o.dict ∧ o'.data = .fields (vs.setIfInBounds 2 v) ∧ (A.handled = none → h' = s.heap) ∧ ∀ e, A.handled = some (.ref e) → v = .ref e) → E (.ref a) { s with heap := h' }) : wpAny (model prog w) A (raiseNew (.ref a) : Sem α) Q E s := by
 unfold raiseNew
 refine wpAny_bind (wpAny_handled ?_)
 rcases hd with hn | ⟨e, oe, es, he, ne0, hoe, hde, h2⟩
 ·rw [hn]
  have hx : vs.setIfInBounds 2 vs[2] = vs := Array.ext (by simp) fun i h1 h2 => by
   rw [Array.getElem_setIfInBounds]
   split
   ·rename_i z; subst z; rfl
   ·rfl
  exact wpAny_bind (wpAny_pure (wpAny_throw (h s.heap (Heap.SameBut.refl ..) ⟨o, vs[2], ho, rfl, rfl, by rw [hx]; exact hdt, fun _ => rfl, fun e he => by rw [hn] at he; cases he⟩)))
 ·rw [he]
  have ne : (Value.ref e != Value.ref a) = true := by simp [ne0]
  dsimp only
  rw [if_pos ne]
  have fin : wpAny (model prog w) A (updateField a 2 (.ref e) >>= fun _ => throw (.ref a)) Q E s :=
   wpAny_bind (show wpAny _ _ (setField (.ref a) 2 (.ref e)) _ _ _ from wpAny_setField ho hdt h3 (wpAny_throw (h _ (Heap.SameBut.update ..)
    ⟨_, .ref e, Heap.get?_update_self _ ho (Obj.isFreed_of_fields (Obj.data_mapFields hdt _)), Obj.cls_mapFields .., (by unfold Obj.mapFields; split <;> rfl), Obj.data_mapFields hdt _, fun z => (by rw [he] at z; cases z), fun e' z => (by rw [he] at z; cases z; rfl)⟩)))
  refine wpAny_bind (wpAny_holding (wpAny_runValue ?_))
  rcases h2 with h2 | ⟨b, ob, vb, h2, hbe, hba, hob, hdb, hb2⟩
  ·exact unchain_at rfl hoe hde h2 fin
  ·refine codeAny_builtin entry_unchain ?_
   unfold Builtin.«proto.unchain»
   refine wpAny_bind (wpAny_field hoe hde h2 ?_)
   rw [if_neg (by simp), if_neg (by simp [hba]), if_neg (by simp [hbe])]
   refine wpAny_bind (wpAny_pure ?_)
   exact wpAny_pure ⟨Code.quiet_builtin _ (by decide +kernel), unchain_at rfl hob hdb hb2 fin⟩
theorem HdAt.two {A : Around} {h h' : Heap} {it : Addr} {o1 o2 : Obj} (x : HdAt A h) (k : ∀ b o, b ≠ it → h.get? b = some o → h'.get? b = some o) (hi : ∀ oe vs, h.get? it = some oe → oe.data = .fields vs → vs[2]? ≠ some .none ∧ ∀ b, vs[2]? ≠ some (.ref b)) :
  HdOff A ((h'.push o1).push o2) (h'.push o1).objs.size := by
 rcases x with x | ⟨e, oe, vs, a, b, c, d⟩
 ·exact .inl x
 ·have b' := k e oe (fun z => by
   have := hi oe vs (z ▸ b) c
   rcases d with d | ⟨b, _, _, d, _⟩
   ·exact this.1 d
   ·exact this.2 b d) b
  have nw : ∀ {c o}, h'.get? c = some o → c ≠ (h'.push o1).objs.size := fun {c o} z => by
   rw [Heap.size_push]
   exact Nat.ne_of_lt (Nat.lt_succ_of_lt (Heap.lt_size z))
  refine .inr ⟨e, oe, vs, a, nw b', Heap.get?_push_of_some _ (Heap.get?_push_of_some _ b'), c, ?_⟩
  rcases d with d | ⟨b, ob, vb, d1, d2, d3, d4, d5⟩
  ·exact .inl d
  ·have d3' := k b ob (fun z => (hi ob vb (z ▸ d3) d4).1 d5) d3
   exact .inr ⟨b, ob, vb, d1, d2, nw d3', Heap.get?_push_of_some _ (Heap.get?_push_of_some _ d3'), d4, d5⟩
theorem list_endH {it l : Addr} {i : Nat} {items : Array Value} {Q : Option Value → Shared → Prop} (hh : HdAt A s.heap)
  (hit : s.heap.IsListIter it l i) (hl : s.heap.IsList l items) (hx : items[i]? = none)
  (hQ : ∀ h', Heap.ExtBut it s.heap h' → Q none { s with heap := h' }) : wpAny (model prog w) A (pyNext (.ref it)) Q E s := by
 obtain ⟨o, ho, hc, hd⟩ := id hit
 obtain ⟨ol, hol, _, nl, hdl⟩ := hl
 unfold pyNext
 refine wpAny_bind (wpAny_attempt (wpAny_callSpecial?_slot (name := Str.ofString "__next__") hit.typeIs slot_listiter_next
  (wpAny_call_entry slot_listiter_next hit.typeIs entry_listiter_next ?_ (args_listiter_next _))))
 show wpAny _ _ (field (.ref it) 0 >>= _) _ _ s
 refine wpAny_bind (wpAny_field ho hd (x := .ref l) rfl ?_)
 show wpAny _ _ (if (Value.ref l == Value.none) = true then _ else _) _ _ s
 rw [if_neg (show ¬ ((Value.ref l == Value.none) = true) from Bool.false_ne_true)]
 show wpAny _ _ (field (.ref it) 1 >>= _) _ _ s
 refine wpAny_bind (wpAny_field ho hd (x := .int i 0) rfl ?_)
 show wpAny _ _ (seqItems? (.ref l) >>= _) _ _ s
 refine wpAny_bind (wpAny_seqItems hol hdl ?_)
 simp only [Int.toNat_natCast, hx]
 refine wpAny_bind (wpAny_rule (wpAny_bind (wpAny_setField ho hd (by simp) ?_)))
 show wpAny _ _ (newExc (.type "StopIteration") [] >>= _) _ _ _
 refine wpAny_bind ?_
 simp only [newExc, newTuple]
 refine wpAny_bind (wpAny_newObj_type ?_ (by size_fits))
 refine wpAny_bind (m := firstArgMember _ _) (wpAny_of_eq (a := Value.none) (by first | rfl | (simp only [firstArgMember]; rfl)) ?_)
 refine wpAny_newObj_type ?_ (by size_fits)
 refine raiseNew_hd (HdAt.two (A := A.in1) (it := it) hh (fun b o' hb e => (Heap.SameBut.update ..).extBut b o' hb e) (fun oe vs e e2 => by rw [ho] at e; cases e; rw [hd] at e2; cases e2; exact ⟨by simp, by simp⟩)) (Heap.get?_push_size _ rfl) rfl (by simp; omega) fun h' sb ⟨o', _, ho', hc', _⟩ => ?_
 refine wpAny_bind (wpAny_isInstance (T := "StopIteration") (b := true) ⟨_, ho', hc'⟩ isSubtype_stop ?_)
 refine wpAny_pure (hQ _ fun b ob hb e => (sb.2 b ?_).trans (((Heap.SameBut.update ..).extBut.push _).push _ b ob hb e))
 exact Nat.ne_of_lt (Nat.lt_of_lt_of_le (Heap.lt_size e) (by rw [Heap.size_push, Heap.size_after_update]; exact Nat.le_succ _))
theorem range_endH {it : Addr} {x left step : Int} {Q : Option Value → Shared → Prop} (hh : HdAt A s.heap) (hit : IsRangeIter s.heap it x left step) (hleft : left ≤ 0)
  (hQ : ∀ h', Heap.ExtBut it s.heap h' → Q none { s with heap := h' }) : wpAny (model prog w) A (pyNext (.ref it)) Q E s := by
 have hT : s.TypeIs (.ref it) "range_iterator" := ⟨_, hit, rfl⟩
 unfold pyNext
 refine wpAny_bind (wpAny_attempt (wpAny_callSpecial?_slot (name := Str.ofString "__next__") hT F.slot_range_iterator_next
  (wpAny_call_entry F.slot_range_iterator_next hT F.entry_range_iterator_next ?_ (F.args_range_iterator_next_1 _))))
 show wpAny _ _ (field (.ref it) 0 >>= _) _ _ s
 refine wpAny_bind (wpAny_field hit rfl (x := rawInt x) rfl ?_)
 show wpAny _ _ (field (.ref it) 1 >>= _) _ _ s
 refine wpAny_bind (wpAny_field hit rfl (x := rawInt left) rfl ?_)
 show wpAny _ _ (field (.ref it) 2 >>= _) _ _ s
 refine wpAny_bind (wpAny_field hit rfl (x := rawInt step) rfl ?_)
 show wpAny _ _ (if left ≤ 0 then _ else _) _ _ s
 rw [if_pos hleft]
 refine wpAny_bind (wpAny_rule ?_)
 refine wpAny_bind ?_
 show wpAny _ _ (newExc (.type "StopIteration") [] >>= _) _ _ _
 refine wpAny_bind ?_
 simp only [newExc, newTuple]
 refine wpAny_bind (wpAny_newObj_type ?_ (by size_fits))
 refine wpAny_bind (m := firstArgMember _ _) (wpAny_of_eq (a := Value.none) (by first | rfl | (simp only [firstArgMember]; rfl)) ?_)
 refine wpAny_newObj_type ?_ (by size_fits)
 refine raiseNew_hd (HdAt.two (A := A.in1) (it := it) hh (fun b o' hb e => e) (fun oe vs e e2 => by rw [show s.heap.get? it = some _ from hit] at e; cases e; cases e2; exact ⟨by simp [rawInt], by simp [rawInt]⟩)) (Heap.get?_push_size _ rfl) rfl (by simp; omega) fun h' sb ⟨o', _, ho', hc', _⟩ => ?_
 refine wpAny_bind (wpAny_isInstance (T := "StopIteration") (b := true) ⟨_, ho', hc'⟩ isSubtype_stop ?_)
 refine wpAny_pure (hQ _ fun b ob hb e => (sb.2 b ?_).trans (((Heap.ExtBut.refl it s.heap).push _).push _ b ob hb e))
 exact Nat.ne_of_lt (Nat.lt_of_lt_of_le (Heap.lt_size e) (by rw [Heap.size_push]; exact Nat.le_succ _))
end
section
variable {prog : Program} {w : World} {A : Around} {E : Value → Shared → Prop} {s : Shared} {K : PySem.W.Frag} {e D : Addr} {oe : Obj}
open PySem.Calls PySem.W in
theorem exc_class {Q : Option Value → Shared → Prop} (X : K.In s.heap) (I : PySem.W.InstAt s.heap e oe D none) (hga : findIn K (.ref D) "__getattribute__" = some (some (.builtin "BaseException.__getattribute__"))) (hk : findIn K (.ref D) "__getattr__" = some none)
  (ha : findIn K (.ref D) "__class__" = some (some (.builtin "object.__class__"))) (hB : mroIn K D (.type "BaseException") = some true) (hm : mroIn K D (.type "object") = some true)
  (hf : findObj K D none "__class__" = some (.bind (.builtin "getset_descriptor.__get__") (.builtin "object.__class__")))
  (h : Q (some (.ref D)) { s with toks := s.toks + 1 }) : wpAny (model prog w) A (getAttr? (.ref e) "__class__") Q E s := by
 obtain ⟨h0, g, d, t, os⟩ := s
 have L0 := I.type (M := model prog w)
 have L1 := looks_findIn (M := model prog w) X hga
 have L2 := looks_findIn (M := model prog w) X hk
 have L3 := looks_findIn (M := model prog w) X ha
 have L4 := looks_mroIn (M := model prog w) X hB
 unfold getAttr? getAttrBy? getAttrBy
 refine wpAny_bind (wpAny_mkText (wpAny_bind (wpAny_attempt (wpAny_holding (wpAny_bind (L0.at (wpAny_bind (L1.at ?_))))))))
 show wpAny _ _ (getAttrByItsOwn _ _ _ _ _ _) _ _ _
 unfold getAttrByItsOwn hookBefore
 rw [if_pos (show onTheHeap (Value.ref D) = true from rfl)]
 have L5 := looks_find (M := model prog w) X I hf
 refine wpAny_bind (L2.at (wpAny_bind (wpAny_attempt (wpAny_holding ?_))))
 unfold callGetattribute
 rw [if_neg (by decide)]
 unfold boundAndCalled
 refine wpAny_bind (wpAny_of_eq (PySem.F.attr_ValueError.ga.bind (.ref e)) ?_)
 refine wpAny_call (codeAny_call_builtin PySem.F.attr_ValueError.ga.plain F.entry_bexc_ga ?_)
 have hk' : builtinKind "BaseException.__getattribute__" = some .slot := by decide +kernel
 have hsplit : splitId "BaseException.__getattribute__" = some ("BaseException", "__getattribute__") := by decide +kernel
 have harg := F.args_bexc_ga (.ref e) (.str "__class__" t)
 simp only [checkBuiltinCall, hk', hsplit]
 refine wpAny_bind ?_
 unfold isInstance
 refine wpAny_bind (L0.at (L4.at ?_))
 rw [if_neg (by decide)]
 refine wpAny_of_eq harg ?_
 unfold Builtin.«object.__getattribute__»
 refine wpAny_bind (wpAny_pure (wpAny_bind (wpAny_pure (wpAny_bind (L0.at (wpAny_bind (L5.at ?_)))))))
 unfold Builtin.ObjectAttr.bindTo
 refine wpAny_bind (wpAny_holding (wpAny_call (PySem.W.class_get (ox := oe) (od := none) X I hm ?_)))
 refine wpAny_pure ?_
 exact handed_on rfl (wpAny_pure h)
structure ExcK (K : PySem.W.Frag) (D : Addr) : Prop where
 ga : PySem.W.findIn K (.ref D) "__getattribute__" = some (some (.builtin "BaseException.__getattribute__"))
 gr : PySem.W.findIn K (.ref D) "__getattr__" = some none
 cl : PySem.W.findIn K (.ref D) "__class__" = some (some (.builtin "object.__class__"))
 bx : PySem.W.mroIn K D (.type "BaseException") = some true
 ob : PySem.W.mroIn K D (.type "object") = some true
 fd : PySem.W.findObj K D none "__class__" = some (.bind (.builtin "getset_descriptor.__get__") (.builtin "object.__class__"))
 is : (PySem.W.clsIn K D).isSome = true
open PySem.Calls PySem.W in
theorem kitx_exc (F : ExcK K D) : KitX K (.ref e) (.ref D) (fun h => ∃ oe, PySem.W.InstAt h e oe D none) where
 ty := fun _ _ _ ⟨_, I⟩ => I.type
 it := fun _ _ X _ => by
  obtain ⟨cdD, hcD⟩ := Option.isSome_iff_exists.mp F.is
  unfold clsIn at hcD
  split at hcD
  ·rename_i c' d' cd' sl' ho
   intro A' Q' E' s' k q
   unfold isType loadHead
   exact wpAny_bind (wpAny_loadPart (k _ _ (X _ _ ho)) (wpAny_pure q))
  ·cases hcD
 ne := fun h tp dd its n sl X htp => by
  obtain ⟨cdD, hcD⟩ := Option.isSome_iff_exists.mp F.is
  refine Bool.eq_false_iff.mpr fun q => ?_
  have e : D = tp := Value.ref.inj (beq_iff_eq.mp q)
  subst e
  unfold clsIn at hcD
  split at hcD
  ·rename_i c' d' cd' sl' ho
   have z := (X _ _ ho).symm.trans htp
   cases z
  ·cases hcD
 ca := fun X ⟨_, I⟩ k => exc_class X I F.ga F.gr F.cl F.bx F.ob F.fd k
end
end L2
namespace L2
open PySem PySem.Spec PyProof.Rows
abbrev Key := Sum Int Str
def keyIs : Key → Value → Bool
 | .inl k, v => Value.isInt k v
 | .inr x, v => Value.isStrOf x v
def keyH (w : World) : Key → Int
 | .inl k => hashInt k
 | .inr x => hashStr w x
theorem keyIs_shape : ∀ {k : Key} {v : Value}, keyIs k v = true → (∃ i t, k = Sum.inl i ∧ v = Value.int i t) ∨ (∃ x t, k = Sum.inr x ∧ v = Value.str x t)
 | .inl i, v, h => by
  obtain ⟨t, e⟩ := Value.isInt_shape (k := i) (v := v) h
  exact .inl ⟨i, t, rfl, e⟩
 | .inr x, v, h => by
  obtain ⟨t, e⟩ := Value.isStrOf_shape (x := x) (v := v) h
  exact .inr ⟨x, t, rfl, e⟩
theorem keyIs_int (i : Int) (t : Tok) : keyIs (.inl i) (.int i t) = true := by simp [keyIs, Value.isInt]
theorem keyIs_str (x : Str) (t : Tok) : keyIs (.inr x) (.str x t) = true := by simp [keyIs, Value.isStrOf]
theorem key_ll (a b : Int) : decide ((Sum.inl a : Key) = Sum.inl b) = (a == b) := by
 by_cases e : a = b
 ·subst e; simp
 ·have h : ¬ (Sum.inl a : Key) = Sum.inl b := fun q => e (Sum.inl.inj q)
  rw [decide_eq_false h]
  exact (beq_eq_false_iff_ne.mpr e).symm
theorem key_rr (a b : Str) : decide ((Sum.inr a : Key) = Sum.inr b) = decide (a = b) := by
 by_cases e : a = b
 ·subst e; simp
 ·have h : ¬ (Sum.inr a : Key) = Sum.inr b := fun q => e (Sum.inr.inj q)
  rw [decide_eq_false h, decide_eq_false e]
theorem key_lr (a : Int) (b : Str) : decide ((Sum.inl a : Key) = Sum.inr b) = false := decide_eq_false (fun q => nomatch q)
theorem key_rl (a : Str) (b : Int) : decide ((Sum.inr a : Key) = Sum.inl b) = false := decide_eq_false (fun q => nomatch q)
def mixKind (prog : Program) (w : World) : PySem.KeyKind prog w Key where
 is := keyIs
 hash := keyH w
 inj := fun v a b ha hb => by
  rcases keyIs_shape ha with ⟨i, t, rfl, rfl⟩ | ⟨x, t, rfl, rfl⟩
  ·rcases keyIs_shape hb with ⟨j, u, rfl, e⟩ | ⟨y, u, rfl, e⟩
   ·injection e with e1 _; rw [e1]
   ·exact nomatch e
  ·rcases keyIs_shape hb with ⟨j, u, rfl, e⟩ | ⟨y, u, rfl, e⟩
   ·exact nomatch e
   ·injection e with e1 _; rw [e1]
 byValue := fun k v h => by
  rcases keyIs_shape h with ⟨i, t, rfl, rfl⟩ | ⟨x, t, rfl, rfl⟩ <;> rfl
 pyHash := fun hv h => by
  rcases keyIs_shape hv with ⟨i, t, rfl, rfl⟩ | ⟨x, t, rfl, rfl⟩
  ·exact wpAny_pyHash_int h
  ·exact wpAny_pyHash_str h
 eqBool := fun hu hv h => by
  rcases keyIs_shape hu with ⟨i, t, rfl, rfl⟩ | ⟨x, t, rfl, rfl⟩
  ·rcases keyIs_shape hv with ⟨j, u, rfl, rfl⟩ | ⟨y, u, rfl, rfl⟩
   ·rw [key_ll] at h; exact wpAny_eqBool_int h
   ·rw [key_lr] at h; exact SeqAt.EqAt.int_str i t y u _ _ _ _ h
  ·rcases keyIs_shape hv with ⟨j, u, rfl, rfl⟩ | ⟨y, u, rfl, rfl⟩
   ·rw [key_rl] at h; exact SeqAt.EqAt.str_int x t j u _ _ _ _ h
   ·rw [key_rr] at h; exact wpAny_eqBool_str h
 «strs» := fun k x t v h => by
  rcases keyIs_shape h with ⟨i, u, rfl, e⟩ | ⟨y, u, rfl, e⟩
  ·exact nomatch e
  ·injection e with e1 _
   subst e1
   cases v <;> rfl
theorem mixKind_int (prog : Program) (w : World) (i : Int) (t : Tok) : (mixKind prog w).is (.inl i) (.int i t) = true := keyIs_int i t
theorem mixKind_str (prog : Program) (w : World) (x : Str) (t : Tok) : (mixKind prog w).is (.inr x) (.str x t) = true := keyIs_str x t
end L2
namespace L2
open PySem PySem.Spec PyProof.Rows
inductive V where
 | non | bl (b : Bool) | int (i : Int) | str (x : Str) | byt (b : Array UInt8) | flt (b : UInt64) | ref (a : Addr) | ty (n : String)
 deriving DecidableEq
def RelV : V → Value → Prop
 | .non, u => u = Value.none
 | .bl b, u => u = Value.bool b
 | .int i, u => ∃ t, u = Value.int i t
 | .str x, u => ∃ t, u = Value.str x t
 | .byt b, u => ∃ t, u = Value.bytes b t
 | .flt b, u => ∃ t, u = Value.float b t
 | .ref a, u => u = Value.ref a
 | .ty n, u => u = Value.type n
abbrev Vals : List V → List Value → Prop := Paired RelV
theorem Vals.length {xs : List V} {us : List Value} (r : Vals xs us) : xs.length = us.length := Paired.length r
theorem Vals.get : ∀ {xs : List V} {us : List Value} {i : Nat} {x : V}, Vals xs us → xs[i]? = some x → ∃ u, us[i]? = some u ∧ RelV x u
 | _, _, _, _, .nil, e => by simp at e
 | _, _, 0, _, .cons r _, e => by simp at e; subst e; exact ⟨_, rfl, r⟩
 | _, _, i + 1, x, .cons _ t, e => by
  obtain ⟨u, h1, h2⟩ := Vals.get (i := i) (x := x) t (by simpa using e)
  exact ⟨u, by simpa using h1, h2⟩
theorem Vals.set {x : V} {u : Value} (r : RelV x u) : ∀ {xs : List V} {us : List Value} (i : Nat), Vals xs us → Vals (xs.set i x) (us.set i u)
 | _, _, _, .nil => .nil
 | _, _, 0, .cons _ t => .cons r t
 | _, _, i + 1, .cons q t => .cons q (Vals.set r i t)
theorem Vals.append : ∀ {xs ys : List V} {us ws : List Value}, Vals xs us → Vals ys ws → Vals (xs ++ ys) (us ++ ws)
 | _, _, _, _, .nil, s => s
 | _, _, _, _, .cons r t, s => .cons r (Vals.append t s)
theorem Vals.take : ∀ {xs : List V} {us : List Value} (n : Nat), Vals xs us → Vals (xs.take n) (us.take n)
 | _, _, 0, _ => .nil
 | _, _, _ + 1, .nil => .nil
 | _, _, n + 1, .cons r t => .cons r (Vals.take n t)
theorem Vals.drop : ∀ {xs : List V} {us : List Value} (n : Nat), Vals xs us → Vals (xs.drop n) (us.drop n)
 | _, _, 0, r => r
 | _, _, _ + 1, .nil => .nil
 | _, _, n + 1, .cons _ t => Vals.drop n t
def RelO : Option V → Option Value → Prop
 | some v, some u => RelV v u
 | none, none => True
 | _, _ => False
def KV {κ : Type} : List (κ × V) → List (κ × Value) → Prop := Paired fun (p : κ × V) (q : κ × Value) => p.1 = q.1 ∧ RelV p.2 q.2
def kV : Key → V
 | .inl i => .int i
 | .inr x => .str x
inductive HO where
 | lst (xs : List V)
 | tup (xs : List V)
 | dK (kvs : List (Key × V)) | dT (kvs : List (List Key × V))
 | set (S : Int → Bool) (n : Nat)
 | ins (C dx : Addr) (fs : List (Str × V))
 | own (x : Addr)
 | xd (fs : List (Str × V))
 | met (f x : Addr)
 | rng (lo hi : Int)
 | frz (o : Obj) (u : HO)
 | tbl (ps : Array Value)
 | exc (cls : Value)
 | ext (φ : Heap → Prop)
abbrev Hp := Addr → Option HO
def upd (H : Hp) (a : Addr) (o : HO) : Hp := fun b => if b = a then some o else H b
theorem upd_same {H : Hp} {a : Addr} {o : HO} : upd H a o a = some o := by unfold upd; rw [if_pos rfl]
theorem upd_ne {H : Hp} {a b : Addr} {o : HO} (h : b ≠ a) : upd H a o b = H b := by unfold upd; rw [if_neg h]
theorem upd_upd {H : Hp} {a : Addr} {o u : HO} : upd (upd H a o) a u = upd H a u := by
 funext b; unfold upd; split <;> rfl
theorem ne_of {H : Hp} {a b : Addr} {o u : HO} (h : H a = some o) (h' : H b = some u) (d : o ≠ u) : a ≠ b := by
 intro e; subst e; rw [h] at h'; exact d (Option.some.inj h')
theorem ne_of_none {H : Hp} {a b : Addr} {o : HO} (h : H a = some o) (h' : H b = none) : a ≠ b := by
 intro e; subst e; rw [h] at h'; cases h'
section
variable (P : Program) (w : World)
def ObjOk (H : Hp) (h : Heap) (a : Addr) : HO → Prop
 | .lst xs => xs.length ≤ sizeLine ∧ ∃ (its : List Value) (n : Nat), Vals xs its ∧ h.get? a = some { cls := .type "list", data := .seq its.toArray n }
 | .tup xs => xs.length ≤ sizeLine ∧ ∃ its : List Value, Vals xs its ∧ IsTup h a its.toArray
 | .dK kvs => kvs.length ≤ sizeLine ∧ (a == sysModules) = false ∧ ∃ vs, KV kvs vs ∧ h.DictOf (mixKind P w) a vs
 | .dT kvs => kvs.length ≤ sizeLine ∧ (a == sysModules) = false ∧ ∃ xs : List (List Key × Addr × Value),
   Paired (fun (p : List Key × V) (q : List Key × Addr × Value) => p.1 = q.1 ∧ H q.2.1 = some (.tup (p.1.map kV)) ∧ RelV p.2 q.2.2) kvs xs ∧
   ∃ o es ep, h.get? a = some o ∧ o.ExactDict ∧ o.data = .dict es ep ∧ es.toList = xs.map (entryOfKey (tupleKind (mixKind P w))) ∧ (xs.map (·.1)).Nodup
 | .set S n => h.SetOf (intKind P w) a S n
 | .ins C dx fs => H dx = some (.own a) ∧ fs.length ≤ 1000 ∧ dx ≠ a ∧ h.get? a = some (PySem.W.instObj C dx) ∧
   ∃ mA, h.Ns1 dx mA ∧ (∀ f, RelO (fs.lookup f) (mA f)) ∧ PySem.Within mA (fs.map (·.1))
 | .own _ => ∃ o, h.get? a = some o
 | .xd fs => ∃ mA, h.Ns1 a mA ∧ ∀ f, RelO (fs.lookup f) (mA f)
 | .rng lo hi => ∃ t u v, h.get? a = some { cls := .type "range", data := .fields #[.int lo t, .int hi u, .int 1 v] }
 | .frz o u => h.get? a = some o ∧ ObjOk H h a u
 | .tbl ps => h.get? a = some { cls := .none, data := .fields ps }
 | .met f x => h.get? a = some (PySem.W.methodObj (.ref f) (.ref x))
 | .exc c => ∃ oe vs, h.get? a = some oe ∧ oe.cls = c ∧ oe.dict = none ∧ oe.data = .fields vs ∧ (vs[2]? = some .none ∨ ∃ b ob vb, vs[2]? = some (.ref b) ∧ b ≠ a ∧ H b = some (.own a) ∧ h.get? b = some ob ∧ ob.data = .fields vb ∧ vb[2]? = some .none)
 | .ext φ => φ h ∧ (∃ o, h.get? a = some o) ∧ ∀ h1 h2 : Heap, φ h1 → (∀ o, h1.get? a = some o → h2.get? a = some o) → φ h2
def HOk (H : Hp) (h : Heap) : Prop := ∀ a o, H a = some o → ObjOk P w H h a o
end
section
variable {P : Program} {w : World} {H H' : Hp} {h h' : Heap} {a : Addr} {o : HO}
theorem ObjOk.lt (x : ObjOk P w H h a o) : a < h.objs.size := by
 cases o with
 | lst xs => obtain ⟨_, _, _, _, e⟩ := x; exact Heap.lt_size e
 | tup xs => obtain ⟨_, _, _, p⟩ := x; exact p.lt
 | dK kvs => obtain ⟨_, _, _, _, o, _, _, e, _⟩ := x; exact Heap.lt_size e
 | dT kvs => obtain ⟨_, _, _, _, o, _, _, e, _⟩ := x; exact Heap.lt_size e
 | set S n => obtain ⟨o, _, _, _, e, _⟩ := x; exact Heap.lt_size e
 | ins C dx fs => obtain ⟨_, _, _, e, _⟩ := x; exact Heap.lt_size e
 | own y => obtain ⟨_, e⟩ := x; exact Heap.lt_size e
 | xd fs => obtain ⟨_, ⟨_, _, _, e, _⟩, _⟩ := x; exact Heap.lt_size e
 | rng lo hi => obtain ⟨_, _, _, e⟩ := x; exact Heap.lt_size e
 | frz ob u => obtain ⟨e, _⟩ := x; exact Heap.lt_size e
 | tbl ps => exact Heap.lt_size (show h.get? a = some _ from x)
 | met f y => exact Heap.lt_size (show h.get? a = some _ from x)
 | ext φ => obtain ⟨_, ⟨_, e⟩, _⟩ := x; exact Heap.lt_size e
 | exc c => obtain ⟨_, _, e, _⟩ := x; exact Heap.lt_size e
theorem Paired.mapP {α β : Type} {F G : α → β → Prop} : ∀ {l₁ : List α} {l₂ : List β}, Paired F l₁ l₂ → (∀ a b, F a b → G a b) → Paired G l₁ l₂
 | _, _, .nil, _ => .nil
 | _, _, .cons r t, f => .cons (f _ _ r) (Paired.mapP t f)
theorem ObjOk.stay (x : ObjOk P w H h a o) (k : ∀ b u, (b = a ∨ H b = some (.own a)) → h.get? b = some u → h'.get? b = some u)
  (ho : ∀ b, H b = some (.own a) → H' b = some (.own a)) (ht : ∀ b xs, H b = some (.tup xs) → H' b = some (.tup xs)) : ObjOk P w H' h' a o := by
 induction o with
 | lst xs => obtain ⟨z, its, n, r, e⟩ := x; exact ⟨z, its, n, r, k _ _ (.inl rfl) e⟩
 | tup xs => obtain ⟨z, its, r, ob, e, c⟩ := x; exact ⟨z, its, r, ob, k _ _ (.inl rfl) e, c⟩
 | dK kvs => obtain ⟨z, y, vs, r, ob, es, ep, e, c⟩ := x; exact ⟨z, y, vs, r, ob, es, ep, k _ _ (.inl rfl) e, c⟩
 | dT kvs =>
  obtain ⟨z, y, xs, r, ob, es, ep, e, c⟩ := x
  exact ⟨z, y, xs, Paired.mapP r fun p q z => ⟨z.1, ht _ _ z.2.1, z.2.2⟩, ob, es, ep, k _ _ (.inl rfl) e, c⟩
 | set S n => obtain ⟨ob, es, ep, t, e, c⟩ := x; exact ⟨ob, es, ep, t, k _ _ (.inl rfl) e, c⟩
 | ins C dx fs =>
  obtain ⟨d, z, ne, e, mA, ⟨od, es, ep, e2, c⟩, r⟩ := x
  exact ⟨ho _ d, z, ne, k _ _ (.inl rfl) e, mA, ⟨od, es, ep, k _ _ (.inr d) e2, c⟩, r⟩
 | own y => obtain ⟨ob, e⟩ := x; exact ⟨ob, k _ _ (.inl rfl) e⟩
 | xd fs => obtain ⟨mA, ⟨od, es, ep, e, c⟩, r⟩ := x; exact ⟨mA, ⟨od, es, ep, k _ _ (.inl rfl) e, c⟩, r⟩
 | rng lo hi => obtain ⟨t, u, v, e⟩ := x; exact ⟨t, u, v, k _ _ (.inl rfl) e⟩
 | frz ob u ih => obtain ⟨e, q⟩ := x; exact ⟨k _ _ (.inl rfl) e, ih q⟩
 | tbl ps =>
  have e : h.get? a = some { cls := .none, data := .fields ps } := x
  show h'.get? a = some { cls := .none, data := .fields ps }
  exact k a _ (.inl rfl) e
 | met f y =>
  have e : h.get? a = some (PySem.W.methodObj (.ref f) (.ref y)) := x
  show h'.get? a = some (PySem.W.methodObj (.ref f) (.ref y))
  exact k a _ (.inl rfl) e
 | exc c =>
  obtain ⟨oe, vs, e, r1, r2, r3, r⟩ := x
  refine ⟨oe, vs, k _ _ (.inl rfl) e, r1, r2, r3, ?_⟩
  rcases r with r | ⟨b, ob, vb, d1, d2, d3, d4, d5⟩
  ·exact .inl r
  ·exact .inr ⟨b, ob, vb, d1, d2, ho _ d3, k _ _ (.inr d3) d4, d5⟩
 | ext φ => obtain ⟨p, ⟨o, e⟩, st⟩ := x; exact ⟨st _ _ p fun o q => k _ _ (.inl rfl) q, ⟨o, k _ _ (.inl rfl) e⟩, st⟩
theorem HOk.lt (x : HOk P w H h) (e : H a = some o) : a < h.objs.size := (x a o e).lt
theorem HOk.fresh (x : HOk P w H h) (e : h.objs.size ≤ a) : H a = none := by
 cases q : H a with
 | none => rfl
 | some u => exact absurd (Nat.lt_of_lt_of_le (x.lt q) e) (Nat.lt_irrefl _)
theorem HOk.kept (x : HOk P w H h) (k : ∀ b u, h.get? b = some u → h'.get? b = some u) : HOk P w H h' := fun a o e =>
 (x a o e).stay (fun b u _ q => k b u q) (fun _ q => q) fun _ _ q => q
theorem HOk.laid (x : HOk P w H h) (k : ∀ b u, h.get? b = some u → h'.get? b = some u) (hp : h.objs.size ≤ a) (new : ObjOk P w (upd H a o) h' a o) : HOk P w (upd H a o) h' := fun b u e => by
 have hn := x.fresh hp
 by_cases hb : b = a
 ·subst hb; rw [upd_same] at e; cases e; exact new
 ·rw [upd_ne hb] at e
  exact (x b u e).stay (fun c v _ q => k c v q) (fun c q => by rw [upd_ne (ne_of_none q hn)]; exact q) fun c xs q => by rw [upd_ne (ne_of_none q hn)]; exact q
end
def HdE (A : Around) (H : Hp) : Prop := A.handled = none ∨ ∃ (e : Addr) (c : Value), A.handled = some (.ref e) ∧ H e = some (.exc c)
theorem HdE.at {P : Program} {w : World} {A : Around} {H : Hp} {h : Heap} (x : HdE A H) (ok : HOk P w H h) : HdAt A h := by
 rcases x with x | ⟨e, c, a, b⟩
 ·exact .inl x
 ·obtain ⟨oe, vs, q, _, _, d, z⟩ := ok e _ b
  refine .inr ⟨e, oe, vs, a, q, d, ?_⟩
  rcases z with z | ⟨b, ob, vb, d1, d2, _, d4⟩
  ·exact .inl z
  ·exact .inr ⟨b, ob, vb, d1, d2, d4⟩
def Rd (H : Hp) (a : Addr) (u : HO) : Prop := H a = some u ∨ ∃ o, H a = some (.frz o u)
theorem Rd.ok {P : Program} {w : World} {H : Hp} {h : Heap} {a : Addr} {u : HO} (r : Rd H a u) (x : HOk P w H h) : ObjOk P w H h a u := by
 rcases r with r | ⟨o, r⟩
 ·exact x a u r
 ·obtain ⟨_, q⟩ := x a _ r
  exact q
def Mut : Option HO → Prop
 | some (.lst _) => True
 | some (.dK _) => True
 | some (.dT _) => True
 | some (.set _ _) => True
 | some (.ins _ _ _) => True
 | some (.ext _) => True
 | _ => False
section
variable {P : Program} {w : World} {H : Hp} {h h' : Heap} {x e : Addr} {o' : HO}
theorem HOk.write (ok : HOk P w H h) (mu : Mut (H x)) (he : e = x ∨ H e = some (.own x)) (k : ∀ b u, b ≠ e → h.get? b = some u → h'.get? b = some u) (heo : ∃ u, h'.get? e = some u)
  (new : ObjOk P w (upd H x o') h' x o') : HOk P w (upd H x o') h' := fun b u q => by
 have nown : ∀ c y, H c = some (.own y) → c ≠ x := fun c y r z => by subst z; rw [r] at mu; exact mu
 have ntup : ∀ c xs, H c = some (.tup xs) → c ≠ x := fun c xs r z => by subst z; rw [r] at mu; exact mu
 by_cases hb : b = x
 ·subst hb; rw [upd_same] at q; cases q; exact new
 ·rw [upd_ne hb] at q
  by_cases hbe : b = e
  ·have q' : H b = some (.own x) := by
    rcases he with z | z
    ·exact absurd (hbe.trans z) hb
    ·rw [hbe]; exact z
   rw [q] at q'; cases q'
   obtain ⟨v, hv⟩ := heo
   exact ⟨v, by rw [hbe]; exact hv⟩
  ·refine (ok b u q).stay (fun c v hc r => k c v ?_ r) (fun c r => by rw [upd_ne (nown c b r)]; exact r) fun c xs r => by rw [upd_ne (ntup c xs r)]; exact r
   rcases hc with rfl | hc
   ·exact hbe
   ·rintro rfl
    rcases he with z | z
    ·exact nown c b hc z
    ·rw [hc] at z; cases z; exact hb rfl
end
structure Un (fs ex : List Addr) (H H' : Hp) (h h' : Heap) : Prop where
 keep : ∀ b o, h.get? b = some o → H b = none → b ∉ fs → b ∉ ex → h'.get? b = some o
 slot : ∀ b o, h.get? b = some o → H b = none → b ∈ fs → b ∉ ex → ∃ sl, h'.get? b = some { o with slots := sl }
 free : ∀ b o, h.get? b = some o → H b = none → b ∉ ex → H' b = none
 there : ∀ b o, h.get? b = some o → b ∉ ex → ∃ o', h'.get? b = some o'
 tups : ∀ b xs, H b = some (.tup xs) → H' b = some (.tup xs)
 frzs : ∀ b o u, H b = some (.frz o u) → H' b = some (.frz o u)
 tbls : ∀ b ps, H b = some (.tbl ps) → ∃ more, H' b = some (.tbl (ps ++ more))
 excs : ∀ b c, H b = some (.exc c) → H' b = some (.exc c)
section
variable {fs fs' ex ex' : List Addr} {H H1 H2 : Hp} {h h1 h2 h' : Heap} {a x e : Addr} {o : HO}
theorem Un.any (u : Un fs ex H H1 h h1) {b : Addr} {ob : Obj} (q : h.get? b = some ob) (n : H b = none) (hx : b ∉ ex) : ∃ sl, h1.get? b = some { ob with slots := sl } := by
 by_cases hb : b ∈ fs
 ·exact u.slot b ob q n hb hx
 ·exact ⟨ob.slots, u.keep b ob q n hb hx⟩
theorem Un.kept (k : ∀ b u, h.get? b = some u → h'.get? b = some u) : Un fs ex H H h h' :=
 ⟨fun b ob q _ _ _ => k b ob q, fun b ob q _ _ _ => ⟨ob.slots, k b ob q⟩, fun _ _ _ n _ => n, fun b ob q _ => ⟨ob, k b ob q⟩, fun _ _ q => q, fun _ _ _ q => q, fun _ ps q => ⟨#[], by rw [q]; simp⟩, fun _ _ q => q⟩
theorem Un.refl : Un fs ex H H h h := Un.kept fun _ _ q => q
theorem Un.laid (k : ∀ b u, h.get? b = some u → h'.get? b = some u) (hp : h.objs.size ≤ a) (hn : H a = none) : Un fs ex H (upd H a o) h h' where
 keep := fun b u q _ _ _ => k b u q
 slot := fun b u q _ _ _ => ⟨u.slots, k b u q⟩
 free := fun b u q n _ => by rw [upd_ne (Nat.ne_of_lt (Nat.lt_of_lt_of_le (Heap.lt_size q) hp))]; exact n
 there := fun b u q _ => ⟨u, k b u q⟩
 tups := fun b xs q => by rw [upd_ne (ne_of_none q hn)]; exact q
 frzs := fun b u xs q => by rw [upd_ne (ne_of_none q hn)]; exact q
 tbls := fun b ps q => ⟨#[], by rw [upd_ne (ne_of_none q hn), q]; simp⟩
 excs := fun b c q => by rw [upd_ne (ne_of_none q hn)]; exact q
theorem Un.write (mu : Mut (H x)) (he : e = x ∨ H e = some (.own x)) (k : ∀ b u, b ≠ e → h.get? b = some u → h'.get? b = some u) (heo : ∃ u, h'.get? e = some u) : Un fs ex H (upd H x o) h h' := by
 have hx : ∀ b, H b = none → b ≠ x := fun b n z => by subst z; rw [n] at mu; exact mu
 have hb : ∀ b, H b = none → b ≠ e := fun b n z => by
  subst z
  rcases he with r | r
  ·exact hx b n r
  ·rw [n] at r; cases r
 have hm : ∀ b u, H b = some u → ¬ Mut (some u) → b ≠ x := fun b u q nm z => by subst z; rw [q] at mu; exact nm mu
 refine ⟨fun b u q n _ _ => k b u (hb b n) q, fun b u q n _ _ => ⟨u.slots, k b u (hb b n) q⟩, fun b u q n _ => by rw [upd_ne (hx b n)]; exact n, fun b u q _ => ?_,
  fun b xs q => by rw [upd_ne (hm b _ q fun z => z)]; exact q, fun b u xs q => by rw [upd_ne (hm b _ q fun z => z)]; exact q, fun b ps q => ⟨#[], by rw [upd_ne (hm b _ q fun z => z), q]; simp⟩, fun b c q => by rw [upd_ne (hm b _ q fun z => z)]; exact q⟩
 by_cases hbe : b = e
 ·subst hbe; exact heo
 ·exact ⟨u, k b u hbe q⟩
end
def trk (h : Heap) (H : Hp) : List Addr := (List.range h.objs.size).filter fun a => (H a).isSome
def hidT (h : Heap) (H : Hp) : Heap := PySem.W.hideAll h (trk h H)
theorem hidT_size (h : Heap) (H : Hp) : (hidT h H).objs.size = h.objs.size := PySem.W.hideAll_size _ _
theorem hidT_get {h : Heap} {H : Hp} {b : Addr} {o : Obj} (e : h.get? b = some o) (n : H b = none) : (hidT h H).get? b = some o :=
 PySem.W.hideAll_get _ e fun hm => by
  have q : (H b).isSome = true := (List.mem_filter.mp hm).2
  rw [n] at q; simp at q
theorem of_hidT {h : Heap} {H : Hp} {b : Addr} {o : Obj} (e : (hidT h H).get? b = some o) : h.get? b = some o ∧ H b = none := by
 have e' : h.get? b = some o := PySem.W.of_hideAll (trk h H) e
 refine ⟨e', ?_⟩
 cases q : H b with
 | none => rfl
 | some x =>
  have hm : b ∈ trk h H := List.mem_filter.mpr ⟨List.mem_range.mpr (Heap.lt_size e'), by simp [q]⟩
  have z : (hidT h H).get? b = none := PySem.W.hideAll_none (trk h H) hm
  rw [z] at e; cases e
end L2
namespace L2
open PySem PySem.Spec PyProof.Rows
structure Mod (K : PySem.W.Frag) (mg : Str → Option Value) (base : Heap) : Prop where
 kin : K.In base
 glob : base.Ns mainGlobals mg
 blt : ∃ mb, base.Ns builtinsNs mb ∧ ∀ x : Str, x ≠ "__name__" → mb x = bootBuiltins x
 nolimit : base.NoLimit
structure Cx where
 prog : Program
 w : World
 K : PySem.W.Frag
 mg : Str → Option Value
 base : Heap
 A : Around
 N : List Str
 s₀ : Shared
 H₀ : Hp
 env : Env
 outer : List Env
 stack : List Env
 ex : List Addr
 fn : Str → Bool
 calm : Bool
 pn : List (Addr × Obj)
 tr : List (Addr × Value)
 fx : List (Str × Value)
 xe : Value → Shared → Prop
def frs (l : List Env) : List Addr := l.filterMap (·.frame)
abbrev Cx.fs (X : Cx) : List Addr := frs X.outer
def Vis (sc : Scope) (x : Str) : Prop := sc.names.lookup x = some .local ∨ sc.names.lookup x = some .cell ∨ sc.names.lookup x = some .free
def Loc (sc : Scope) (x : Str) : Prop := sc.names.lookup x = some .local ∨ sc.names.lookup x = some .cell
def Look (env : Env) (h : Heap) (m : Str → Option Value) (x : Str) (u : Value) : Prop :=
 (env.kindOf x = some .local ∧ m x = some u) ∨ ((env.kindOf x = some .cell ∨ env.kindOf x = some .free) ∧ ∃ c, env.cells.lookup x = some c ∧ h.IsCell c (some u))
structure Cx.Ok (X : Cx) : Prop where
 mod : Mod X.K X.mg X.base
 kind : X.env.scope.kind = .function
 glob : X.env.globals = mainGlobals
 blt : X.env.builtins = builtinsNs
 above : X.s₀.heap.objs.size ≤ X.env.locals
 inj : ∀ x y c, X.env.cells.lookup x = some c → X.env.cells.lookup y = some c → x = y
 has : ∀ x, (X.env.kindOf x = some .cell ∨ X.env.kindOf x = some .free) → ∃ c, X.env.cells.lookup x = some c
 cab : ∀ x c, X.fn x = true → X.env.cells.lookup x = some c → X.s₀.heap.objs.size ≤ c
 hd : X.A.handled = none ∨ ∃ (e : Addr) (c : Value), X.A.handled = some (.ref e) ∧ (X.H₀ e = some (.exc c) ∨ (e, c) ∈ X.tr)
 frames : X.A.frames = some X.stack
 stk : X.stack = X.outer ∨ (X.stack = X.env :: X.outer ∧ X.env.frame = some X.env.locals)
 exf : ∀ b ∈ X.ex, b ≠ X.env.locals ∧ ∀ x c, X.env.cells.lookup x = some c → c ≠ b
 bs : ∀ b o, X.base.get? b = some o → X.s₀.heap.get? b = some o ∧ X.H₀ b = none
 bsz : X.base.objs.size ≤ X.s₀.heap.objs.size
 noex : ∀ b o, X.base.get? b = some o → b ∉ X.ex
 exfs : ∀ b ∈ X.ex, b ∉ X.fs
 funs : X.s₀.heap.FunFrames X.base X.outer
 frf : ∀ b ∈ X.fs, X.H₀ b = none
structure Inv (X : Cx) (pins : List (Addr × Obj)) (σ : List (Option V)) (H : Hp) (s : Shared) : Prop where
 ok : X.Ok
 os : s.os = X.s₀.os
 bare : AllBare s.gens
 base : Un X.fs X.ex X.H₀ H X.s₀.heap s.heap
 loc : ∃ m, s.heap.Ns X.env.locals m ∧ ∀ (i : Nat) (x : Str) (v : V), X.N[i]? = some x → σ[i]? = some (some v) → Vis X.env.scope x → ∃ u, RelV v u ∧ Look X.env s.heap m x u
 cell : ∀ x c, X.env.cells.lookup x = some c → ∃ v, s.heap.IsCell c v
 free : H X.env.locals = none
 freeC : ∀ x c, X.env.cells.lookup x = some c → H c = none
 pin : ∀ p ∈ X.pn ++ pins, s.heap.get? p.1 = some p.2 ∧ H p.1 = none ∧ p.1 ≠ X.env.locals ∧ p.1 ∉ X.fs ∧ ∀ v, p.2.data ≠ .cell v
 hok : HOk X.prog X.w H s.heap
 len : σ.length = X.N.length
 tr : ∀ p ∈ X.tr, H p.1 = some (.exc p.2)
 fix : ∀ p ∈ X.fx, ∃ m, s.heap.Ns X.env.locals m ∧ Look X.env s.heap m p.1 p.2
theorem ns_uniq {h : Heap} {a : Addr} {m m' : Str → Option Value} (n : h.Ns a m) (n' : h.Ns a m') : m = m' := by
 obtain ⟨o, es, ep, h1, h2, _, h3⟩ := n
 obtain ⟨o', es', ep', h1', h2', _, h3'⟩ := n'
 rw [h1] at h1'; cases h1'
 rw [h2] at h2'; cases h2'
 funext x
 rw [← h3, ← h3']
section
variable {X : Cx} {pins : List (Addr × Obj)} {σ : List (Option V)} {H H' : Hp} {s : Shared} {h' : Heap}
theorem Cx.Ok.nofr (ok : X.Ok) {b : Addr} {o : Obj} (e : X.base.get? b = some o) : b ∉ X.fs := fun hb => by
 have := (ok.funs.mem hb).1
 rw [e] at this; cases this
theorem Inv.bs (I : Inv X pins σ H s) : ∀ b o, X.base.get? b = some o → s.heap.get? b = some o ∧ H b = none := fun b o e =>
 ⟨I.base.keep b o (I.ok.bs b o e).1 (I.ok.bs b o e).2 (I.ok.nofr e) (I.ok.noex b o e), I.base.free b o (I.ok.bs b o e).1 (I.ok.bs b o e).2 (I.ok.noex b o e)⟩
theorem Inv.bk (I : Inv X pins σ H s) : ∀ b o, X.base.get? b = some o → s.heap.get? b = some o := fun b o e => (I.bs b o e).1
theorem Inv.mod (I : Inv X pins σ H s) : Mod X.K X.mg X.base := I.ok.mod
theorem Inv.hdE (I : Inv X pins σ H s) : HdE X.A H := by
 rcases I.ok.hd with h | ⟨e, c, h1, h2⟩
 ·exact .inl h
 ·rcases h2 with h2 | h2
  ·exact .inr ⟨e, c, h1, I.base.excs e c h2⟩
  ·exact .inr ⟨e, c, h1, I.tr (e, c) h2⟩
theorem Inv.hd (I : Inv X pins σ H s) : HdAt X.A s.heap := I.hdE.at I.hok
theorem Inv.kIn (I : Inv X pins σ H s) : X.K.In s.heap := I.ok.mod.kin.keeps I.bk
theorem Inv.lt (I : Inv X pins σ H s) : X.env.locals < s.heap.objs.size := let ⟨_, hn, _⟩ := I.loc; hn.lt
theorem Inv.sz (I : Inv X pins σ H s) : X.s₀.heap.objs.size ≤ s.heap.objs.size := Nat.le_trans I.ok.above (Nat.le_of_lt I.lt)
theorem Inv.nofs (I : Inv X pins σ H s) {a : Addr} (h : s.heap.objs.size ≤ a) : a ∉ X.fs := fun hb => by
 obtain ⟨_, o, ho, _⟩ := I.ok.funs.mem hb
 exact absurd (Nat.lt_of_lt_of_le (Heap.lt_size ho) (Nat.le_trans I.sz h)) (Nat.lt_irrefl _)
theorem Inv.cne (I : Inv X pins σ H s) : ∀ x c, X.env.cells.lookup x = some c → c ≠ X.env.locals := fun x c e z => by
 obtain ⟨v, o, ho, hd⟩ := I.cell x c e
 obtain ⟨m, ⟨o', es, ep, ho', hd', _⟩, _⟩ := I.loc
 rw [z, ho'] at ho; cases ho; rw [hd'] at hd; cases hd
theorem Inv.funs (I : Inv X pins σ H s) : s.heap.FunFrames X.base X.outer := by
 have all : ∀ (l : List Env), (∀ b ∈ frs l, b ∈ X.fs) → X.s₀.heap.FunFrames X.base l → s.heap.FunFrames X.base l := by
  intro l
  induction l with
  | nil => intro _ _; trivial
  | cons env r ih =>
   intro hs hl
   obtain ⟨hk, ⟨L, o, hf, hn, ho, hd⟩, hr⟩ := hl
   have hL : L ∈ X.fs := hs L (by unfold frs; rw [List.filterMap_cons, hf]; exact List.mem_cons_self)
   obtain ⟨sl, e⟩ := I.base.slot L o ho (I.ok.frf L hL) hL fun z => I.ok.exfs L z hL
   exact ⟨hk, ⟨L, _, hf, hn, e, hd⟩, ih (fun b hb => hs b (by unfold frs; rw [List.filterMap_cons, hf]; exact List.mem_cons_of_mem _ hb)) hr⟩
 exact all X.outer (fun _ hb => hb) I.ok.funs
theorem Inv.stack (I : Inv X pins σ H s) : s.heap.FunFrames X.base X.stack := by
 rcases I.ok.stk with e | ⟨e, hf⟩
 ·rw [e]; exact I.funs
 ·rw [e]
  obtain ⟨m, hn, _⟩ := I.loc
  refine .cons (by rw [I.ok.kind]; decide) hf hn ?_ I.funs
  exact Heap.get?_none_of_le (Nat.le_trans I.ok.bsz I.ok.above)
theorem Inv.stkSub (I : Inv X pins σ H s) : ∀ b ∈ frs X.stack, b ∈ X.env.locals :: X.fs := fun b hb => by
 rcases I.ok.stk with e | ⟨e, hf⟩
 ·rw [e] at hb; exact List.mem_cons_of_mem _ hb
 ·rw [e] at hb
  unfold frs at hb
  rw [List.filterMap_cons, hf] at hb
  exact hb
theorem Inv.stkFree (I : Inv X pins σ H s) : ∀ b ∈ frs X.stack, H b = none := fun b hb => by
 rcases List.mem_cons.mp (I.stkSub b hb) with e | hb
 ·rw [e]; exact I.free
 ·obtain ⟨_, o, ho, _⟩ := I.ok.funs.mem hb
  exact I.base.free b o ho (I.ok.frf b hb) fun z => I.ok.exfs b z hb
theorem Inv.step {g' : Array GenState} {t' : Nat} {d' : Drawn} {ch : List Addr} (I : Inv X pins σ H s)
  (hch : ∀ b ∈ ch, (b ∈ X.ex ∨ X.s₀.heap.objs.size ≤ b) ∧ b ≠ X.env.locals ∧ (∀ x c, X.env.cells.lookup x = some c → c ≠ b) ∧ ∀ p ∈ X.pn ++ pins, p.1 ≠ b)
  (keep : ∀ b o, b ≠ X.env.locals → b ∉ X.fs → b ∉ ch → s.heap.get? b = some o → H b = none → h'.get? b = some o)
  (slot : ∀ b o, b ≠ X.env.locals → b ∈ X.fs → b ∉ ch → s.heap.get? b = some o → H b = none → ∃ sl, h'.get? b = some { o with slots := sl }) (free : ∀ b o, b ∉ ch → s.heap.get? b = some o → H b = none → H' b = none)
  (there : ∀ b o, b ∉ ch → s.heap.get? b = some o → ∃ o', h'.get? b = some o')
  (tups : ∀ b xs, H b = some (.tup xs) → H' b = some (.tup xs)) (frzs : ∀ b o u, H b = some (.frz o u) → H' b = some (.frz o u)) (tbls : ∀ b ps, H b = some (.tbl ps) → ∃ more, H' b = some (.tbl (ps ++ more))) (excs : ∀ b c, H b = some (.exc c) → H' b = some (.exc c))
  (ns : ∀ m, s.heap.Ns X.env.locals m → h'.Ns X.env.locals m) (hok : HOk X.prog X.w H' h') (hg : AllBare g') :
  Inv X pins σ H' { s with heap := h', gens := g', drawn := d', toks := t' } := by
 have neL : ∀ b o, X.s₀.heap.get? b = some o → b ≠ X.env.locals := fun b o e => Nat.ne_of_lt (Nat.lt_of_lt_of_le (Heap.lt_size e) I.ok.above)
 have neC : ∀ b o, X.s₀.heap.get? b = some o → b ∉ X.ex → b ∉ ch := fun b o e hx hb => by
  rcases (hch b hb).1 with z | z
  ·exact hx z
  ·exact absurd (Nat.lt_of_lt_of_le (Heap.lt_size e) z) (Nat.lt_irrefl _)
 have cellK : ∀ x c, X.env.cells.lookup x = some c → ∀ v, s.heap.IsCell c v → h'.IsCell c v := fun x c e v ⟨o, ho, hd⟩ => by
  have nch : c ∉ ch := fun z => (hch c z).2.2.1 x c e rfl
  by_cases hc : c ∈ X.fs
  ·obtain ⟨sl, q⟩ := slot c o (I.cne x c e) hc nch ho (I.freeC x c e)
   exact ⟨_, q, hd⟩
  ·exact ⟨o, keep c o (I.cne x c e) hc nch ho (I.freeC x c e), hd⟩
 refine ⟨I.ok, I.os, hg, ⟨fun b o e n hb hx => ?_, fun b o e n hb hx => ?_, fun b o e n hx => ?_, fun b o e hx => ?_, fun b xs e => tups b xs (I.base.tups b xs e), fun b o xs e => frzs b o xs (I.base.frzs b o xs e), fun b ps e => ?_, fun b k e => excs b k (I.base.excs b k e)⟩, ?_, fun x c e => ?_, ?_, fun x c e => ?_, fun p hp => ?_, hok, I.len, fun p hp => excs _ _ (I.tr p hp), fun p hp => let ⟨m, hn, lk⟩ := I.fix p hp; ⟨m, ns m hn, lk.elim .inl fun ⟨k, c, e, z⟩ => .inr ⟨k, c, e, cellK p.1 c e _ z⟩⟩⟩
 ·exact keep b o (neL b o e) hb (neC b o e hx) (I.base.keep b o e n hb hx) (I.base.free b o e n hx)
 ·obtain ⟨sl, e1⟩ := I.base.slot b o e n hb hx
  obtain ⟨sl', e2⟩ := slot b _ (neL b o e) hb (neC b o e hx) e1 (I.base.free b o e n hx)
  exact ⟨sl', e2⟩
 ·obtain ⟨o', e1⟩ := I.base.there b o e hx
  exact free b o' (neC b o e hx) e1 (I.base.free b o e n hx)
 ·obtain ⟨o', e1⟩ := I.base.there b o e hx
  exact there b o' (neC b o e hx) e1
 ·obtain ⟨m1, e1⟩ := I.base.tbls b ps e
  obtain ⟨m2, e2⟩ := tbls b _ e1
  exact ⟨m1 ++ m2, by rw [e2, Array.append_assoc]⟩
 ·obtain ⟨m, hn, hl⟩ := I.loc
  refine ⟨m, ns m hn, fun i x v e1 e2 e3 => ?_⟩
  obtain ⟨u, r, l⟩ := hl i x v e1 e2 e3
  refine ⟨u, r, ?_⟩
  rcases l with l | ⟨k, c, e, z⟩
  ·exact .inl l
  ·exact .inr ⟨k, c, e, cellK x c e _ z⟩
 ·obtain ⟨v, z⟩ := I.cell x c e
  exact ⟨v, cellK x c e v z⟩
 ·obtain ⟨m, ⟨o, _, _, ho, _⟩, _⟩ := I.loc
  exact free _ o (fun z => (hch _ z).2.1 rfl) ho I.free
 ·obtain ⟨v, o, ho, hd⟩ := I.cell x c e
  exact free c o (fun z => (hch c z).2.2.1 x c e rfl) ho (I.freeC x c e)
 ·obtain ⟨e, n, ne, nf, d⟩ := I.pin p hp
  have nch : p.1 ∉ ch := fun z => (hch p.1 z).2.2.2 p hp rfl
  exact ⟨keep p.1 p.2 ne nf nch e n, free p.1 p.2 nch e n, ne, nf, d⟩
theorem Inv.un {t' : Nat} (I : Inv X pins σ H s) (u : Un X.fs [] H H' s.heap h') (hok : HOk X.prog X.w H' h') : Inv X pins σ H' { s with heap := h', toks := t' } := by
 obtain ⟨m, ⟨o, es, ep, ho, r⟩, _⟩ := id I.loc
 obtain ⟨sl, hL⟩ := u.any ho I.free (by simp)
 exact I.step (g' := s.gens) (d' := s.drawn) (ch := []) (fun _ z => nomatch z) (fun b o _ hb _ e n => u.keep b o e n hb (by simp)) (fun b o _ hb _ e n => u.slot b o e n hb (by simp)) (fun b o _ e n => u.free b o e n (by simp)) (fun b o _ e => u.there b o e (by simp)) u.tups u.frzs u.tbls u.excs (fun m' hm => by
  obtain ⟨o', es', ep', ho', r'⟩ := hm
  rw [ho] at ho'; cases ho'
  exact ⟨_, es', ep', hL, r'⟩) hok I.bare
theorem Inv.call {g' : Array GenState} {t' : Nat} {d' : Drawn} {ch : List Addr} (I : Inv X pins σ H s) (u : Un (frs X.stack) ch H H' s.heap h') (hok : HOk X.prog X.w H' h') (hg : AllBare g')
  (hch : ∀ b ∈ ch, (b ∈ X.ex ∨ X.s₀.heap.objs.size ≤ b) ∧ b ≠ X.env.locals ∧ (∀ x c, X.env.cells.lookup x = some c → c ≠ b) ∧ ∀ p ∈ X.pn ++ pins, p.1 ≠ b) :
  Inv X pins σ H' { s with heap := h', gens := g', drawn := d', toks := t' } := by
 obtain ⟨m, ⟨o, es, ep, ho, r⟩, _⟩ := id I.loc
 obtain ⟨sl, hL⟩ := u.any ho I.free fun z => (hch _ z).2.1 rfl
 exact I.step (ch := ch) hch (fun b o hL hb hc e n => u.keep b o e n (fun z => (List.mem_cons.mp (I.stkSub b z)).elim hL hb) hc) (fun b o _ _ hc e n => u.any e n hc) (fun b o hc e n => u.free b o e n hc) (fun b o hc e => u.there b o e hc) u.tups u.frzs u.tbls u.excs (fun m' hm => by
  obtain ⟨o', es', ep', ho', r'⟩ := hm
  rw [ho] at ho'; cases ho'
  exact ⟨_, es', ep', hL, r'⟩) hok hg
theorem Inv.turned {t' : Nat} {it : Addr} (I : Inv X pins σ H s) (k : ∀ b o, b ≠ it → s.heap.get? b = some o → h'.get? b = some o) (hn : H it = none) (hL : it ≠ X.env.locals)
  (h1 : it ∈ X.ex ∨ X.s₀.heap.objs.size ≤ it) (h2 : ∀ x c, X.env.cells.lookup x = some c → c ≠ it) (h3 : ∀ p ∈ X.pn ++ pins, p.1 ≠ it) : Inv X pins σ H { s with heap := h', toks := t' } := by
 have nit : ∀ b u, H b = some u → b ≠ it := fun b u e z => by rw [z, hn] at e; cases e
 refine I.step (g' := s.gens) (d' := s.drawn) (ch := [it]) (fun b hb => ?_) (fun b o _ _ hc e _ => k b o (fun z => hc (by simp [z])) e) (fun b o _ _ hc e _ => ⟨o.slots, k b o (fun z => hc (by simp [z])) e⟩) (fun _ _ _ _ n => n)
  (fun b o hc e => ⟨o, k b o (fun z => hc (by simp [z])) e⟩) (fun _ _ e => e) (fun _ _ _ e => e) (fun b ps e => ⟨#[], by rw [e]; simp⟩) (fun _ _ e => e) (fun m hm => ?_) (fun b u e => ?_) I.bare
 ·have e : b = it := by simpa using hb
  subst e
  exact ⟨h1, hL, h2, h3⟩
 ·obtain ⟨o, es, ep, ho, r⟩ := hm
  exact ⟨o, es, ep, k _ o (Ne.symm hL) ho, r⟩
 ·refine (I.hok b u e).stay (fun c v hc q => k c v ?_ q) (fun _ q => q) fun _ _ q => q
  rcases hc with z | z
  ·rw [z]; exact nit b u e
  ·exact nit c _ z
theorem Inv.tok (I : Inv X pins σ H s) (t : Nat) : Inv X pins σ H { s with toks := t } := I.un (h' := s.heap) (t' := t) Un.refl I.hok
theorem Inv.kept {t' : Nat} (I : Inv X pins σ H s) (k : ∀ b u, s.heap.get? b = some u → h'.get? b = some u) : Inv X pins σ H { s with heap := h', toks := t' } := I.un (Un.kept k) (I.hok.kept k)
theorem Inv.laid {a : Addr} {o : HO} {t' : Nat} (I : Inv X pins σ H s) (k : ∀ b u, s.heap.get? b = some u → h'.get? b = some u) (hp : s.heap.objs.size ≤ a) (new : ObjOk X.prog X.w (upd H a o) h' a o) :
  Inv X pins σ (upd H a o) { s with heap := h', toks := t' } := I.un (Un.laid k hp (I.hok.fresh hp)) (I.hok.laid k hp new)
theorem Inv.write {x e : Addr} {o : HO} {t' : Nat} (I : Inv X pins σ H s) (mu : Mut (H x)) (he : e = x ∨ H e = some (.own x)) (k : ∀ b u, b ≠ e → s.heap.get? b = some u → h'.get? b = some u) (heo : ∃ u, h'.get? e = some u)
  (new : ObjOk X.prog X.w (upd H x o) h' x o) : Inv X pins σ (upd H x o) { s with heap := h', toks := t' } := I.un (Un.write mu he k heo) (I.hok.write mu he k heo new)
theorem Inv.pins_of {pins' : List (Addr × Obj)} (I : Inv X pins σ H s) (h : ∀ p ∈ pins', s.heap.get? p.1 = some p.2 ∧ H p.1 = none ∧ p.1 ≠ X.env.locals ∧ p.1 ∉ X.fs ∧ ∀ v, p.2.data ≠ .cell v) : Inv X pins' σ H s :=
 ⟨I.ok, I.os, I.bare, I.base, I.loc, I.cell, I.free, I.freeC, fun p hp => (List.mem_append.mp hp).elim (fun z => I.pin p (List.mem_append_left _ z)) (h p), I.hok, I.len, I.tr, I.fix⟩
theorem nodup_ix {N : List Str} (hN : N.Nodup) {i j : Nat} {x : Str} (a : N[i]? = some x) (b : N[j]? = some x) : i = j := by
 obtain ⟨h1, e1⟩ := List.getElem?_eq_some_iff.mp a
 obtain ⟨h2, e2⟩ := List.getElem?_eq_some_iff.mp b
 exact (List.getElem_inj hN).mp (e1.trans e2.symm)
theorem store_ok2 {M : Model} {A : Around} {E : Value → Shared → Prop} {i : Nat} {x : Str} {v : V} {u : Value} {Q : Unit → Shared → Prop} (I : Inv X pins σ H s) (hN : X.N.Nodup) (hi : X.N[i]? = some x) (hx : Loc X.env.scope x) (r : RelV v u)
  (h : ∀ s', Inv X pins (σ.set i (some v)) H s' → (∃ a, Heap.SameBut a s.heap s'.heap ∧ (a = X.env.locals ∨ X.env.cells.lookup x = some a)) → Q () s') (hf : X.fn x = true ∨ X.env.scope.names.lookup x = some .local := by first | exact .inl rfl | exact .inr rfl | assumption) (hfx : ∀ p ∈ X.fx, p.1 ≠ x := by first | exact fun p h => absurd (show p ∈ ([] : List (Str × Value)) from h) (by simp) | assumption) : wpAny M A (storeName X.env x u) Q E s := by
 obtain ⟨m, hn, hl⟩ := id I.loc
 have hcls : (X.env.scope.kind == .class || (X.env.scope.kind == .module && X.env.locals != X.env.globals)) = false := by rw [I.ok.kind]; rfl
 have hiσ : i < σ.length := by rw [I.len]; exact (List.getElem?_eq_some_iff.mp hi).1
 have cne := I.cne
 have tracked : ∀ {a : Addr} {h' : Heap}, (∃ o, s.heap.get? a = some o ∧ H a = none) → Heap.SameBut a s.heap h' → HOk X.prog X.w H h' := fun {a h'} ha hs b ob e => by
  obtain ⟨_, _, hfree⟩ := ha
  refine (I.hok b ob e).stay (fun c w' hc q => (hs.2 c ?_).trans q) (fun _ q => q) fun _ _ q => q
  rintro rfl
  rcases hc with rfl | hc
  ·rw [hfree] at e; cases e
  ·rw [hfree] at hc; cases hc
 rcases hx with hk | hk
 ·refine wpAny_storeName_local hk hn (fun h' hn' hs => ?_) hcls
  obtain ⟨oL, _, _, hoL, _⟩ := id hn
  refine h _ ⟨I.ok, I.os, I.bare, ⟨fun b o e n hb hx => ?_, fun b o e n hb hx => ?_, I.base.free, fun b o e hx => ?_, I.base.tups, I.base.frzs, I.base.tbls, I.base.excs⟩, ⟨_, hn', fun j y v' e1 e2 e3 => ?_⟩, fun y c e => ?_, I.free, I.freeC, fun p hp => ?_, tracked ⟨oL, hoL, I.free⟩ hs, by simpa using I.len, I.tr, fun p hp => ?_⟩ ⟨_, hs, .inl rfl⟩
  rotate_right
  ·obtain ⟨m1, hn1, lk⟩ := I.fix p hp
   have em := ns_uniq hn1 hn
   subst em
   refine ⟨_, hn', ?_⟩
   rcases lk with ⟨k, e⟩ | ⟨k, c, e, z⟩
   ·exact .inl ⟨k, by simp [hfx p hp, e]⟩
   ·exact .inr ⟨k, c, e, z.sameBut hs (cne p.1 c e)⟩
  ·exact (hs.2 b (Nat.ne_of_lt (Nat.lt_of_lt_of_le (Heap.lt_size e) I.ok.above))).trans (I.base.keep b o e n hb hx)
  ·obtain ⟨sl, e1⟩ := I.base.slot b o e n hb hx
   exact ⟨sl, (hs.2 b (Nat.ne_of_lt (Nat.lt_of_lt_of_le (Heap.lt_size e) I.ok.above))).trans e1⟩
  ·obtain ⟨o', e1⟩ := I.base.there b o e hx
   exact ⟨o', (hs.2 b (Nat.ne_of_lt (Nat.lt_of_lt_of_le (Heap.lt_size e) I.ok.above))).trans e1⟩
  ·by_cases hj : j = i
   ·subst hj
    rw [hi] at e1; cases e1
    rw [List.getElem?_set_self hiσ] at e2
    cases e2
    exact ⟨u, r, .inl ⟨hk, by simp⟩⟩
   ·rw [List.getElem?_set_ne (Ne.symm hj)] at e2
    obtain ⟨u', r', q⟩ := hl j y v' e1 e2 e3
    refine ⟨u', r', ?_⟩
    rcases q with ⟨k, e⟩ | ⟨k, c, e, z⟩
    ·refine .inl ⟨k, ?_⟩
     have : y ≠ x := fun e => hj (nodup_ix hN e1 (e ▸ hi))
     simp [this, e]
    ·exact .inr ⟨k, c, e, z.sameBut hs (cne y c e)⟩
  ·obtain ⟨w', z⟩ := I.cell y c e
   exact ⟨w', z.sameBut hs (cne y c e)⟩
  ·obtain ⟨e, n, ne, nf, d⟩ := I.pin p hp
   exact ⟨(hs.2 p.1 ne).trans e, n, ne, nf, d⟩
 ·have hfn : X.fn x = true := by
   rcases hf with z | z
   ·exact z
   ·rw [z] at hk; cases hk
  obtain ⟨c, hc⟩ := I.ok.has x (.inl hk)
  obtain ⟨w', z⟩ := I.cell x c hc
  refine wpAny_storeName_cell I.ok.kind hk hc z (fun h' hc' hs => ?_)
  obtain ⟨oc, hoc, hocd⟩ := id z
  refine h { s with heap := h' } ⟨I.ok, I.os, I.bare, ⟨fun b o e n hb hx => ?_, fun b o e n hb hx => ?_, I.base.free, fun b o e hx => ?_, I.base.tups, I.base.frzs, I.base.tbls, I.base.excs⟩, ⟨m, hn.sameBut hs (Ne.symm (cne x c hc)), fun j y v' e1 e2 e3 => ?_⟩, fun y c' e => ?_, I.free, I.freeC, fun p hp => ?_, tracked ⟨oc, hoc, I.freeC x c hc⟩ hs, by simpa using I.len, I.tr, fun p hp => ?_⟩ ⟨c, hs, .inr hc⟩
  rotate_right
  ·obtain ⟨m1, hn1, lk⟩ := I.fix p hp
   refine ⟨m1, hn1.sameBut hs (Ne.symm (cne x c hc)), ?_⟩
   rcases lk with q | ⟨k, c', e, z'⟩
   ·exact .inl q
   ·refine .inr ⟨k, c', e, z'.sameBut hs ?_⟩
    rintro rfl
    exact hfx p hp (I.ok.inj _ _ _ e hc)
  ·exact (hs.2 b (Nat.ne_of_lt (Nat.lt_of_lt_of_le (Heap.lt_size e) (I.ok.cab x c hfn hc)))).trans (I.base.keep b o e n hb hx)
  ·obtain ⟨sl, e1⟩ := I.base.slot b o e n hb hx
   exact ⟨sl, (hs.2 b (Nat.ne_of_lt (Nat.lt_of_lt_of_le (Heap.lt_size e) (I.ok.cab x c hfn hc)))).trans e1⟩
  ·obtain ⟨o', e1⟩ := I.base.there b o e hx
   exact ⟨o', (hs.2 b (Nat.ne_of_lt (Nat.lt_of_lt_of_le (Heap.lt_size e) (I.ok.cab x c hfn hc)))).trans e1⟩
  ·by_cases hj : j = i
   ·subst hj
    rw [hi] at e1; cases e1
    rw [List.getElem?_set_self hiσ] at e2
    cases e2
    exact ⟨u, r, .inr ⟨.inl hk, c, hc, hc'⟩⟩
   ·rw [List.getElem?_set_ne (Ne.symm hj)] at e2
    obtain ⟨u', r', q⟩ := hl j y v' e1 e2 e3
    refine ⟨u', r', ?_⟩
    rcases q with q | ⟨k, c', e, z'⟩
    ·exact .inl q
    ·refine .inr ⟨k, c', e, z'.sameBut hs ?_⟩
     rintro rfl
     exact hj (nodup_ix hN e1 (I.ok.inj _ _ _ e hc ▸ hi))
  ·by_cases hcc : c' = c
   ·subst hcc; exact ⟨_, hc'⟩
   ·obtain ⟨w2, z2⟩ := I.cell y c' e
    exact ⟨w2, z2.sameBut hs hcc⟩
  ·obtain ⟨e, n, ne, nf, d⟩ := I.pin p hp
   refine ⟨(hs.2 p.1 ?_).trans e, n, ne, nf, d⟩
   intro q
   rw [q, hoc] at e
   have q' : oc = p.2 := Option.some.inj e
   exact d w' (by rw [← q']; exact hocd)
theorem store_ok {M : Model} {A : Around} {E : Value → Shared → Prop} {i : Nat} {x : Str} {v : V} {u : Value} {Q : Unit → Shared → Prop} (I : Inv X pins σ H s) (hN : X.N.Nodup) (hi : X.N[i]? = some x) (hx : Loc X.env.scope x) (r : RelV v u)
  (h : ∀ s', Inv X pins (σ.set i (some v)) H s' → Q () s') (hf : X.fn x = true ∨ X.env.scope.names.lookup x = some .local := by first | exact .inl rfl | exact .inr rfl | assumption) (hfx : ∀ p ∈ X.fx, p.1 ≠ x := by first | exact fun p h => absurd (show p ∈ ([] : List (Str × Value)) from h) (by simp) | assumption) : wpAny M A (storeName X.env x u) Q E s :=
 store_ok2 I hN hi hx r (fun s' I' _ => h s' I') hf hfx
theorem Inv.call' {s' : Shared} {ch : List Addr} (I : Inv X pins σ H s) (ho : s'.os = s.os) (u : Un (frs X.stack) ch H H' s.heap s'.heap) (hok : HOk X.prog X.w H' s'.heap) (hg : AllBare s'.gens)
  (hch : ∀ b ∈ ch, (b ∈ X.ex ∨ X.s₀.heap.objs.size ≤ b) ∧ b ≠ X.env.locals ∧ (∀ x c, X.env.cells.lookup x = some c → c ≠ b) ∧ ∀ p ∈ X.pn ++ pins, p.1 ≠ b) : Inv X pins σ H' s' := by
 obtain ⟨h', g', d', t', o'⟩ := s'
 have e : o' = s.os := ho
 subst e
 exact I.call (g' := g') (t' := t') (d' := d') u hok hg hch
end
abbrev XK := Value → Option Addr → Hp → Prop
abbrev St := List (Option V)
abbrev VK := V → Hp → Prop
abbrev TE := St → Hp → VK → Prop
abbrev TT := St → Hp → (Bool → Hp → Prop) → Prop
abbrev TA := St → Hp → (List V → Hp → Prop) → Prop
structure Ends where
 nx : St → Hp → Prop
 rt : VK
 bk : St → Hp → Prop := fun _ _ => False
 ct : St → Hp → Prop := fun _ _ => False
abbrev TS := Ends → St → Hp → Prop
def EP (X : Cx) (pins : List (Addr × Obj)) (σ : St) (Q : VK) (u : Value) (s' : Shared) : Prop := ∃ v H', Inv X pins σ H' s' ∧ RelV v u ∧ Q v H'
def TP (X : Cx) (pins : List (Addr × Obj)) (σ : St) (Q : Bool → Hp → Prop) (b : Bool) (s' : Shared) : Prop := ∃ H', Inv X pins σ H' s' ∧ Q b H'
def AP (X : Cx) (pins : List (Addr × Obj)) (σ : St) (Q : List V → Hp → Prop) (us : List Value) (s' : Shared) : Prop := ∃ vs H', Inv X pins σ H' s' ∧ Vals vs us ∧ Q vs H'
def SP (X : Cx) (pins : List (Addr × Obj)) (D : Ends) (f : Flow) (s' : Shared) : Prop :=
 match f with
 | .next => ∃ σ' H', Inv X pins σ' H' s' ∧ D.nx σ' H'
 | .brk => ∃ σ' H', Inv X pins σ' H' s' ∧ D.bk σ' H'
 | .cont => ∃ σ' H', Inv X pins σ' H' s' ∧ D.ct σ' H'
 | .ret u => ∃ v σ' H', Inv X pins σ' H' s' ∧ RelV v u ∧ D.rt v H'
def PE (X : Cx) (e : Expr) (t : TE) : Prop :=
 ∀ (pins : List (Addr × Obj)) (s : Shared) (σ : St) (H : Hp) (Q : VK), Inv X pins σ H s → t σ H Q → wpAny (model X.prog X.w) X.A (eval e X.env) (EP X pins σ Q) X.xe s
def PT (X : Cx) (e : Expr) (t : TT) : Prop :=
 ∀ (pins : List (Addr × Obj)) (s : Shared) (σ : St) (H : Hp) (Q : Bool → Hp → Prop), Inv X pins σ H s → t σ H Q → wpAny (model X.prog X.w) X.A (isTrue e X.env (eval e X.env)) (TP X pins σ Q) X.xe s
def PW (X : Cx) (e : Expr) (t : TT) : Prop :=
 ∀ (whole : Sem Value) (pins : List (Addr × Obj)) (s : Shared) (σ : St) (H : Hp) (Q : Bool → Hp → Prop), Inv X pins σ H s → t σ H Q → wpAny (model X.prog X.w) X.A (isTrue e X.env whole) (TP X pins σ Q) X.xe s
theorem PW.pt {X : Cx} {e : Expr} {t : TT} (h : PW X e t) : PT X e t := h _
def PA (X : Cx) (es : List Expr) (t : TA) : Prop :=
 ∀ (pos : Pos) (pins : List (Addr × Obj)) (s : Shared) (σ : St) (H : Hp) (Q : List V → Hp → Prop), Inv X pins σ H s → t σ H Q → wpAny (model X.prog X.w) X.A (spliced (backTo pos (starEach es X.env))) (AP X pins σ Q) X.xe s
def PS (X : Cx) (st : Stmt) (t : TS) : Prop :=
 ∀ (pins : List (Addr × Obj)) (s : Shared) (σ : St) (H : Hp) (D : Ends), Inv X pins σ H s → t D σ H → wpAny (model X.prog X.w) X.A (exec st X.env) (SP X pins D) X.xe s
def PSs (X : Cx) (st : List Stmt) (t : TS) : Prop :=
 ∀ (pins : List (Addr × Obj)) (s : Shared) (σ : St) (H : Hp) (D : Ends), Inv X pins σ H s → t D σ H → wpAny (model X.prog X.w) X.A (execs st X.env) (SP X pins D) X.xe s
theorem thn {α : Type} {t : Sem α} {Q Q' : α → Shared → Prop} {M : Model} {A : Around} {E : Value → Shared → Prop} {s : Shared} (h : wpAny M A t Q E s) (hQ : ∀ a s, Q a s → Q' a s) : wpAny M A t Q' E s := wpAny_mono h hQ fun _ _ x => x
end L2
namespace L2
open PySem PySem.Spec PyProof.Rows
section
variable {X : Cx}
def tVar (i : Nat) : TE := fun σ H Q => ∃ v, σ[i]? = some (some v) ∧ Q v H
def tC (v : V) : TE := fun _ H Q => Q v H
theorem pe_var {i : Nat} {x : Str} {pos : Pos} (hN : X.N[i]? = some x) (hv : Vis X.env.scope x) (hd : (x == ("__debug__" : Str)) = false := by decide) (hcd : (x == ("__classdict__" : Str)) = false := by decide) : PE X (.Name x pos) (tVar i) := by
 intro pins s σ H Q I h
 obtain ⟨v, e, h⟩ := h
 obtain ⟨m, hn, hl⟩ := I.loc
 obtain ⟨u, r, l⟩ := hl i x v hN e hv
 have fin : EP X pins σ Q u s := ⟨v, H, I, r, h⟩
 rcases l with ⟨hk, hm⟩ | ⟨hk, c, hc, hcell⟩
 ·exact wpAny_Name (wpAny_loadName_local I.ok.kind hk hn hm fin) hd
 ·rcases hk with hk | hk
  ·exact wpAny_Name (wpAny_loadName_cell I.ok.kind hk hc hcell fin) hd
  ·exact wpAny_Name (wpAny_loadName_free I.ok.kind hk hc hcell fin hcd) hd
theorem pe_int {i j pos} : PE X (.Constant (.int i) j pos) (tC (.int i)) := fun _ _ _ H _ I h => wpAny_Constant_int ⟨.int i, H, I.tok _, ⟨_, rfl⟩, h⟩
theorem pe_bl {b j pos} : PE X (.Constant (.bool b) j pos) (tC (.bl b)) := fun _ _ _ H _ I h => Constant_bool ⟨.bl b, H, I, rfl, h⟩
theorem pe_non {j pos} : PE X (.Constant .none j pos) (tC .non) := fun _ _ _ H _ I h => Constant_none ⟨.non, H, I, rfl, h⟩
theorem pe_str {x j pos} : PE X (.Constant (.str x) j pos) (tC (.str x)) := fun _ _ _ H _ I h => Calls.Constant_str ⟨.str x, H, I.tok _, ⟨_, rfl⟩, h⟩
def Gl (X : Cx) (x : Str) : Prop := X.env.kindOf x = some .globalImplicit
theorem ld_glob {E : Value → Shared → Prop} {pins : List (Addr × Obj)} {s : Shared} {σ : St} {H : Hp} {x : Str} {u : Value} {pos : Pos} {Q : Value → Shared → Prop} (I : Inv X pins σ H s) (hg : Gl X x) (hm : X.mg x = some u) (h : Q u s)
  (hd : (x == ("__debug__" : Str)) = false := by decide) : wpAny (model X.prog X.w) X.A (eval (.Name x pos) X.env) Q E s :=
 Calls.Name_function_global I.ok.kind hg (Calls.loadGlobal_global (by rw [I.ok.glob]; exact I.mod.glob.keeps I.bk) hm h) hd
theorem ld_blt {E : Value → Shared → Prop} {pins : List (Addr × Obj)} {s : Shared} {σ : St} {H : Hp} {x : Str} {u : Value} {pos : Pos} {Q : Value → Shared → Prop} (I : Inv X pins σ H s) (hg : Gl X x) (hm : X.mg x = none) (hv : bootBuiltins x = some u) (h : Q u s)
  (hn : x ≠ "__name__" := by decide) (hd : (x == ("__debug__" : Str)) = false := by decide) : wpAny (model X.prog X.w) X.A (eval (.Name x pos) X.env) Q E s := by
 obtain ⟨mb, h1, h2⟩ := I.mod.blt
 exact Calls.Name_function_global I.ok.kind hg (Calls.loadGlobal_builtin (by rw [I.ok.glob]; exact I.mod.glob.keeps I.bk) hm (by rw [I.ok.blt]; exact h1.keeps I.bk) ((h2 x hn).trans hv) h) hd
theorem pe_glob {x : Str} {v : V} {u : Value} {pos : Pos} (hg : Gl X x) (hm : X.mg x = some u) (r : RelV v u) (hd : (x == ("__debug__" : Str)) = false := by decide) : PE X (.Name x pos) (tC v) :=
 fun _ _ _ H _ I h => ld_glob I hg hm ⟨v, H, I, r, h⟩ hd
theorem pe_bltn {x : Str} {v : V} {u : Value} {pos : Pos} (hg : Gl X x) (hm : X.mg x = none) (hv : bootBuiltins x = some u) (r : RelV v u) (hn : x ≠ "__name__" := by decide) (hd : (x == ("__debug__" : Str)) = false := by decide) : PE X (.Name x pos) (tC v) :=
 fun _ _ _ H _ I h => ld_blt I hg hm hv ⟨v, H, I, r, h⟩ hn hd
variable {a b : Expr} {ta tb : TE} {pos : Pos}
def PC (X : Cx) (op : CmpOp) (a b : Expr) (t : TE) : Prop :=
 ∀ (pins : List (Addr × Obj)) (s : Shared) (σ : St) (H : Hp) (Q : VK), Inv X pins σ H s → t σ H Q →
  wpAny (model X.prog X.w) X.A (eval a X.env) (fun v s₁ => wpAny (model X.prog X.w) X.A (eval b X.env) (fun u s₂ => wpAny (model X.prog X.w) X.A (compareOp op v u) (EP X pins σ Q) X.xe s₂) X.xe s₁) X.xe s
def tB (t : TE) : TT := fun σ H Q => t σ H fun x H1 => ∃ c, x = .bl c ∧ Q c H1
theorem pt_cmp {op : CmpOp} {t : TE} (h : PC X op a b t) (h1 : behindInMarks op b = false := by first | exact nobehind _ (by decide) (by decide) | rfl) : PT X (.Compare a [op] [b] pos) (tB t) := by
 intro pins s σ H Q I hw
 refine wpAny_isTrue_Compare1 (thn (h pins s σ H _ I hw) fun v s1 h1 => thn h1 fun u s2 h2 => thn h2 fun c s3 ⟨x, H1, I1, r1, q1⟩ => ?_) h1
 obtain ⟨d, rfl, q⟩ := q1
 cases r1
 exact wpAny_truthy_bool ⟨H1, I1, q⟩
theorem pt_val {e : Expr} {t : TE} (h : PE X e t) (he : ∀ whole, isTrue e X.env whole = (do let v ← whole; standAt e.pos; holding [v] (truthy v)) := by intro _; rfl) : PT X e (tB t) := by
 intro pins s σ H Q I hw
 refine isTrue_plain (thn (h pins s σ H _ I hw) fun v s1 ⟨x, H1, I1, r1, q1⟩ => ?_) (he _)
 obtain ⟨d, rfl, q⟩ := q1
 cases r1
 exact wpAny_truthy_bool ⟨H1, I1, q⟩
variable {tA tB' : TT} {rest : List Expr}
def tAnd (t u : TT) : TT := fun σ H Q => t σ H fun c H1 => if c = true then u σ H1 Q else Q false H1
def tOr (t u : TT) : TT := fun σ H Q => t σ H fun c H1 => if c = true then Q true H1 else u σ H1 Q
def tNot (t : TT) : TT := fun σ H Q => t σ H fun c H1 => Q (!c) H1
theorem pw_and1 (ha : PT X a tA) : PW X (.BoolOp .And [a] pos) tA := by
 intro wh pins s σ H Q I h
 refine isTrue_and (thn (ha pins s σ H Q I h) fun c s1 e => ?_)
 cases c with
 | true => exact isTrue_and_nil e
 | false => exact e
theorem pw_or1 (ha : PT X a tA) : PW X (.BoolOp .Or [a] pos) tA := by
 intro wh pins s σ H Q I h
 refine isTrue_or (thn (ha pins s σ H Q I h) fun c s1 e => ?_)
 cases c with
 | false => exact isTrue_or_nil e
 | true => exact e
theorem pw_and (ha : PT X a tA) (hb : PW X (.BoolOp .And (b :: rest) pos) tB') : PW X (.BoolOp .And (a :: b :: rest) pos) (tAnd tA tB') := by
 intro wh pins s σ H Q I h
 refine isTrue_and (thn (ha pins s σ H _ I h) fun c s1 ⟨H1, I1, q1⟩ => ?_)
 cases c with
 | true => exact hb wh pins s1 σ H1 Q I1 q1
 | false => exact ⟨H1, I1, q1⟩
theorem pw_or (ha : PT X a tA) (hb : PW X (.BoolOp .Or (b :: rest) pos) tB') : PW X (.BoolOp .Or (a :: b :: rest) pos) (tOr tA tB') := by
 intro wh pins s σ H Q I h
 refine isTrue_or (thn (ha pins s σ H _ I h) fun c s1 ⟨H1, I1, q1⟩ => ?_)
 cases c with
 | true => exact ⟨H1, I1, q1⟩
 | false => exact hb wh pins s1 σ H1 Q I1 q1
theorem pt_not (ha : PT X a tA) : PT X (.UnaryOp .Not a pos) (tNot tA) := by
 intro pins s σ H Q I h
 exact isTrue_not (ha pins s σ H (fun c H1 => Q (!c) H1) I h)
def tAndV (ta tb : TE) : TE := fun σ H Q => ta σ H fun x H1 => ∃ c, x = .bl c ∧ if c = true then tb σ H1 Q else Q (.bl false) H1
def tNotV (ta : TE) : TE := fun σ H Q => ta σ H fun x H1 => ∃ c, x = .bl c ∧ Q (.bl (!c)) H1
theorem pe_one {op} {t : TE} (h : PE X a t) : PE X (.BoolOp op [a] pos) t := fun pins s σ H Q I hw => BoolOp_one (h pins s σ H Q I hw)
theorem pe_and (ha : PE X a ta) (hb : PE X (.BoolOp .And (b :: rest) pos) tb) : PE X (.BoolOp .And (a :: b :: rest) pos) (tAndV ta tb) := by
 intro pins s σ H Q I h
 refine BoolOp_and (thn (ha pins s σ H _ I h) fun v s1 ⟨x, H1, I1, r1, q1⟩ => ?_)
 obtain ⟨c, rfl, q1⟩ := q1
 cases r1
 refine wpAny_truthy_bool ?_
 cases c with
 | true => exact hb pins s1 σ H1 Q I1 q1
 | false => exact ⟨.bl false, H1, I1, rfl, q1⟩
theorem pe_not (ha : PE X a ta) : PE X (.UnaryOp .Not a pos) (tNotV ta) := by
 intro pins s σ H Q I h
 refine UnaryOp_ (thn (ha pins s σ H _ I h) fun v s1 ⟨x, H1, I1, r1, q1⟩ => ?_)
 obtain ⟨c, rfl, q1⟩ := q1
 cases r1
 exact not_of (wpAny_truthy_bool ⟨.bl (!c), H1, I1, rfl, q1⟩)
def tIf (t : TT) (ta tb : TE) : TE := fun σ H Q => t σ H fun c H1 => if c = true then ta σ H1 Q else tb σ H1 Q
theorem pe_ifExp {c : Expr} (hc : PT X c tA) (ha : PE X a ta) (hb : PE X b tb) : PE X (.IfExp c a b pos) (tIf tA ta tb) := by
 intro pins s σ H Q I h
 refine wpAny_IfExp (thn (hc pins s σ H _ I h) fun d s1 ⟨H1, I1, q1⟩ => ?_)
 cases d with
 | true => exact ha pins s1 σ H1 Q I1 q1
 | false => exact hb pins s1 σ H1 Q I1 q1
end
end L2
namespace L2
open PySem PySem.Spec PyProof.Rows
def SqL (K : PySem.W.Frag) (H : Hp) (a : Addr) (xs : List V) : Prop :=
 Rd H a (.lst xs) ∨
  ∃ (o : Obj) (its : Array Value) (n : Nat), K.lookup a = some o ∧ o.cls = .type "list" ∧ o.dict = none ∧ o.data = .seq its n ∧ its.size ≤ sizeLine ∧ Vals xs its.toList
def SqT (K : PySem.W.Frag) (H : Hp) (a : Addr) (xs : List V) : Prop :=
 Rd H a (.tup xs) ∨
  ∃ (o : Obj) (its : Array Value) (n : Nat), K.lookup a = some o ∧ o.cls = .type "tuple" ∧ o.data = .seq its n ∧ its.size ≤ sizeLine ∧ Vals xs its.toList
def absV : Value → Option V
 | .none => some .non
 | .bool b => some (.bl b)
 | .int i _ => some (.int i)
 | .str x _ => some (.str x)
 | .bytes b _ => some (.byt b)
 | .float b _ => some (.flt b)
 | .ref a => some (.ref a)
 | .type n => some (.ty n)
 | _ => none
theorem RelV.abs {x : V} {u : Value} (r : RelV x u) : absV u = some x := by
 cases x with
 | non => cases r; rfl
 | bl _ => cases r; rfl
 | int _ => obtain ⟨t, rfl⟩ := r; rfl
 | str _ => obtain ⟨t, rfl⟩ := r; rfl
 | byt _ => obtain ⟨t, rfl⟩ := r; rfl
 | flt _ => obtain ⟨t, rfl⟩ := r; rfl
 | ref _ => cases r; rfl
 | ty _ => cases r; rfl
theorem RelV.inj {x y : V} {u : Value} (r : RelV x u) (q : RelV y u) : x = y := Option.some.inj (r.abs.symm.trans q.abs)
theorem Vals.inj : ∀ {xs ys : List V} {us : List Value}, Vals xs us → Vals ys us → xs = ys
 | _, _, _, .nil, .nil => rfl
 | _, _, _, .cons r t, .cons r' t' => by rw [r.inj r', Vals.inj t t']
section
variable {X : Cx} {pins : List (Addr × Obj)} {σ : St} {H : Hp} {s : Shared} {a : Addr} {xs ys : List V}
theorem SqL.of {K : PySem.W.Frag} (h : H a = some (.lst xs)) : SqL K H a xs := .inl (.inl h)
theorem SqT.of {K : PySem.W.Frag} (h : H a = some (.tup xs)) : SqT K H a xs := .inl (.inl h)
theorem Inv.list (I : Inv X pins σ H s) (h : SqL X.K H a xs) : ∃ its : List Value, Vals xs its ∧ PlainL s.heap a its.toArray ∧ xs.length ≤ sizeLine := by
 rcases h with h | ⟨o, its, n, hk, hc, hd, hs, hz, r⟩
 ·obtain ⟨z, its, n, r, e⟩ := h.ok I.hok
  exact ⟨its, r, ⟨_, n, e, rfl, rfl, rfl⟩, z⟩
 ·refine ⟨its.toList, r, ⟨o, n, I.kIn a o hk, hc, hd, by simpa using hs⟩, ?_⟩
  have e := r.length
  simp only [Array.length_toList] at e
  omega
theorem Inv.tuple (I : Inv X pins σ H s) (h : SqT X.K H a xs) : ∃ its : List Value, Vals xs its ∧ IsTup s.heap a its.toArray ∧ xs.length ≤ sizeLine := by
 rcases h with h | ⟨o, its, n, hk, hc, hs, hz, r⟩
 ·obtain ⟨z, its, r, p⟩ := h.ok I.hok
  exact ⟨its, r, p, z⟩
 ·refine ⟨its.toList, r, ⟨o, I.kIn a o hk, hc, n, by simpa using hs⟩, ?_⟩
  have e := r.length
  simp only [Array.length_toList] at e
  omega
theorem Inv.list_inj (I : Inv X pins σ H s) (h : SqL X.K H a xs) (h' : SqL X.K H a ys) : xs = ys := by
 obtain ⟨its, r, ⟨o, n, e, _, _, d⟩, _⟩ := I.list h
 obtain ⟨its', r', ⟨o', n', e', _, _, d'⟩, _⟩ := I.list h'
 rw [e] at e'; cases e'
 rw [d] at d'
 injection d' with d1 _
 have : its = its' := by simpa using congrArg Array.toList d1
 subst this
 exact r.inj r'
end
abbrev Cx.wish (X : Cx) (E : Value → Shared → Prop) : Cx := { X with xe := E }
abbrev Cx.nox (X : Cx) : Cx := X.wish fun _ _ => False
theorem Cx.Ok.wish {X : Cx} (ok : X.Ok) (E : Value → Shared → Prop) : (X.wish E).Ok :=
 ⟨ok.mod, ok.kind, ok.glob, ok.blt, ok.above, ok.inj, ok.has, ok.cab, ok.hd, ok.frames, ok.stk, ok.exf, ok.bs, ok.bsz, ok.noex, ok.exfs, ok.funs, ok.frf⟩
theorem Cx.Ok.unwish {X : Cx} {E : Value → Shared → Prop} (ok : (X.wish E).Ok) : X.Ok :=
 ⟨ok.mod, ok.kind, ok.glob, ok.blt, ok.above, ok.inj, ok.has, ok.cab, ok.hd, ok.frames, ok.stk, ok.exf, ok.bs, ok.bsz, ok.noex, ok.exfs, ok.funs, ok.frf⟩
section
variable {X : Cx} {pins : List (Addr × Obj)} {σ : St} {H : Hp} {s : Shared} {E : Value → Shared → Prop}
theorem Inv.wish (I : Inv X pins σ H s) (E : Value → Shared → Prop) : Inv (X.wish E) pins σ H s := ⟨I.ok.wish E, I.os, I.bare, I.base, I.loc, I.cell, I.free, I.freeC, I.pin, I.hok, I.len, I.tr, I.fix⟩
theorem Inv.unwish (I : Inv (X.wish E) pins σ H s) : Inv X pins σ H s := ⟨I.ok.unwish, I.os, I.bare, I.base, I.loc, I.cell, I.free, I.freeC, I.pin, I.hok, I.len, I.tr, I.fix⟩
theorem SP.unwish {D : Ends} {f : Flow} {s' : Shared} (h : SP (X.wish E) pins D f s') : SP X pins D f s' := by
 cases f with
 | next => obtain ⟨σ', H', I, q⟩ := h; exact ⟨σ', H', I.unwish, q⟩
 | brk => obtain ⟨σ', H', I, q⟩ := h; exact ⟨σ', H', I.unwish, q⟩
 | cont => obtain ⟨σ', H', I, q⟩ := h; exact ⟨σ', H', I.unwish, q⟩
 | ret u => obtain ⟨v, σ', H', I, r, q⟩ := h; exact ⟨v, σ', H', I.unwish, r, q⟩
theorem PSs.nox {st : List Stmt} {t : TS} (h : PSs X.nox st t) : PSs X st t := fun pins s σ H D I hw =>
 wpAny_mono (h pins s σ H D (I.wish _) hw) (fun _ _ q => q.unwish) fun _ _ z => False.elim z
end
section
variable {X : Cx} {st : Stmt} {rest : List Stmt} {t u : TS} {e : Expr} {te : TE} {pos : Pos}
def tNext : TS := fun D σ H => D.nx σ H
def tSeq (t u : TS) : TS := fun D σ H => t { D with nx := u D } σ H
theorem pss_nil : PSs X [] tNext := fun _ _ σ H _ I h => wpAny_execs_nil ⟨σ, H, I, h⟩
theorem pss_cons (h1 : PS X st t) (h2 : PSs X rest u) : PSs X (st :: rest) (tSeq t u) := by
 intro pins s σ H D I h
 refine wpAny_execs_cons (thn (h1 pins s σ H { D with nx := u D } I h) fun f s1 q => ?_)
 cases f with
 | next =>
  obtain ⟨σ', H', I', q⟩ := q
  exact h2 pins s1 σ' H' D I' q
 | ret v => exact q
 | brk => exact q
 | cont => exact q
theorem pss_one (h1 : PS X st t) : PSs X [st] t := by
 intro pins s σ H D I h
 refine wpAny_execs_cons (thn (h1 pins s σ H D I h) fun f s1 q => ?_)
 cases f with
 | next => exact wpAny_execs_nil q
 | ret v => exact q
 | brk => exact q
 | cont => exact q
theorem Inv.quiet {pins : List (Addr × Obj)} {σ : St} {H : Hp} {s : Shared} (I : Inv X pins σ H s) : interactive X.env = false := by simp [interactive, I.ok.kind]
def tDrop (te : TE) : TS := fun D σ H => te σ H fun _ H1 => D.nx σ H1
theorem ps_expr (he : PE X e te) (hs : swapsWith e none pos.line X.env = pure false := by rfl) : PS X (.Expr e pos) (tDrop te) := by
 intro pins s σ H D I h
 exact wpAny_Expr_any (thn (he pins s σ H _ I h) fun v s1 ⟨x, H1, I1, r1, q1⟩ => ⟨σ, H1, I1, q1⟩) I.quiet hs
def tRet (te : TE) : TS := fun D σ H => te σ H D.rt
theorem ps_ret (he : PE X e te) : PS X (.Return (some e) pos) (tRet te) := by
 intro pins s σ H D I h
 exact wpAny_Return_some (thn (he pins s σ H _ I h) fun v s1 ⟨x, H1, I1, r1, q1⟩ => ⟨x, σ, H1, I1, r1, q1⟩)
def tRetN : TS := fun D _ H => D.rt .non H
theorem ps_retN : PS X (.Return none pos) tRetN := fun _ _ σ H _ I h => wpAny_Return_none ⟨.non, σ, H, I, rfl, h⟩
def tIfS (c : TT) (t u : TS) : TS := fun D σ H => c σ H fun b H1 => if b = true then t D σ H1 else u D σ H1
theorem ps_if {c : Expr} {a b : List Stmt} {tc : TT} (hc : PT X c tc) (ha : PSs X a t) (hb : PSs X b u) : PS X (.If c a b pos) (tIfS tc t u) := by
 intro pins s σ H D I h
 refine wpAny_If (thn (hc pins s σ H _ I h) fun d s1 ⟨H1, I1, q1⟩ => ?_)
 cases d with
 | true => exact ha pins s1 σ H1 D I1 q1
 | false => exact hb pins s1 σ H1 D I1 q1
end
abbrev TG := V → St → Hp → (St → Hp → Prop) → Prop
abbrev TGs := List V → St → Hp → (St → Hp → Prop) → Prop
def PG (X : Cx) (target : Expr) (t : TG) : Prop :=
 ∀ (pins : List (Addr × Obj)) (s : Shared) (σ : St) (H : Hp) (v : V) (u : Value) (Q : St → Hp → Prop), Inv X pins σ H s → RelV v u → t v σ H Q →
  wpAny (model X.prog X.w) X.A (assign target X.env u) (fun _ s' => ∃ σ' H', Inv X pins σ' H' s' ∧ Q σ' H') X.xe s
def PGs (X : Cx) (ts : List Expr) (t : TGs) : Prop :=
 ∀ (pins : List (Addr × Obj)) (s : Shared) (σ : St) (H : Hp) (vs : List V) (us : List Value) (Q : St → Hp → Prop), Inv X pins σ H s → Vals vs us → t vs σ H Q →
  wpAny (model X.prog X.w) X.A (assignInOrder ((assignEach ts X.env).map (·.2)) us) (fun _ s' => ∃ σ' H', Inv X pins σ' H' s' ∧ Q σ' H') X.xe s
abbrev TSet := V → V → V → Hp → (Hp → Prop) → Prop
def PSet (X : Cx) (t : TSet) : Prop :=
 ∀ (pins : List (Addr × Obj)) (s : Shared) (σ : St) (H : Hp) (o i v : V) (ov iv u : Value) (Q : Hp → Prop), Inv X pins σ H s → RelV o ov → RelV i iv → RelV v u → t o i v H Q →
  wpAny (model X.prog X.w) X.A (setItem ov iv u) (fun _ s' => ∃ H', Inv X pins σ H' s' ∧ Q H') X.xe s
section
variable {X : Cx} {pos : Pos}
def gName (i : Nat) : TG := fun v σ H Q => Q (σ.set i (some v)) H
theorem pg_name {i : Nat} {x : Str} (hN : X.N.Nodup) (hi : X.N[i]? = some x) (hx : Loc X.env.scope x) (hf : X.fn x = true ∨ X.env.scope.names.lookup x = some .local := by first | exact .inl rfl | exact .inr rfl | assumption) (hfx : ∀ p ∈ X.fx, p.1 ≠ x := by first | exact fun p h => absurd (show p ∈ ([] : List (Str × Value)) from h) (by simp) | assumption) : PG X (.Name x pos) (gName i) := by
 intro pins s σ H v u Q I r h
 exact wpAny_assign_Name (store_ok I hN hi hx r (fun s' I' => ⟨_, H, I', h⟩) hf hfx)
def gNil : TGs := fun vs σ H Q => vs = [] ∧ Q σ H
def gCons (t : TG) (u : TGs) : TGs := fun vs σ H Q => ∃ v r, vs = v :: r ∧ t v σ H fun σ' H' => u r σ' H' Q
theorem pgs_nil : PGs X [] gNil := by
 intro pins s σ H vs us Q I r h
 obtain ⟨e, h⟩ := h
 subst e
 cases r
 exact assignInOrder_nil ⟨σ, H, I, h⟩
theorem pgs_cons {e : Expr} {es : List Expr} {t : TG} {u : TGs} (h1 : PG X e t) (h2 : PGs X es u)
  (hs : (assignEach (e :: es) X.env).map (·.2) = assign e X.env :: (assignEach es X.env).map (·.2) := by rfl) : PGs X (e :: es) (gCons t u) := by
 intro pins s σ H vs us Q I r h
 obtain ⟨v, vr, e1, h⟩ := h
 subst e1
 cases r with
 | cons r rr =>
  rw [hs]
  refine assignInOrder_cons (thn (h1 pins s σ H _ _ _ I r h) fun _ s1 ⟨σ1, H1, I1, q1⟩ => ?_)
  exact h2 pins s1 σ1 H1 _ _ Q I1 rr q1
def gTup (K : PySem.W.Frag) (n : Nat) (t : TGs) : TG := fun v σ H Q => ∃ a xs, v = .ref a ∧ SqT K H a xs ∧ xs.length = n ∧ t xs σ H Q
theorem pg_tup {es : List Expr} {k : Nat} {t : TGs} {n : Nat} (hc : X.A.handled = none) (h : PGs X es t)
  (hn : (assignEach es X.env).length = n := by rfl) (hst : (assignEach es X.env).findIdx? (·.1) = none := by rfl) : PG X (.Tuple es k pos) (gTup X.K n t) := by
 intro pins s σ H v u Q I r hw
 obtain ⟨a, xs, e1, hq, hl, hw⟩ := hw
 subst e1
 cases r
 obtain ⟨its, rv, ht, hz⟩ := I.tuple hq
 refine assign_Tuple_tuple hc ht (by simp [hn, ← hl, rv.length]) hst fun h' hx => ?_
 have I1 : Inv X pins σ H { s with heap := h' } := I.kept (t' := s.toks) fun b o e => hx b o (Nat.ne_of_lt (Heap.lt_size e)) e
 exact h pins _ σ H xs _ Q I1 (by simpa using rv) hw
def gSub (to ti : TE) (t : TSet) : TG := fun v σ H Q => to σ H fun o H1 => ti σ H1 fun i H2 => t o i v H2 fun H3 => Q σ H3
theorem pg_sub {o i : Expr} {to ti : TE} {t : TSet} (ho : PE X o to) (hi : PE X i ti) (hs : PSet X t)
  (ha : ∀ v, assign (.Subscript o i pos) X.env v = (do
   let ov ← holding [v] (eval o X.env)
   let iv ← holding [v, ov] (eval i X.env)
   standAt pos
   holding [v, ov, iv] (setItem ov iv v)
   release [v, ov, iv] []) := by intro _; rfl) : PG X (.Subscript o i pos) (gSub to ti t) := by
 intro pins s σ H v u Q I r h
 rw [ha]
 refine wpAny_bind (wpAny_holding (thn (ho pins s σ H _ I h) fun ov s1 ⟨x, H1, I1, r1, q1⟩ => ?_))
 refine wpAny_bind (wpAny_holding (thn (hi pins s1 σ H1 _ I1 q1) fun iv s2 ⟨y, H2, I2, r2, q2⟩ => ?_))
 refine wpAny_bind (wpAny_standAt (wpAny_bind (wpAny_holding (thn (hs pins s2 σ H2 x y v ov iv u _ I2 r1 r2 r q2) fun _ s3 ⟨H3, I3, q3⟩ => ?_))))
 exact wpAny_release ⟨σ, H3, I3, q3⟩
def tAsg (te : TE) (g : TG) : TS := fun D σ H => te σ H fun x H1 => g x σ H1 D.nx
theorem ps_asg {tg e : Expr} {te : TE} {g : TG} (he : PE X e te) (hg : PG X tg g) (hs : swapsWithSole [tg] e pos.line X.env = pure false := by rfl) (hw : swappedStores [tg] e X.env = pure none := by rfl)
  (h1 : (assignEach [tg] X.env).map (·.2) = [assign tg X.env] := by rfl) : PS X (.Assign [tg] e pos) (tAsg te g) := by
 intro pins s σ H D I h
 refine wpAny_Assign_stores (thn (he pins s σ H _ I h) fun v s1 ⟨x, H1, I1, r1, q1⟩ => ?_) hs hw
 rw [h1]
 exact thn (hg pins s1 σ H1 x v _ I1 r1 q1) fun _ s2 q => q
theorem ps_set {i : Nat} {x : Str} {e : Expr} {te : TE} {pos' : Pos} (hN : X.N.Nodup) (hi : X.N[i]? = some x) (hx : Loc X.env.scope x) (he : PE X e te) (hs : swapsWith e (some (.Name x pos')) pos.line X.env = pure false := by rfl) (hf : X.fn x = true ∨ X.env.scope.names.lookup x = some .local := by first | exact .inl rfl | exact .inr rfl | assumption) (hfx : ∀ p ∈ X.fx, p.1 ≠ x := by first | exact fun p h => absurd (show p ∈ ([] : List (Str × Value)) from h) (by simp) | assumption) :
  PS X (.Assign [.Name x pos'] e pos) (tAsg te (gName i)) := by
 intro pins s σ H D I h
 refine wpAny_Assign_Name (thn (he pins s σ H _ I h) fun v s1 ⟨y, H1, I1, r1, q1⟩ => ?_) hs
 exact store_ok I1 hN hi hx r1 (fun s2 I2 => ⟨_, H1, I2, q1⟩) hf hfx
end
section
variable {X : Cx} {pos : Pos}
def tWhile (c : TT) (tb : TS) : TS := fun D σ H => ∃ W : Nat → St → Hp → Prop, (∃ m, W m σ H) ∧ ∀ m σ H, W m σ H →
 c σ H fun b H1 => if b = true then ∃ N : St → Hp → Prop, (∀ σ' H', N σ' H' → ∃ m', m' < m ∧ W m' σ' H') ∧ tb { D with nx := N, ct := N, bk := D.nx } σ H1 else D.nx σ H1
theorem ps_while {c : Expr} {body : List Stmt} {tc : TT} {tb : TS} (hp : PassesOwn (model X.prog X.w) X.A X.env X.xe) (hc : PT X c tc) (hb : PSs X body tb) : PS X (.While c body [] pos) (tWhile tc tb) := by
 intro pins s σ H D I h
 obtain ⟨W, ⟨m0, w0⟩, turn⟩ := h
 refine wpAny_While (codeAny_whileLoop (fun n s' => ∃ σ' H', Inv X pins σ' H' s' ∧ W n σ' H') ?_ m0 ⟨σ, H, I, w0⟩)
 rintro n s1 ⟨σ1, H1, I1, w1⟩
 refine wpAny_passesOwn hp (thn (hc pins s1 σ1 H1 _ I1 (turn n σ1 H1 w1)) fun b s2 ⟨H2, I2, q2⟩ => ?_)
 cases b with
 | true =>
  obtain ⟨N, hN, q2⟩ := q2
  rw [if_pos rfl]
  refine wpAny_passesOwn hp (thn (hb pins s2 σ1 H2 _ I2 q2) fun f s3 q3 => ?_)
  cases f with
  | next =>
   obtain ⟨σ3, H3, I3, n3⟩ := q3
   obtain ⟨m', hm, w3⟩ := hN σ3 H3 n3
   exact ⟨m', hm, σ3, H3, I3, w3⟩
  | cont =>
   obtain ⟨σ3, H3, I3, n3⟩ := q3
   obtain ⟨m', hm, w3⟩ := hN σ3 H3 n3
   exact ⟨m', hm, σ3, H3, I3, w3⟩
  | brk => exact q3
  | ret v => exact q3
 | false =>
  rw [if_neg Bool.false_ne_true]
  exact wpAny_execs_nil ⟨σ1, H2, I2, q2⟩
end
structure It where
 go : Nat → Hp → Prop
 yld : Nat → Hp → V → Hp → Prop
 stop : Nat → Hp → Prop
def FpOk (X : Cx) (pins : List (Addr × Obj)) (H : Hp) (b : Addr) : Prop :=
 H b = none ∧ b ≠ X.env.locals ∧ b ∉ X.fs ∧ (b ∈ X.ex ∨ X.s₀.heap.objs.size ≤ b) ∧ (∀ x c, X.env.cells.lookup x = some c → c ≠ b) ∧ ∀ p ∈ X.pn ++ pins, p.1 ≠ b
theorem Inv.fpOk {X : Cx} {pins : List (Addr × Obj)} {σ : St} {H H' : Hp} {s : Shared} {b : Addr} (I : Inv X pins σ H s) (hb : s.heap.objs.size ≤ b) (hn : H' b = none) : FpOk X pins H' b := by
 refine ⟨hn, Nat.ne_of_gt (Nat.lt_of_lt_of_le I.lt hb), I.nofs hb, .inr (Nat.le_trans I.sz hb), fun x c e z => ?_, fun p hp z => ?_⟩
 ·obtain ⟨v, q⟩ := I.cell x c e
  exact absurd (Nat.lt_of_lt_of_le q.lt (by rw [z]; exact hb)) (Nat.lt_irrefl _)
 ·exact absurd (Nat.lt_of_lt_of_le (Heap.lt_size (I.pin p hp).1) (by rw [z]; exact hb)) (Nat.lt_irrefl _)
structure Turn (P : Program) (w : World) (K : PySem.W.Frag) (tg : Expr) (J : It) (fp : List Addr) (it : Addr) (tn : Nat → Heap → Prop) : Prop where
 mem : it ∈ fp
 obj : ∀ i h, tn i h → ∀ b ∈ fp, ∃ o, h.get? b = some o ∧ ∀ v, o.data ≠ .cell v
 keep : ∀ i h h', tn i h → (∀ b ∈ fp, ∀ o, h.get? b = some o → h'.get? b = some o) → tn i h'
 item : ∀ (X : Cx), X.prog = P → X.w = w → X.K = K → X.calm = true → ∀ (i : Nat) (pins : List (Addr × Obj)) (s : Shared) (σ : St) (H : Hp) (E : Value → Shared → Prop), Inv X pins σ H s → (∀ b ∈ fp, FpOk X pins H b) → tn i s.heap → J.go i H →
  wpAny (model P w) X.A (pyNext (.ref it)) (fun r s1 => ∃ u, r = some u ∧
   wpAny (model P w) X.A (letOwnedTupleGo tg (.ref it) u) (fun _ s2 => ∃ x H', Inv X pins σ H' s2 ∧ RelV x u ∧ J.yld i H x H' ∧ tn (i + 1) s2.heap ∧ ∀ b ∈ fp, H' b = none) E s1) E s
 done : ∀ (X : Cx), X.prog = P → X.w = w → X.K = K → X.calm = true → ∀ (i : Nat) (pins : List (Addr × Obj)) (s : Shared) (σ : St) (H : Hp) (E : Value → Shared → Prop), Inv X pins σ H s → (∀ b ∈ fp, FpOk X pins H b) → tn i s.heap → J.stop i H →
  wpAny (model P w) X.A (pyNext (.ref it)) (fun r s1 => r = none ∧ Inv X pins σ H s1) E s
 self : ∀ (A : Around) (i : Nat) (s : Shared) (Q : Value → Shared → Prop) (E : Value → Shared → Prop), tn i s.heap → Q (.ref it) s → wpAny (model P w) A (pyIter (.ref it)) Q E s
abbrev TI := St → Hp → (It → Hp → Prop) → Prop
def PIE (X : Cx) (pins : List (Addr × Obj)) (σ : St) (tg : Expr) (R : It → Hp → Prop) (itv : Value) (s2 : Shared) : Prop :=
 ∃ (it : Addr) (fp : List Addr) (tn : Nat → Heap → Prop) (J : It) (H' : Hp), itv = .ref it ∧ Inv X pins σ H' s2 ∧ Turn X.prog X.w X.K tg J fp it tn ∧ tn 0 s2.heap ∧ (∀ b ∈ fp, FpOk X pins H' b) ∧ R J H'
def PI (X : Cx) (tg iter : Expr) (wi : TI) : Prop :=
 ∀ (pins : List (Addr × Obj)) (s : Shared) (σ : St) (H : Hp) (R : It → Hp → Prop), Inv X pins σ H s → wi σ H R →
  wpAny (model X.prog X.w) X.A (eval iter X.env) (fun v s1 => wpAny (model X.prog X.w) X.A (pyIter v) (PIE X pins σ tg R) X.xe s1) X.xe s
theorem go_of {M : Model} {A : Around} {E : Value → Shared → Prop} {s : Shared} {tg : Expr} {it : Addr} {u : Value} {o : Obj} {n : String} {vs : Array Value} {Q : Unit → Shared → Prop} (ho : s.heap.get? it = some o) (hc : o.cls = .type n) (hd : o.data = .fields vs)
    (hn : ["enumerate", "zip", "dict_itemiterator", "dict_reverseitemiterator", "odict_iterator", "itertools.zip_longest", "itertools.pairwise"].contains n = false) (hQ : Q () s) : wpAny M A (letOwnedTupleGo tg (.ref it) u) Q E s := by
  unfold letOwnedTupleGo
  cases tg <;> first
    | exact wpAny_pure hQ
    | (cases u <;> first
        | exact wpAny_pure hQ
        | (refine wpAny_bind (wpAny_load ho ?_)
           rw [hc, hd]
           show wpAny M A (if (["enumerate", "zip", "dict_itemiterator", "dict_reverseitemiterator", "odict_iterator", "itertools.zip_longest", "itertools.pairwise"].contains n && vs[0]? == some (rawInt _)) = true then _ else _) Q E s
           rw [if_neg (by intro h; rw [hn, Bool.false_and] at h; cases h)]
           exact wpAny_pure hQ))
def Itl (K : PySem.W.Frag) (a : Addr) : It :=
 ⟨fun i H => ∃ xs x, SqL K H a xs ∧ xs[i]? = some x, fun i H x H' => H' = H ∧ ∀ xs, SqL K H a xs → xs[i]? = some x, fun i H => ∃ xs, SqL K H a xs ∧ xs.length ≤ i⟩
def Itr (lo : Int) (n : Nat) : It := ⟨fun i _ => i < n, fun i H x H' => H' = H ∧ x = .int (lo + i), fun i _ => n ≤ i⟩
theorem turn_list {P : Program} {w : World} {K : PySem.W.Frag} {tg : Expr} (a it : Addr) : Turn P w K tg (Itl K a) [it] it (fun i h => h.IsListIter it a i) where
 mem := by simp
 obj := fun i h st b hb => by
  have e : b = it := by simpa using hb
  subst e
  obtain ⟨o, e, c, d⟩ := st
  exact ⟨o, e, fun v z => by rw [d] at z; cases z⟩
 keep := fun i h h' st k => st.at fun o e => k it (by simp) o e
 item := by
  intro X hP hw hK hc i pins s σ H E I hf st hg
  subst hP hw hK
  obtain ⟨xs, x, hq, hx⟩ := hg
  obtain ⟨its, rv, p, hz⟩ := I.list hq
  obtain ⟨u, hu, ru⟩ := rv.get hx
  obtain ⟨f0, f1, f2, f3, f4, f5⟩ := hf it (by simp)
  refine wpAny_pyNext_list_item st p.isList (x := u) (by simpa using hu) fun h' st' sb => ?_
  have I1 : Inv X pins σ H { s with heap := h' } := I.turned (t' := s.toks) (fun b o hb e => (sb.2 b hb).trans e) f0 f1 f3 f4 f5
  obtain ⟨o, e, c, d⟩ := id st'
  exact ⟨u, rfl, go_of (s := { s with heap := h' }) e c d (by decide) ⟨x, H, I1, ru, ⟨rfl, fun ys hy => by rw [I.list_inj hy hq]; exact hx⟩, st', fun b hb => (hf b hb).1⟩⟩
 done := by
  intro X hP hw hK hc i pins s σ H E I hf st hg
  subst hP hw hK
  obtain ⟨xs, hq, hx⟩ := hg
  obtain ⟨its, rv, p, hz⟩ := I.list hq
  obtain ⟨f0, f1, f2, f3, f4, f5⟩ := hf it (by simp)
  have hl := rv.length
  exact list_endH I.hd st p.isList (by simp; omega) fun h' eb => ⟨rfl, I.turned (t' := s.toks) (fun b o hb e => eb b o hb e) f0 f1 f3 f4 f5⟩
 self := fun _ _ _ _ _ st h => wpAny_pyIter_listiter st h
theorem turn_range {P : Program} {w : World} {K : PySem.W.Frag} {tg : Expr} (it : Addr) (lo : Int) (n : Nat) : Turn P w K tg (Itr lo n) [it] it (fun i h => IsRangeIter h it (lo + (i : Nat) * 1) ((n : Int) - (i : Nat)) 1) where
 mem := by simp
 obj := fun i h st b hb => by
  have e : b = it := by simpa using hb
  subst e
  exact ⟨_, st, fun v z => by
   have z' : Data.fields _ = Data.cell v := z
   cases z'⟩
 keep := fun i h h' st k => k it (by simp) _ st
 item := by
  intro X hP hw hK hc i pins s σ H E I hf st hg
  subst hP hw hK
  obtain ⟨f0, f1, f2, f3, f4, f5⟩ := hf it (by simp)
  have hlt : i < n := hg
  refine wpAny_pyNext_range_item st (by omega) fun h' st' sb => ?_
  have I1 : Inv X pins σ H { s with heap := h', toks := s.toks + 1 } := I.turned (fun b o hb e => (sb.2 b hb).trans e) f0 f1 f3 f4 f5
  have e1 : lo + (i : Int) * 1 + 1 = lo + ((i + 1 : Nat) : Int) * 1 := by omega
  have e2 : (n : Int) - (i : Int) - 1 = (n : Int) - ((i + 1 : Nat) : Int) := by omega
  rw [e1, e2] at st'
  refine ⟨_, rfl, go_of (s := { s with heap := h', toks := s.toks + 1 }) (n := "range_iterator") st' rfl rfl (by decide) ⟨.int (lo + i), H, I1, ⟨s.toks, ?_⟩, ⟨rfl, rfl⟩, st', fun b hb => (hf b hb).1⟩⟩
  rw [Int.mul_one]
 done := by
  intro X hP hw hK hc i pins s σ H E I hf st hg
  subst hP hw hK
  obtain ⟨f0, f1, f2, f3, f4, f5⟩ := hf it (by simp)
  exact range_endH I.hd st (by have : n ≤ i := hg; omega) fun h' eb => ⟨rfl, I.turned (t' := s.toks) (fun b o hb e => eb b o hb e) f0 f1 f3 f4 f5⟩
 self := fun _ _ _ _ _ st h => wpAny_pyIter_rangeiter st h
end L2
namespace L2
open PySem PySem.Spec PyProof.Rows
section
variable {X : Cx} {tg : Expr}
def iList (K : PySem.W.Frag) (tl : TE) : TI := fun σ H R => tl σ H fun x H1 => ∃ a, x = .ref a ∧ (∃ xs, SqL K H1 a xs) ∧ R (Itl K a) H1
theorem pi_list {l : Expr} {tl : TE} (hl : PE X l tl) : PI X tg l (iList X.K tl) := by
 intro pins s σ H R I h
 refine thn (hl pins s σ H _ I h) fun v s1 ⟨x, H1, I1, r1, q1⟩ => ?_
 obtain ⟨a, e, ⟨xs, hq⟩, q⟩ := q1
 subst e
 cases r1
 obtain ⟨its, rv, p, hz⟩ := I1.list hq
 refine wpAny_pyIter_list p.isList ?_
 refine ⟨s1.heap.objs.size, [s1.heap.objs.size], _, _, H1, rfl, I1.kept (t' := s1.toks) fun b o e => Heap.get?_push_of_some _ e, turn_list a _, ⟨_, Heap.get?_push_size _ rfl, rfl, rfl⟩, fun b hb => ?_, q⟩
 have e : b = s1.heap.objs.size := by simpa using hb
 subst e
 exact I1.fpOk (Nat.le_refl _) (I1.hok.fresh (Nat.le_refl _))
theorem range_it {pins : List (Addr × Obj)} {σ : St} {H : Hp} {s : Shared} {R : It → Hp → Prop} {E : Value → Shared → Prop} {lo hi : Int} {t u v : Tok} {tk : Nat} (I : Inv X pins σ H s) (h1 : -(2 ^ 62) ≤ lo) (h2 : lo < 2 ^ 62) (h3 : -(2 ^ 62) ≤ hi) (h4 : hi < 2 ^ 62)
  (q : R (Itr lo (hi - lo).toNat) H) : wpAny (model X.prog X.w) X.A (pyIter (.ref s.heap.objs.size)) (PIE X pins σ tg R) E { s with heap := s.heap.push { cls := .type "range", data := .fields #[.int lo t, .int hi u, .int 1 v] }, toks := tk } := by
 refine wpAny_pyIter_range (IsRange.new ..) (small_one h1 h2 h3 h4) ?_
 have I1 : Inv X pins σ H { s with heap := s.heap.push { cls := .type "range", data := .fields #[.int lo t, .int hi u, .int 1 v] }, toks := tk } := I.kept fun b o e => Heap.get?_push_of_some _ e
 refine ⟨(s.heap.push { cls := .type "range", data := .fields #[.int lo t, .int hi u, .int 1 v] }).objs.size, [(s.heap.push { cls := .type "range", data := .fields #[.int lo t, .int hi u, .int 1 v] }).objs.size], _, _, H, rfl,
  I1.kept (t' := tk) fun b o e => Heap.get?_push_of_some _ e, turn_range _ lo (hi - lo).toNat, ?_, fun b hb => ?_, q⟩
 ·have e1 : lo + ((0 : Nat) : Int) * 1 = lo := by simp
  have e2 : (((hi - lo).toNat : Nat) : Int) - ((0 : Nat) : Int) = Builtin.Range.rangeSize lo hi 1 := by rw [rangeSize_one]; split <;> omega
  show IsRangeIter _ _ (lo + ((0 : Nat) : Int) * 1) ((((hi - lo).toNat : Nat) : Int) - ((0 : Nat) : Int)) 1
  rw [e1, e2]
  exact Heap.get?_push_size _ rfl
 ·have e : b = (s.heap.push { cls := .type "range", data := .fields #[.int lo t, .int hi u, .int 1 v] }).objs.size := by simpa using hb
  subst e
  exact I1.fpOk (Nat.le_refl _) (I1.hok.fresh (Nat.le_refl _))
def iRng1 (ta : TA) : TI := fun σ H R => ta σ H fun vs H1 => ∃ j : Int, vs = [.int j] ∧ -(2 ^ 62) ≤ j ∧ j < 2 ^ 62 ∧ R (Itr 0 j.toNat) H1
def iRng2 (ta : TA) : TI := fun σ H R => ta σ H fun vs H1 => ∃ i j : Int, vs = [.int i, .int j] ∧ (-(2 ^ 62) ≤ i ∧ i < 2 ^ 62 ∧ -(2 ^ 62) ≤ j ∧ j < 2 ^ 62) ∧ R (Itr i (j - i).toNat) H1
theorem pi_range1 {a : Expr} {ta : TA} {p pos : Pos} (hg : Gl X "range") (hm : X.mg "range" = none) (ha : PA X [a] ta) (hs : starEach [a] X.env = [(false, eval a X.env)] := by rfl) : PI X tg (.Call (.Name "range" p) [a] [] pos) (iRng1 ta) := by
 intro pins s σ H R I h
 refine Call_ (ld_blt I hg hm boot_range (PyProof.Rows.callWith_type1 (thn (ha pos pins s σ H _ I h) fun us s1 ⟨vs, H1, I1, r1, q1⟩ => ?_) hs rfl))
 obtain ⟨j, e, q1, q2, q⟩ := q1
 subst e
 cases r1 with
 | cons r rr =>
  cases rr
  obtain ⟨t, rfl⟩ := r
  exact call_range_1 (range_it I1 (by omega) (by omega) q1 q2 (by simpa using q))
theorem pi_range2 {a b : Expr} {ta : TA} {p pos : Pos} (hg : Gl X "range") (hm : X.mg "range" = none) (ha : PA X [a, b] ta) (hs : starEach [a, b] X.env = [(false, eval a X.env), (false, eval b X.env)] := by rfl) (hs2 : starEach [b] X.env = [(false, eval b X.env)] := by rfl) :
  PI X tg (.Call (.Name "range" p) [a, b] [] pos) (iRng2 ta) := by
 intro pins s σ H R I h
 refine Call_ (ld_blt I hg hm boot_range (PyProof.Rows.callWith_type1 (thn (ha pos pins s σ H _ I h) fun us s1 ⟨vs, H1, I1, r1, q1⟩ => ?_) (by rw [hs, hs2]) (by rw [hs2]; rfl)))
 obtain ⟨i, j, e, ⟨q1, q2, q3, q4⟩, q⟩ := q1
 subst e
 cases r1 with
 | cons r rr =>
  cases rr with
  | cons r' rr =>
   cases rr
   obtain ⟨t, rfl⟩ := r
   obtain ⟨t', rfl⟩ := r'
   exact call_range_2 (range_it I1 q1 q2 q3 q4 q)
def tFor (wi : TI) (g : TG) (tb : TS) : TS := fun D σ H => wi σ H fun J H1 => ∃ W : Nat → Nat → St → Hp → Prop, (∃ m, W 0 m σ H1) ∧ ∀ i m σ H, W i m σ H →
 (J.stop i H ∧ D.nx σ H) ∨ (J.go i H ∧ ∃ N : St → Hp → Prop, (∀ σ' H', N σ' H' → ∃ m', m' < m ∧ W (i + 1) m' σ' H') ∧ ∀ x H', J.yld i H x H' → g x σ H' fun σ2 H2 => tb { D with nx := N, ct := N, bk := D.nx } σ2 H2)
def pinsAt (fp : List Addr) (h : Heap) : List (Addr × Obj) := fp.filterMap fun b => (h.get? b).map fun o => (b, o)
theorem mem_pinsAt {fp : List Addr} {h : Heap} {b : Addr} {o : Obj} (hb : b ∈ fp) (e : h.get? b = some o) : (b, o) ∈ pinsAt fp h := List.mem_filterMap.mpr ⟨b, hb, by rw [e]; rfl⟩
theorem of_pinsAt {fp : List Addr} {h : Heap} {p : Addr × Obj} (hp : p ∈ pinsAt fp h) : p.1 ∈ fp ∧ h.get? p.1 = some p.2 := by
 obtain ⟨b, hb, e⟩ := List.mem_filterMap.mp hp
 cases q : h.get? b with
 | none => rw [q] at e; cases e
 | some o =>
  rw [q] at e
  have e' : (b, o) = p := Option.some.inj e
  subst e'
  exact ⟨hb, q⟩
theorem Inv.pinned {pins : List (Addr × Obj)} {σ : St} {H : Hp} {s : Shared} {fp : List Addr} (I : Inv X pins σ H s) (hf : ∀ b ∈ fp, FpOk X pins H b) (ho : ∀ b ∈ fp, ∃ o, s.heap.get? b = some o ∧ ∀ v, o.data ≠ .cell v) : Inv X (pins ++ pinsAt fp s.heap) σ H s :=
 I.pins_of fun p hp => (List.mem_append.mp hp).elim (fun z => I.pin p (List.mem_append_right _ z)) fun z => by
  obtain ⟨hb, e⟩ := of_pinsAt z
  obtain ⟨f0, f1, f2, _⟩ := hf p.1 hb
  obtain ⟨o, e', d⟩ := ho p.1 hb
  rw [e] at e'; cases e'
  exact ⟨e, f0, f1, f2, d⟩
theorem Inv.unpinned {pins pl : List (Addr × Obj)} {σ : St} {H : Hp} {s : Shared} (I : Inv X (pins ++ pl) σ H s) : Inv X pins σ H s := I.pins_of fun p hp => I.pin p (List.mem_append_right _ (List.mem_append_left _ hp))
theorem ps_for {iter : Expr} {body : List Stmt} {wi : TI} {g : TG} {tb : TS} {pos : Pos} (hp : PassesOwn (model X.prog X.w) X.A X.env X.xe) (hc : X.calm = true) (hi : PI X tg iter wi) (hg : PG X tg g) (hb : PSs X body tb)
  (hs : ∀ x, foldedSetIterable iter X.env x = pure x := by intro _; rfl) : PS X (.For tg iter body [] pos) (tFor wi g tb) := by
 intro pins s σ H D I h
 refine wpAny_For (thn (hi pins s σ H _ I h) fun v s1 h1 => thn h1 fun itv s2 h2 => ?_) hs
 obtain ⟨it, fp, tn, J, H2, e, I2, T, st2, f2, W, ⟨m0, w0⟩, turn⟩ := h2
 subst e
 have stat : ∀ {H' : Hp}, (∀ b ∈ fp, H' b = none) → ∀ b ∈ fp, FpOk X pins H' b := fun hn b hb => ⟨hn b hb, (f2 b hb).2⟩
 refine codeAny_forLoop_any (fun n s' => ∃ i σ' H', Inv X pins σ' H' s' ∧ tn i s'.heap ∧ (∀ b ∈ fp, H' b = none) ∧ W i n σ' H') ?_ m0 ⟨0, σ, H2, I2, st2, fun b hb => (f2 b hb).1, w0⟩
 rintro n s3 ⟨i, σ3, H3, I3, st3, fr3, w3⟩
 rcases turn i n σ3 H3 w3 with ⟨stop, qn⟩ | ⟨go, N, hN, step⟩
 ·refine wpAny_passesOwn hp (thn (T.done X rfl rfl rfl hc i pins s3 σ3 H3 X.xe I3 (stat fr3) st3 stop) fun r s4 ⟨hr, I4⟩ => ?_)
  subst hr
  exact wpAny_execs_nil ⟨σ3, H3, I4, qn⟩
 ·refine wpAny_passesOwn hp (thn (T.item X rfl rfl rfl hc i pins s3 σ3 H3 X.xe I3 (stat fr3) st3 go) fun r s4 ⟨u, hr, h4⟩ => ?_)
  subst hr
  refine wpAny_passesOwn hp (thn h4 fun _ s5 ⟨x, H5, I5, r5, y5, st5, fr5⟩ => ?_)
  have I5' := I5.pinned (stat fr5) (T.obj _ _ st5)
  refine wpAny_passesOwn hp (thn (hg _ s5 σ3 H5 x u _ I5' r5 (step x H5 y5)) fun _ s6 ⟨σ6, H6, I6, q6⟩ => ?_)
  refine wpAny_passesOwn hp (thn (hb _ s6 σ6 H6 _ I6 q6) fun f s7 q7 => ?_)
  have again : ∀ {σ7 : St} {H7 : Hp}, Inv X (pins ++ pinsAt fp s5.heap) σ7 H7 s7 → N σ7 H7 → ∃ m, m < n ∧ ∃ i σ' H', Inv X pins σ' H' s7 ∧ tn i s7.heap ∧ (∀ b ∈ fp, H' b = none) ∧ W i m σ' H' := fun {σ7 H7} I7 n7 => by
   obtain ⟨m', hm, w7⟩ := hN σ7 H7 n7
   refine ⟨m', hm, i + 1, σ7, H7, I7.unpinned, T.keep _ _ _ st5 fun b hb o e => (I7.pin (b, o) (List.mem_append_right _ (List.mem_append_right _ (mem_pinsAt hb e)))).1, fun b hb => ?_, w7⟩
   obtain ⟨o, e, d⟩ := T.obj _ _ st5 b hb
   exact (I7.pin (b, o) (List.mem_append_right _ (List.mem_append_right _ (mem_pinsAt hb e)))).2.1
  cases f with
  | next => obtain ⟨σ7, H7, I7, n7⟩ := q7; exact again I7 n7
  | cont => obtain ⟨σ7, H7, I7, n7⟩ := q7; exact again I7 n7
  | brk => obtain ⟨σ7, H7, I7, q7⟩ := q7; exact ⟨σ7, H7, I7.unpinned, q7⟩
  | ret v => obtain ⟨x7, σ7, H7, I7, r7, q7⟩ := q7; exact ⟨x7, σ7, H7, I7.unpinned, r7, q7⟩
end
theorem for_list {K : PySem.W.Frag} {a : Addr} {xs : List V} {g : TG} {tb : TS} {D : Ends} {σ : St} {H : Hp} (Pv : Nat → St → Hp → Prop) (h0 : Pv 0 σ H) (hl : ∀ i σ H, i ≤ xs.length → Pv i σ H → SqL K H a xs)
  (hs : ∀ i x σ H, xs[i]? = some x → Pv i σ H → g x σ H fun σ2 H2 => tb { D with nx := Pv (i + 1), ct := Pv (i + 1), bk := D.nx } σ2 H2) (hd : ∀ σ H, Pv xs.length σ H → D.nx σ H) :
  ∃ W : Nat → Nat → St → Hp → Prop, (∃ m, W 0 m σ H) ∧ ∀ i m σ H, W i m σ H →
   ((Itl K a).stop i H ∧ D.nx σ H) ∨ ((Itl K a).go i H ∧ ∃ N : St → Hp → Prop, (∀ σ' H', N σ' H' → ∃ m', m' < m ∧ W (i + 1) m' σ' H') ∧ ∀ x H', (Itl K a).yld i H x H' → g x σ H' fun σ2 H2 => tb { D with nx := N, ct := N, bk := D.nx } σ2 H2) := by
 refine ⟨fun i m σ H => m = xs.length - i ∧ i ≤ xs.length ∧ Pv i σ H, ⟨xs.length, by simp, Nat.zero_le _, h0⟩, ?_⟩
 rintro i m σ H ⟨rfl, hi, p⟩
 have q := hl i σ H hi p
 by_cases hlt : i < xs.length
 ·refine .inr ⟨⟨xs, xs[i], q, by simp [hlt]⟩, Pv (i + 1), fun σ' H' p' => ⟨xs.length - (i + 1), by omega, rfl, hlt, p'⟩, fun x H' y => ?_⟩
  obtain ⟨e, y⟩ := y
  subst e
  exact hs i x σ _ (y xs q) p
 ·have e : i = xs.length := by omega
  subst e
  exact .inl ⟨⟨xs, q, Nat.le_refl _⟩, hd σ H p⟩
theorem for_range {lo : Int} {n : Nat} {g : TG} {tb : TS} {D : Ends} {σ : St} {H : Hp} (Pv : Nat → St → Hp → Prop) (h0 : Pv 0 σ H)
  (hs : ∀ i σ H, i < n → Pv i σ H → g (.int (lo + i)) σ H fun σ2 H2 => tb { D with nx := Pv (i + 1), ct := Pv (i + 1), bk := D.nx } σ2 H2) (hd : ∀ σ H, Pv n σ H → D.nx σ H) :
  ∃ W : Nat → Nat → St → Hp → Prop, (∃ m, W 0 m σ H) ∧ ∀ i m σ H, W i m σ H →
   ((Itr lo n).stop i H ∧ D.nx σ H) ∨ ((Itr lo n).go i H ∧ ∃ N : St → Hp → Prop, (∀ σ' H', N σ' H' → ∃ m', m' < m ∧ W (i + 1) m' σ' H') ∧ ∀ x H', (Itr lo n).yld i H x H' → g x σ H' fun σ2 H2 => tb { D with nx := N, ct := N, bk := D.nx } σ2 H2) := by
 refine ⟨fun i m σ H => m = n - i ∧ i ≤ n ∧ Pv i σ H, ⟨n, by simp, Nat.zero_le _, h0⟩, ?_⟩
 rintro i m σ H ⟨rfl, hi, p⟩
 by_cases hlt : i < n
 ·refine .inr ⟨hlt, Pv (i + 1), fun σ' H' p' => ⟨n - (i + 1), by omega, rfl, hlt, p'⟩, fun x H' y => ?_⟩
  obtain ⟨e, y⟩ := y
  subst e y
  exact hs i σ _ hlt p
 ·have e : i = n := by omega
  subst e
  exact .inl ⟨Nat.le_refl _, hd σ H p⟩
end L2
namespace L2
open PySem PySem.Spec PyProof.Rows
abbrev R2 := V → V → Hp → VK → Prop
def OpR (X : Cx) (f : Value → Value → Sem Value) (r : R2) : Prop :=
 ∀ (pins : List (Addr × Obj)) (s : Shared) (σ : St) (H : Hp) (x y : V) (v u : Value) (Q : VK), Inv X pins σ H s → RelV x v → RelV y u → r x y H Q →
  wpAny (model X.prog X.w) X.A (f v u) (EP X pins σ Q) X.xe s
def UnR (X : Cx) (f : Value → Sem Value) (r : V → Hp → VK → Prop) : Prop :=
 ∀ (pins : List (Addr × Obj)) (s : Shared) (σ : St) (H : Hp) (x : V) (v : Value) (Q : VK), Inv X pins σ H s → RelV x v → r x H Q →
  wpAny (model X.prog X.w) X.A (f v) (EP X pins σ Q) X.xe s
def CallR (X : Cx) (f : Value) (r : List V → Hp → VK → Prop) : Prop :=
 ∀ (pins : List (Addr × Obj)) (s : Shared) (σ : St) (H : Hp) (xs : List V) (us : List Value) (Q : VK), Inv X pins σ H s → Vals xs us → r xs H Q →
  wpAny (model X.prog X.w) X.A (call f us) (EP X pins σ Q) X.xe s
def tOp (r : R2) (ta tb : TE) : TE := fun σ H Q => ta σ H fun x H1 => tb σ H1 fun y H2 => r x y H2 Q
def tUn (r : V → Hp → VK → Prop) (ta : TE) : TE := fun σ H Q => ta σ H fun x H1 => r x H1 Q
def rI (C : Int → Int → Prop) (g : Int → Int → V) : R2 := fun x y H Q => ∃ i j, x = .int i ∧ y = .int j ∧ C i j ∧ Q (g i j) H
def rI0 (g : Int → Int → V) : R2 := fun x y H Q => ∃ i j, x = .int i ∧ y = .int j ∧ Q (g i j) H
def rU (g : Int → V) : V → Hp → VK → Prop := fun x H Q => ∃ i, x = .int i ∧ Q (g i) H
section
variable {X : Cx} {a b c : Expr} {ta tb tc : TE} {pos : Pos}
theorem binT (ha : PE X a ta) (hb : PE X b tb) {pins : List (Addr × Obj)} {s : Shared} {σ : St} {H : Hp} {R : V → V → Hp → Prop} (I : Inv X pins σ H s)
  (h : ta σ H fun x H1 => tb σ H1 fun y H2 => R x y H2) {Q : Value → Shared → Prop} {f : Value → Value → Sem Value}
  (hf : ∀ v u s2 x y H2, Inv X pins σ H2 s2 → RelV x v → RelV y u → R x y H2 → wpAny (model X.prog X.w) X.A (f v u) Q X.xe s2) :
  wpAny (model X.prog X.w) X.A (eval a X.env) (fun v s₁ => wpAny (model X.prog X.w) X.A (eval b X.env) (fun u s₂ => wpAny (model X.prog X.w) X.A (f v u) Q X.xe s₂) X.xe s₁) X.xe s := by
 refine thn (ha pins s σ H _ I h) fun v s1 ⟨x, H1, I1, r1, q1⟩ => ?_
 refine thn (hb pins s1 σ H1 _ I1 q1) fun u s2 ⟨y, H2, I2, r2, q2⟩ => ?_
 exact hf v u s2 x y H2 I2 r1 r2 q2
theorem pe_op {op : Operator} {r : R2} (ho : OpR X (binaryOp op) r) (ha : PE X a ta) (hb : PE X b tb) : PE X (.BinOp a op b pos) (tOp r ta tb) := by
 intro pins s σ H Q I h
 exact wpAny_BinOp (binT ha hb I h fun v u s2 x y H2 I2 rx ry q => ho pins s2 σ H2 x y v u Q I2 rx ry q)
theorem pe_un {op : UnaryOp} {r : V → Hp → VK → Prop} (ho : UnR X (unaryOp op) r) (ha : PE X a ta) : PE X (.UnaryOp op a pos) (tUn r ta) := by
 intro pins s σ H Q I h
 exact UnaryOp_ (thn (ha pins s σ H _ I h) fun v s1 ⟨x, H1, I1, r1, q1⟩ => ho pins s1 σ H1 x v Q I1 r1 q1)
theorem opI {f : Value → Value → Sem Value} {C : Int → Int → Prop} {g : Int → Int → Int}
  (rule : ∀ (i j : Int) (t u : Tok) (s : Shared) (Q : Value → Shared → Prop) (E : Value → Shared → Prop), C i j → Q (.int (g i j) s.toks) { s with toks := s.toks + 1 } → wpAny (model X.prog X.w) X.A (f (.int i t) (.int j u)) Q E s) :
  OpR X f (rI C fun i j => .int (g i j)) := by
 intro pins s σ H x y v u Q I rx ry h
 obtain ⟨i, j, rfl, rfl, hc, q⟩ := h
 obtain ⟨t, rfl⟩ := rx
 obtain ⟨t', rfl⟩ := ry
 exact rule i j t t' s _ _ hc ⟨.int (g i j), H, I.tok _, ⟨_, rfl⟩, q⟩
theorem opI0 {f : Value → Value → Sem Value} {g : Int → Int → Int}
  (rule : ∀ (i j : Int) (t u : Tok) (s : Shared) (Q : Value → Shared → Prop) (E : Value → Shared → Prop), Q (.int (g i j) s.toks) { s with toks := s.toks + 1 } → wpAny (model X.prog X.w) X.A (f (.int i t) (.int j u)) Q E s) :
  OpR X f (rI0 fun i j => .int (g i j)) := by
 intro pins s σ H x y v u Q I rx ry h
 obtain ⟨i, j, rfl, rfl, q⟩ := h
 obtain ⟨t, rfl⟩ := rx
 obtain ⟨t', rfl⟩ := ry
 exact rule i j t t' s _ _ ⟨.int (g i j), H, I.tok _, ⟨_, rfl⟩, q⟩
theorem opB0 {f : Value → Value → Sem Value} {g : Int → Int → Bool}
  (rule : ∀ (i j : Int) (t u : Tok) (s : Shared) (Q : Value → Shared → Prop) (E : Value → Shared → Prop), Q (.bool (g i j)) s → wpAny (model X.prog X.w) X.A (f (.int i t) (.int j u)) Q E s) :
  OpR X f (rI0 fun i j => .bl (g i j)) := by
 intro pins s σ H x y v u Q I rx ry h
 obtain ⟨i, j, rfl, rfl, q⟩ := h
 obtain ⟨t, rfl⟩ := rx
 obtain ⟨t', rfl⟩ := ry
 exact rule i j t t' s _ _ ⟨.bl (g i j), H, I, rfl, q⟩
def CDiv (i j : Int) : Prop := 0 < j ∧ j < 1073741824
def CPow (i j : Int) : Prop := 0 ≤ j ∧ j ≤ 1000000 ∧ i.natAbs < 2 ^ 64
def CMul (i j : Int) : Prop := (-(2 ^ 64) < i ∧ i < 2 ^ 64) ∨ (-(2 ^ 64) < j ∧ j < 2 ^ 64)
theorem CMul.ok {i j : Int} (h : CMul i j) : IntMulOk i j := by
 rcases h with ⟨h1, h2⟩ | ⟨h1, h2⟩
 ·exact .of_left (intBits_le_64 h1 h2)
 ·exact .of_right (intBits_le_64 h1 h2)
theorem op_add : OpR X (binaryOp .Add) (rI0 fun i j => .int (i + j)) := opI0 fun _ _ _ _ _ _ _ q => add_int q
theorem op_sub : OpR X (binaryOp .Sub) (rI0 fun i j => .int (i - j)) := opI0 fun _ _ _ _ _ _ _ q => sub_int q
theorem op_mul : OpR X (binaryOp .Mult) (rI CMul fun i j => .int (i * j)) := opI fun _ _ _ _ _ _ _ hc q => mul_int q hc.ok
theorem op_fdiv : OpR X (binaryOp .FloorDiv) (rI CDiv fun i j => .int (i / j)) := opI fun i j _ _ _ _ _ hc q => by
 have h1 : (0 : Int) < j := hc.1
 have h2 : j < 1073741824 := hc.2
 exact floordiv_int (by omega) (by rw [Int.fdiv_eq_ediv_of_nonneg i (by omega)]; exact q) (.inl (PyProof.noPylong_small (by omega)))
theorem op_mod : OpR X (binaryOp .Mod) (rI (fun _ j => 0 < j) fun i j => .int (i % j)) := opI fun i j _ _ _ _ _ hc q => by
 have h1 : (0 : Int) < j := hc
 exact mod_int' (by omega) (by rw [Int.fmod_eq_emod_of_nonneg i (by omega)]; exact q)
theorem op_pow : OpR X (binaryOp .Pow) (rI CPow fun i j => .int (i ^ j.toNat)) := opI fun _ _ _ _ _ _ _ hc q => pow_int_small hc.1 hc.2.1 hc.2.2 q
theorem unI {f : Value → Sem Value} {g : Int → Int}
  (rule : ∀ (i : Int) (t : Tok) (s : Shared) (Q : Value → Shared → Prop) (E : Value → Shared → Prop), Q (.int (g i) s.toks) { s with toks := s.toks + 1 } → wpAny (model X.prog X.w) X.A (f (.int i t)) Q E s) :
  UnR X f (rU fun i => .int (g i)) := by
 intro pins s σ H x v Q I rx h
 obtain ⟨i, rfl, q⟩ := h
 obtain ⟨t, rfl⟩ := rx
 exact rule i t s _ _ ⟨.int (g i), H, I.tok _, ⟨_, rfl⟩, q⟩
theorem un_neg : UnR X (unaryOp .USub) (rU fun i => .int (-i)) := unI fun _ _ _ _ _ q => neg_int q
end
def scal : V → V → Bool
 | .non, .non => true | .non, .int _ => true | .int _, .non => true | .non, .bl _ => true | .bl _, .non => true | .non, .str _ => true | .str _, .non => true
 | .int _, .int _ => true | .bl _, .bl _ => true | .str _, .str _ => true | .byt _, .byt _ => true
 | .int _, .str _ => true | .str _, .int _ => true | .bl _, .str _ => true | .str _, .bl _ => true
 | _, _ => false
def rEq : R2 := fun x y H Q => scal x y = true ∧ Q (.bl (decide (x = y))) H
def rNe : R2 := fun x y H Q => scal x y = true ∧ Q (.bl (!decide (x = y))) H
theorem dec_int {i j : Int} : decide (V.int i = V.int j) = (i == j) := by
 rw [Bool.eq_iff_iff]
 simp
theorem dec_bl {i j : Bool} : decide (V.bl i = V.bl j) = (i == j) := by
 rw [Bool.eq_iff_iff]
 simp
theorem dec_str {i j : Str} : decide (V.str i = V.str j) = (i == j) := by
 rw [Bool.eq_iff_iff]
 simp
theorem dec_byt {i j : Array UInt8} : decide (V.byt i = V.byt j) = (i.toList == j.toList) := by
 rw [Bool.eq_iff_iff]
 cases i
 cases j
 simp
section
variable {X : Cx} {a b c : Expr} {ta tb tc : TE} {pos : Pos}
theorem fin_bl {pins : List (Addr × Obj)} {σ : St} {H : Hp} {s : Shared} {Q : VK} {k k' : Bool} (I : Inv X pins σ H s) (q : Q (.bl k) H) (e : k = k') : EP X pins σ Q (.bool k') s := by
 subst e
 exact ⟨.bl k, H, I, rfl, q⟩
theorem op_eq : OpR X (compareOp .Eq) rEq := by
 intro pins s σ H x y v u Q I rx ry h
 obtain ⟨hs, q⟩ := h
 cases x with
 | non =>
  cases rx
  cases y with
  | non => cases ry; exact PySem.EqNone.eq_none_none (fin_bl I q (by simp))
  | bl j => cases ry; exact PySem.EqNone.eq_none_bool (fin_bl I q (by simp))
  | int j => obtain ⟨t', rfl⟩ := ry; exact PySem.EqNone.eq_none_int (fin_bl I q (by simp))
  | str j => obtain ⟨t', rfl⟩ := ry; exact PySem.EqNone.eq_none_str (fin_bl I q (by simp))
  | _ => exact absurd (show false = true from hs) Bool.false_ne_true
 | bl i =>
  cases rx
  cases y with
  | non => cases ry; exact PySem.EqNone.eq_bool_none (fin_bl I q (by simp))
  | bl j => cases ry; exact eq_bool (fin_bl I q dec_bl)
  | str j => obtain ⟨t', rfl⟩ := ry; exact PySem.EqMixed.eq_bool_str (fin_bl I q (by simp))
  | _ => exact absurd (show false = true from hs) Bool.false_ne_true
 | int i =>
  obtain ⟨t, rfl⟩ := rx
  cases y with
  | non => cases ry; exact PySem.EqNone.eq_int_none (fin_bl I q (by simp))
  | int j => obtain ⟨t', rfl⟩ := ry; exact eq_int (fin_bl I q dec_int)
  | str j => obtain ⟨t', rfl⟩ := ry; exact PySem.EqMixed.eq_int_str (fin_bl I q (by simp))
  | _ => exact absurd (show false = true from hs) Bool.false_ne_true
 | str i =>
  obtain ⟨t, rfl⟩ := rx
  cases y with
  | non => cases ry; exact PySem.EqNone.eq_str_none (fin_bl I q (by simp))
  | bl j => cases ry; exact PySem.EqMixed.eq_str_bool (fin_bl I q (by simp))
  | int j => obtain ⟨t', rfl⟩ := ry; exact PySem.EqMixed.eq_str_int (fin_bl I q (by simp))
  | str j => obtain ⟨t', rfl⟩ := ry; exact eq_str (fin_bl I q dec_str)
  | _ => exact absurd (show false = true from hs) Bool.false_ne_true
 | byt i =>
  obtain ⟨t, rfl⟩ := rx
  cases y with
  | byt j => obtain ⟨t', rfl⟩ := ry; exact PySem.W.eq_bytes (fin_bl I q dec_byt)
  | _ => exact absurd (show false = true from hs) Bool.false_ne_true
 | _ => cases y <;> exact absurd (show false = true from hs) Bool.false_ne_true
theorem op_ne : OpR X (compareOp .NotEq) rNe := by
 intro pins s σ H x y v u Q I rx ry h
 obtain ⟨hs, q⟩ := h
 cases x with
 | non =>
  cases rx
  cases y with
  | non => cases ry; exact PySem.EqNone.ne_none_none (fin_bl I q (by simp))
  | bl j => cases ry; exact PySem.EqNone.ne_none_bool (fin_bl I q (by simp))
  | int j => obtain ⟨t', rfl⟩ := ry; exact PySem.EqNone.ne_none_int (fin_bl I q (by simp))
  | str j => obtain ⟨t', rfl⟩ := ry; exact PySem.EqNone.ne_none_str (fin_bl I q (by simp))
  | _ => exact absurd (show false = true from hs) Bool.false_ne_true
 | bl i =>
  cases rx
  cases y with
  | non => cases ry; exact PySem.EqNone.ne_bool_none (fin_bl I q (by simp))
  | bl j => cases ry; exact ne_bool (fin_bl I q (congrArg not dec_bl))
  | str j => obtain ⟨t', rfl⟩ := ry; exact PySem.EqMixed.ne_bool_str (fin_bl I q (by simp))
  | _ => exact absurd (show false = true from hs) Bool.false_ne_true
 | int i =>
  obtain ⟨t, rfl⟩ := rx
  cases y with
  | non => cases ry; exact PySem.EqNone.ne_int_none (fin_bl I q (by simp))
  | int j => obtain ⟨t', rfl⟩ := ry; exact ne_int (fin_bl I q (congrArg not dec_int))
  | str j => obtain ⟨t', rfl⟩ := ry; exact PySem.EqMixed.ne_int_str (fin_bl I q (by simp))
  | _ => exact absurd (show false = true from hs) Bool.false_ne_true
 | str i =>
  obtain ⟨t, rfl⟩ := rx
  cases y with
  | non => cases ry; exact PySem.EqNone.ne_str_none (fin_bl I q (by simp))
  | bl j => cases ry; exact PySem.EqMixed.ne_str_bool (fin_bl I q (by simp))
  | int j => obtain ⟨t', rfl⟩ := ry; exact PySem.EqMixed.ne_str_int (fin_bl I q (by simp))
  | str j => obtain ⟨t', rfl⟩ := ry; exact ne_str (fin_bl I q (congrArg not dec_str))
  | _ => exact absurd (show false = true from hs) Bool.false_ne_true
 | byt i =>
  obtain ⟨t, rfl⟩ := rx
  cases y with
  | byt j => obtain ⟨t', rfl⟩ := ry; exact PySem.W.ne_bytes (fin_bl I q (congrArg not dec_byt))
  | _ => exact absurd (show false = true from hs) Bool.false_ne_true
 | _ => cases y <;> exact absurd (show false = true from hs) Bool.false_ne_true
theorem op_lt : OpR X (compareOp .Lt) (rI0 fun i j => .bl (decide (i < j))) := opB0 fun _ _ _ _ _ _ _ q => lt_int q
theorem op_le : OpR X (compareOp .LtE) (rI0 fun i j => .bl (decide (i ≤ j))) := opB0 fun _ _ _ _ _ _ _ q => le_int q
theorem op_gt : OpR X (compareOp .Gt) (rI0 fun i j => .bl (decide (j < i))) := opB0 fun _ _ _ _ _ _ _ q => gt_int q
theorem op_ge : OpR X (compareOp .GtE) (rI0 fun i j => .bl (decide (j ≤ i))) := opB0 fun _ _ _ _ _ _ _ q => ge_int q
theorem op_isN : OpR X (compareOp .Is) (fun x y H Q => y = .non ∧ Q (.bl (decide (x = .non))) H) := by
 intro pins s σ H x y v u Q I rx ry h
 obtain ⟨rfl, q⟩ := h
 cases ry
 refine is_none_gen (fin_bl I q ?_)
 cases x <;> first
  | (cases rx; rfl)
  | (obtain ⟨t, rfl⟩ := rx; rfl)
theorem op_notN : OpR X (compareOp .IsNot) (fun x y H Q => y = .non ∧ Q (.bl (!decide (x = .non))) H) := by
 intro pins s σ H x y v u Q I rx ry h
 obtain ⟨rfl, q⟩ := h
 cases ry
 refine isnot_none_gen (fin_bl I q ?_)
 cases x <;> first
  | (cases rx; rfl)
  | (obtain ⟨t, rfl⟩ := rx; rfl)
theorem nomark (b : Expr) {op : CmpOp} (h : op ≠ .In := by decide) (h2 : op ≠ .NotIn := by decide) : behindInMarks op b = false := by
 have e1 : (op == CmpOp.In) = false := by cases op <;> first | rfl | exact absurd rfl h
 have e2 : (op == CmpOp.NotIn) = false := by cases op <;> first | rfl | exact absurd rfl h2
 cases b <;> simp [behindInMarks, e1, e2]
theorem pe_cmpR {op : CmpOp} {r : R2} (ho : OpR X (compareOp op) r) (ha : PE X a ta) (hb : PE X b tb) (hm : behindInMarks op b = false) : PE X (.Compare a [op] [b] pos) (tOp r ta tb) := by
 intro pins s σ H Q I h
 exact wpAny_Compare1 (binT ha hb I h fun v u s2 x y H2 I2 rx ry q => ho pins s2 σ H2 x y v u Q I2 rx ry q) hm
def tTest (t : TE) : TT := fun σ H Q => t σ H fun x H' => ∃ k, x = .bl k ∧ Q k H'
theorem pt_cmpR {op : CmpOp} {r : R2} (ho : OpR X (compareOp op) r) (ha : PE X a ta) (hb : PE X b tb) (hm : behindInMarks op b = false) : PT X (.Compare a [op] [b] pos) (tTest (tOp r ta tb)) := by
 intro pins s σ H Q I h
 refine wpAny_isTrue_Compare1 (thn (ha pins s σ H _ I h) fun v s1 ⟨x, H1, I1, r1, q1⟩ => thn (hb pins s1 σ H1 _ I1 q1) fun u s2 ⟨y, H2, I2, r2, q2⟩ =>
  thn (ho pins s2 σ H2 x y v u _ I2 r1 r2 q2) fun c s3 ⟨z, H3, I3, r3, k, e, q3⟩ => ?_) hm
 subst e
 cases r3
 exact wpAny_truthy_bool ⟨H3, I3, q3⟩
def tChain (r r' : R2) (ta tb tc : TE) : TE := fun σ H Q => ta σ H fun x H1 => tb σ H1 fun y H2 => r x y H2 fun z H3 => ∃ k, z = .bl k ∧
 (if k = true then tc σ H3 fun w' H4 => r' y w' H4 Q else Q (.bl false) H3)
theorem pe_chain {op op' : CmpOp} {r r' : R2} (ho : OpR X (compareOp op) r) (ho' : OpR X (compareOp op') r') (ha : PE X a ta) (hb : PE X b tb) (hc : PE X c tc)
  (hm : lastMarks [op, op'] [b, c] = false := by with_unfolding_all rfl) : PE X (.Compare a [op, op'] [b, c] pos) (tChain r r' ta tb tc) := by
 intro pins s σ H Q I h
 refine Compare_chain (thn (ha pins s σ H _ I h) fun v s1 ⟨x, H1, I1, r1, q1⟩ => chain_link (thn (hb pins s1 σ H1 _ I1 q1) fun u s2 ⟨y, H2, I2, r2, q2⟩ =>
  thn (ho pins s2 σ H2 x y v u _ I2 r1 r2 q2) fun d s3 ⟨z, H3, I3, r3, k, e, q3⟩ => ?_)) hm
 subst e
 cases r3
 refine wpAny_truthy_bool ?_
 cases k with
 | false => exact ite_ff ⟨.bl false, H3, I3, rfl, q3⟩
 | true => exact ite_tt (chain_last (thn (hc pins s3 σ H3 _ I3 q3) fun w' s4 ⟨z', H4, I4, r4, q4⟩ => ho' pins s4 σ H4 y z' u w' Q I4 r2 r4 q4))
theorem line63 : (sizeLine : Nat) < 2 ^ 63 := by rw [sizeLine_eq]; decide
theorem vals1 {x : V} {us : List Value} (r : Vals [x] us) : ∃ u, us = [u] ∧ RelV x u := by
 cases r with
 | cons r1 r2 => cases r2; exact ⟨_, rfl, r1⟩
theorem vals2 {x y : V} {us : List Value} (r : Vals [x, y] us) : ∃ u w', us = [u, w'] ∧ RelV x u ∧ RelV y w' := by
 cases r with
 | cons r1 r2 =>
  cases r2 with
  | cons r3 r4 => cases r4; exact ⟨_, _, rfl, r1, r3⟩
theorem call_max2 (hc : X.A.handled = none) : CallR X (.builtin "max") (fun xs H Q => ∃ i j, xs = [.int i, .int j] ∧ Q (.int (if j > i then j else i)) H) := by
 intro pins s σ H xs us Q I r h
 obtain ⟨i, j, rfl, q⟩ := h
 obtain ⟨u, w', rfl, ⟨t, rfl⟩, ⟨t', rfl⟩⟩ := vals2 r
 refine max_two_ints hc fun h' tk k => ⟨_, H, I.kept k, ?_, q⟩
 by_cases hj : j > i
 ·rw [if_pos hj, if_pos hj]; exact ⟨_, rfl⟩
 ·rw [if_neg hj, if_neg hj]; exact ⟨_, rfl⟩
theorem call_min2 (hc : X.A.handled = none) : CallR X (.builtin "min") (fun xs H Q => ∃ i j, xs = [.int i, .int j] ∧ Q (.int (if j < i then j else i)) H) := by
 intro pins s σ H xs us Q I r h
 obtain ⟨i, j, rfl, q⟩ := h
 obtain ⟨u, w', rfl, ⟨t, rfl⟩, ⟨t', rfl⟩⟩ := vals2 r
 refine min_two_ints hc fun h' tk k => ⟨_, H, I.kept k, ?_, q⟩
 by_cases hj : j < i
 ·rw [if_pos hj, if_pos hj]; exact ⟨_, rfl⟩
 ·rw [if_neg hj, if_neg hj]; exact ⟨_, rfl⟩
theorem call_int1 : CallR X (.type "int") (fun xs H Q => (∃ i, xs = [.int i] ∧ Q (.int i) H) ∨ ∃ k, xs = [.bl k] ∧ Q (.int (if k then 1 else 0)) H) := by
 intro pins s σ H xs us Q I r h
 rcases h with ⟨i, rfl, q⟩ | ⟨k, rfl, q⟩
 ·obtain ⟨u, rfl, t, rfl⟩ := vals1 r
  exact call_int_int ⟨.int i, H, I, ⟨_, rfl⟩, q⟩
 ·obtain ⟨u, rfl, r1⟩ := vals1 r
  cases r1
  exact call_int_bool ⟨.int (if k then 1 else 0), H, I.tok _, ⟨_, rfl⟩, q⟩
end
end L2
namespace L2
open PySem PySem.Spec PyProof.Rows
structure ObjM (h : Heap) (x dx C : Addr) (mA : Str → Option Value) : Prop where
 obj : h.get? x = some (PySem.W.instObj C dx)
 ns : h.Ns1 dx mA
 ne : dx ≠ x
theorem lookIn_ns {h : Heap} {dx : Addr} {mA : Str → Option Value} (n : h.Ns1 dx mA) : ∃ od, h.get? dx = some od ∧ ∀ name, PySem.W.lookIn name od = some (mA name) := by
 obtain ⟨o, es, ep, ho, hd, hk, _, hm⟩ := n
 refine ⟨o, ho, fun name => ?_⟩
 have e := hm name
 unfold nsFind findBy at e
 rw [← Array.find?_toList] at e
 unfold PySem.W.lookIn
 rw [hd]
 dsimp only
 split
 ·rename_i y q
  rw [q] at e
  exact congrArg some e
 ·rename_i q
  rw [q] at e
  have a : es.toList.any (·.refKey) = false := by
   rw [List.any_eq_false]
   intro y hy
   obtain ⟨z, t, hkey⟩ := hk y (Array.mem_toList_iff.mp hy)
   simp [DictEntry.refKey, hkey]
  have a' : ¬ es.toList.any (·.refKey) = true := by rw [a]; exact Bool.false_ne_true
  rw [if_neg a']
  exact congrArg some e
theorem ObjM.look {h : Heap} {x dx C : Addr} {mA : Str → Option Value} (I : ObjM h x dx C mA) : ∃ od, PySem.W.InstAt h x (PySem.W.instObj C dx) C (some od) ∧ ∀ name, PySem.W.lookIn name od = some (mA name) :=
 let ⟨od, ho, hl⟩ := lookIn_ns I.ns
 ⟨od, ⟨I.obj, rfl, rfl, ho⟩, hl⟩
section
variable {prog : Program} {w : World} {A : Around} {E : Value → Shared → Prop} {s : Shared} {K : PySem.W.Frag} {x dx C f : Addr} {mA : Str → Option Value} {name : Str} {v : Value}
theorem get_map {expr : Bool} {Q : Value → Shared → Prop} (X : K.In s.heap) (I : ObjM s.heap x dx C mA) (hg : PySem.W.plainGet K C name = true) (hh : PySem.W.hasDictIn K C = true)
  (ha : PySem.W.findIn K (.ref C) name = some none) (hv : mA name = some v) (hv' : PySem.W.handedIn v = true) (h : Q v { s with toks := s.toks + 1 }) :
  wpAny (model prog w) A (getAttr (.ref x) name expr) Q E s := by
 obtain ⟨od, J, hl⟩ := I.look
 exact PySem.W.get_value X J (PySem.W.plainGet_of hg).1 (PySem.W.findObj_own hh ha rfl (by rw [hl, hv])) hv' h
theorem get_meth {pl : Sem Bool} {Q : Value × List Value → Shared → Prop} (X : K.In s.heap) (I : ObjM s.heap x dx C mA) (hg : PySem.W.plainGet K C name = true)
  (hf : PySem.W.findIn K (.ref C) name = some (some (.ref f))) (ht : PySem.W.isFn K (.ref f) = true) (hv : mA name = none) (h : Q (.ref f, [.ref x]) s) :
  wpAny (model prog w) A (getMethod (.ref x) name pl) Q E s := by
 obtain ⟨od, J, hl⟩ := I.look
 exact PySem.W.method_fn X J (PySem.W.plainGet_of hg).1 (PySem.W.plainGet_of hg).2 hf (beq_iff_eq.mp ht) (by show (PySem.W.lookIn name od).map (·.isSome) = some false; rw [hl, hv]; rfl) h
theorem set_map {ns : List Str} {Q : Unit → Shared → Prop} (X : K.In s.heap) (I : ObjM s.heap x dx C mA)
  (hs : PySem.W.findIn K (.ref C) "__setattr__" = some (some (.builtin "object.__setattr__"))) (hp : PySem.W.plainOver K C = true) (ht : PySem.W.takerIn K C name = some none) (hh : PySem.W.hasDictIn K C = true)
  (hw : PySem.Within mA ns) (hsz : ns.length ≤ sizeLine)
  (h : ∀ h', ObjM h' x dx C (fun y => if y = name then some v else mA y) → Heap.SameBut dx s.heap h' → Q () { s with heap := h', toks := s.toks + 2 }) :
  wpAny (model prog w) A (setAttr (.ref x) name v) Q E s := by
 obtain ⟨od, J, hl⟩ := I.look
 refine PySem.W.set_plain X J hs (PySem.W.osa_open (s := { s with toks := s.toks + 1 }) (r := none) X J hp ht fun b => ?_)
 obtain ⟨cd, hc, hd'⟩ := PySem.W.any_some hh
 have hx : s.heap.get? x = some ⟨.ref C, some dx, .plain, #[]⟩ := I.obj
 refine wpAny_bind (wpAny_pure (wpAny_bind (wpAny_bind (wpAny_loadPart hx (wpAny_bind (PySem.W.Looks.here (s := { s with toks := s.toks + 1 }) (PySem.W.looks_clsIn X hc) ?_))))))
 rw [hd']
 refine wpAny_pure (a := some dx) (wpAny_bind (wpAny_pure (wpAny_bind ?_)))
 refine wpAny_nsSet1 (s := { s with toks := s.toks + 1 }) I.ns fun h' hn2 hs2 => ?_
 obtain ⟨oD, esD, epD, hoD, hdD, hcD⟩ := hn2.count (PySem.Within.cons name v hw)
 refine wpAny_bind (wpAny_lookBehind hoD (by rw [hdD]; exact pastItsLine_dict (Nat.le_trans hcD (by rw [List.length_cons]; omega))) ?_)
 exact wpAny_pure (h _ ⟨(hs2.2 _ (Ne.symm I.ne)).trans I.obj, hn2, I.ne⟩ hs2)
theorem make_map {R : Result → Shared → Prop} {vs : List Value} {kw : List (Str × Value)} (X : K.In s.heap) (hm : PySem.W.makesIn K C = true)
  (hi : PySem.W.findIn K (.ref C) "__init__" = some (some (.ref f))) (hf : PySem.W.typeIn K (.ref f) = some (.type "function"))
  (h : codeAny (model prog w) (A.under (.builtin "type.__call__" ⟨.ref C :: vs, kw⟩)) (.call (.ref f) ⟨.ref (s.heap.objs.size + 1) :: vs, kw⟩) (PySem.W.InitBack (s.heap.objs.size + 1) R)
   { s with heap := (s.heap.push PySem.W.emptyDict).push (PySem.W.instObj C s.heap.objs.size) }) :
  codeAny (model prog w) A (.call (.ref C) ⟨vs, kw⟩) R s := by
 obtain ⟨hh, g, d, t, os⟩ := s
 exact PySem.W.make_core (PySem.W.makes_of X hm) (PySem.W.looks_findIn X hi) (fun self => PySem.W.bind_fn X self hf) (.inl rfl) h
end
def putF (f : Str) (v : V) : List (Str × V) → List (Str × V)
 | [] => [(f, v)]
 | (g, x) :: r => if g = f then (g, v) :: r else (g, x) :: putF f v r
theorem lookup_putF (f g : Str) (v : V) : ∀ fs : List (Str × V), (putF f v fs).lookup g = if g = f then some v else fs.lookup g
 | [] => by
  show List.lookup g [(f, v)] = _
  by_cases h : g = f
  ·have hb : (g == f) = true := beq_iff_eq.mpr h
   simp only [List.lookup, hb, if_pos h]
  ·have hb : (g == f) = false := beq_eq_false_iff_ne.mpr h
   simp only [List.lookup, hb, if_neg h]
 | (k, x) :: r => by
  have ih := lookup_putF f g v r
  rw [show putF f v ((k, x) :: r) = (if k = f then (k, v) :: r else (k, x) :: putF f v r) from rfl]
  by_cases hk : k = f
  ·rw [if_pos hk]
   by_cases h : g = k
   ·have hb : (g == k) = true := beq_iff_eq.mpr h
    simp only [List.lookup, hb, if_pos (h.trans hk)]
   ·have hb : (g == k) = false := beq_eq_false_iff_ne.mpr h
    simp only [List.lookup, hb, if_neg (fun e : g = f => h (e.trans hk.symm))]
  ·rw [if_neg hk]
   by_cases h : g = k
   ·have hb : (g == k) = true := beq_iff_eq.mpr h
    simp only [List.lookup, hb, if_neg (fun e : g = f => hk (h.symm.trans e))]
   ·have hb : (g == k) = false := beq_eq_false_iff_ne.mpr h
    simp only [List.lookup, hb]
    exact ih
theorem keys_putF (f : Str) (v : V) : ∀ fs : List (Str × V), f ∈ (putF f v fs).map (·.1) ∧ ∀ g, g ∈ fs.map (·.1) → g ∈ (putF f v fs).map (·.1)
 | [] => ⟨by simp [putF], fun g h => by simp at h⟩
 | (k, x) :: r => by
  obtain ⟨i1, i2⟩ := keys_putF f v r
  rw [show putF f v ((k, x) :: r) = (if k = f then (k, v) :: r else (k, x) :: putF f v r) from rfl]
  by_cases hk : k = f
  ·rw [if_pos hk]
   subst hk
   exact ⟨by simp, fun g h => by simpa using h⟩
  ·rw [if_neg hk]
   refine ⟨?_, fun g h => ?_⟩
   ·rw [List.map_cons]
    exact List.mem_cons_of_mem _ i1
   ·rw [List.map_cons] at h ⊢
    rcases List.mem_cons.mp h with e | e
    ·exact List.mem_cons.mpr (.inl e)
    ·exact List.mem_cons_of_mem _ (i2 g e)
theorem length_putF (f : Str) (v : V) : ∀ fs : List (Str × V), (putF f v fs).length ≤ fs.length + 1
 | [] => by simp [putF]
 | (k, x) :: r => by
  have ih := length_putF f v r
  rw [show putF f v ((k, x) :: r) = (if k = f then (k, v) :: r else (k, x) :: putF f v r) from rfl]
  by_cases hk : k = f
  ·rw [if_pos hk, List.length_cons, List.length_cons]; omega
  ·rw [if_neg hk, List.length_cons, List.length_cons]; omega
theorem RelO.some_of {v : V} {o : Option Value} (r : RelO (some v) o) : ∃ u, o = some u ∧ RelV v u := by
 cases o with
 | none => exact (show False from r).elim
 | some u => exact ⟨u, rfl, r⟩
theorem RelO.none_of {o : Option Value} (r : RelO none o) : o = none := by
 cases o with
 | none => rfl
 | some u => exact (show False from r).elim
theorem handed_of {v : V} {u : Value} (r : RelV v u) : PySem.W.handedIn u = true := by
 cases v with
 | non => cases (show u = Value.none from r); rfl
 | bl b => cases (show u = Value.bool b from r); rfl
 | int i => obtain ⟨t, e⟩ := (show ∃ t, u = Value.int i t from r); cases e; rfl
 | str x => obtain ⟨t, e⟩ := (show ∃ t, u = Value.str x t from r); cases e; rfl
 | byt b => obtain ⟨t, e⟩ := (show ∃ t, u = Value.bytes b t from r); cases e; rfl
 | flt b => obtain ⟨t, e⟩ := (show ∃ t, u = Value.float b t from r); cases e; rfl
 | ref a => cases (show u = Value.ref a from r); rfl
 | ty n => cases (show u = Value.type n from r); rfl
section
variable {P : Program} {w : World} {H H' : Hp} {h h' : Heap} {a C dx : Addr} {fs fs' : List (Str × V)}
theorem ins_get (hok : HOk P w H h) (e : H a = some (.ins C dx fs)) : ∃ mA, ObjM h a dx C mA ∧ (∀ f, RelO (fs.lookup f) (mA f)) ∧ PySem.Within mA (fs.map (·.1)) ∧ fs.length ≤ 1000 ∧ H dx = some (.own a) := by
 obtain ⟨d, z, ne, ob, mA, n, r, q⟩ := (show ObjOk P w H h a (.ins C dx fs) from hok a _ e)
 exact ⟨mA, ⟨ob, n, ne⟩, r, q, z, d⟩
end
structure Cls (K : PySem.W.Frag) (C : Addr) : Prop where
 pg : PySem.W.plainGet K C Str.empty = true
 hd : PySem.W.hasDictIn K C = true
 po : PySem.W.plainOver K C = true
 sa : PySem.W.findIn K (.ref C) "__setattr__" = some (some (.builtin "object.__setattr__"))
theorem Cls.get {K : PySem.W.Frag} {C : Addr} (c : Cls K C) (f : Str) : PySem.W.plainGet K C f = true := c.pg
def NoAttr (K : PySem.W.Frag) (C : Addr) (f : Str) : Prop := PySem.W.findIn K (.ref C) f = some none
theorem NoAttr.taker {K : PySem.W.Frag} {C : Addr} {f : Str} (n : NoAttr K C f) : PySem.W.takerIn K C f = some none := by
 unfold PySem.W.takerIn
 rw [show PySem.W.findIn K (.ref C) f = some none from n]
 rfl
structure Meth (K : PySem.W.Frag) (C : Addr) (m : Str) (f : Addr) : Prop where
 at_ : PySem.W.findIn K (.ref C) m = some (some (.ref f))
 fn : PySem.W.isFn K (.ref f) = true
 kp : PySem.W.keepIn K (.ref f) = true
section
variable {X : Cx} {pins : List (Addr × Obj)} {σ : St} {H : Hp} {s : Shared} {a C dx : Addr} {fs : List (Str × V)} {f : Str} {v : V} {A : Around} {E : Value → Shared → Prop}
theorem getattr_ok {b : Bool} {Q : Value → Shared → Prop} (I : Inv X pins σ H s) (e : H a = some (.ins C dx fs)) (c : Cls X.K C) (n : NoAttr X.K C f) (l : fs.lookup f = some v)
  (h : ∀ u s', Inv X pins σ H s' → RelV v u → Q u s') : wpAny (model X.prog X.w) A (getAttr (.ref a) f b) Q E s := by
 obtain ⟨mA, O, r, _, _, _⟩ := ins_get I.hok e
 obtain ⟨u, hu, ru⟩ := RelO.some_of (v := v) (o := mA f) (by rw [← l]; exact r f)
 exact get_map I.kIn O (c.get f) c.hd n hu (handed_of ru) (h u _ (I.tok _) ru)
theorem getmeth_ok {m : Str} {g : Addr} {pl : Sem Bool} {Q : Value × List Value → Shared → Prop} (I : Inv X pins σ H s) (e : H a = some (.ins C dx fs)) (c : Cls X.K C) (k : Meth X.K C m g) (l : fs.lookup m = none)
  (h : Q (.ref g, [.ref a]) s) : wpAny (model X.prog X.w) A (getMethod (.ref a) m pl) Q E s := by
 obtain ⟨mA, O, r, _, _, _⟩ := ins_get I.hok e
 have hn : mA m = none := RelO.none_of (by rw [← l]; exact r m)
 exact get_meth I.kIn O (c.get m) k.at_ k.fn hn h
theorem setattr_ok {y : V} {u : Value} {Q : Unit → Shared → Prop} (I : Inv X pins σ H s) (e : H a = some (.ins C dx fs)) (c : Cls X.K C) (n : NoAttr X.K C f) (hl : fs.length < 1000) (ry : RelV y u)
  (h : ∀ s', Inv X pins σ (upd H a (.ins C dx (putF f y fs))) s' → Q () s') : wpAny (model X.prog X.w) A (setAttr (.ref a) f u) Q E s := by
 obtain ⟨mA, O, r, wi, _, ho⟩ := ins_get I.hok e
 have hz : (fs.map (·.1)).length ≤ sizeLine := by rw [List.length_map, sizeLine_eq]; omega
 refine set_map I.kIn O c.sa c.po n.taker c.hd wi hz fun h' O' sb => h _ ?_
 have hd : ∃ o, h'.get? dx = some o := let ⟨o, _, _, e', _⟩ := O'.ns; ⟨o, e'⟩
 refine I.write (x := a) (e := dx) (by rw [e]; exact True.intro) (.inr ho) (fun b q hb z => (sb.2 b hb).trans z) hd ?_
 refine ⟨by rw [upd_ne O.ne]; exact ho, ?_, O.ne, O'.obj, _, O'.ns, fun g => ?_, fun g hg => ?_⟩
 ·have := length_putF f y fs; omega
 ·show RelO ((putF f y fs).lookup g) (if g = f then some u else mA g)
  rw [lookup_putF]
  by_cases q : g = f
  ·rw [if_pos q, if_pos q]; exact ry
  ·rw [if_neg q, if_neg q]; exact r g
 ·by_cases q : g = f
  ·rw [q]; exact (keys_putF f y fs).1
  ·refine (keys_putF f y fs).2 g (wi g fun z => hg ?_)
   show (if g = f then some u else mA g) = none
   rw [if_neg q]; exact z
theorem Inv.made (I : Inv X pins σ H s) : Inv X pins σ (upd (upd H s.heap.objs.size (.own (s.heap.objs.size + 1))) (s.heap.objs.size + 1) (.ins C s.heap.objs.size []))
  { s with heap := (s.heap.push PySem.W.emptyDict).push (PySem.W.instObj C s.heap.objs.size) } := by
 have e1 : (s.heap.push PySem.W.emptyDict).get? s.heap.objs.size = some PySem.W.emptyDict := Heap.get?_push_size s.heap rfl
 have e2 : ((s.heap.push PySem.W.emptyDict).push (PySem.W.instObj C s.heap.objs.size)).get? (s.heap.objs.size + 1) = some (PySem.W.instObj C s.heap.objs.size) := by
  have := Heap.get?_push_size (s.heap.push PySem.W.emptyDict) (o := PySem.W.instObj C s.heap.objs.size) rfl
  rwa [Heap.size_push] at this
 have e3 : (s.heap.push PySem.W.emptyDict).Ns s.heap.objs.size (fun _ => none) := ⟨PySem.W.emptyDict, #[], _, e1, rfl, (fun e he => absurd he (by simp)), fun _ => rfl⟩
 have I1 := I.laid (a := s.heap.objs.size) (o := .own (s.heap.objs.size + 1)) (h' := s.heap.push PySem.W.emptyDict) (t' := s.toks) (fun b u q => Heap.get?_push_of_some _ q) (Nat.le_refl _) ⟨_, e1⟩
 refine I1.laid (a := s.heap.objs.size + 1) (o := .ins C s.heap.objs.size []) (t' := s.toks) (fun b u q => Heap.get?_push_of_some _ q) (Nat.le_of_eq (Heap.size_push _ _)) ?_
 have ne : s.heap.objs.size ≠ s.heap.objs.size + 1 := Nat.ne_of_lt (Nat.lt_succ_self _)
 refine ⟨by rw [upd_ne ne, upd_same], Nat.zero_le _, ne, e2, fun _ => none, (Heap.Ns1.of_empty e3).at fun o q => Heap.get?_push_of_some _ q, fun _ => True.intro, fun y hy => absurd rfl hy⟩
theorem attr_of {prog : Program} {w : World} {env : Env} {e : Expr} {f : Str} {pos : Pos} {s : Shared} {Q : Value → Shared → Prop} (hb : attributeBase e f env (eval e env) = eval e env)
  (h : wpAny (model prog w) A (eval e env) (fun o s₁ => wpAny (model prog w) A (getAttr o f true) Q E s₁) E s) : wpAny (model prog w) A (eval (.Attribute e f pos) env) Q E s :=
 Attribute_any_ h (by rw [arm_eval_Attribute, hb])
end
def tFld (K : PySem.W.Frag) (ta : TE) (f : Str) : TE := fun σ H Q => ta σ H fun x H1 => ∃ a C dx fs v, x = .ref a ∧ H1 a = some (.ins C dx fs) ∧ Cls K C ∧ NoAttr K C f ∧ fs.lookup f = some v ∧ Q v H1
def sFld (K : PySem.W.Frag) (ta tv : TE) (f : Str) : TS := fun D σ H => tv σ H fun y H1 => ta σ H1 fun x H2 => ∃ a C dx fs, x = .ref a ∧ H2 a = some (.ins C dx fs) ∧ Cls K C ∧ NoAttr K C f ∧ fs.length < 1000 ∧
 D.nx σ (upd H2 a (.ins C dx (putF f y fs)))
section
variable {X : Cx} {o e value : Expr} {f : Str} {pos pos' tpos : Pos} {ta tv : TE}
theorem pe_fld (he : PE X e ta) (hb : attributeBase e f X.env (eval e X.env) = eval e X.env) : PE X (.Attribute e f pos) (tFld X.K ta f) := by
 intro pins s σ H Q I h
 refine attr_of hb (thn (he pins s σ H _ I h) fun u s1 ⟨x, H1, I1, rx, a, C, dx, fs, v, ex, ea, c, n, l, q⟩ => ?_)
 subst ex
 obtain rfl : u = Value.ref a := rx
 exact getattr_ok I1 ea c n l fun u' s2 I2 ru => ⟨v, H1, I2, ru, q⟩
theorem ps_fld (ha : PE X o ta) (hv : PE X value tv) (hs : swapsWith value (some (.Attribute o f pos')) pos.line X.env = pure false) : PS X (.Assign [.Attribute o f pos'] value pos) (sFld X.K ta tv f) := by
 intro pins s σ H D I h
 refine plainObj_wpAny_Assign_Attribute (thn (hv pins s σ H _ I h) fun u s1 ⟨y, H1, I1, ry, q⟩ => thn (ha pins s1 σ H1 _ I1 q) fun ov s2 ⟨x, H2, I2, rx, a, C, dx, fs, ex, ea, c, n, l, q2⟩ => ?_) hs
 subst ex
 obtain rfl : ov = Value.ref a := rx
 exact setattr_ok I2 ea c n l ry fun s3 I3 => ⟨σ, _, I3, q2⟩
end
section
variable {X : Cx} {pins : List (Addr × Obj)} {σ : St} {H : Hp} {s : Shared} {A : Around} {E : Value → Shared → Prop} {Q : Value → Shared → Prop} {c : Value} {b : Bool}
inductive TyOf (K : PySem.W.Frag) (H : Hp) : V → Value → Prop where
 | non : TyOf K H .non (.type "NoneType")
 | bl (x : Bool) : TyOf K H (.bl x) (.type "bool")
 | int (i : Int) : TyOf K H (.int i) (.type "int")
 | str (x : Str) : TyOf K H (.str x) (.type "str")
 | flt (x : UInt64) : TyOf K H (.flt x) (.type "float")
 | lst {a : Addr} {xs : List V} (e : H a = some (.lst xs)) : TyOf K H (.ref a) (.type "list")
 | frz {a : Addr} {o : Obj} {xs : List V} (e : H a = some (.frz o (.lst xs))) : TyOf K H (.ref a) (.type "list")
 | tup {a : Addr} {xs : List V} (e : H a = some (.tup xs)) : TyOf K H (.ref a) (.type "tuple")
 | dK {a : Addr} {kvs : List (Key × V)} (e : H a = some (.dK kvs)) : TyOf K H (.ref a) (.type "dict")
 | dT {a : Addr} {kvs : List (List Key × V)} (e : H a = some (.dT kvs)) : TyOf K H (.ref a) (.type "dict")
 | ins {a C dx : Addr} {fs : List (Str × V)} (e : H a = some (.ins C dx fs)) (cl : Cls K C) (ha : PySem.W.findIn K (.ref C) "__class__" = some (some (.builtin "object.__class__")))
   (hn : PySem.W.specialIn K (.builtin "object.__class__") "__get__" = some (some (.builtin "getset_descriptor.__get__"))) (htk : PySem.W.takesIn K (.builtin "object.__class__") = some true)
   (hm : PySem.W.mroIn K C (.type "object") = some true) : TyOf K H (.ref a) (.ref C)
 | exc {a C : Addr} (e : H a = some (.exc (.ref C))) (F : ExcK K C) : TyOf K H (.ref a) (.ref C)
theorem isinst_ok {x : V} {u t : Value} (I : Inv X pins σ H s) (rx : RelV x u) (ty : TyOf X.K H x t) (e : PySem.W.kitOne X.K t c = some b) (h : ∀ tk, Q (.bool b) { s with toks := tk }) :
  wpAny (model X.prog X.w) A (call (.builtin "isinstance") [u, c]) Q E s := by
 cases ty with
 | non => cases (show u = Value.none from rx); exact PySem.W.kia_one PySem.W.kitx_none I.kIn True.intro e (fun z => nomatch z) h
 | bl y => cases (show u = Value.bool y from rx); exact PySem.W.kia_one PySem.W.kitx_bool I.kIn True.intro e (fun z => nomatch z) h
 | int i => obtain ⟨t, q⟩ := (show ∃ t, u = Value.int i t from rx); cases q; exact PySem.W.kia_one PySem.W.kitx_int I.kIn True.intro e (fun z => nomatch z) h
 | str y => obtain ⟨t, q⟩ := (show ∃ t, u = Value.str y t from rx); cases q; exact PySem.W.kia_one PySem.W.kitx_str I.kIn True.intro e (fun z => nomatch z) h
 | flt y => obtain ⟨t, q⟩ := (show ∃ t, u = Value.float y t from rx); cases q; exact PySem.W.kia_one PySem.W.kitx_float I.kIn True.intro e (fun z => nomatch z) h
 | @lst a xs ea =>
  cases (show u = Value.ref a from rx)
  obtain ⟨_, _, n, _, h1⟩ := (show ObjOk X.prog X.w H s.heap a (.lst xs) from I.hok a _ ea)
  exact PySem.W.kia_one PySem.W.kitx_list I.kIn ⟨_, h1, rfl⟩ e (fun z => nomatch z) h
 | @frz a ob xs ea =>
  cases (show u = Value.ref a from rx)
  obtain ⟨_, _, _, n, _, h1⟩ := (show ObjOk X.prog X.w H s.heap a (.frz ob (.lst xs)) from I.hok a _ ea)
  exact PySem.W.kia_one PySem.W.kitx_list I.kIn ⟨_, h1, rfl⟩ e (fun z => nomatch z) h
 | @tup a xs ea =>
  cases (show u = Value.ref a from rx)
  obtain ⟨_, _, _, p⟩ := (show ObjOk X.prog X.w H s.heap a (.tup xs) from I.hok a _ ea)
  obtain ⟨o, h1, h2, _⟩ := p
  exact PySem.W.kia_one PySem.W.kitx_tuple I.kIn ⟨o, h1, h2⟩ e (fun z => nomatch z) h
 | @dK a kvs ea =>
  cases (show u = Value.ref a from rx)
  obtain ⟨_, _, vs, _, p⟩ := (show ObjOk X.prog X.w H s.heap a (.dK kvs) from I.hok a _ ea)
  obtain ⟨o, es, ep, h1, h2, _⟩ := p
  exact PySem.W.kia_one PySem.W.kitx_dict I.kIn ⟨o, h1, h2.1⟩ e (fun z => nomatch z) h
 | @dT a kvs ea =>
  cases (show u = Value.ref a from rx)
  obtain ⟨_, _, xs, _, o, es, ep, h1, h2, _⟩ := (show ObjOk X.prog X.w H s.heap a (.dT kvs) from I.hok a _ ea)
  exact PySem.W.kia_one PySem.W.kitx_dict I.kIn ⟨o, h1, h2.1⟩ e (fun z => nomatch z) h
 | @exc a C ea F =>
  cases (show u = Value.ref a from rx)
  obtain ⟨oe, vs, h1, h2, h3, h4, _⟩ := (show ObjOk X.prog X.w H s.heap a (.exc (.ref C)) from I.hok a _ ea)
  refine PySem.W.kia_one (kitx_exc F) I.kIn ⟨oe, h1, h2, ?_, ?_⟩ e (fun z => nomatch z) h
  ·unfold PySem.W.notCls; rw [h4]
  ·rw [h3]; trivial
 | @ins a C dx fs ea cl ha hn htk hm =>
  cases (show u = Value.ref a from rx)
  obtain ⟨mA, O, _⟩ := ins_get I.hok ea
  obtain ⟨od, J, _⟩ := O.look
  exact PySem.W.kia_one (PySem.W.kitx_own (cl.get _) cl.hd ha hn htk hm) I.kIn J e (fun z => nomatch z) h
end
end L2
namespace L2
open PySem PySem.Spec PyProof.Rows
structure Room (k : Nat) (A : Around) : Prop where
 dp : A.depth + 3 * k + 5 < recursionLimit
 un : A.units + 16 * k + 200 < cLine
theorem Room.mono {j k : Nat} {A : Around} (r : Room k A) (h : j ≤ k) : Room j A := ⟨by have := r.dp; omega, by have := r.un; omega⟩
theorem Room.deeper {k : Nat} {A : Around} (r : Room (k + 1) A) (env : Env) : Room k (A.deeper env) :=
 ⟨by have := r.dp; show A.depth + 1 + 3 * k + 5 < _; omega, by have := r.un; show A.units + 3 + 16 * k + 200 < _; omega⟩
theorem make_depth {A : Around} {C : Addr} {us : List Value} {kw : List (Str × Value)} : (A.under (.builtin "type.__call__" ⟨.ref C :: us, kw⟩)).depth = A.depth + 1 := by
 first | rfl | simp [Around.under, Code.weight, Code.isCreation, Code.isGuard, Code.isCaller, Code.frames, Code.isFrame, guardIds]
theorem make_units {A : Around} {C : Addr} {us : List Value} {kw : List (Str × Value)} : (A.under (.builtin "type.__call__" ⟨.ref C :: us, kw⟩)).units = A.units + 1 := by
 first | rfl | simp [Around.under, Code.cUnits, Code.frames, Code.isFrame]
theorem Room.make {k : Nat} {A : Around} (r : Room (k + 1) A) (C : Addr) (us : List Value) (kw : List (Str × Value)) : Room k (A.under (.builtin "type.__call__" ⟨.ref C :: us, kw⟩)) :=
 ⟨by have := r.dp; rw [make_depth]; omega, by have := r.un; rw [make_units]; omega⟩
theorem Room.depth {k : Nat} {A : Around} (r : Room k A) : A.depth < recursionLimit := by have := r.dp; omega
theorem Room.units {k : Nat} {A : Around} (r : Room k A) : A.units + 64 < cLine := by have := r.un; omega
def tNil : TA := fun _ H Q => Q [] H
def tCons (ta : TE) (tr : TA) : TA := fun σ H Q => ta σ H fun x H1 => tr σ H1 fun xs H2 => Q (x :: xs) H2
section
variable {X : Cx} {e : Expr} {es : List Expr} {te : TE} {t : TA} {pos : Pos}
theorem pa_nil : PA X [] tNil := fun _ _ _ _ H Q I h => Calls.spliced_nil ⟨[], H, I, .nil, h⟩
theorem pa_cons (ha : PE X e te) (hr : PA X es t) (hs : starEach (e :: es) X.env = (false, eval e X.env) :: starEach es X.env := by rfl) : PA X (e :: es) (tCons te t) := by
 intro pos pins s σ H Q I h
 rw [hs]
 show wpAny _ _ (spliced ((false, eval e X.env) :: backTo pos (starEach es X.env))) _ _ s
 refine Calls.spliced_cons (thn (ha pins s σ H _ I h) fun u s1 ⟨x, H1, I1, r1, q1⟩ => ?_)
 exact thn (hr pos pins s1 σ H1 _ I1 q1) fun us s2 ⟨xs, H2, I2, r2, q2⟩ => ⟨x :: xs, H2, I2, .cons r1 r2, q2⟩
def tTup (t : TA) : TE := fun σ H Q => t σ H fun xs H1 => xs.length ≤ sizeLine ∧ ∀ p, H1 p = none → Q (.ref p) (upd H1 p (.tup xs))
def tLst (t : TA) : TE := fun σ H Q => t σ H fun xs H1 => xs.length ≤ sizeLine ∧ ∀ p, H1 p = none → Q (.ref p) (upd H1 p (.lst xs))
theorem pe_tup {x1} (h : PA X es t) : PE X (.Tuple es x1 pos) (tTup t) := by
 intro pins s σ H Q I hq
 refine wpAny_Tuple_spliced (thn (h pos pins s σ H _ I hq) fun us s1 ⟨xs, H1, I1, r, z, q⟩ => ⟨by rw [← r.length]; exact z, ?_⟩)
 have hf : H1 s1.heap.objs.size = none := I1.hok.fresh (Nat.le_refl _)
 refine ⟨.ref s1.heap.objs.size, upd H1 s1.heap.objs.size (.tup xs), I1.laid (t' := s1.toks) (fun b u e => Heap.get?_push_of_some _ e) (Nat.le_refl _) ?_, rfl, q _ hf⟩
 exact ⟨z, us, r, ⟨_, Heap.get?_push_size _ rfl, rfl, _, rfl⟩⟩
theorem pe_lst (h : PA X es t) : PE X (.List es pos) (tLst t) := by
 intro pins s σ H Q I hq
 refine wpAny_List_spliced (thn (h pos pins s σ H _ I hq) fun us s1 ⟨xs, H1, I1, r, z, q⟩ => ⟨by rw [← r.length]; exact z, ?_⟩)
 have hf : H1 s1.heap.objs.size = none := I1.hok.fresh (Nat.le_refl _)
 refine ⟨.ref s1.heap.objs.size, upd H1 s1.heap.objs.size (.lst xs), I1.laid (t' := s1.toks) (fun b u e => Heap.get?_push_of_some _ e) (Nat.le_refl _) ?_, rfl, q _ hf⟩
 exact ⟨z, us, 0, r, Heap.get?_push_size _ rfl⟩
end
abbrev Sp := List V → Hp → VK → XK → Prop
abbrev CXT := List Env → Hp → Shared → XK → Value → Shared → Prop
structure Env0 (P : Program) (w : World) (K : PySem.W.Frag) (mg : Str → Option Value) (base : Heap) (A : Around) (outer : List Env) (s : Shared) (H : Hp) : Prop where
 frames : A.frames = some outer
 mod : Mod K mg base
 bs : ∀ b o, base.get? b = some o → s.heap.get? b = some o ∧ H b = none
 bsz : base.objs.size ≤ s.heap.objs.size
 funs : s.heap.FunFrames base outer
 frf : ∀ b ∈ frs outer, H b = none
 hok : HOk P w H s.heap
 bare : AllBare s.gens
 hd : HdE A H
def CE (outer : List Env) (P : Program) (w : World) (H : Hp) (s : Shared) (Q : VK) (u : Value) (s' : Shared) : Prop :=
 ∃ v H', s'.os = s.os ∧ AllBare s'.gens ∧ Un (frs outer) [] H H' s.heap s'.heap ∧ HOk P w H' s'.heap ∧ RelV v u ∧ Q v H'
def CR (CX : CXT) (outer : List Env) (P : Program) (w : World) (H : Hp) (s : Shared) (Q : VK) (E : XK) (r : Result) (s' : Shared) : Prop :=
 match r with
 | .ok (.ret u) => CE outer P w H s Q u s'
 | .ok _ => False
 | .error e => CX outer H s E e s'
abbrev CX0 : CXT := fun _ _ _ _ _ _ => False
def Calm (CX : CXT) (A : Around) : Prop := CX = CX0 ∨ A.handled = none
structure FnOk (P : Program) (w : World) (K : PySem.W.Frag) (mg : Str → Option Value) (base : Heap) (CX : CXT) (k : Nat) (f : Addr) (fd : FuncData) (ps : List Str) (sp : Sp) : Prop where
 len : ∀ vs H Q E, sp vs H Q E → vs.length = ps.length
 run : ∀ (A : Around) (outer : List Env) (s : Shared) (H : Hp) (args : Args) (us : List Value) (vs : List V) (Q : VK) (E : XK), Room k A → Calm CX A → Env0 P w K mg base A outer s H → BindsTo s fd args (ps.zip us) → Vals vs us → sp vs H Q E →
  codeAny (model P w) A (.call (.ref f) args) (CR CX outer P w H s Q E) s
theorem Env0.make {P : Program} {w : World} {K : PySem.W.Frag} {mg : Str → Option Value} {base : Heap} {A : Around} {outer : List Env} {s : Shared} {H : Hp} (e : Env0 P w K mg base A outer s H) (C : Addr) (us : List Value) (kw : List (Str × Value)) :
  Env0 P w K mg base (A.under (.builtin "type.__call__" ⟨.ref C :: us, kw⟩)) outer s H := ⟨by first | exact e.frames | (simpa [Around.under, Code.envs, Code.isFrame, pushEnvs] using e.frames), e.mod, e.bs, e.bsz, e.funs, e.frf, e.hok, e.bare, e.hd⟩
section
variable {X : Cx} {pins : List (Addr × Obj)} {σ : St} {H : Hp} {s s' : Shared}
theorem Inv.env0 (I : Inv X pins σ H s) : Env0 X.prog X.w X.K X.mg X.base X.A X.stack s H :=
 ⟨I.ok.frames, I.ok.mod, I.bs, Nat.le_trans I.ok.bsz I.sz, I.stack, I.stkFree, I.hok, I.bare, I.hdE⟩
theorem Inv.after {Q : VK} {u : Value} (I : Inv X pins σ H s) (h : CE X.stack X.prog X.w H s Q u s') : EP X pins σ Q u s' := by
 obtain ⟨v, H', os, bare, un, hok, r, q⟩ := h
 obtain ⟨hh, g, d, t, os'⟩ := s'
 obtain rfl : os' = s.os := os
 exact ⟨v, H', I.call (h' := hh) (g' := g) (d' := d) (t' := t) (ch := []) un hok bare (fun b z => absurd z (by simp)), r, q⟩
end
def tCall (sp : Sp) (dvs : List V) (E : XK) (t : TA) : TE := fun σ H Q => t σ H fun vs H1 => sp (vs ++ dvs) H1 Q E
def tMeth (C : Addr) (m : Str) (sp : Sp) (dvs : List V) (E : XK) (ta : TE) (t : TA) : TE := fun σ H Q => ta σ H fun x H1 => ∃ a dx fs, x = .ref a ∧ H1 a = some (.ins C dx fs) ∧ fs.lookup m = none ∧
 t σ H1 fun vs H2 => sp (x :: (vs ++ dvs)) H2 Q E
def tMake (C : Addr) (sp : Sp) (dvs : List V) (E : XK) (t : TA) : TE := fun σ H Q => t σ H fun vs H1 => ∀ x dx, H1 x = none → H1 dx = none → dx ≠ x →
 sp (.ref x :: (vs ++ dvs)) (upd (upd H1 dx (.own x)) x (.ins C dx [])) (fun v H2 => v = .non ∧ Q (.ref x) H2) E
def Binds (K : PySem.W.Frag) (fd : FuncData) (ps : List Str) (ds : List Value) : Prop :=
 ∀ (s : Shared) (us : List Value), K.In s.heap → (us ++ ds).length = ps.length → BindsTo s fd ⟨us, []⟩ (ps.zip (us ++ ds))
theorem Binds.all {K : PySem.W.Frag} {fd : FuncData} {ps : List Str} (h : ∀ us : List Value, us.length = ps.length → bindArgs fd ⟨us, []⟩ = pure (ps.zip us)) : Binds K fd ps [] := fun s us _ hl => by
 rw [List.append_nil] at hl ⊢
 exact .of_eq (h us hl)
def Passes (CX : CXT) (X : Cx) (E : XK) : Prop := ∀ (pins : List (Addr × Obj)) (σ : St) (H : Hp) (s : Shared) (e : Value) (s' : Shared), Inv X pins σ H s → CX X.stack H s E e s' → X.xe e s'
section
variable {X : Cx} {CX : CXT} {k : Nat} {f C : Addr} {fd : FuncData} {ps : List Str} {sp : Sp} {dvs : List V} {ds : List Value} {E : XK} {x m : Str} {p pos apos : Pos} {e o : Expr} {es : List Expr} {ta : TE} {t : TA}
theorem run_fn {pins : List (Addr × Obj)} {σ : St} {H : Hp} {s : Shared} {Q : VK} {us : List Value} {vs : List V} (F : FnOk X.prog X.w X.K X.mg X.base CX k f fd ps sp) (hr : Room k X.A) (hb : Binds X.K fd ps ds) (hd : Vals dvs ds) (hx : Passes CX X E)
  (I : Inv X pins σ H s) (r : Vals vs us) (h : sp (vs ++ dvs) H Q E) (hcm : Calm CX X.A := by first | assumption | exact Or.inl rfl | exact Or.inr (by assumption)) : wpAny (model X.prog X.w) X.A (call (.ref f) us) (EP X pins σ Q) X.xe s := by
 have r2 : Vals (vs ++ dvs) (us ++ ds) := r.append hd
 have hl : (us ++ ds).length = ps.length := by rw [← r2.length]; exact F.len _ _ _ _ h
 refine wpAny_call (codeAny_mono (F.run X.A X.stack s H ⟨us, []⟩ (us ++ ds) (vs ++ dvs) Q E hr hcm I.env0 (hb s us I.kIn hl) r2 h) fun r s' hq => ?_)
 cases r with
 | error e => exact hx pins σ H s e s' I hq
 | ok fl =>
  cases fl with
  | ret u => exact I.after hq
  | next => exact False.elim hq
  | brk => exact False.elim hq
  | cont => exact False.elim hq
theorem pe_call (F : FnOk X.prog X.w X.K X.mg X.base CX k f fd ps sp) (hr : Room k X.A) (hg : Gl X x) (hm : X.mg x = some (.ref f)) (hk : PySem.W.keepIn X.K (.ref f) = true) (hb : Binds X.K fd ps ds) (hd : Vals dvs ds) (hx : Passes CX X E)
  (ha : PA X (e :: es) t) (hdb : (x == ("__debug__" : Str)) = false := by decide) (he : starEach (e :: es) X.env = (false, eval e X.env) :: starEach es X.env := by rfl) (hpl : (backTo pos (starEach es X.env)).any (·.1) = false := by rfl) (hcm : Calm CX X.A := by first | assumption | exact Or.inl rfl | exact Or.inr (by assumption)) :
  PE X (.Call (.Name x p) (e :: es) [] pos) (tCall sp dvs E t) := by
 intro pins s σ H Q I h
 refine wpAny_Call_Name_kw (ld_glob I hg hm ?_ hdb)
 refine PySem.W.callWith_K (h₀ := X.base) I.ok.mod.kin hk (thn (ha pos pins s σ H _ I h) fun us s1 ⟨vs, H1, I1, r, q⟩ => ⟨I1.kIn, ?_⟩) he hpl
 exact run_fn F hr hb hd hx I1 r q
theorem pe_call0 (F : FnOk X.prog X.w X.K X.mg X.base CX k f fd ps sp) (hr : Room k X.A) (hg : Gl X x) (hm : X.mg x = some (.ref f)) (hk : PySem.W.keepIn X.K (.ref f) = true) (hb : Binds X.K fd ps ds) (hd : Vals dvs ds) (hx : Passes CX X E)
  (hdb : (x == ("__debug__" : Str)) = false := by decide) (hcm : Calm CX X.A := by first | assumption | exact Or.inl rfl | exact Or.inr (by assumption)) : PE X (.Call (.Name x p) [] [] pos) (tCall sp dvs E tNil) := by
 intro pins s σ H Q I h
 refine wpAny_Call_Name_kw (ld_glob I hg hm ?_ hdb)
 exact PySem.W.callWith_K0 I.kIn hk (run_fn (us := []) F hr hb hd hx I .nil h)
theorem pe_meth {pl : Sem Bool} (he : PE X o ta) (c : Cls X.K C) (hm : Meth X.K C m f) (F : FnOk X.prog X.w X.K X.mg X.base CX k f fd ps sp) (hr : Room k X.A) (hb : Binds X.K fd ps ds) (hd : Vals dvs ds) (hx : Passes CX X E) (ha : PA X (e :: es) t)
  (hst : starEach (e :: es) X.env = (false, eval e X.env) :: starEach es X.env := by rfl) (hpl : (backTo pos (starEach es X.env)).any (·.1) = false := by rfl)
  (ht : eval (.Call (.Attribute o m apos) (e :: es) [] pos) X.env = (do
   let ov ← eval o X.env
   standAt apos.atName
   let (f, first) ← holding [ov] (getMethod ov m pl)
   callWith pos f first (backTo pos (starEach (e :: es) X.env)) (backToKw pos (keywordEach [] X.env))) := by rfl) (hcm : Calm CX X.A := by first | assumption | exact Or.inl rfl | exact Or.inr (by assumption)) :
  PE X (.Call (.Attribute o m apos) (e :: es) [] pos) (tMeth C m sp dvs E ta t) := by
 intro pins s σ H Q I h
 refine PySem.W.methodCall_KW (pl := pl) (thn (he pins s σ H _ I h) fun u s1 ⟨x, H1, I1, rx, a, dx, fs, ex, ea, l, q⟩ => ?_) ht
 subst ex
 obtain rfl : u = Value.ref a := rx
 refine getmeth_ok I1 ea c hm l ?_
 refine PySem.W.callWith_K (first := [.ref a]) (h₀ := X.base) I.ok.mod.kin hm.kp (thn (ha pos pins s1 σ H1 _ I1 q) fun us s2 ⟨vs, H2, I2, r, q2⟩ => ⟨I2.kIn, ?_⟩) hst hpl
 exact run_fn (us := .ref a :: us) (vs := .ref a :: vs) F hr hb hd hx I2 (.cons rfl r) q2
theorem pe_meth0 {pl : Sem Bool} (he : PE X o ta) (c : Cls X.K C) (hm : Meth X.K C m f) (F : FnOk X.prog X.w X.K X.mg X.base CX k f fd ps sp) (hr : Room k X.A) (hb : Binds X.K fd ps ds) (hd : Vals dvs ds) (hx : Passes CX X E)
  (ht : eval (.Call (.Attribute o m apos) [] [] pos) X.env = (do
   let ov ← eval o X.env
   standAt apos.atName
   let (f, first) ← holding [ov] (getMethod ov m pl)
   callWith pos f first (backTo pos (starEach [] X.env)) (backToKw pos (keywordEach [] X.env))) := by rfl) (hcm : Calm CX X.A := by first | assumption | exact Or.inl rfl | exact Or.inr (by assumption)) :
  PE X (.Call (.Attribute o m apos) [] [] pos) (tMeth C m sp dvs E ta tNil) := by
 intro pins s σ H Q I h
 refine PySem.W.methodCall_KW (pl := pl) (thn (he pins s σ H _ I h) fun u s1 ⟨x, H1, I1, rx, a, dx, fs, ex, ea, l, q⟩ => ?_) ht
 subst ex
 obtain rfl : u = Value.ref a := rx
 refine getmeth_ok I1 ea c hm l ?_
 exact PySem.W.callWith_K0 (first := [.ref a]) I1.kIn hm.kp (run_fn (us := [.ref a]) (vs := [.ref a]) F hr hb hd hx I1 (.cons rfl .nil) q)
structure Mk (K : PySem.W.Frag) (C f : Addr) : Prop where
 makes : PySem.W.makesIn K C = true
 init : PySem.W.findIn K (.ref C) "__init__" = some (some (.ref f))
 fn : PySem.W.isFn K (.ref f) = true
 kp : PySem.W.keepIn K (.ref C) = true
theorem run_make {pins : List (Addr × Obj)} {σ : St} {H : Hp} {s : Shared} {Q : VK} {us : List Value} {vs : List V} (M : Mk X.K C f) (F : FnOk X.prog X.w X.K X.mg X.base CX k f fd ps sp) (hr : Room (k + 1) X.A) (hb : Binds X.K fd ps ds) (hd : Vals dvs ds)
  (hx : Passes CX X E) (I : Inv X pins σ H s) (r : Vals vs us)
  (h : ∀ x dx, H x = none → H dx = none → dx ≠ x → sp (.ref x :: (vs ++ dvs)) (upd (upd H dx (.own x)) x (.ins C dx [])) (fun v H2 => v = .non ∧ Q (.ref x) H2) E) (hcm : Calm CX X.A := by first | assumption | exact Or.inl rfl | exact Or.inr (by assumption)) :
  wpAny (model X.prog X.w) X.A (call (.ref C) us) (EP X pins σ Q) X.xe s := by
 have hq := h (s.heap.objs.size + 1) s.heap.objs.size (I.hok.fresh (Nat.le_succ _)) (I.hok.fresh (Nat.le_refl _)) (Nat.ne_of_lt (Nat.lt_succ_self _))
 have I2 := Inv.made (C := C) I
 have r2 : Vals (V.ref (s.heap.objs.size + 1) :: (vs ++ dvs)) (Value.ref (s.heap.objs.size + 1) :: (us ++ ds)) := .cons rfl (r.append hd)
 have hl : (Value.ref (s.heap.objs.size + 1) :: us ++ ds).length = ps.length := by
  have e := r2.length
  rw [F.len _ _ _ _ hq] at e
  exact e.symm
 refine wpAny_call (make_map (f := f) I.kIn M.makes M.init (beq_iff_eq.mp M.fn) (codeAny_mono (F.run _ X.stack _ _ ⟨Value.ref (s.heap.objs.size + 1) :: us, []⟩ (Value.ref (s.heap.objs.size + 1) :: (us ++ ds)) _ _ E (hr.make C us []) (show Calm CX _ from hcm)
  (I2.env0.make C us []) (hb _ (Value.ref (s.heap.objs.size + 1) :: us) I2.kIn hl) r2 hq) fun r s' hq' => ?_))
 cases r with
 | error e => exact hx pins σ _ _ e s' I2 hq'
 | ok fl =>
  cases fl with
  | ret u =>
   obtain ⟨v, H', I3, rv, ev, q3⟩ := I2.after hq'
   subst ev
   exact ⟨rv, ⟨V.ref (s.heap.objs.size + 1), H', I3, rfl, q3⟩⟩
  | next => exact False.elim hq'
  | brk => exact False.elim hq'
  | cont => exact False.elim hq'
theorem pe_make (M : Mk X.K C f) (F : FnOk X.prog X.w X.K X.mg X.base CX k f fd ps sp) (hr : Room (k + 1) X.A) (hg : Gl X x) (hm : X.mg x = some (.ref C)) (hb : Binds X.K fd ps ds) (hd : Vals dvs ds) (hx : Passes CX X E)
  (ha : PA X (e :: es) t) (hdb : (x == ("__debug__" : Str)) = false := by decide) (he : starEach (e :: es) X.env = (false, eval e X.env) :: starEach es X.env := by rfl) (hpl : (backTo pos (starEach es X.env)).any (·.1) = false := by rfl) (hcm : Calm CX X.A := by first | assumption | exact Or.inl rfl | exact Or.inr (by assumption)) :
  PE X (.Call (.Name x p) (e :: es) [] pos) (tMake C sp dvs E t) := by
 intro pins s σ H Q I h
 refine wpAny_Call_Name_kw (ld_glob I hg hm ?_ hdb)
 refine PySem.W.callWith_K (h₀ := X.base) I.ok.mod.kin M.kp (thn (ha pos pins s σ H _ I h) fun us s1 ⟨vs, H1, I1, r, q⟩ => ⟨I1.kIn, ?_⟩) he hpl
 exact run_make M F hr hb hd hx I1 r q
end
section
variable {X : Cx} {CX : CXT} {k : Nat} {f C : Addr} {fd : FuncData} {ps ks : List Str} {sp : Sp} {E : XK} {x m : Str} {p pos apos kpos : Pos} {e o : Expr} {es : List Expr} {kws : List Keyword} {te ta : TE} {t tk : TA} {nm : Option Str}
variable {g : List Value → List Value → List Value} {gV : List V → List V → List V}
end
structure FnScope (N P : List Str) (sc : Scope) : Prop where
 kind : sc.kind = .function
 co : sc.isCoroutine = false
 gen : sc.isGenerator = false
 nd : N.Nodup
 pre : N.take P.length = P
 par : ∀ x ∈ P, sc.names.lookup x = some .local ∨ sc.names.lookup x = some .cell
 nofree : ∀ y ∈ sc.names, y.2 ≠ .free
theorem bindL_out {kindOf : Str → Option NameKind} {x : Str} : ∀ {binds : List (Str × Value)} {m : Str → Option Value}, (∀ v, (x, v) ∉ binds) → bindL kindOf binds m x = m x
 | [], _, _ => rfl
 | (n, v) :: r, m, h => by
  unfold bindL
  rw [bindL_out fun w hw => h w (List.mem_cons_of_mem _ hw)]
  split
  ·have : x ≠ n := by rintro rfl; exact h v List.mem_cons_self
   simp [this]
  ·rfl
theorem bindC_out {kindOf : Str → Option NameKind} {x : Str} : ∀ {binds : List (Str × Value)} {m : Str → Option Value}, (∀ v, (x, v) ∉ binds) → bindC kindOf binds m x = m x
 | [], _, _ => rfl
 | (n, v) :: r, m, h => by
  unfold bindC
  rw [bindC_out fun w hw => h w (List.mem_cons_of_mem _ hw)]
  split
  ·rfl
  ·have : x ≠ n := by rintro rfl; exact h v List.mem_cons_self
   simp [this]
theorem bindL_get {kindOf : Str → Option NameKind} {x : Str} {v : Value} : ∀ {P : List Str} {vs : List Value} {i : Nat} {m : Str → Option Value}, P.Nodup → P[i]? = some x → vs[i]? = some v → kindOf x = some .local →
  bindL kindOf (P.zip vs) m x = some v
 | [], _, _, _, _, h, _, _ => by simp at h
 | _ :: _, [], _, _, _, _, h, _ => by simp at h
 | p :: P, w :: vs, 0, m, nd, h1, h2, hk => by
  simp at h1 h2; subst h1; subst h2
  show bindL kindOf ((p, w) :: P.zip vs) m p = _
  unfold bindL
  rw [bindL_out fun v hv => (List.nodup_cons.mp nd).1 (List.of_mem_zip hv).1, if_pos hk]
  simp
 | p :: P, w :: vs, i + 1, m, nd, h1, h2, hk => by
  show bindL kindOf ((p, w) :: P.zip vs) m x = _
  unfold bindL
  exact bindL_get (i := i) (List.nodup_cons.mp nd).2 (by simpa using h1) (by simpa using h2) hk
theorem bindC_get {kindOf : Str → Option NameKind} {x : Str} {v : Value} : ∀ {P : List Str} {vs : List Value} {i : Nat} {m : Str → Option Value}, P.Nodup → P[i]? = some x → vs[i]? = some v → kindOf x ≠ some .local →
  bindC kindOf (P.zip vs) m x = some v
 | [], _, _, _, _, h, _, _ => by simp at h
 | _ :: _, [], _, _, _, _, h, _ => by simp at h
 | p :: P, w :: vs, 0, m, nd, h1, h2, hk => by
  simp at h1 h2; subst h1; subst h2
  show bindC kindOf ((p, w) :: P.zip vs) m p = _
  unfold bindC
  rw [bindC_out fun v hv => (List.nodup_cons.mp nd).1 (List.of_mem_zip hv).1, if_neg hk]
  simp
 | p :: P, w :: vs, i + 1, m, nd, h1, h2, hk => by
  show bindC kindOf ((p, w) :: P.zip vs) m x = _
  unfold bindC
  exact bindC_get (i := i) (List.nodup_cons.mp nd).2 (by simpa using h1) (by simpa using h2) hk
def start (N : List Str) (vs : List V) : St := vs.map some ++ List.replicate (N.length - vs.length) none
def cxOf (CX : CXT) (P : Program) (w : World) (K : PySem.W.Frag) (mg : Str → Option Value) (base : Heap) (N : List Str) (qual : Str) (scope : Scope) (f : Addr) (cd : Value) (A : Around) (outer : List Env) (s : Shared) (H : Hp) (E : XK) : Cx where
 prog := P
 w := w
 K := K
 mg := mg
 base := base
 A := A.deeper (envOfC qual scope s.heap.objs.size f cd)
 N := N
 s₀ := s
 H₀ := H
 env := envOfC qual scope s.heap.objs.size f cd
 outer := outer
 stack := envOfC qual scope s.heap.objs.size f cd :: outer
 ex := []
 calm := true
 fn := fun _ => true
 pn := []
 tr := []
 fx := []
 xe := fun e s' => wpAny (model P w) (A.deeper (envOfC qual scope s.heap.objs.size f cd)) (leaving (envOfC qual scope s.heap.objs.size f cd) e) (fun _ s'' => CX outer H s E e s'') (fun e' s'' => CX outer H s E e' s'') s'
theorem cell_has {sc : Scope} {n : Nat} {x : Str} (h : sc.names.lookup x = some .cell) : ∃ c, (cellsFrom n sc.names []).lookup x = some c := by
 have q := PySem.W.cellsFrom_some sc.names n [] (.inl h)
 exact Option.isSome_iff_exists.mp q
theorem inv_start {CX : CXT} {P : Program} {w : World} {K : PySem.W.Frag} {mg : Str → Option Value} {base : Heap} {N ps : List Str} {qual : Str} {scope : Scope} {f : Addr} {cd : Value} {A : Around} {outer : List Env} {s s1 : Shared} {H : Hp} {E : XK} {us : List Value} {vs : List V}
  (S : FnScope N ps scope) (e0 : Env0 P w K mg base A outer s H) (hl : vs.length = ps.length) (r : Vals vs us)
  (x : InCallC s s.heap.objs.size (bindL (envOfC qual scope s.heap.objs.size f cd).kindOf (ps.zip us) fun _ => none) (cellsFrom (s.heap.objs.size + 1) scope.names []) (bindC (envOfC qual scope s.heap.objs.size f cd).kindOf (ps.zip us) fun _ => none) s1) :
  Inv (cxOf CX P w K mg base N qual scope f cd A outer s H E) [] (start N vs) H s1 := by
 have hpl : ps.length ≤ N.length := by have := congrArg List.length S.pre; rw [List.length_take] at this; omega
 obtain ⟨h1, tk, rfl, hk⟩ := x.done
 have noA : ∀ b : Addr, b ∉ (cxOf CX P w K mg base N qual scope f cd A outer s H E).ex := fun b z => absurd (show b ∈ ([] : List Addr) from z) (by simp)
 have hdX : A.handled = none ∨ ∃ (e : Addr) (c : Value), A.handled = some (.ref e) ∧ (H e = some (.exc c) ∨ (e, c) ∈ (cxOf CX P w K mg base N qual scope f cd A outer s H E).tr) := by
  rcases e0.hd with z | ⟨e, c, z1, z2⟩
  ·exact .inl z
  ·exact .inr ⟨e, c, z1, .inl z2⟩
 refine ⟨⟨e0.mod, S.kind, rfl, rfl, Nat.le_refl _, fun y z c h1 h2 => ?_, fun y hy => ?_, fun y c _ h => ?_, hdX, Around.frames_deeper e0.frames, .inr ⟨rfl, rfl⟩, fun b z => absurd z (noA b), e0.bs, e0.bsz, fun b _ _ => noA b, fun b z => absurd z (noA b), e0.funs, e0.frf⟩,
  rfl, e0.bare, Un.kept hk, ⟨_, x.toInCall.ns, fun i y v h1 h2 h3 => ?_⟩, fun y c h => ⟨_, x.cell y c h⟩, e0.hok.fresh (Nat.le_refl _), fun y c h => ?_, fun p hp => absurd (show p ∈ ([] : List (Addr × Obj)) from hp) (by simp), e0.hok.kept hk, ?_, fun p hp => absurd (show p ∈ ([] : List (Addr × Value)) from hp) (by simp), fun p hp => absurd (show p ∈ ([] : List (Str × Value)) from hp) (by simp)⟩
 ·exact name_of_addr x.apart (PySem.mem_of_lookup h1) (PySem.mem_of_lookup h2)
 ·have hy : scope.names.lookup y = some .cell ∨ scope.names.lookup y = some .free := hy
  rcases hy with hy | hy
  ·exact cell_has hy
  ·exact absurd rfl (S.nofree _ (PySem.mem_of_lookup hy))
 ·exact Nat.le_of_lt (x.above y c (PySem.mem_of_lookup h))
 ·have hi : i < vs.length := by
   unfold start at h2
   by_cases hi : i < vs.length
   ·exact hi
   ·rw [List.getElem?_append_right (by simpa using hi)] at h2
    rw [List.getElem?_replicate] at h2
    split at h2 <;> cases h2
  have ha : vs[i]? = some v := by
   unfold start at h2
   rw [List.getElem?_append_left (by simpa using hi), List.getElem?_map] at h2
   cases e : vs[i]? with
   | none => rw [e] at h2; cases h2
   | some a => rw [e] at h2; cases h2; rfl
  obtain ⟨u, hu, rv⟩ := r.get ha
  have hp : ps[i]? = some y := by
   rw [← S.pre, List.getElem?_take_of_lt (by omega)]; exact h1
  have ndP : ps.Nodup := by rw [← S.pre]; exact S.nd.sublist (List.take_sublist _ _)
  refine ⟨u, rv, ?_⟩
  rcases S.par y (List.mem_of_getElem? hp) with k | k
  ·exact .inl ⟨k, bindL_get ndP hp hu k⟩
  ·obtain ⟨c, e⟩ := cell_has (n := s.heap.objs.size + 1) k
   refine .inr ⟨.inl k, c, e, ?_⟩
   have q := x.cell y c e
   rw [bindC_get ndP hp hu (by show scope.names.lookup y ≠ _; rw [k]; decide)] at q
   exact q
 ·exact e0.hok.fresh (Nat.le_of_lt (x.above y c (PySem.mem_of_lookup h)))
 ·unfold start
  show _ = N.length
  rw [List.length_append, List.length_map, List.length_replicate]
  omega
theorem fn_of {CX : CXT} {P : Program} {w : World} {K : PySem.W.Frag} {mg : Str → Option Value} {base : Heap} {k : Nat} {f : Addr} {name qual : Str} {params : Arguments} {body : List Stmt} {scope : Scope} {dV kV doc pm cdv ct oc : Value} {an od : Option Addr}
  {osl : Array (Option Value)} {N ps : List Str} {sp : Sp} (lk : K.lookup f = some ⟨oc, od, .func (PySem.W.fnOf name qual params body scope dV kV doc pm an cdv ct), osl⟩) (hcd : PySem.W.codeIn K cdv qual = true) (S : FnScope N ps scope)
  (len : ∀ vs H Q E, sp vs H Q E → vs.length = ps.length)
  (hbody : ∀ (A : Around) (outer : List Env) (s : Shared) (H : Hp) (vs : List V) (Q : VK) (E : XK), Room k (A.deeper (envOfC qual scope s.heap.objs.size f cdv)) → Calm CX A → sp vs H Q E →
   ∃ t, PSs (cxOf CX P w K mg base N qual scope f cdv A outer s H E) body t ∧ t { nx := fun _ H' => Q .non H', rt := Q } (start N vs) H) :
  FnOk P w K mg base CX (k + 1) f (PySem.W.fnOf name qual params body scope dV kV doc pm an cdv ct) ps sp := by
 refine ⟨len, fun A outer s H args us vs Q E hr hcm e0 hb r hsp => ?_⟩
 have hl := len _ _ _ _ hsp
 have KX : K.In s.heap := e0.mod.kin.keeps fun b o e => (e0.bs b o e).1
 have lim : s.heap.NoLimit := e0.mod.nolimit.keeps fun b o e => (e0.bs b o e).1
 have hkind : ∀ y ∈ ps.zip us, scope.names.lookup y.1 = some .local ∨ (scope.names.lookup y.1 = some .cell ∧ ((cellsFrom (s.heap.objs.size + 1) scope.names []).lookup y.1).isSome = true) := fun ⟨n, v⟩ hy => by
  rcases S.par n (List.of_mem_zip hy).1 with q | q
  ·exact .inl q
  ·exact .inr ⟨q, PySem.W.cellsFrom_some _ _ _ (.inl q)⟩
 refine codeAny_call_function hr.depth (KX _ _ lk) rfl S.co S.gen rfl (PySem.W.codeRec_of KX hcd) (hb _ _ _ _ ?_)
 refine wpAny_newFunctionEnv_cells S.kind hkind fun env he s1 x => ?_
 subst he
 refine ⟨lim.keeps x.toInCall.keep, codeAny_func ?_⟩
 obtain ⟨t, ht, hq⟩ := hbody A outer s H vs Q E (hr.deeper _) hcm hsp
 have I : Inv (cxOf CX P w K mg base N qual scope f cdv A outer s H E) [] (start N vs) H s1 := inv_start S e0 hl r x
 refine wpAny_mono (ht [] s1 (start N vs) H _ I hq) (fun fl s' hs => ?_) fun e s' hs => hs
 have fin : ∀ {σ' : St} {H' : Hp} {v : V} {u : Value}, Inv (cxOf CX P w K mg base N qual scope f cdv A outer s H E) [] σ' H' s' → RelV v u → Q v H' → CE outer P w H s Q u s' :=
  fun {σ' H' v u} J rv q => ⟨v, H', J.os, J.bare, J.base, J.hok, rv, q⟩
 cases fl with
 | ret u =>
  obtain ⟨v, σ', H', J, rv, q⟩ := hs
  exact fin J rv q
 | next =>
  obtain ⟨σ', H', J, q⟩ := hs
  exact fin (v := V.non) (u := Value.none) J rfl q
 | brk =>
  obtain ⟨_, _, _, q⟩ := hs
  exact False.elim q
 | cont =>
  obtain ⟨_, _, _, q⟩ := hs
  exact False.elim q
end L2
namespace L2
open PySem PySem.Spec PyProof.Rows
section
variable {X : Cx} {x : Str} {p pos : Pos} {e : Expr} {es : List Expr} {t : TA} {id T : String} {r : List V → Hp → VK → Prop}
def tCB (r : List V → Hp → VK → Prop) (t : TA) : TE := fun σ H Q => t σ H fun vs H1 => r vs H1 Q
theorem pe_callB (hc : CallR X (.builtin id) r) (hg : Gl X x) (hm : X.mg x = none) (hv : bootBuiltins x = some (.builtin id)) (ha : PA X (e :: es) t) (hn : x ≠ "__name__" := by decide) (hdb : (x == ("__debug__" : Str)) = false := by decide)
  (he : starEach (e :: es) X.env = (false, eval e X.env) :: starEach es X.env := by rfl) (hpl : (backTo pos (starEach es X.env)).any (·.1) = false := by rfl) : PE X (.Call (.Name x p) (e :: es) [] pos) (tCB r t) := by
 intro pins s σ H Q I h
 refine wpAny_Call_Name_kw (ld_blt I hg hm hv ?_ hn hdb)
 exact PyProof.Rows.callWith_builtin1 (thn (ha pos pins s σ H _ I h) fun us s1 ⟨vs, H1, I1, r1, q1⟩ => hc pins s1 σ H1 vs us Q I1 r1 q1) he hpl
theorem pe_callTy (hc : CallR X (.type T) r) (hg : Gl X x) (hm : X.mg x = none) (hv : bootBuiltins x = some (.type T)) (ha : PA X (e :: es) t) (hn : x ≠ "__name__" := by decide) (hdb : (x == ("__debug__" : Str)) = false := by decide)
  (he : starEach (e :: es) X.env = (false, eval e X.env) :: starEach es X.env := by rfl) (hpl : (backTo pos (starEach es X.env)).any (·.1) = false := by rfl) : PE X (.Call (.Name x p) (e :: es) [] pos) (tCB r t) := by
 intro pins s σ H Q I h
 refine wpAny_Call_Name_kw (ld_blt I hg hm hv ?_ hn hdb)
 exact PyProof.Rows.callWith_type1 (thn (ha pos pins s σ H _ I h) fun us s1 ⟨vs, H1, I1, r1, q1⟩ => hc pins s1 σ H1 vs us Q I1 r1 q1) he hpl
end
end L2
namespace HT
open PySem PyProof.Rows
section
open PySem.SeqAt
open PySem.AutoSeq1 (wpAny_loadPart')
open PySem.MeetsSeq PySem.MeetsSeq2 PySem.MeetsSeq3
end
section
variable {prog : Program} {w : World} {A : Around} {E : Value → Shared → Prop} {s : Shared}
def sIx (n d : Nat) : Option Int → Nat
 | none => d
 | some v => if v < 0 then (v + (n : Int)).toNat else min v.toNat n
theorem sIx_none (n d : Nat) : sIx n d none = d := rfl
theorem sIx_nat (n d k : Nat) : sIx n d (some (k : Int)) = min k n := by
 show (if (k : Int) < 0 then ((k : Int) + (n : Int)).toNat else min (k : Int).toNat n) = min k n
 rw [if_neg (by omega), Int.toNat_natCast]
end
end HT
namespace L2
open PySem PySem.Spec PyProof.Rows
abbrev TO := St → Hp → (Option Int → Hp → Prop) → Prop
def PO (X : Cx) (e : Option Expr) (t : TO) : Prop :=
 ∀ (pins : List (Addr × Obj)) (s : Shared) (σ : St) (H : Hp) (Q : Option Int → Hp → Prop), Inv X pins σ H s → t σ H Q →
  wpAny (model X.prog X.w) X.A (evalPart e X.env) (fun u s' => ∃ o H', Inv X pins σ H' s' ∧ IsPart u o ∧ Q o H') X.xe s
def tNoPart : TO := fun _ H Q => Q none H
def tPart (t : TE) : TO := fun σ H Q => t σ H fun x H1 => ∃ i, x = .int i ∧ Q (some i) H1
section
variable {X : Cx} {e : Expr} {te : TE} {lo hi : Option Expr} {tl th : TO} {pos p2 : Pos}
theorem po_none : PO X none tNoPart := by
 intro pins s σ H Q I h
 rw [evalPart_none]
 exact wpAny_pure ⟨none, H, I, .none, h⟩
theorem po_some (h : PE X e te) : PO X (some e) (tPart te) := by
 intro pins s σ H Q I hw
 rw [evalPart_some]
 refine thn (h pins s σ H _ I hw) fun u s1 ⟨x, H1, I1, r1, q1⟩ => ?_
 obtain ⟨i, rfl, q⟩ := q1
 obtain ⟨t, rfl⟩ := r1
 exact ⟨some i, H1, I1, .int i t, q⟩
def SlR (X : Cx) (r : V → Option Int → Option Int → Hp → VK → Prop) : Prop :=
 ∀ (pins : List (Addr × Obj)) (s : Shared) (σ : St) (H : Hp) (x : V) (v vl vu : Value) (lo hi : Option Int) (sl : Addr) (Q : VK), Inv X pins σ H s → RelV x v → s.heap.IsSliceOf sl vl vu .none → IsPart vl lo → IsPart vu hi → r x lo hi H Q →
  ∃ T id, typeLookup (.type T) "__getitem__" = pure (some (.builtin id)) ∧ s.TypeIs v T ∧ wpAny (model X.prog X.w) X.A (getItem v (.ref sl)) (EP X pins σ Q) X.xe s
def tSl (r : V → Option Int → Option Int → Hp → VK → Prop) (te : TE) (tl th : TO) : TE := fun σ H Q => te σ H fun x H1 => tl σ H1 fun l H2 => th σ H2 fun u H3 => r x l u H3 Q
theorem pe_slice {r : V → Option Int → Option Int → Hp → VK → Prop} (hr : SlR X r) (he : PE X e te) (hl : PO X lo tl) (hu : PO X hi th) : PE X (.Subscript e (.Slice lo hi none p2) pos) (tSl r te tl th) := by
 intro pins s σ H Q I h
 refine Subscript_ (thn (he pins s σ H _ I h) fun v s1 ⟨x, H1, I1, r1, q1⟩ => ?_)
 refine wpAny_Slice (thn (hl pins s1 σ H1 _ I1 q1) fun vl s2 ⟨l, H2, I2, pl, q2⟩ => thn (hu pins s2 σ H2 _ I2 q2) fun vu s3 ⟨u, H3, I3, pu, q3⟩ => ?_)
 rw [evalPart_none]
 refine wpAny_pure ?_
 have I4 : Inv X pins σ H3 { s3 with heap := s3.heap.push { cls := .type "slice", data := .fields #[vl, vu, .none] } } := I3.kept (t' := s3.toks) fun b ob q => Heap.get?_push_of_some _ q
 obtain ⟨T, id, hT, ht, hg⟩ := hr pins { s3 with heap := s3.heap.push { cls := .type "slice", data := .fields #[vl, vu, .none] } } σ H3 x v vl vu l u s3.heap.objs.size Q I4 r1 (Heap.IsSliceOf.new ..) pl pu q3
 show wpAny (model X.prog X.w) X.A (subscriptTail e (.Slice lo hi none p2) v (.ref s3.heap.objs.size)) (EP X pins σ Q) X.xe { s3 with heap := s3.heap.push { cls := .type "slice", data := .fields #[vl, vu, .none] } }
 exact tail_any (ops := [.ref s3.heap.objs.size, v]) ht hT hg (by with_unfolding_all rfl)
def cutV (xs : List V) (lo hi : Option Int) : List V := (xs.drop (HT.sIx xs.length 0 lo)).take (HT.sIx xs.length xs.length hi - HT.sIx xs.length 0 lo)
theorem cutV_length (xs : List V) (lo hi : Option Int) : (cutV xs lo hi).length ≤ xs.length := by
 unfold cutV
 rw [List.length_take, List.length_drop]
 omega
end
end L2
namespace L2
open PySem PySem.Spec PyProof.Rows
def ixN (n : Nat) (i : Int) : Option Nat := if 0 ≤ i then (if i < n then some i.toNat else none) else if -(n : Int) ≤ i then some (i + n).toNat else none
def atI {α : Type} (xs : List α) (i : Int) : Option α := (ixN xs.length i).bind fun j => xs[j]?
theorem ixN_seq {n : Nat} {i : Int} {j : Nat} (h : ixN n i = some j) : seqIndex? i n = some j ∧ j < n ∧ -(n : Int) ≤ i ∧ i < n := by
 unfold ixN at h
 by_cases h0 : 0 ≤ i
 ·rw [if_pos h0] at h
  by_cases h1 : i < n
  ·rw [if_pos h1] at h
   have e : i.toNat = j := Option.some.inj h
   exact ⟨by rw [seqIndex_of h0 h1, e], by omega, by omega, h1⟩
  ·rw [if_neg h1] at h; cases h
 ·rw [if_neg h0] at h
  by_cases h1 : -(n : Int) ≤ i
  ·rw [if_pos h1] at h
   have e : (i + n).toNat = j := Option.some.inj h
   exact ⟨by rw [seqIndex_neg (by omega) h1, e], by omega, h1, by omega⟩
  ·rw [if_neg h1] at h; cases h
theorem atI_get {α : Type} {xs : List α} {i : Int} {v : α} (h : atI xs i = some v) : ∃ j, seqIndex? i xs.length = some j ∧ xs[j]? = some v ∧ j < xs.length ∧ -(xs.length : Int) ≤ i ∧ i < xs.length := by
 unfold atI at h
 cases e : ixN xs.length i with
 | none => rw [e] at h; cases h
 | some j =>
  rw [e] at h
  obtain ⟨h1, h2, h3, h4⟩ := ixN_seq e
  exact ⟨j, h1, h, h2, h3, h4⟩
theorem atI_nat {α : Type} {xs : List α} {j : Nat} {v : α} (h : xs[j]? = some v) : atI xs (j : Int) = some v := by
 have hj : j < xs.length := (List.getElem?_eq_some_iff.mp h).1
 have e : ixN xs.length (j : Int) = some j := by
  unfold ixN
  rw [if_pos (by omega), if_pos (by omega)]; simp
 unfold atI; rw [e]; exact h
theorem atI_last {α : Type} (xs : List α) (v : α) : atI (xs ++ [v]) (-1) = some v := by
 have hl : (xs ++ [v]).length = xs.length + 1 := by simp
 have e : ixN (xs ++ [v]).length (-1) = some xs.length := by
  unfold ixN
  rw [hl, if_neg (by decide), if_pos (by omega)]
  congr 1
  omega
 unfold atI
 rw [e]
 show (xs ++ [v])[xs.length]? = some v
 simp
def PlainIx (b : Expr) : Prop := ∀ o i, subscripted b false o i = operate [o, i] (getItem o i)
def IxR (X : Cx) (r : R2) : Prop :=
 ∀ (value slice : Expr) (pins : List (Addr × Obj)) (s : Shared) (σ : St) (H : Hp) (x y : V) (v u : Value) (Q : VK), Inv X pins σ H s → RelV x v → RelV y u → r x y H Q →
  subscripted slice false v u = operate [v, u] (getItem v u) → wpAny (model X.prog X.w) X.A (subscriptTail value slice v u) (EP X pins σ Q) X.xe s
def MtR (X : Cx) (id : String) (r : V → List V → Hp → VK → Prop) : Prop :=
 ∀ (pins : List (Addr × Obj)) (s : Shared) (σ : St) (H : Hp) (x : V) (xs : List V) (v : Value) (us : List Value) (Q : VK), Inv X pins σ H s → RelV x v → Vals xs us → r x xs H Q →
  wpAny (model X.prog X.w) X.A (call (.builtin id) (v :: us)) (EP X pins σ Q) X.xe s
section
variable {X : Cx} {a b : Expr} {ta tb : TE} {pos : Pos}
theorem pe_ix {r : R2} (hr : IxR X r) (ha : PE X a ta) (hb : PE X b tb) (hs : PlainIx b) : PE X (.Subscript a b pos) (tOp r ta tb) := by
 intro pins s σ H Q I h
 exact Subscript_ (binT ha hb I h fun v u s2 x y H2 I2 rx ry q => hr a b pins s2 σ H2 x y v u Q I2 rx ry q (hs _ _))
def rIxL (K : PySem.W.Frag) : R2 := fun x y H Q => ∃ p xs i v, x = .ref p ∧ y = .int i ∧ SqL K H p xs ∧ atI xs i = some v ∧ Q v H
def rIxT (K : PySem.W.Frag) : R2 := fun x y H Q => ∃ p xs i v, x = .ref p ∧ y = .int i ∧ SqT K H p xs ∧ atI xs i = some v ∧ Q v H
theorem ix_list : IxR X (rIxL X.K) := by
 intro value slice pins s σ H x y v u Q I rx ry h hs
 obtain ⟨p, xs, i, z, rfl, rfl, hq, he, q⟩ := h
 cases rx
 obtain ⟨t, rfl⟩ := ry
 obtain ⟨its, r, pl, hz⟩ := I.list hq
 obtain ⟨j, h1, h2, h3, h4, h5⟩ := atI_get he
 obtain ⟨w, ew, rw'⟩ := r.get h2
 have hl := r.length
 have hn := line63
 have fin : EP X pins σ Q w s := ⟨z, H, I, rw', q⟩
 by_cases h0 : 0 ≤ i
 ·have hj : i.toNat = j := by
   rw [seqIndex_of h0 h5] at h1
   exact Option.some.inj h1
  exact item_listR pl.isList h0 (by omega) (by rw [hj]; simpa using ew) fin hs
 ·have hj : (i + (its.toArray.size : Int)).toNat = j := by
   rw [seqIndex_neg (by omega) h4] at h1
   rw [List.size_toArray, ← hl]
   exact Option.some.inj h1
  exact subscriptTail_builtinR (x := w) pl.isList.typeIs slot_list_getitem.lookup
   (wpAny_getItem_list_neg (Q := fun r s' => r = w ∧ EP X pins σ Q r s') pl.isList (by omega) (by rw [List.size_toArray] <;> omega) (by omega) (by rw [hj]; simpa using ew) ⟨rfl, fin⟩) hs
theorem ix_tup : IxR X (rIxT X.K) := by
 intro value slice pins s σ H x y v u Q I rx ry h hs
 obtain ⟨p, xs, i, z, rfl, rfl, hq, he, q⟩ := h
 cases rx
 obtain ⟨t, rfl⟩ := ry
 obtain ⟨its, r, pl, hz⟩ := I.tuple hq
 obtain ⟨j, h1, h2, h3, h4, h5⟩ := atI_get he
 obtain ⟨w, ew, rw'⟩ := r.get h2
 have hl := r.length
 have hn := line63
 have fin : EP X pins σ Q w s := ⟨z, H, I, rw', q⟩
 exact subscriptTail_builtinR (x := w) pl.typeIs slot_tuple_getitem.lookup
  (getItem_tuple (j := j) (Q := fun r s' => r = w ∧ EP X pins σ Q r s') pl (by omega) (by omega) (by rw [List.size_toArray, ← hl]; exact h1) (by simpa using ew) ⟨rfl, fin⟩) hs
theorem mapSeq_set (its : List Value) (n j : Nat) (u : Value) : Obj.mapSeq (·.setIfInBounds j u) { cls := .type "list", data := .seq its.toArray n } = { cls := .type "list", data := .seq (its.set j u).toArray n } := by
 simp [Obj.mapSeq]
theorem Inv.lst {pins : List (Addr × Obj)} {σ : St} {H : Hp} {s : Shared} {p : Addr} {xs : List V} (I : Inv X pins σ H s) (h : H p = some (.lst xs)) :
  ∃ (its : List Value) (n : Nat), Vals xs its ∧ s.heap.get? p = some { cls := .type "list", data := .seq its.toArray n } ∧ xs.length ≤ sizeLine := by
 obtain ⟨z, its, n, r, e⟩ := I.hok p _ h
 exact ⟨its, n, r, e, z⟩
theorem Inv.lstUpd {pins : List (Addr × Obj)} {σ : St} {H : Hp} {s : Shared} {p : Addr} {xs ys : List V} {its its' : List Value} {n n' : Nat} {f : Obj → Obj} (I : Inv X pins σ H s) (h : H p = some (.lst xs))
  (ho : s.heap.get? p = some { cls := .type "list", data := .seq its.toArray n }) (hf : f { cls := .type "list", data := .seq its.toArray n } = { cls := .type "list", data := .seq its'.toArray n' }) (r : Vals ys its') (hz : ys.length ≤ sizeLine) (t : Nat) :
  Inv X pins σ (upd H p (.lst ys)) { s with heap := s.heap.update p f, toks := t } := by
 have e : (s.heap.update p f).get? p = some { cls := .type "list", data := .seq its'.toArray n' } := by
  rw [Heap.get?_update_self f ho (by rw [hf] <;> rfl), hf]
 refine I.write (x := p) (e := p) (by rw [h]; trivial) (.inl rfl) (fun b u hb q => (Heap.get?_update_other _ _ (Ne.symm hb)).trans q) ⟨_, e⟩ ?_
 exact ⟨hz, its', n', r, e⟩
def rSetL : V → V → V → Hp → (Hp → Prop) → Prop := fun o i v H Q => ∃ p xs k j, o = .ref p ∧ i = .int k ∧ H p = some (.lst xs) ∧ ixN xs.length k = some j ∧ Q (upd H p (.lst (xs.set j v)))
theorem set_list : PSet X rSetL := by
 intro pins s σ H o i v ov iv u Q I ro ri rv h
 obtain ⟨p, xs, k, j, rfl, rfl, hp, hj, q⟩ := h
 cases ro
 obtain ⟨t, rfl⟩ := ri
 obtain ⟨its, n, r, ho, hz⟩ := I.lst hp
 obtain ⟨h1, h2, h3, h4⟩ := ixN_seq hj
 have hl := r.length
 have hn := line63
 have I' : Inv X pins σ (upd H p (.lst (xs.set j v))) { s with heap := s.heap.update p (Obj.mapSeq (·.setIfInBounds j u)) } :=
  I.lstUpd hp ho (mapSeq_set its n j u) (r.set rv j) (by rw [List.length_set]; exact hz) s.toks
 by_cases h0 : 0 ≤ k
 ·have hk : k.toNat = j := by
   rw [seqIndex_of h0 h4] at h1
   exact Option.some.inj h1
  exact PySem.W.ki_setAt ho h0 (by omega) (by rw [List.size_toArray, ← hl]; exact h4) (by rw [hk]; exact ⟨_, I', q⟩)
 ·have hk : (k + (its.toArray.size : Int)).toNat = j := by
   rw [seqIndex_neg (by omega) h3] at h1
   rw [List.size_toArray, ← hl]
   exact Option.some.inj h1
  exact PySem.W.ki_setBack ho (by omega) (by rw [List.size_toArray, ← hl]; exact h3) (by omega) (by rw [hk]; exact ⟨_, I', q⟩)
theorem slice_bounds (lo hi : Option Int) (n : Nat) : (sliceBounds lo hi none n).1 = ((HT.sIx n 0 lo : Nat) : Int) ∧ (sliceBounds lo hi none n).2.1 = ((HT.sIx n n hi : Nat) : Int) ∧ (sliceBounds lo hi none n).2.2 = 1 := by
 refine ⟨?_, ?_, rfl⟩
 ·cases lo with
  | none => simp [sliceBounds, HT.sIx]
  | some i =>
   simp only [sliceBounds, HT.sIx, Option.getD_none, show (1 : Int) > 0 by decide, if_true]
   by_cases h : i < 0
   ·simp only [h, if_true] <;> omega
   ·simp only [h, if_false] <;> omega
 ·cases hi with
  | none => simp [sliceBounds, HT.sIx]
  | some i =>
   simp only [sliceBounds, HT.sIx, Option.getD_none, show (1 : Int) > 0 by decide, if_true]
   by_cases h : i < 0
   ·simp only [h, if_true] <;> omega
   ·simp only [h, if_false] <;> omega
theorem slicePick_cut (its : List Value) (lo hi : Option Int) : slicePick its.toArray lo hi none = ((its.drop (HT.sIx its.length 0 lo)).take (HT.sIx its.length its.length hi - HT.sIx its.length 0 lo)).toArray := by
 obtain ⟨h1, h2, h3⟩ := slice_bounds lo hi its.toArray.size
 unfold slicePick
 rw [h1, h2, h3]
 simp only [sliceRange_one, pick_run, List.size_toArray] <;> rfl
def rSlL (K : PySem.W.Frag) : V → Option Int → Option Int → Hp → VK → Prop := fun x lo hi H Q => ∃ a xs, x = .ref a ∧ SqL K H a xs ∧ ∀ p, H p = none → Q (.ref p) (upd H p (.lst (cutV xs lo hi)))
theorem sl_list : SlR X (rSlL X.K) := by
 intro pins s σ H x v vl vu lo hi sl Q I rx hs pl pu h
 obtain ⟨a, xs, rfl, hx, q⟩ := h
 cases rx
 obtain ⟨its, r, ht, hz⟩ := I.list hx
 have hlen := r.length
 refine ⟨"list", _, slot_list_getitem.lookup, ht.isList.typeIs, ?_⟩
 refine wpAny_getItem_list_slice ht.isList hs pl pu .none (by simp) ?_ (by rw [List.size_toArray] <;> omega)
 rw [slicePick_cut, ← hlen]
 refine ⟨.ref s.heap.objs.size, _, I.laid (t' := s.toks) (o := .lst (cutV xs lo hi)) (fun b ob q => Heap.get?_push_of_some _ q) (Nat.le_refl _) ?_, rfl, q _ (I.hok.fresh (Nat.le_refl _))⟩
 exact ⟨Nat.le_trans (cutV_length xs lo hi) hz, _, 0, (r.drop (HT.sIx xs.length 0 lo)).take (HT.sIx xs.length xs.length hi - HT.sIx xs.length 0 lo), Heap.get?_push_size _ rfl⟩
def flatV : V → Bool
 | .non => true
 | .bl _ => true
 | .int _ => true
 | .str _ => true
 | _ => false
def eqV : V → V → Bool
 | .non, .non => true
 | .bl a, .bl b => a == b
 | .bl a, .int b => (if a then 1 else 0) == b
 | .int a, .bl b => a == (if b then 1 else 0)
 | .int a, .int b => a == b
 | .str a, .str b => a == b
 | _, _ => false
theorem eqAt_V {A : Around} {s : Shared} {y x : V} {u v : Value} (ry : RelV y u) (rx : RelV x v) (fy : flatV y = true) (fx : flatV x = true) : SeqAt.EqAt A s u v (eqV y x) := by
 cases y with
 | non =>
  cases ry
  cases x with
  | non => cases rx; exact SeqAt.EqAt.same _
  | bl b => cases rx; exact SeqAt.EqAt.none_bool b
  | int b => obtain ⟨t, rfl⟩ := rx; exact SeqAt.EqAt.none_int b t
  | str b => obtain ⟨t, rfl⟩ := rx; exact SeqAt.EqAt.none_str b t
  | _ => exact absurd (show false = true from fx) Bool.false_ne_true
 | bl a =>
  cases ry
  cases x with
  | non => cases rx; exact SeqAt.EqAt.bool_none a
  | bl b => cases rx; exact SeqAt.EqAt.bool_bool a b
  | int b => obtain ⟨t, rfl⟩ := rx; exact SeqAt.EqAt.bool_int a b t
  | str b => obtain ⟨t, rfl⟩ := rx; exact SeqAt.EqAt.bool_str a b t
  | _ => exact absurd (show false = true from fx) Bool.false_ne_true
 | int a =>
  obtain ⟨t', rfl⟩ := ry
  cases x with
  | non => cases rx; exact SeqAt.EqAt.int_none a t'
  | bl b => cases rx; exact SeqAt.EqAt.int_bool a t' b
  | int b => obtain ⟨t, rfl⟩ := rx; exact SeqAt.EqAt.int_int a t' b t
  | str b => obtain ⟨t, rfl⟩ := rx; exact SeqAt.EqAt.int_str a t' b t
  | _ => exact absurd (show false = true from fx) Bool.false_ne_true
 | str a =>
  obtain ⟨t', rfl⟩ := ry
  cases x with
  | non => cases rx; exact SeqAt.EqAt.str_none a t'
  | bl b => cases rx; exact SeqAt.EqAt.str_bool a t' b
  | int b => obtain ⟨t, rfl⟩ := rx; exact SeqAt.EqAt.str_int a t' b t
  | str b => obtain ⟨t, rfl⟩ := rx; exact SeqAt.EqAt.str_str a t' b t
  | _ => exact absurd (show false = true from fx) Bool.false_ne_true
 | _ => exact absurd (show false = true from fy) Bool.false_ne_true
def eqU (x : V) (u : Value) : Bool := match u with
 | .none => eqV .non x
 | .bool b => eqV (.bl b) x
 | .int i _ => eqV (.int i) x
 | .str z _ => eqV (.str z) x
 | _ => false
theorem eqU_of {x y : V} {u : Value} (r : RelV y u) (f : flatV y = true) : eqU x u = eqV y x := by
 cases y with
 | non => cases r; rfl
 | bl b => cases r; rfl
 | int i => obtain ⟨t, rfl⟩ := r; rfl
 | str z => obtain ⟨t, rfl⟩ := r; rfl
 | _ => exact absurd (show false = true from f) Bool.false_ne_true
theorem mem_eqAt {A : Around} {s : Shared} {x : V} {v : Value} (rx : RelV x v) (fx : flatV x = true) : ∀ {xs : List V} {us : List Value}, Vals xs us → xs.all flatV = true → ∀ u ∈ us, SeqAt.EqAt A s u v (eqU x u)
 | _, _, .nil, _ => fun u hu => by cases hu
 | y :: xs, u :: us, .cons r t, f => fun u' hu => by
  rw [List.all_cons, Bool.and_eq_true] at f
  rcases List.mem_cons.mp hu with rfl | hu
  ·rw [eqU_of r f.1]; exact eqAt_V r rx f.1 fx
  ·exact mem_eqAt rx fx t f.2 u' hu
theorem call_len_seq : CallR X (.builtin "len") (fun xs H Q => ∃ p ys, xs = [.ref p] ∧ (SqL X.K H p ys ∨ SqT X.K H p ys) ∧ Q (.int ys.length) H) := by
 intro pins s σ H xs us Q I r h
 obtain ⟨p, ys, rfl, hq, q⟩ := h
 obtain ⟨u, rfl, rx⟩ := vals1 r
 cases rx
 have hn := line63
 rcases hq with hq | hq
 ·obtain ⟨its, r', pl, hz⟩ := I.list hq
  have hlen := r'.length
  exact Calls.call_len_list pl.isList (by simp only [List.size_toArray] <;> omega) ⟨.int ys.length, H, I.tok _, ⟨s.toks + 1, by rw [List.size_toArray, hlen]⟩, q⟩
 ·obtain ⟨its, r', pl, hz⟩ := I.tuple hq
  have hlen := r'.length
  exact len_tuple pl (by simp only [List.size_toArray] <;> omega) ⟨.int ys.length, H, I.tok _, ⟨s.toks + 1, by rw [List.size_toArray, hlen]⟩, q⟩
theorem call_list_of : CallR X (.type "list") (fun xs H Q => ∃ p ys, xs = [.ref p] ∧ (SqL X.K H p ys ∨ SqT X.K H p ys) ∧ ∀ l, H l = none → Q (.ref l) (upd H l (.lst ys))) := by
 intro pins s σ H xs us Q I r h
 obtain ⟨p, ys, rfl, hq, q⟩ := h
 obtain ⟨u, rfl, rx⟩ := vals1 r
 cases rx
 have fin : ∀ (its : List Value), Vals ys its → ys.length ≤ sizeLine → ∀ (h' : Heap) (c' : Nat), (∀ b o', s.heap.get? b = some o' → h'.get? b = some o') →
   h'.get? s.heap.objs.size = some { cls := .type "list", dict := none, data := .seq its.toArray c', slots := #[] } → EP X pins σ Q (.ref s.heap.objs.size) { s with heap := h' } := fun its r' hz h' c' kp e =>
  ⟨.ref s.heap.objs.size, _, I.laid (t' := s.toks) kp (Nat.le_refl _) (show ObjOk X.prog X.w _ h' _ (.lst ys) from ⟨hz, its, c', r', e⟩), rfl, q _ (I.hok.fresh (Nat.le_refl _))⟩
 rcases hq with hq | hq
 ·obtain ⟨its, r', pl, hz⟩ := I.list hq
  have hlen := r'.length
  obtain ⟨o, ho, hc, n, hd⟩ := pl.isList
  exact call_list_seq p (.inl rfl) ho hc hd (fun h' c' kp e => fin its r' hz h' c' kp e) (by simp only [List.size_toArray] <;> omega)
 ·obtain ⟨its, r', pl, hz⟩ := I.tuple hq
  have hlen := r'.length
  obtain ⟨o, ho, hc, n, hd⟩ := pl
  exact call_list_seq p (.inr rfl) ho hc hd (fun h' c' kp e => fin its r' hz h' c' kp e) (by simp only [List.size_toArray] <;> omega)
theorem call_tuple_of : CallR X (.type "tuple") (fun xs H Q => ∃ p ys, xs = [.ref p] ∧ ((SqL X.K H p ys ∧ ∀ l, H l = none → Q (.ref l) (upd H l (.tup ys))) ∨ (SqT X.K H p ys ∧ Q (.ref p) H))) := by
 intro pins s σ H xs us Q I r h
 obtain ⟨p, ys, rfl, h⟩ := h
 obtain ⟨u, rfl, rx⟩ := vals1 r
 cases rx
 rcases h with ⟨hq, q⟩ | ⟨hq, q⟩
 ·obtain ⟨its, r', pl, hz⟩ := I.list hq
  have hlen := r'.length
  refine call_tuple_list pl.isList (fun h' kp => ?_) (by simp only [List.size_toArray] <;> omega)
  have I1 : Inv X pins σ H { s with heap := h' } := I.kept (t' := s.toks) kp
  have I2 : Inv X pins σ (upd H h'.objs.size (.tup ys)) { s with heap := h'.push { cls := .type "tuple", data := .seq its.toArray } } :=
   I1.laid (t' := s.toks) (fun b o e => Heap.get?_push_of_some _ e) (Nat.le_refl _) (show ObjOk X.prog X.w _ _ _ (.tup ys) from ⟨hz, its, r', IsTup.new _ _⟩)
  exact ⟨.ref h'.objs.size, _, I2, rfl, q _ (I1.hok.fresh (Nat.le_refl _))⟩
 ·obtain ⟨its, r', pl, hz⟩ := I.tuple hq
  exact call_tuple_same pl ⟨.ref p, H, I, rfl, q⟩
def tyV (K : PySem.W.Frag) (T : String) (x : V) (H : Hp) : Prop := match x with
 | .str _ => T = "str"
 | .int _ => T = "int"
 | .ref p => (T = "list" ∧ ∃ xs, SqL K H p xs) ∨ (T = "tuple" ∧ ∃ o, K.lookup p = some o ∧ o.cls = .type "tuple" ∧ o.dict = none) ∨
   (T = "dict" ∧ ((∃ kvs, H p = some (.dK kvs)) ∨ ∃ kvs, H p = some (.dT kvs))) ∨ (T = "set" ∧ ∃ S n, H p = some (.set S n))
 | _ => False
theorem tyV_is {pins : List (Addr × Obj)} {σ : St} {H : Hp} {s : Shared} {T : String} {x : V} {v : Value} (I : Inv X pins σ H s) (r : RelV x v) (ty : tyV X.K T x H) :
  s.TypeIs v T ∧ ∀ a, v = .ref a → ∃ ob, s.heap.get? a = some ob ∧ ob.dict = none := by
 cases x with
 | str z =>
  obtain ⟨t, rfl⟩ := r
  cases (show T = "str" from ty)
  exact ⟨typeIs_str s z t, fun _ e => nomatch e⟩
 | int i =>
  obtain ⟨t, rfl⟩ := r
  cases (show T = "int" from ty)
  exact ⟨typeIs_int s i t, fun _ e => nomatch e⟩
 | ref p =>
  cases r
  rcases ty with ⟨rfl, xs, hq⟩ | ⟨rfl, o, hk, hc, hd⟩ | ⟨rfl, hk⟩ | ⟨rfl, S, n, hk⟩
  ·obtain ⟨its, _, pl, _⟩ := I.list hq
   refine ⟨pl.isList.typeIs, fun a e => ?_⟩
   cases e
   obtain ⟨o, n, e, c, hd, _⟩ := pl
   exact ⟨o, e, hd⟩
  ·refine ⟨⟨o, I.kIn p o hk, hc⟩, fun a e => ?_⟩
   cases e
   exact ⟨o, I.kIn _ o hk, hd⟩
  ·have z : ∃ o, s.heap.get? p = some o ∧ o.ExactDict := by
    rcases hk with ⟨kvs, hk⟩ | ⟨kvs, hk⟩
    ·obtain ⟨_, _, _, _, o, _, _, e, ex, _⟩ := I.hok p _ hk
     exact ⟨o, e, ex⟩
    ·obtain ⟨_, _, _, _, o, _, _, e, ex, _⟩ := I.hok p _ hk
     exact ⟨o, e, ex⟩
   obtain ⟨o, e, ex⟩ := z
   refine ⟨⟨o, e, ex.1⟩, fun a e2 => ?_⟩
   cases e2
   exact ⟨o, e, ex.2.1⟩
  ·obtain ⟨o, _, _, _, e, ex, _⟩ := I.hok p _ hk
   refine ⟨⟨o, e, ex.1⟩, fun a e2 => ?_⟩
   cases e2
   exact ⟨o, e, ex.2.1⟩
 | _ => exact False.elim ty
def tBM (K : PySem.W.Frag) (T : String) (r : V → List V → Hp → VK → Prop) (to : TE) (t : TA) : TE := fun σ H Q => to σ H fun x H1 => tyV K T x H1 ∧ t σ H1 fun xs H2 => r x xs H2 Q
variable {o e : Expr} {es : List Expr} {to : TE} {t : TA} {name : Str} {apos cpos : Pos} {T id : String} {r : V → List V → Hp → VK → Prop}
theorem pe_bm (pa : PlainAttrs T) (slot : Slot T name id) (hty : typeOf (.builtin id) = pure (.type "method_descriptor")) (hm : MtR X id r) (ho : PE X o to) (ha : PA X (e :: es) t)
  (hbase : attributeBase o name X.env (eval o X.env) = eval o X.env := by rfl)
  (hfew : ((backTo cpos (starEach (e :: es) X.env)).all (fun x => !x.1) && (backToKw cpos (keywordEach [] X.env)).all (fun x => x.1.isSome)
   && decide ((e :: es).length + ([] : List Keyword).length + (if ([] : List Keyword).isEmpty then 0 else 1) < 30)) = true := by rfl)
  (hline : (apos.endLine == cpos.line) = true := by rfl) (hs : starEach (e :: es) X.env = (false, eval e X.env) :: starEach es X.env := by rfl) (hplain : (backTo cpos (starEach es X.env)).any (·.1) = false := by rfl) :
  PE X (.Call (.Attribute o name apos) (e :: es) [] cpos) (tBM X.K T r to t) := by
 intro pins s σ H Q I h
 refine wpAny_Call_method_late hbase hfew hline rfl (thn (ho pins s σ H _ I h) fun v s1 ⟨x, H1, I1, r1, ty, q1⟩ => ?_)
 obtain ⟨h1, h2⟩ := tyV_is I1 r1 ty
 refine ⟨T, id, pa, slot, hty, h1, h2, ?_⟩
 have hA := ha cpos pins s1 σ H1 _ I1 q1
 rw [hs] at hA ⊢
 refine Calls.callWith_builtin (by show (false || (backTo cpos (starEach es X.env)).any (·.1)) = false; rw [hplain] <;> rfl) (Calls.evalArgs_plain ?_)
 exact thn hA fun us s2 ⟨vs, H2, I2, r2, q2⟩ => hm pins s2 σ H2 x vs v us Q I2 r1 r2 q2
end
end L2
namespace L2
open PySem PySem.Spec PyProof.Rows
def MtM (X : Cx) (id : String) (r : V → List V → Hp → VK → Prop) : Prop :=
 ∀ (pins : List (Addr × Obj)) (s : Shared) (σ : St) (H : Hp) (x : V) (xs : List V) (v : Value) (us : List Value) (Q : VK), Inv X pins σ H s → RelV x v → Vals xs us → r x xs H Q →
  wpAny (model X.prog X.w) X.A (call (.builtin id) (v :: us)) (EP X pins σ Q) X.xe s
theorem Vals.one : ∀ {x : V} {us : List Value}, Vals [x] us → ∃ u, us = [u] ∧ RelV x u
 | _, _, .cons r .nil => ⟨_, rfl, r⟩
theorem Vals.rep {xs : List V} {us : List Value} (h : Vals xs us) : ∀ k : Nat, Vals (List.replicate k xs).flatten (List.replicate k us).flatten
 | 0 => .nil
 | k + 1 => by
  rw [List.replicate_succ, List.replicate_succ, List.flatten_cons, List.flatten_cons]
  exact Vals.append h (Vals.rep h k)
theorem foldl_rep (its : List Value) : ∀ (k : Nat) (acc : List Value),
  List.foldl (fun x1 x2 => x1 ++ x2) acc.toArray (List.replicate k its.toArray) = (acc ++ (List.replicate k its).flatten).toArray
 | 0, acc => by simp
 | k + 1, acc => by
  have e : acc.toArray ++ its.toArray = (acc ++ its).toArray := by simp
  have e2 : (acc ++ its) ++ (List.replicate k its).flatten = acc ++ (List.replicate (k + 1) its).flatten := by
   rw [List.replicate_succ, List.flatten_cons, List.append_assoc]
  rw [← e2, ← foldl_rep its k (acc ++ its), ← e, List.replicate_succ, List.foldl_cons]
section
variable {X : Cx} {pins : List (Addr × Obj)} {σ : St} {H : Hp} {s : Shared} {l b : Addr} {xs ys zs : List V}
theorem Inv.lset {its its' : List Value} {n : Nat} {f : Array Value → Array Value} {t' : Nat} (I : Inv X pins σ H s) (hH : H l = some (.lst xs))
  (e : s.heap.get? l = some { cls := .type "list", data := .seq its.toArray n }) (hf : f its.toArray = its'.toArray) (hv : Vals ys its') (hz : ys.length ≤ sizeLine) :
  Inv X pins σ (upd H l (.lst ys)) { s with heap := s.heap.update l (Obj.mapSeq f), toks := t' } := by
 have q := PySem.IsL.update e f
 rw [hf] at q
 refine I.write (x := l) (e := l) (by rw [hH]; exact trivial) (.inl rfl) (fun b' u hb hu => (Heap.get?_update_other s.heap (Obj.mapSeq f) (Ne.symm hb)).trans hu) ⟨_, q⟩ ?_
 exact ⟨hz, its', _, hv, q⟩
theorem Inv.lnew {its : List Value} {t' : Nat} (I : Inv X pins σ H s) (hv : Vals ys its) (hz : ys.length ≤ sizeLine) :
  Inv X pins σ (upd H s.heap.objs.size (.lst ys)) { s with heap := s.heap.push { cls := .type "list", data := .seq its.toArray }, toks := t' } :=
 I.laid (fun _ _ q => Heap.get?_push_of_some _ q) (Nat.le_refl _) ⟨hz, its, 0, hv, Heap.get?_push_size _ rfl⟩
theorem Inv.fresh (I : Inv X pins σ H s) : H s.heap.objs.size = none := I.hok.fresh (Nat.le_refl _)
theorem Inv.lstM (I : Inv X pins σ H s) (hH : H l = some (.lst xs)) : xs.length ≤ sizeLine ∧ ∃ (its : List Value) (n : Nat), Vals xs its ∧ xs.length = its.length ∧ s.heap.get? l = some { cls := .type "list", data := .seq its.toArray n } := by
 obtain ⟨z, its, n, r, e⟩ := I.hok l _ hH
 exact ⟨z, its, n, r, r.length, e⟩
theorem notLongL {n : Nat} (h : n ≤ sizeLine) : Builtin.List.listTooLong n = false := by
 unfold Builtin.List.listTooLong
 exact decide_eq_false (by omega)
end
section
variable {X : Cx}
def rAppend : V → List V → Hp → VK → Prop := fun x vs H Q => ∃ l xs y, x = .ref l ∧ vs = [y] ∧ H l = some (.lst xs) ∧ xs.length < sizeLine ∧ Q .non (upd H l (.lst (xs ++ [y])))
theorem mt_append : MtM X "list.append" rAppend := by
 intro pins s σ H x vs v us Q I rx rv h
 obtain ⟨l, xs, y, rfl, rfl, hH, hz, q⟩ := h
 cases rx
 obtain ⟨u, rfl, ru⟩ := rv.one
 obtain ⟨z, its, n, r, hl, e⟩ := I.lstM hH
 refine call_meets F.slot_list_append ⟨_, e, rfl⟩ F.entry_list_append (F.args_list_append_2 _ _) (PySem.list_append l its.toArray n u (by rw [List.size_toArray]; omega)) ⟨e, ?_⟩
 refine ⟨.non, _, I.lset (its' := its ++ [u]) hH e (by simp) (r.append (.cons ru .nil)) ?_, rfl, q⟩
 rw [List.length_append, List.length_singleton]
 omega
def rExtend : V → List V → Hp → VK → Prop := fun x vs H Q => ∃ l b xs zs, x = .ref l ∧ vs = [.ref b] ∧ H l = some (.lst xs) ∧ H b = some (.lst zs) ∧ xs.length + zs.length ≤ sizeLine ∧ Q .non (upd H l (.lst (xs ++ zs)))
theorem mt_extend : MtM X "list.extend" rExtend := by
 intro pins s σ H x vs v us Q I rx rv h
 obtain ⟨l, b, xs, zs, rfl, rfl, hH, hB, hz, q⟩ := h
 cases rx
 obtain ⟨u, rfl, ru⟩ := rv.one
 cases ru
 obtain ⟨z, its, n, r, hl, e⟩ := I.lstM hH
 obtain ⟨z2, its2, n2, r2, hl2, e2⟩ := I.lstM hB
 have hsz : its.toArray.size + its2.toArray.size ≤ sizeLine := by rw [List.size_toArray, List.size_toArray]; omega
 have hlong : ¬ (!its.toArray.isEmpty && Builtin.List.listTooLong (its.toArray.size + its2.toArray.size)) = true := by
  rw [notLongL hsz, Bool.and_false]
  exact Bool.false_ne_true
 refine call_meets F.slot_list_extend ⟨_, e, rfl⟩ F.entry_list_extend (F.args_list_extend_2 _ _)
  (AutoSeq1.list_extend_list_list_0 l its.toArray n b its2.toArray n2 hlong (by rw [List.size_toArray]; omega) (by omega)) ⟨e, e2, ?_⟩
 refine ⟨.non, _, I.lset (its' := its ++ its2) hH e (by simp) (r.append r2) ?_, rfl, q⟩
 rw [List.length_append]
 omega
def rCat : R2 := fun x y H Q => ∃ l b xs zs, x = .ref l ∧ y = .ref b ∧ H l = some (.lst xs) ∧ H b = some (.lst zs) ∧ xs.length + zs.length ≤ sizeLine ∧ ∀ p, H p = none → Q (.ref p) (upd H p (.lst (xs ++ zs)))
theorem op_cat : OpR X (binaryOp .Add) rCat := by
 intro pins s σ H x y v u Q I rx ry h
 obtain ⟨l, b, xs, zs, rfl, rfl, hH, hB, hz, q⟩ := h
 cases rx
 cases ry
 obtain ⟨z, its, n, r, hl, e⟩ := I.lstM hH
 obtain ⟨z2, its2, n2, r2, hl2, e2⟩ := I.lstM hB
 refine PySem.P.add_list e e2 ?_ (by rw [List.size_toArray, List.size_toArray]; omega)
 have ea : its.toArray ++ its2.toArray = (its ++ its2).toArray := by simp
 rw [ea]
 exact ⟨.ref _, _, I.lnew (t' := s.toks) (r.append r2) (by rw [List.length_append]; omega), rfl, q _ I.fresh⟩
def rRep : R2 := fun x y H Q => ∃ l k xs, x = .ref l ∧ y = .int k ∧ H l = some (.lst xs) ∧ -(2 ^ 63) ≤ k ∧ k < 2 ^ 63 ∧ xs.length * k.toNat ≤ sizeLine ∧
 ∀ p, H p = none → Q (.ref p) (upd H p (.lst (List.replicate k.toNat xs).flatten))
theorem len_rep {α : Type} (xs : List α) (k : Nat) : (List.replicate k xs).flatten.length = k * xs.length := by
 induction k with
 | zero => simp
 | succ k ih => rw [List.replicate_succ, List.flatten_cons, List.length_append, ih, Nat.succ_mul, Nat.add_comm]
theorem op_rep : OpR X (binaryOp .Mult) rRep := by
 intro pins s σ H x y v u Q I rx ry h
 obtain ⟨l, k, xs, rfl, rfl, hH, h1, h2, hz, q⟩ := h
 cases rx
 obtain ⟨t, rfl⟩ := ry
 obtain ⟨z, its, n, r, hl, e⟩ := I.lstM hH
 have hlen : its.toArray.size * k.toNat ≤ sizeLine := by rw [List.size_toArray, ← hl]; exact hz
 have hcap : ¬ its.toArray.size * k.toNat > (2 ^ 63 - 1) / 8 := by
  have : (sizeLine : Nat) ≤ (2 ^ 63 - 1) / 8 := by decide
  omega
 have hfit : ¬ (!Builtin.List.listFitsIndex k) = true := by
  rw [fitsIndex_both h1 h2]
  exact Bool.false_ne_true
 have hlong : ¬ Builtin.List.listTooLong (its.toArray.size * k.toNat) = true := by
  rw [notLongL hlen]
  exact Bool.false_ne_true
 have hnew : List.foldl (fun x1 x2 => x1 ++ x2) #[] (List.replicate (if its.toArray.isEmpty = true then 0 else k.toNat) its.toArray) = (List.replicate k.toNat its).flatten.toArray := by
  have f0 : ∀ m : Nat, List.foldl (fun x1 x2 => x1 ++ x2) #[] (List.replicate m its.toArray) = (List.replicate m its).flatten.toArray := fun m => by
   have := foldl_rep its m []
   rw [List.nil_append] at this
   exact this
  rw [f0]
  cases its with
  | nil => simp
  | cons a r' => rw [if_neg (by simp)]
 refine wpAny_binaryOp_repeat_ref (T := "list") (U := "int") (by decide) ⟨_, e, rfl⟩ (fun s' => typeIs_int s' k t) noFill_list_mul F.fills_int_mul F.slot_int_rmul repeat_list F.slot_int_index.lookup
  (call_meets F.slot_int_rmul (typeIs_int s k t) F.entry_int_rmul (F.args_int_rmul_2 _ _) (int___rmul___int_list k t l its.toArray n)
   ⟨e, rfl, ⟨_, e, rfl⟩, call_meets F.slot_list_mul ⟨_, e, rfl⟩ F.entry_list_mul (F.args_list_mul_2 _ _) (AutoListH.list___mul___list_int_3 l its.toArray n k t hfit hcap hlong) ⟨e, ?_⟩⟩)
 rw [hnew]
 exact ⟨.ref _, _, I.lnew (t' := s.toks) (r.rep k.toNat) (by rw [len_rep, Nat.mul_comm]; exact hz), rfl, q _ I.fresh⟩
end
section
variable {prog : Program} {w : World} {A : Around} {E : Value → Shared → Prop} {s : Shared}
theorem splice_eq (its its2 : List Value) (a c : Nat) : its.toArray.extract 0 a ++ its2.toArray ++ its.toArray.extract c its.toArray.size = (its.take a ++ its2 ++ its.drop c).toArray := by
  apply Array.toList_inj.mp
  first
    | (simp
       exact List.take_of_length_le (by simp))
    | simp [List.take_of_length_le]
    | simp
theorem bounds_run {a c n : Nat} (hac : a ≤ c) (hc : c ≤ n) : sliceBounds (some (a : Int)) (some (c : Int)) none n = ((a : Int), (c : Int), 1) := by
 simp only [sliceBounds, Option.getD_none]
 have h1 : ¬ ((a : Int) < 0) := by omega
 have h2 : ¬ ((c : Int) < 0) := by omega
 simp only [h1, h2, if_false, show (1 : Int) > 0 by decide, if_true]
 congr 1
 ·omega
 ·congr 1; omega
set_option maxRecDepth 100000 in
theorem setItem_slice {l b sl : Addr} {items new : Array Value} {n n2 : Nat} {vl vu : Value} {a c : Nat} {Q : Unit → Shared → Prop}
    (e : s.heap.get? l = some { cls := .type "list", data := .seq items n }) (e2 : s.heap.get? b = some { cls := .type "list", data := .seq new n2 }) (hne : l ≠ b)
    (hs : s.heap.IsSliceOf sl vl vu .none) (pl : IsPart vl (some (a : Int))) (pu : IsPart vu (some (c : Int))) (hac : a ≤ c) (hc : c ≤ items.size)
    (hsz : items.size + new.size ≤ sizeLine) (h : Q () { s with heap := s.heap.update l (Obj.mapSeq fun xs => xs.extract 0 a ++ new ++ xs.extract c xs.size) }) :
    wpAny (model prog w) A (setItem (.ref l) (.ref sl) (.ref b)) Q E s := by
  have hl : s.heap.IsList l items := PySem.IsL.isList e
  have hb : s.heap.IsList b new := PySem.IsL.isList e2
  obtain ⟨os, hos, hcs, hds⟩ := id hs
  have hTs : s.TypeIs (.ref sl) "slice" := ⟨os, hos, hcs⟩
  have hstep : ¬ ((rawPart none == rawInt 0) = true) := Bool.false_ne_true
  have hsame : Builtin.List.listSameRef (.ref l) (.ref b) = false := by
    unfold Builtin.List.listSameRef
    exact beq_eq_false_iff_ne.mpr hne
  have hmax : (max (a : Int) (c : Int)).toNat = c := by omega
  have hz' : ((fun xs : Array Value => xs.extract 0 a ++ new ++ xs.extract c xs.size) items).size ≤ sizeLine + 1 := by
    simp only [Array.size_append, Array.size_extract]
    omega
  unfold setItem
  try with_reducible refine wpAny_holding ?_
  first | refine wpAny_bind (wpAny_pure ?_) | skip
  refine wpAny_bind (wpAny_sequenceKey hl.typeIs (by decide) ?_)
  refine wpAny_bind (wpAny_callSpecial?_slot (name := Str.ofString "__setitem__") hl.typeIs slot_list_setitem
    (wpAny_call_entry slot_list_setitem hl.typeIs entry_list_setitem ?_ (args_list_setitem _ _ _)))
  show wpAny _ _ (Builtin.List.listSubscript? (.ref sl) >>= _) _ _ s
  refine wpAny_bind ?_
  unfold Builtin.List.listSubscript?
  refine wpAny_bind (wpAny_specialOf hTs slice_no_index ?_)
  simp only [Option.isNone_none, if_true]
  refine wpAny_pure ?_
  show wpAny _ _ (typeOf (.ref sl) >>= _) _ _ s
  refine wpAny_bind (wpAny_typeOf hTs ?_)
  first
    | rw [if_neg (by decide)]
    | refine PySem.W.KFB.if_not (by decide) ?_
  rw [listSliceParts_eq]
  refine wpAny_bind (wpAny_bind (wpAny_field hos hds (x := .none) rfl (wpAny_bind (wpAny_listPart .none ?_))))
  rw [if_neg hstep]
  refine wpAny_bind (wpAny_field hos hds (x := vl) rfl (wpAny_bind (wpAny_listPart pl ?_)))
  refine wpAny_bind (wpAny_field hos hds (x := vu) rfl (wpAny_bind (wpAny_listPart pu (wpAny_pure ?_))))
  first
    | simp only [hsame, Bool.false_eq_true, if_false]
    | refine PySem.W.KFB.if_not hsame ?_
    | (dsimp only
       rw [if_neg (by rw [hsame]; exact Bool.false_ne_true)])
  refine wpAny_bind (m := Builtin.List.listAllItems (.ref b) "must assign iterable to extended slice") ?_
  unfold Builtin.List.listAllItems
  refine wpAny_bind (wpAny_typeOf hb.typeIs ?_)
  first
    | refine PySem.W.KFB.if_so (by decide) ?_
    | rw [if_pos (by decide)]
    | simp only [beq_self_eq_true, Bool.true_or, if_true]
  unfold Builtin.List.listItems
  refine wpAny_bind (wpAny_seqItems e2 rfl (wpAny_pure ?_))
  refine wpAny_bind (wpAny_bind (wpAny_seqItems e rfl (wpAny_pure ?_)))
  refine wpAny_bind (wpAny_of_eq ((sliceIndices_raw (some (a : Int)) (some (c : Int)) none items.size (by simp)).trans (congrArg (pure : Int × Int × Int → Sem (Int × Int × Int)) (bounds_run hac hc))) ?_)
  show wpAny _ _ (if ((1 : Int) == 1) = true then _ else _) _ _ s
  rw [if_pos (by decide)]
  refine wpAny_bind (wpAny_rule ?_)
  first
    | simp only [notLongL hsz, Bool.false_eq_true, if_false]
    | refine PySem.W.KFB.if_not (notLongL hsz) ?_
  first | refine wpAny_bind (wpAny_pure ?_) | skip
  show wpAny _ _ (updateSeq l (fun xs => xs.extract 0 ((a : Int)).toNat ++ new ++ xs.extract (max (a : Int) (c : Int)).toNat xs.size) >>= _) _ _ s
  rw [hmax, Int.toNat_natCast]
  refine wpAny_bind (wpAny_updateSeq (hz := Nat.le_trans (Nat.le_add_right _ _) hsz) (_hz' := hz') e rfl ?_)
  refine wpAny_bind (wpAny_letGo ?_)
  first
    | exact wpAny_bind (wpAny_pure (wpAny_pure ⟨.none, rfl, wpAny_pure h⟩))
    | exact wpAny_pure ⟨.none, rfl, wpAny_pure h⟩
end
section
variable {X : Cx}
theorem set_slice {pins : List (Addr × Obj)} {s : Shared} {σ : St} {H : Hp} {l b sl : Addr} {xs ys : List V} {a c : Int} {vl vu : Value} {Q : Unit → Shared → Prop} (I : Inv X pins σ H s)
  (hH : H l = some (.lst xs)) (hB : H b = some (.lst ys)) (hne : l ≠ b) (hs : s.heap.IsSliceOf sl vl vu .none) (ra : RelV (.int a) vl) (rc : RelV (.int c) vu) (h0 : 0 ≤ a) (hac : a ≤ c) (hc : c ≤ xs.length)
  (hz : xs.length + ys.length ≤ sizeLine) (h : ∀ s', Inv X pins σ (upd H l (.lst (xs.take a.toNat ++ ys ++ xs.drop c.toNat))) s' → Q () s') :
  wpAny (model X.prog X.w) X.A (setItem (.ref l) (.ref sl) (.ref b)) Q X.xe s := by
 obtain ⟨ta, rfl⟩ := ra
 obtain ⟨tc, rfl⟩ := rc
 obtain ⟨z, its, n, r, hl, e⟩ := I.lstM hH
 obtain ⟨z2, its2, n2, r2, hl2, e2⟩ := I.lstM hB
 obtain ⟨a', rfl⟩ := Int.eq_ofNat_of_zero_le h0
 obtain ⟨c', rfl⟩ := Int.eq_ofNat_of_zero_le (Int.le_trans h0 hac)
 simp only [Int.toNat_natCast] at h
 refine setItem_slice (a := a') (c := c') e e2 hne hs (.int _ _) (.int _ _) (by omega) (by rw [List.size_toArray]; omega) (by rw [List.size_toArray, List.size_toArray]; omega) (h _ ?_)
 refine I.lset (its' := its.take a' ++ its2 ++ its.drop c') (t' := s.toks) hH e ?_ (Vals.append (Vals.append (r.take _) r2) (r.drop _)) ?_
 ·exact splice_eq its its2 a' c'
 ·rw [List.length_append, List.length_append, List.length_take, List.length_drop]
  omega
end
end L2
namespace Att
open PySem PySem.W PySem.Calls PyProof.Rows
theorem ints_of_wellAll {P : Params} {h : Heap} : ∀ (ns : List Int) (vs : List Value), WellAll P h vs (ns.map WData.int) → IntsAre vs ns := by
 intro ns
 induction ns with
 | nil =>
  intro vs w
  rw [List.map_nil] at w
  cases w
  exact .nil
 | cons n ns ih =>
  intro vs w
  rw [List.map_cons] at w
  cases w with
  | cons a b =>
   cases a
   exact .cons _ _ (ih _ b)
theorem script_of {l : OpenLaw} {n : Nat} (hn : l.most = some n) {P : Params} {h : Heap} {args : List WData} {vals : List Value}
  (hpre : l.row.toRowW.claim.pre args = true) (hwl : WellAll P h vals args) :
  ∃ a vs ns, vals = [Value.ref a] ∧ args = [WData.list (ns.map WData.int)] ∧ h.get? a = some { cls := .type "list", data := .seq vs.toArray } ∧ IntsAre vs ns ∧ ns.length ≤ n := by
 have hsh : WShape.hasAll [] args [.list .int] = true := (pre_splitW hpre).1
 have hc : l.pre.holds [] { args := args } = true := (pre_splitW hpre).2
 obtain ⟨d, r, rfl, h1, h2⟩ := hasAllW_cons hsh
 obtain rfl := hasAllW_nil h2
 obtain ⟨xs, rfl, h3⟩ := hasW_list h1
 obtain ⟨ns, rfl⟩ := items_int h3
 have hlen : ns.length ≤ n := by
  unfold OpenLaw.pre at hc
  have h4 : (WTm.not (.lt (.lit (.int (n : Int))) (.len (.arg 0)))).holds [] { args := [.list (ns.map .int)] } = true := by
   have h4 := (holds_andW hc).1
   rw [hn] at h4
   exact h4
  have h5 := condW_of h4 (w_not (w_lt w_lit (w_len_list (w_arg rfl))))
  rw [List.length_map] at h5
  refine Nat.le_of_not_lt fun q => ?_
  have q' : (n : Int) < ((ns.length : Nat) : Int) := by omega
  first
   | (rw [decide_eq_true q'] at h5; exact absurd h5 (by decide))
   | (simp at h5; omega)
 cases hwl with
 | cons w1 w2 =>
  cases w2
  cases w1 with
  | list ho hall => exact ⟨_, _, ns, rfl, rfl, ho, ints_of_wellAll ns _ hall, hlen⟩
theorem post_true (l : OpenLaw) (args : List WData) : l.row.toRowW.claim.post args (.bool true) args = true :=
 postW_of (r := l.row.toRowW) (X := (true == true))
  (show WShape.has [] (.bool true) .bool = true by first | rfl | decide | simp [WShape.has, WShape.arms, WShape.armsAll])
  (show (WTm.eq .res (.lit (.bool true))).value [] { args := args, res := some (.bool true), after := args } = some (.bool (true == true)) from w_eq_bool (w_res rfl) w_lit) rfl
theorem attach_call {l : OpenLaw} {n : Nat} {q : Program} {loose : List Str} {XP : (Str → Option Value) → Heap → Prop} {YP : World → Heap → Prop} {d : DefRec}
  (hn : l.most = some n) (hdf : d.params.defaults = [])
  (call : ∀ (w : World) (s₀ s₁ : Shared) (mg mb : Str → Option Value) (fa : Addr) (o : Obj) (pm cd doc : Value) (a : Addr) (vs : List Value) (ns : List Int),
   Ground q loose [] XP w s₀ mg mb s₁.heap → YP w s₁.heap →
   s₁.heap.get? fa = some o → o.data = .func (docDef d.name d.params d.body d.scope pm cd doc) → s₁.heap.CodeRec cd d.name → mg d.name = some (.ref fa) →
   s₁.heap.get? a = some { cls := .type "list", data := .seq vs.toArray } → IntsAre vs ns → ns.length ≤ n → s₁.gens = #[] →
   codeAny (model l.prog w) callerA (.call (.ref fa) ⟨[.ref a], []⟩) (fun r s' => r = .ok (.ret (.bool true)) ∧ OldK s₁.heap s'.heap ∧ s'.os = s₁.os ∧ AllBare s'.gens) s₁) :
  WalkO q loose XP YP l.row.toRowW d [] (fun f vs => PySem.call f vs) := by
 intro w s₀ s₁ mg mb G Y fa o pm cd doc dV kV ho hd hcd hD hmg hg args vals as hpre hlay hrd hwl hlo
 obtain rfl : dV = .none := Dflts.none hD hdf
 obtain rfl : kV = .none := Dflts.noKw hD
 obtain ⟨a, vs, ns, rfl, rfl, hobj, hints, hlen⟩ := script_of hn hpre hwl
 refine enter_call (codeAny_mono (call w s₀ s₁ mg mb fa o pm cd doc a vs ns G Y ho (fd_plain hd) hcd hmg hobj hints hlen hg) fun r s' hq => ?_)
 obtain ⟨rfl, h2, h3, h4⟩ := hq
 exact ⟨.inl ⟨.bool true, .bool true, [], rfl, fun _ => rfl, .bool true, post_true l _, fun _ => ⟨List.Pairwise.nil, fun _ hm => (nomatch hm)⟩⟩, h2, h3, h4⟩
section
variable {prog : Program} {w : World} {A : Around} {E : Value → Shared → Prop} {s : Shared} {K : Frag}
end
end Att
namespace L2
open PySem PySem.Spec PyProof.Rows
theorem vals_ints : ∀ {vs : List Value} {ns : List Int}, IntsAre vs ns → Vals (ns.map V.int) vs
 | _, _, .nil => .nil
 | _, _, .cons n t h => .cons ⟨t, rfl⟩ (vals_ints h)
def Only (H : Hp) : Prop := ∀ b, H b = none ∨ ∃ o xs, H b = some (.frz o (.lst xs))
theorem law_call {P : Program} {w : World} {K : PySem.W.Frag} {mg mb : Str → Option Value} {CX : CXT} {k : Nat} {fa a : Addr} {fd : FuncData} {x : Str} {sp : Sp} {s₁ : Shared} {vs : List Value} {ns : List Int}
  (KX : K.In s₁.heap) (hns : s₁.heap.Ns mainGlobals mg) (hb : s₁.heap.Ns builtinsNs mb) (hbb : ∀ x : Str, x ≠ "__name__" → mb x = bootBuiltins x) (hlim : s₁.heap.NoLimit) (hg : s₁.gens = #[])
  (ha : s₁.heap.get? a = some { cls := .type "list", data := .seq vs.toArray }) (hi : IntsAre vs ns) (hl : ns.length ≤ sizeLine) (hr : Room k callerA)
  (F : ∀ base : Heap, K.In base → base.Ns mainGlobals mg → FnOk P w K mg base CX k fa fd [x] sp) (hbind : ∀ (s : Shared) (u : Value), BindsTo s fd ⟨[u], []⟩ [(x, u)])
  (hsp : ∀ H : Hp, Only H → SqL K H a (ns.map V.int) → sp [.ref a] H (fun v _ => v = .bl true) fun _ _ _ => False)
  (hCX : ∀ H e s', CX [] H s₁ (fun _ _ _ => False) e s' → False) :
  codeAny (model P w) callerA (.call (.ref fa) ⟨[.ref a], []⟩) (fun r s' => r = .ok (.ret (.bool true)) ∧ OldK s₁.heap s'.heap ∧ s'.os = s₁.os ∧ AllBare s'.gens) s₁ := by
 have rv := vals_ints hi
 have lenV := hi.length
 have core : ∀ H : Hp, Only H → SqL K H a (ns.map V.int) → HOk P w H s₁.heap → (∀ b, H b ≠ none → b = a) → (H a ≠ none → K.lookup a = none) →
   codeAny (model P w) callerA (.call (.ref fa) ⟨[.ref a], []⟩) (fun r s' => r = .ok (.ret (.bool true)) ∧ OldK s₁.heap s'.heap ∧ s'.os = s₁.os ∧ AllBare s'.gens) s₁ := by
  intro H hO hS hok hA hK
  have base_of : ∀ {b : Addr} {o : Obj}, s₁.heap.get? b = some o → H b = none → (hidT s₁.heap H).get? b = some o := fun e n => hidT_get e n
  have noA : ∀ {b : Addr} {o : Obj} {es : Array DictEntry} {ep : Nat}, s₁.heap.get? b = some o → o.data = .dict es ep → H b = none := fun {b o es ep} e d => by
   cases q : H b with
   | none => rfl
   | some u =>
    have e' : b = a := hA b (by rw [q]; simp)
    subst e'
    rw [ha] at e; cases e
    have d' : Data.seq vs.toArray _ = Data.dict es ep := d
    cases d'
  have nsK : ∀ {b : Addr} {m : Str → Option Value}, s₁.heap.Ns b m → (hidT s₁.heap H).Ns b m := fun {b m} ⟨o, es, ep, e, d, r⟩ => ⟨o, es, ep, base_of e (noA e d), d, r⟩
  have hKb : K.In (hidT s₁.heap H) := fun b o e => base_of (KX b o e) (by
   cases q : H b with
   | none => rfl
   | some u =>
    have e' : b = a := hA b (by rw [q]; simp)
    subst e'
    rw [hK (by rw [q]; simp)] at e; cases e)
  have hM : Mod K mg (hidT s₁.heap H) := ⟨hKb, nsK hns, ⟨mb, nsK hb, hbb⟩, let ⟨mc, h1, h2⟩ := hlim; ⟨mc, nsK h1, h2⟩⟩
  have e0 : Env0 P w K mg (hidT s₁.heap H) callerA [] s₁ H := ⟨rfl, hM, fun b o e => of_hidT e, Nat.le_of_eq (hidT_size _ _), trivial, fun b hb => absurd (show b ∈ ([] : List Addr) from hb) (by simp), hok, .of_eq hg, .inl rfl⟩
  refine codeAny_mono ((F _ hKb (nsK hns)).run callerA [] s₁ H ⟨[.ref a], []⟩ [.ref a] [.ref a] _ _ hr (.inr rfl) e0 (hbind s₁ (.ref a)) (.cons rfl .nil) (hsp H hO hS)) fun r s' h => ?_
  cases r with
  | error e => exact (hCX H e s' h).elim
  | ok fl =>
   cases fl with
   | next => exact False.elim h
   | brk => exact False.elim h
   | cont => exact False.elim h
   | ret u =>
    obtain ⟨v, H', os, bare, un, hok', r', q⟩ := h
    have q' : v = .bl true := q
    subst q'
    obtain rfl : u = Value.bool true := r'
    refine ⟨rfl, OldK.of_keep fun b o e => ?_, os, bare⟩
    cases q : H b with
    | none => exact un.keep b o e q (by intro z; exact absurd (show b ∈ ([] : List Addr) from z) (by simp)) (by simp)
    | some u =>
     rcases hO b with z | ⟨ob, xs, z⟩
     ·rw [q] at z; cases z
     ·have z2 := un.frzs b ob _ z
      obtain ⟨e1, _⟩ := hok b _ z
      obtain ⟨e2, _⟩ := hok' b _ z2
      rw [e] at e1; cases e1
      exact e2
 cases hk : K.lookup a with
 | some o =>
  have e := KX a o hk
  rw [ha] at e
  cases e
  refine core (fun _ => none) (fun _ => .inl rfl) (.inr ⟨_, vs.toArray, _, hk, rfl, rfl, rfl, by rw [List.size_toArray, lenV]; exact hl, by simpa using rv⟩) (fun b u z => by have z' : (none : Option HO) = some u := z; cases z') (fun b z => absurd rfl z) fun z => absurd rfl z
 | none =>
  refine core (fun b => if b = a then some (.frz { cls := .type "list", data := .seq vs.toArray } (.lst (ns.map V.int))) else none) (fun b => ?_) (.inl (.inr ⟨{ cls := .type "list", data := .seq vs.toArray }, if_pos rfl⟩)) (fun b u z => ?_) (fun b z => ?_) fun _ => hk
  ·by_cases hb : b = a
   ·exact .inr ⟨_, _, if_pos hb⟩
   ·exact .inl (if_neg hb)
  ·by_cases hb : b = a
   ·have z' := (if_pos hb).symm.trans z
    cases z'
    subst hb
    exact ⟨ha, by rw [List.length_map]; exact hl, vs, _, rv, ha⟩
   ·have z' := (if_neg hb).symm.trans z
    cases z'
  ·by_cases hb : b = a
   ·exact hb
   ·exact absurd (if_neg hb) z
end L2
namespace L2
open PySem PySem.Spec PyProof.Rows
theorem walk_of {l : PySem.W.OpenLaw} {n k : Nat} {q : Program} {loose : List Str} {XP : (Str → Option Value) → Heap → Prop} {YP : World → Heap → Prop} {d : DefRec} {K : Params → PySem.W.Frag} {CX : World → CXT} {sp : World → Sp} {x : Str}
  (hn : l.most = some n) (hn2 : n ≤ sizeLine) (hdf : d.params.defaults = []) (hr : Room k callerA)
  (hY : ∀ (w : World) (h : Heap), YP w h → (K w.params).In h)
  (F : ∀ (w : World) (mg : Str → Option Value) (fa : Addr) (h : Heap), (K w.params).In h → h.Ns mainGlobals mg → mg d.name = some (.ref fa) →
   ∃ fd : FuncData, (∀ (s : Shared) (u : Value), BindsTo s fd ⟨[u], []⟩ [(x, u)]) ∧
    ∀ base : Heap, (K w.params).In base → base.Ns mainGlobals mg → FnOk l.prog w (K w.params) mg base (CX w) k fa fd [x] (sp w))
  (hsp : ∀ (w : World) (H : Hp) (a : Addr) (ns : List Int), ns.length ≤ n → Only H → SqL (K w.params) H a (ns.map V.int) → sp w [.ref a] H (fun v _ => v = .bl true) fun _ _ _ => False)
  (hCX : ∀ (w : World) (H : Hp) (s : Shared) (e : Value) (s' : Shared), CX w [] H s (fun _ _ _ => False) e s' → False) :
  PySem.W.WalkO q loose XP YP l.row.toRowW d [] (fun f vs => PySem.call f vs) := by
 refine Att.attach_call hn hdf fun w s₀ s₁ mg mb fa o pm cd doc a vs ns G Y ho hd hcd hmg hobj hints hlen hg => ?_
 have KX := hY w _ Y
 obtain ⟨fd, hb, hF⟩ := F w mg fa _ KX G.T.g hmg
 exact law_call KX G.T.g G.T.b G.T.builtins G.T.nolimit hg hobj hints (Nat.le_trans hlen hn2) hr hF hb (fun H hO hS => hsp w H a ns hlen hO hS) fun H e s' => hCX w H s₁ e s'
end L2
namespace L2
open PySem PySem.Spec PyProof.Rows
def inClass (s : Stmt) (j : Nat) : Stmt := match s with
 | .ClassDef _ _ _ body _ _ _ _ _ _ _ => body.getD j (.Pass ⟨0, 0, 0, 0⟩)
 | _ => .Pass ⟨0, 0, 0, 0⟩
def defArgs (s : Stmt) : Arguments := match s with
 | .FunctionDef _ a _ _ _ _ _ _ _ _ => a
 | _ => { posonlyargs := [], args := [], vararg := none, kwonlyargs := [], kw_defaults := [], kwarg := none, defaults := [] }
def defBody (s : Stmt) : List Stmt := match s with
 | .FunctionDef _ _ b _ _ _ _ _ _ _ => b
 | _ => []
def defScope (s : Stmt) : Scope := match s with
 | .FunctionDef _ _ _ _ _ _ sc _ _ _ => sc
 | _ => { kind := .function, names := [], isGenerator := false, isCoroutine := false }
abbrev E0 : XK := fun _ _ _ => False
theorem pass0 {X : Cx} : Passes CX0 X E0 := fun _ _ _ _ _ _ _ h => h.elim
structure Fun (K : PySem.W.Frag) (x qual : Str) (st : Stmt) (f : Addr) (fd : FuncData) : Prop where
 ex : ∃ (oc : Value) (od : Option Addr) (kV doc pm : Value) (an : Option Addr) (cdv ct : Value) (osl : Array (Option Value)),
  fd = PySem.W.fnOf x qual (defArgs st) (defBody st) (defScope st) .none kV doc pm an cdv ct ∧ K.lookup f = some ⟨oc, od, .func fd, osl⟩ ∧ PySem.W.codeIn K cdv qual = true
 kp : PySem.W.keepIn K (.ref f) = true
section
variable {P : Program} {w : World} {K : PySem.W.Frag} {mg : Str → Option Value} {base : Heap}
theorem Fun.ok {x qual : Str} {st : Stmt} {f : Addr} {fd : FuncData} {N ps : List Str} {k : Nat} {sp : Sp} (F : Fun K x qual st f fd) (S : FnScope N ps (defScope st)) (len : ∀ vs H Q E, sp vs H Q E → vs.length = ps.length)
  (hbody : ∀ (cdv : Value) (A : Around) (outer : List Env) (s : Shared) (H : Hp) (vs : List V) (Q : VK) (E : XK), Room k (A.deeper (envOfC qual (defScope st) s.heap.objs.size f cdv)) → sp vs H Q E →
   ∃ t, PSs (cxOf CX0 P w K mg base N qual (defScope st) f cdv A outer s H E).nox (defBody st) t ∧ t { nx := fun _ H' => Q .non H', rt := Q } (start N vs) H) : FnOk P w K mg base CX0 (k + 1) f fd ps sp := by
 obtain ⟨oc, od, kV, doc, pm, an, cdv, ct, osl, rfl, lk, hcd⟩ := F.ex
 refine fn_of lk hcd S len fun A outer s H vs Q E hr _ hsp => ?_
 obtain ⟨t, h, q⟩ := hbody cdv A outer s H vs Q E hr hsp
 exact ⟨t, h.nox, q⟩
theorem Fun.binds {x qual : Str} {st : Stmt} {f : Addr} {fd : FuncData} {ps : List Str} (F : Fun K x qual st f fd)
  (h : ∀ (kV doc pm : Value) (an : Option Addr) (cdv ct : Value) (us : List Value), us.length = ps.length → bindArgs (PySem.W.fnOf x qual (defArgs st) (defBody st) (defScope st) .none kV doc pm an cdv ct) ⟨us, []⟩ = pure (ps.zip us)) : Binds K fd ps [] := by
 obtain ⟨oc, od, kV, doc, pm, an, cdv, ct, osl, rfl, lk, hcd⟩ := F.ex
 exact .all (h kV doc pm an cdv ct)
theorem fun_mk {x qual : Str} {st : Stmt} {f : Addr} {oc : Value} {od an : Option Addr} {osl : Array (Option Value)} {kV doc pm cdv ct : Value} (l : K.lookup f = some ⟨oc, od, .func (PySem.W.fnOf x qual (defArgs st) (defBody st) (defScope st) .none kV doc pm an cdv ct), osl⟩)
  (c : PySem.W.codeIn K cdv qual = true) (k : PySem.W.keepIn K (.ref f) = true) : Fun K x qual st f (PySem.W.fnOf x qual (defArgs st) (defBody st) (defScope st) .none kV doc pm an cdv ct) := ⟨⟨oc, od, kV, doc, pm, an, cdv, ct, osl, rfl, l, c⟩, k⟩
end
theorem hu_of {A : Around} {k : Nat} (hr : Room k A) : A.units + 1 < cLine := Nat.lt_of_le_of_lt (Nat.add_le_add_left (by decide : 1 ≤ 64) _) hr.units
theorem small1000 {n : Nat} (h : n ≤ 1000) : n < sizeLine := Nat.lt_of_le_of_lt h (by decide)
section
variable {X : Cx}
theorem pv (i : Nat) {x : Str} {pos : Pos} (hN : X.N[i]? = some x := by rfl) (hv : Vis X.env.scope x := by first | exact Or.inl rfl | exact Or.inr (Or.inl rfl) | exact Or.inr (Or.inr rfl)) (hd : (x == ("__debug__" : Str)) = false := by decide)
  (hcd : (x == ("__classdict__" : Str)) = false := by decide) : PE X (.Name x pos) (tVar i) := pe_var hN hv hd hcd
end
theorem iteF {A B : Prop} (h : B) : if false = true then A else B := by
 rw [if_neg Bool.false_ne_true]
 exact h
theorem iteT {A B : Prop} (h : A) : if true = true then A else B := by
 rw [if_pos rfl]
 exact h
theorem ite2 {c A B : Prop} [Decidable c] (h1 : c → A) (h2 : ¬ c → B) : if c then A else B := by
 by_cases h : c
 ·rw [if_pos h]
  exact h1 h
 ·rw [if_neg h]
  exact h2 h
def Same (H H' : Hp) : Prop := ∀ b o, H b = some o → H' b = some o
theorem Same.refl (H : Hp) : Same H H := fun _ _ h => h
theorem Same.trans {H H1 H2 : Hp} (a : Same H H1) (b : Same H1 H2) : Same H H2 := fun c o h => b c o (a c o h)
theorem Same.free {H H' : Hp} (e : Same H H') {l : Addr} (h : H' l = Option.none) : H l = Option.none := by
 cases q : H l with
 | none => rfl
 | some o =>
  rw [e l o q] at h
  cases h
theorem Same.seq {K : PySem.W.Frag} {H H' : Hp} {a : Addr} {xs : List V} (e : Same H H') (h : SqL K H a xs) : SqL K H' a xs := by
 rcases h with (h | ⟨o, h⟩) | h
 ·exact .inl (.inl (e _ _ h))
 ·exact .inl (.inr ⟨o, e _ _ h⟩)
 ·exact .inr h
end L2
end
section
set_option Elab.async false
set_option linter.all false
set_option maxRecDepth 100000
set_option maxHeartbeats 4000000
namespace L2
open PySem PySem.Spec PyProof.Rows
def PF (X : Cx) (ifs : List Expr) (t : TT) : Prop :=
 ∀ (pins : List (Addr × Obj)) (s : Shared) (σ : St) (H : Hp) (Q : Bool → Hp → Prop), Inv X pins σ H s → t σ H Q →
  wpAny (model X.prog X.w) X.A (forIn ifs true fun c r => if r = true then do let ok ← isTrue c X.env (eval c X.env); pure (ForInStep.yield ok) else pure (ForInStep.yield r)) (TP X pins σ Q) X.xe s
def tYes : TT := fun _ H Q => Q true H
theorem pf_nil {X : Cx} : PF X [] tYes := fun pins s σ H Q I h => wpAny_tests_nil ⟨H, I, h⟩
theorem pf_one {X : Cx} {c : Expr} {t : TT} (hc : PT X c t) : PF X [c] t := fun pins s σ H Q I h => wpAny_tests_one (hc pins s σ H Q I h)
section
variable {prog : Program} {w : World} {A : Around} {R : Result → Shared → Prop} {s : Shared}
theorem compLoop_go {elt target iter : Expr} {ifs : List Expr} {scope : Scope} {pos : Pos} {it acc : Value} {env : Env} (I : Nat → Shared → Prop)
  (turn : ∀ n s, I n s → wpAny (model prog w) A (pyNext it) (fun r s₁ => match r with
   | none => R (.ok .next) s₁
   | some v => wpAny (model prog w) A (letOwnedTupleGo target it v) (fun _ s₁' => wpAny (model prog w) A (assign target env v) (fun _ s₂ =>
     wpAny (model prog w) A (forIn ifs true fun c r => if r = true then do let ok ← isTrue c env (eval c env); pure (ForInStep.yield ok) else pure (ForInStep.yield r)) (fun ok s₃ =>
      if ok = true then wpAny (model prog w) A (eval elt env) (fun x s₄ =>
       wpAny (model prog w) A (call (.builtin "list.append") [acc, x]) (fun _ s₅ => ∃ m, m < n ∧ I m s₅) (fun _ _ => False) s₄) (fun _ _ => False) s₃
      else ∃ m, m < n ∧ I m s₃) (fun _ _ => False) s₂) (fun _ _ => False) s₁') (fun _ _ => False) s₁) (fun _ _ => False) s)
  (n : Nat) (h : I n s) : codeAny (model prog w) A (.compLoop (.ListComp elt [⟨target, iter, ifs, 0⟩] scope pos) 0 it acc env) R s := by
 refine codeAny_loop rfl I (fun n s hI => ?_) n h
 show wpAny _ A ((compTurn (.ListComp elt [⟨target, iter, ifs, 0⟩] scope pos) 0 it acc env).onRaise (fun x => do noteFrame x env; theTreesLotGoes x)) _ _ s
 refine wpAny_noted ?_
 rw [compTurn_list]
 refine wpAny_bind (wpAny_standAt (wpAny_bind (wpAny_mono (turn n s hI) (fun r s₁ h₁ => ?_) fun _ _ f => f.elim)))
 cases r with
 | none => exact wpAny_pure h₁
 | some v =>
  refine wpAny_bind (wpAny_mono h₁ (fun _ s₁' h₁' => wpAny_bind (wpAny_mono h₁' (fun _ s₂ h₂ => wpAny_bind (wpAny_mono h₂ (fun ok s₃ h₃ => ?_) fun _ _ f => f.elim)) fun _ _ f => f.elim)) fun _ _ f => f.elim)
  cases ok with
  | false => exact wpAny_pure ⟨rfl, h₃⟩
  | true =>
   exact wpAny_bind (wpAny_bind (wpAny_mono h₃ (fun x s₄ h₄ => wpAny_bind (wpAny_mono h₄ (fun _ s₅ h₅ => wpAny_pure (wpAny_pure ⟨rfl, h₅⟩)) fun _ _ f => f.elim)) fun _ _ f => f.elim))
end
theorem relabel_in {env : Env} : ∀ {names : List (Str × NameKind)} {y : Str} {k : NameKind},
  (names.map fun (n, k) => if (k == NameKind.free && env.scope.kind == .function && env.kindOf n == some .cell) then (n, NameKind.cell) else (n, k)).lookup y = some k → (k = .cell ∨ k = .free) → ∃ k0, (y, k0) ∈ names ∧ (k0 = .cell ∨ k0 = .free)
 | [], _, _, h, _ => by simp at h
 | (n, k0) :: r, y, k, h, hk => by
  have ih := @relabel_in env r y k
  rw [List.map_cons] at h
  by_cases hc : (k0 == NameKind.free && env.scope.kind == .function && env.kindOf n == some .cell) = true
  ·simp only [hc, if_true] at h
   cases hy : y == n with
   | true =>
    have e : y = n := eq_of_beq hy
    subst e
    rw [Bool.and_eq_true, Bool.and_eq_true] at hc
    exact ⟨k0, List.mem_cons_self .., .inr (eq_of_beq hc.1.1)⟩
   | false =>
    rw [List.lookup_cons, hy] at h
    obtain ⟨k1, h1, h2⟩ := ih h hk
    exact ⟨k1, List.mem_cons_of_mem _ h1, h2⟩
  ·simp only [hc] at h
   cases hy : y == n with
   | true =>
    have e : y = n := eq_of_beq hy
    subst e
    simp only [List.lookup_cons, hy, Bool.false_eq_true, if_false] at h
    cases h
    exact ⟨k0, List.mem_cons_self .., hk⟩
   | false =>
    simp only [List.lookup_cons, hy, Bool.false_eq_true, if_false] at h
    obtain ⟨k1, h1, h2⟩ := ih h hk
    exact ⟨k1, List.mem_cons_of_mem _ h1, h2⟩
theorem relabel_free {env : Env} : ∀ {names : List (Str × NameKind)} {y : Str}, names.lookup y = some .free →
  (names.map fun (n, k) => if (k == NameKind.free && env.scope.kind == .function && env.kindOf n == some .cell) then (n, NameKind.cell) else (n, k)).lookup y = some .cell ∨
  (names.map fun (n, k) => if (k == NameKind.free && env.scope.kind == .function && env.kindOf n == some .cell) then (n, NameKind.cell) else (n, k)).lookup y = some .free
 | [], _, h => by simp at h
 | (n, k0) :: r, y, h => by
  have ih := @relabel_free env r y
  rw [List.map_cons]
  cases hy : y == n with
  | true =>
   simp only [List.lookup_cons, hy] at h
   cases h
   by_cases hc : (NameKind.free == NameKind.free && env.scope.kind == .function && env.kindOf n == some .cell) = true
   ·left; simp only [hc, if_true, List.lookup_cons, hy]
   ·right; simp only [hc, Bool.false_eq_true, if_false, List.lookup_cons, hy]
  | false =>
   simp only [List.lookup_cons, hy] at h
   by_cases hc : (k0 == NameKind.free && env.scope.kind == .function && env.kindOf n == some .cell) = true
   ·simp only [hc, if_true, List.lookup_cons, hy]; exact ih h
   ·simp only [hc, Bool.false_eq_true, if_false, List.lookup_cons, hy]; exact ih h
theorem mem_of_lookup {κ β : Type} [BEq κ] [LawfulBEq κ] : ∀ {l : List (κ × β)} {y : κ} {b : β}, l.lookup y = some b → (y, b) ∈ l
 | [], _, _, h => by simp at h
 | (n, k) :: r, y, b, h => by
  cases hy : y == n with
  | true =>
   have e : y = n := eq_of_beq hy
   subst e
   simp only [List.lookup_cons, hy] at h
   cases h
   exact List.mem_cons_self ..
  | false =>
   simp only [List.lookup_cons, hy] at h
   exact List.mem_cons_of_mem _ (mem_of_lookup h)
def blk (X : Cx) (sc : Scope) (cl : List (Str × Addr)) (fj : List (Str × Nat)) (x : Str) (s₃ : Shared) (H₃ : Hp) (ex : List Addr) : Cx where
 prog := X.prog
 w := X.w
 K := X.K
 mg := X.mg
 base := X.base
 A := X.A
 N := x :: fj.map (·.1)
 s₀ := s₃
 H₀ := H₃
 env := compEnvC sc cl s₃.heap.objs.size X.env
 outer := X.stack
 stack := X.stack
 ex := ex
 fn := fun _ => false
 calm := X.calm
 pn := []
 tr := []
 fx := []
 xe := fun _ _ => False
def frees (σ : St) (fj : List (Str × Nat)) : St := fj.map fun p => (σ[p.2]?).join
structure LcOk (X : Cx) (sc : Scope) (cl : List (Str × Addr)) (fj : List (Str × Nat)) (x : Str) : Prop where
 clos : closureFor sc X.env = pure cl
 cell : ∀ y ∈ sc.names, y.2 ≠ .cell
 kind : sc.kind = .function
 names : ∀ y ∈ sc.names, y.2 = .local → sc.names.lookup y.1 = some .local
 hx : sc.names.lookup x = some .local
 sub : ∀ p ∈ cl, X.env.cells.lookup p.1 = some p.2
 has : ∀ y ∈ sc.names, y.2 = .free → (cl.lookup y.1).isSome = true
 fr : ∀ p ∈ fj, X.N[p.2]? = some p.1 ∧ sc.names.lookup p.1 = some .free ∧ (X.env.scope.names.lookup p.1 = some .cell ∨ X.env.scope.names.lookup p.1 = some .free)
 nd : (x :: fj.map (·.1)).Nodup
section
variable {X : Cx} {sc : Scope} {cl : List (Str × Addr)} {fj : List (Str × Nat)} {x : Str} {pins : List (Addr × Obj)} {σ : St} {H : Hp} {s₃ : Shared} {ex : List Addr}
theorem LcOk.sub' (O : LcOk X sc cl fj x) {n : Str} {c : Addr} (h : cl.lookup n = some c) : X.env.cells.lookup n = some c := O.sub (n, c) (mem_of_lookup h)
theorem lookup_of_mem {κ β : Type} [BEq κ] [LawfulBEq κ] : ∀ {l : List (κ × β)} {y : κ}, y ∈ l.map (·.1) → (l.lookup y).isSome = true
 | [], _, h => by cases h
 | (n, k) :: r, y, h => by
  cases hy : y == n with
  | true => simp only [List.lookup_cons, hy, Option.isSome_some]
  | false =>
   simp only [List.lookup_cons, hy]
   rcases List.mem_cons.mp h with e | h
   ·exact absurd (beq_iff_eq.mpr (show y = n from e)) (by rw [hy]; exact Bool.false_ne_true)
   ·exact lookup_of_mem h
theorem LcOk.of (cn : List Str) (clos : closureFor sc X.env = pure cl) (cell : ∀ y ∈ sc.names, y.2 ≠ .cell) (kind : sc.kind = .function) (names : ∀ y ∈ sc.names, y.2 = .local → sc.names.lookup y.1 = some .local) (hx : sc.names.lookup x = some .local)
  (sub : ∀ p ∈ cl, X.env.cells.lookup p.1 = some p.2) (hcn : cl.map (·.1) = cn) (has : ∀ y ∈ sc.names, y.2 = .free → y.1 ∈ cn)
  (fr : ∀ p ∈ fj, X.N[p.2]? = some p.1 ∧ sc.names.lookup p.1 = some .free ∧ (X.env.scope.names.lookup p.1 = some .cell ∨ X.env.scope.names.lookup p.1 = some .free)) (nd : (x :: fj.map (·.1)).Nodup) : LcOk X sc cl fj x :=
 ⟨clos, cell, kind, names, hx, sub, fun y hy hf => lookup_of_mem (by rw [hcn]; exact has y hy hf), fr, nd⟩
theorem blk_ok (O : LcOk X sc cl fj x) (I : Inv X pins σ H s₃) (hx : ∀ b ∈ ex, FpOk X pins H b) (hb : ∀ b ∈ ex, ∃ o, s₃.heap.get? b = some o) : (blk X sc cl fj x s₃ H ex).Ok where
 mod := I.ok.mod
 kind := O.kind
 glob := I.ok.glob
 blt := I.ok.blt
 above := Nat.le_refl _
 inj := fun a b c h1 h2 => I.ok.inj a b c (O.sub' h1) (O.sub' h2)
 has := fun y h => by
  have h' : ∃ k, ((relabel sc X.env).names).lookup y = some k ∧ (k = .cell ∨ k = .free) := by
   rcases h with h | h
   ·exact ⟨_, h, .inl rfl⟩
   ·exact ⟨_, h, .inr rfl⟩
  obtain ⟨k, h1, h2⟩ := h'
  obtain ⟨k0, m, z⟩ := relabel_in h1 h2
  have z' : k0 = .free := z.resolve_left (O.cell _ m)
  subst z'
  have q := O.has _ m rfl
  cases e : cl.lookup y with
  | none => rw [show cl.lookup (y, NameKind.free).1 = cl.lookup y from rfl, e] at q; cases q
  | some c => exact ⟨c, e⟩
 cab := fun _ _ h => by cases h
 hd := by
  rcases I.hdE with z | ⟨e, c, z1, z2⟩
  ·exact .inl z
  ·exact .inr ⟨e, c, z1, .inl z2⟩
 frames := I.ok.frames
 stk := .inl rfl
 exf := fun b h => by
  obtain ⟨o, e⟩ := hb b h
  obtain ⟨_, _, _, _, h4, _⟩ := hx b h
  exact ⟨Nat.ne_of_lt (Heap.lt_size e), fun y c hc => h4 y c (O.sub' hc)⟩
 bs := fun b o e => I.bs b o e
 bsz := Nat.le_trans I.ok.bsz I.sz
 noex := fun b o e h => by
  obtain ⟨_, _, _, h3, _, _⟩ := hx b h
  rcases h3 with z | z
  ·exact I.ok.noex b o e z
  ·exact absurd (Nat.lt_of_lt_of_le (Heap.lt_size (I.ok.bs b o e).1) z) (Nat.lt_irrefl _)
 exfs := fun b h z => by
  obtain ⟨_, h1, h2, _, _, _⟩ := hx b h
  exact (List.mem_cons.mp (I.stkSub b z)).elim h1 h2
 funs := I.stack
 frf := I.stkFree
theorem blk_inv (O : LcOk X sc cl fj x) (I : Inv X pins σ H s₃) (hx : ∀ b ∈ ex, FpOk X pins H b) (hb : ∀ b ∈ ex, ∃ o, s₃.heap.get? b = some o) {h₁ : Heap} {m₀ : Str → Option Value} {t : Nat}
  (hns : h₁.Ns s₃.heap.objs.size m₀) (hk : ∀ b o, s₃.heap.get? b = some o → h₁.get? b = some o) : Inv (blk X sc cl fj x s₃ H ex) [] (none :: frees σ fj) H { s₃ with heap := h₁, toks := t } where
 ok := blk_ok O I hx hb
 os := rfl
 bare := I.bare
 base := Un.kept hk
 loc := by
  refine ⟨m₀, hns, fun i y v e1 e2 _ => ?_⟩
  cases i with
  | zero => simp at e2
  | succ i =>
   have e1' : (fj.map (·.1))[i]? = some y := by
    have e : (x :: fj.map (·.1))[i + 1]? = some y := e1
    rw [List.getElem?_cons_succ] at e
    exact e
   have e2' : (frees σ fj)[i]? = some (some v) := by simpa using e2
   rw [List.getElem?_map] at e1'
   cases hp : fj[i]? with
   | none => rw [hp] at e1'; cases e1'
   | some p =>
    rw [hp] at e1'
    have ey : p.1 = y := Option.some.inj e1'
    subst ey
    unfold frees at e2'
    rw [List.getElem?_map, hp] at e2'
    have e3 : (σ[p.2]?).join = some v := Option.some.inj e2'
    have e4 : σ[p.2]? = some (some v) := by
     cases q : σ[p.2]? with
     | none => rw [q] at e3; cases e3
     | some w => rw [q] at e3; cases w with
      | none => cases e3
      | some w => cases e3; rfl
    obtain ⟨f1, f2, f3⟩ := O.fr p (List.mem_of_getElem? hp)
    obtain ⟨m, hn, hl⟩ := I.loc
    obtain ⟨u, r, l⟩ := hl p.2 p.1 v f1 e4 (.inr f3)
    refine ⟨u, r, ?_⟩
    rcases l with ⟨k, _⟩ | ⟨k, c, e, z⟩
    ·exfalso
     have k' : X.env.scope.names.lookup p.1 = some .local := k
     rcases f3 with f3 | f3 <;> rw [f3] at k' <;> cases k'
    ·have q := O.has _ (mem_of_lookup f2) rfl
     cases ec : cl.lookup p.1 with
     | none => rw [show cl.lookup (p.1, NameKind.free).1 = cl.lookup p.1 from rfl, ec] at q; cases q
     | some c' =>
      have e' := O.sub' ec
      rw [e] at e'
      cases e'
      exact .inr ⟨relabel_free f2, c, ec, z.keeps hk⟩
 cell := fun y c e => let ⟨v, z⟩ := I.cell y c (O.sub' e); ⟨v, z.keeps hk⟩
 free := I.hok.fresh (Nat.le_refl _)
 freeC := fun y c e => I.freeC y c (O.sub' e)
 pin := fun p hp => by cases hp
 hok := I.hok.kept hk
 len := by
  show (none :: frees σ fj).length = (x :: fj.map (·.1)).length
  simp [frees]
 tr := fun p hp => by cases hp
 fix := fun p hp => by cases hp
end
def tLc (wi : TI) (fj : List (Str × Nat)) (tc : TT) (te : TE) : TE := fun σ H Q => wi σ H fun J H1 => ∀ acc, H1 acc = none →
 ∃ W : Nat → Nat → List V → Hp → Prop, (∃ m, W 0 m [] (upd H1 acc (.lst []))) ∧ ∀ i m ys H, W i m ys H →
  (J.stop i H ∧ Q (.ref acc) H) ∨ (J.go i H ∧ ∀ x H', J.yld i H x H' → tc (some x :: frees σ fj) H' fun b H2 =>
   if b = true then te (some x :: frees σ fj) H2 fun v H3 => H3 acc = some (.lst ys) ∧ ys.length < sizeLine ∧ ∃ m', m' < m ∧ W (i + 1) m' (ys ++ [v]) (upd H3 acc (.lst (ys ++ [v])))
   else ∃ m', m' < m ∧ W (i + 1) m' ys H2)
section
variable {X : Cx} {sc : Scope} {cl : List (Str × Addr)} {fj : List (Str × Nat)} {x : Str} {px pos : Pos} {elt iter : Expr} {ifs : List Expr} {wi : TI} {tc : TT} {te : TE}
theorem lc_core (O : LcOk X sc cl fj x) (hc : X.calm = true) (hi : PI X (.Name x px) iter wi)
  (hf : ∀ s₃ H₃ ex, PF (blk X sc cl fj x s₃ H₃ ex) ifs tc) (he : ∀ s₃ H₃ ex, PE (blk X sc cl fj x s₃ H₃ ex) elt te)
  {pins : List (Addr × Obj)} {s : Shared} {σ : St} {H : Hp} {Q : VK} (I : Inv X pins σ H s) (h : tLc wi fj tc te σ H Q) {RR : Value → Addr → Result → Shared → Prop}
  (hRR : ∀ a C s' H' m, Inv X pins σ H' s' → Q (.ref a) H' → s'.heap.Ns C m → H' C = none → C ≠ X.env.locals → X.s₀.heap.objs.size ≤ C →
   (∀ y c, X.env.cells.lookup y = some c → c ≠ C) → (∀ p ∈ X.pn ++ pins, p.1 ≠ C) → RR (.ref a) C (.ok .next) s') :
  wpAny (model X.prog X.w) X.A (eval iter X.env) (fun xv s₁ => wpAny (model X.prog X.w) X.A (pyIter xv) (fun it s₂ => wpAny (model X.prog X.w) X.A (newList []) (fun acc s₃ =>
   wpAny (model X.prog X.w) X.A (newFunctionEnv sc X.env.globals cl [] X.env.qual none .none (some X.env)) (fun cenv s₄ =>
    codeAny (model X.prog X.w) X.A (.compStart (.ListComp elt [⟨.Name x px, iter, ifs, 0⟩] sc pos) 0 it acc { cenv with scope := relabel sc X.env }) (RR acc cenv.locals) s₄) X.xe s₃) X.xe s₂) X.xe s₁) X.xe s := by
 refine thn (hi pins s σ H _ I h) fun v s1 h1 => thn h1 fun itv s2 h2 => ?_
 obtain ⟨it, fp, tn, J, H2, e, I2, T, st2, f2, hW⟩ := h2
 subst e
 have hacc : H2 s2.heap.objs.size = none := I2.hok.fresh (Nat.le_refl _)
 obtain ⟨W, ⟨m0, w0⟩, turn⟩ := hW _ hacc
 have I3 : Inv X pins σ (upd H2 s2.heap.objs.size (.lst [])) { s2 with heap := s2.heap.push { cls := .type "list", data := .seq ([] : List Value).toArray } } := I2.lnew (t' := s2.toks) (ys := []) (its := []) .nil (Nat.zero_le _)
 have old3 : ∀ b o, s2.heap.get? b = some o → (s2.heap.push { cls := .type "list", data := .seq ([] : List Value).toArray }).get? b = some o := fun b o q => Heap.get?_push_of_some _ q
 have st3 := T.keep _ _ _ st2 fun b _ o q => old3 b o q
 have ob3 := T.obj _ _ st3
 have ob2 := T.obj _ _ st2
 have f3 : ∀ b ∈ fp, FpOk X pins (upd H2 s2.heap.objs.size (.lst [])) b := fun b hb => by
  obtain ⟨o, q, _⟩ := ob2 b hb
  obtain ⟨g0, g⟩ := f2 b hb
  exact ⟨by rw [upd_ne (Nat.ne_of_lt (Heap.lt_size q))]; exact g0, g⟩
 refine wpAny_newObj_type ?_
 generalize hS3 : ({ s2 with heap := s2.heap.push { cls := .type "list", data := .seq ([] : List Value).toArray } } : Shared) = s3 at I3 ⊢
 have st3' : tn 0 s3.heap := by rw [← hS3]; exact st3
 have ob3' : ∀ b ∈ fp, ∃ o, s3.heap.get? b = some o ∧ ∀ v, o.data ≠ .cell v := by rw [← hS3]; exact ob3
 generalize hH3 : upd H2 s2.heap.objs.size (.lst []) = H3 at I3 w0 f3
 generalize hac : s2.heap.objs.size = ac at turn ⊢
 clear hS3 st3 ob3 old3
 refine wpAny_newFunctionEnv O.cell (by intro y hy; cases hy) (fun h₁ hns₁ hsb₁ => ?_) O.kind
 have hk1 : ∀ b o, s3.heap.get? b = some o → h₁.get? b = some o := fun b o q => (hsb₁.2 b (Nat.ne_of_lt (Heap.lt_size q))).trans (Heap.get?_push_of_some _ q)
 have B := blk_inv (t := s3.toks + ([] : List (Str × Value)).length) O I3 f3 (fun b hb => let ⟨o, q, _⟩ := ob3' b hb; ⟨o, q⟩) hns₁ hk1
 generalize hX : blk X sc cl fj x s3 H3 fp = X' at B
 have hPF := hf s3 H3 fp
 have hPE := he s3 H3 fp
 rw [hX] at hPF hPE
 have eA : X'.A = X.A := by rw [← hX]; rfl
 have eP : X'.prog = X.prog := by rw [← hX]; rfl
 have eW : X'.w = X.w := by rw [← hX]; rfl
 have eK : X'.K = X.K := by rw [← hX]; rfl
 have eC : X'.calm = true := by rw [← hX]; exact hc
 have eE : X'.env = compEnvC sc cl s3.heap.objs.size X.env := by rw [← hX]; rfl
 have eX : X'.xe = fun _ _ => False := by rw [← hX]; rfl
 have eex : X'.ex = fp := by rw [← hX]; rfl
 have epn : X'.pn = [] := by rw [← hX]; rfl
 have eO : X'.outer = X.stack := by rw [← hX]; rfl
 have eS : X'.s₀ = s3 := by rw [← hX]; rfl
 have eH : X'.H₀ = H3 := by rw [← hX]; rfl
 have eN : X'.N = x :: fj.map (·.1) := by rw [← hX]; rfl
 have eF : X'.fx = [] := by rw [← hX]; rfl
 have stat : ∀ {H' : Hp}, (∀ b ∈ fp, H' b = none) → ∀ b ∈ fp, FpOk X' [] H' b := fun {H'} hn b hb => by
  obtain ⟨o, q, _⟩ := ob3' b hb
  obtain ⟨_, g1, g2, g3, g4, g5⟩ := f3 b hb
  refine ⟨hn b hb, ?_, ?_, .inl (by rw [eex]; exact hb), ?_, ?_⟩
  ·rw [eE]; exact Nat.ne_of_lt (Heap.lt_size q)
  ·show b ∉ frs X'.outer
   rw [eO]
   exact fun z => (List.mem_cons.mp (I3.stkSub b z)).elim g1 g2
  ·rw [eE]; exact fun y c hc' => g4 y c (O.sub' hc')
  ·rw [epn]; intro p hp; cases hp
 have loop : codeAny (model X.prog X.w) X.A (.compLoop (.ListComp elt [⟨.Name x px, iter, ifs, 0⟩] sc pos) 0 (.ref it) (.ref ac) (compEnvC sc cl s3.heap.objs.size X.env)) (RR (.ref ac) s3.heap.objs.size)
   { s3 with heap := h₁, toks := s3.toks + ([] : List (Str × Value)).length } := by
  refine compLoop_go (fun n s' => ∃ i o ys H', Inv X' [] (o :: frees σ fj) H' s' ∧ tn i s'.heap ∧ (∀ b ∈ fp, H' b = none) ∧ W i n ys H') ?_ m0
   ⟨0, none, [], H3, B, T.keep _ _ _ st3' fun b _ o q => hk1 b o q, fun b hb => (f3 b hb).1, w0⟩
  rintro n s4 ⟨i, o4, ys, H4, J4, st4, fr4, w4⟩
  rw [← eE, ← eP, ← eW, ← eA]
  rcases turn i n ys H4 w4 with ⟨stop, q⟩ | ⟨go, step⟩
  ·have T' : Turn X'.prog X'.w X'.K (.Name x px) J fp it tn := by rw [eP, eW, eK]; exact T
   refine thn (T'.done X' rfl rfl rfl eC i [] s4 _ H4 _ J4 (stat fr4) st4 stop) fun r s5 ⟨hr, J5⟩ => ?_
   subst hr
   have hb5 := J5.base
   rw [eS, eH, eex, show X'.fs = frs X.stack by show frs X'.outer = _; rw [eO]] at hb5
   have ho5 := J5.os
   rw [eS] at ho5
   have hk5 := J5.hok
   rw [eP, eW] at hk5
   have I5 : Inv X pins σ H4 s5 := I3.call' (ch := fp) ho5 hb5 hk5 J5.bare fun b hb => by
    obtain ⟨_, g1, g2, g3, g4, g5⟩ := f3 b hb
    exact ⟨g3, g1, g4, g5⟩
   obtain ⟨m5, n5, _⟩ := J5.loc
   have fr5 := J5.free
   rw [eE] at n5 fr5
   refine hRR ac s3.heap.objs.size s5 H4 m5 I5 q n5 fr5 (Ne.symm (Nat.ne_of_lt I3.lt)) I3.sz (fun y c hc' => ?_) fun p hp => ?_
   ·obtain ⟨_, oc, q', _⟩ := I3.cell y c hc'
    exact Nat.ne_of_lt (Heap.lt_size q')
   ·exact Nat.ne_of_lt (Heap.lt_size (I3.pin p hp).1)
  ·have T' : Turn X'.prog X'.w X'.K (.Name x px) J fp it tn := by rw [eP, eW, eK]; exact T
   refine thn (T'.item X' rfl rfl rfl eC i [] s4 _ H4 _ J4 (stat fr4) st4 go) fun r s5 ⟨u, hr, h5⟩ => ?_
   subst hr
   refine thn h5 fun _ s6 ⟨xv, H6, J6, r6, y6, st6, fr6⟩ => ?_
   have J6' := J6.pinned (stat fr6) (T.obj _ _ st6)
   have lx : X'.env.scope.names.lookup x = some .local := by rw [eE]; exact lookup_relabel_local O.hx
   have pg : PG X' (.Name x px) (gName 0) := pg_name (by rw [eN]; exact O.nd) (by rw [eN]; rfl) (.inl lx) (.inr lx) (by rw [eF]; intro p hp; cases hp)
   have q6 := step xv H6 y6
   refine wpAny_mono (pg _ s6 _ H6 xv u (fun σ' H' => σ' = some xv :: frees σ fj ∧ H' = H6) J6' r6 ⟨rfl, rfl⟩) (fun _ s7 ⟨σ7, H7, J7, e7, e7'⟩ => ?_) (by rw [eX]; exact fun _ _ f => f)
   subst e7 e7'
   refine wpAny_mono (hPF _ s7 _ H7 _ J7 q6) (fun b s8 ⟨H8, J8, q8⟩ => ?_) (by rw [eX]; exact fun _ _ f => f)
   have back : ∀ {H9 : Hp} {s9 : Shared} {o9 : Option V}, Inv X' ([] ++ pinsAt fp s6.heap) (o9 :: frees σ fj) H9 s9 → Inv X' [] (o9 :: frees σ fj) H9 s9 ∧ tn (i + 1) s9.heap ∧ ∀ b ∈ fp, H9 b = none := fun {H9 s9 o9} J9 => by
    refine ⟨J9.unpinned, T.keep _ _ _ st6 fun b hb o q => (J9.pin (b, o) (List.mem_append_right _ (List.mem_append_right _ (mem_pinsAt hb q)))).1, fun b hb => ?_⟩
    obtain ⟨o, q, d⟩ := T.obj _ _ st6 b hb
    exact (J9.pin (b, o) (List.mem_append_right _ (List.mem_append_right _ (mem_pinsAt hb q)))).2.1
   cases b with
   | false =>
    obtain ⟨m', hm, w8⟩ : ∃ m', m' < n ∧ W (i + 1) m' ys H8 := q8
    obtain ⟨b1, b2, b3⟩ := back J8
    exact ⟨m', hm, i + 1, some xv, ys, H8, b1, b2, b3, w8⟩
   | true =>
    refine wpAny_mono (hPE _ s8 _ H8 _ J8 q8) (fun uv s9 ⟨v9, H9, J9, r9, ha9, hl9, m', hm, w9⟩ => ?_) (by rw [eX]; exact fun _ _ f => f)
    refine wpAny_mono (mt_append (X := X') _ s9 _ H9 (.ref ac) [v9] (.ref ac) [uv] (fun _ H' => H' = upd H9 ac (.lst (ys ++ [v9]))) J9 rfl (.cons r9 .nil) ⟨ac, ys, v9, rfl, rfl, ha9, hl9, rfl⟩)
     (fun _ s10 ⟨_, H10, J10, _, e10⟩ => ?_) (by rw [eX]; exact fun _ _ f => f)
    subst e10
    obtain ⟨b1, b2, b3⟩ := back J10
    exact ⟨m', hm, i + 1, some xv, ys ++ [v9], _, b1, b2, b3, w9⟩
 exact codeAny_compStart_list loop (T.self _ 0 _ _ _ (T.keep _ _ _ st3' fun b _ o q => hk1 b o q) loop)
theorem pe_lc (O : LcOk X sc cl fj x) (hc : X.calm = true) (hi : PI X (.Name x px) iter wi)
  (hf : ∀ s₃ H₃ ex, PF (blk X sc cl fj x s₃ H₃ ex) ifs tc) (he : ∀ s₃ H₃ ex, PE (blk X sc cl fj x s₃ H₃ ex) elt te)
  (hs : ∀ x, foldedSetIterable iter X.env x = pure x := by intro _; rfl) : PE X (.ListComp elt [⟨.Name x px, iter, ifs, 0⟩] sc pos) (tLc wi fj tc te) := by
 intro pins s σ H Q I h
 rw [eval_ListComp]
 refine wpAny_comprehension_free (use := none) rfl hs O.clos O.kind O.names (lc_core O hc hi hf he I h (RR := fun acc C => compPost (model X.prog X.w) X.A X.xe none (EP X pins σ Q) acc C) ?_)
 intro a C s' H' m I' q hn hC hL hz h2 h3
 exact ⟨m, hn, fun h' hs' => ⟨.ref a, H', I'.turned (t' := s'.toks) (fun b o hb e => (hs'.2 b hb).trans e) hC hL (.inr hz) h2 h3, rfl, q⟩⟩
theorem ps_setLc {j : Nat} {y : Str} {py spos : Pos} (O : LcOk X sc cl fj x) (hc : X.calm = true) (hN : X.N.Nodup) (hj : X.N[j]? = some y) (hy : Loc X.env.scope y) (hi : PI X (.Name x px) iter wi)
  (hf : ∀ s₃ H₃ ex, PF (blk X sc cl fj x s₃ H₃ ex) ifs tc) (he : ∀ s₃ H₃ ex, PE (blk X sc cl fj x s₃ H₃ ex) elt te)
  (hsw : swapsWith (.ListComp elt [⟨.Name x px, iter, ifs, 0⟩] sc pos) (some (.Name y py)) spos.line X.env = pure true := by rfl)
  (hfn : X.fn y = true ∨ X.env.scope.names.lookup y = some .local := by first | exact .inl rfl | exact .inr rfl | assumption)
  (hfx : ∀ p ∈ X.fx, p.1 ≠ y := by first | exact fun p h => absurd (show p ∈ ([] : List (Str × Value)) from h) (by simp) | assumption)
  (hs : ∀ x, foldedSetIterable iter X.env x = pure x := by intro _; rfl) : PS X (.Assign [.Name y py] (.ListComp elt [⟨.Name x px, iter, ifs, 0⟩] sc pos) spos) (tAsg (tLc wi fj tc te) (gName j)) := by
 intro pins s σ H D I h
 rw [exec_Assign_Name_used _ _ _ _ hsw]
 refine wpAny_bind (wpAny_standAt (wpAny_bind ?_))
 show wpAny _ X.A (do let _ ← comprehension (.ListComp elt [⟨.Name x px, iter, ifs, 0⟩] sc pos) sc X.env _ (newList []) false (eval iter X.env) (some (assign (.Name y py) X.env))) _ _ s
 refine wpAny_bind (thn (wpAny_comprehension_free (use := some (assign (.Name y py) X.env)) (Q := fun _ s' => ∃ σ' H', Inv X pins σ' H' s' ∧ D.nx σ' H') rfl hs O.clos O.kind O.names
  (lc_core O hc hi hf he I h (RR := fun acc C => compPost (model X.prog X.w) X.A X.xe (some (assign (.Name y py) X.env)) (fun _ s' => ∃ σ' H', Inv X pins σ' H' s' ∧ D.nx σ' H') acc C) ?_)) fun _ s' hq => wpAny_pure (wpAny_pure hq))
 intro a C s' H' m I' q hn hC hL hz h2 h3
 show wpAny _ X.A (assign (.Name y py) X.env (.ref a)) _ _ _
 refine wpAny_assign_Name (store_ok2 (v := .ref a) I' hN hj hy rfl (fun s'' I'' ⟨a', sb, ha⟩ => ?_) hfn hfx)
 have ne : C ≠ a' := by
  rcases ha with ha | ha
  ·rw [ha]; exact hL
  ·exact Ne.symm (h2 y a' ha)
 exact ⟨m, hn.sameBut sb ne, fun h' hs' => ⟨_, H', I''.turned (t' := s''.toks) (fun b o hb e => (hs'.2 b hb).trans e) hC hL (.inr hz) h2 h3, q⟩⟩
end
theorem lc_range {fj : List (Str × Nat)} {te : TE} {σ : St} {H1 : Hp} {Q : Addr → Hp → Prop} {lo : Int} {n : Nat} (hn : n ≤ 1000)
  (Pv : Addr → Nat → List V → Hp → Prop) (h0 : ∀ acc, H1 acc = none → Pv acc 0 [] (upd H1 acc (.lst [])))
  (hl : ∀ acc i ys H, i ≤ n → Pv acc i ys H → ys.length = i)
  (hs : ∀ acc i ys H (Qf : VK), i < n → Pv acc i ys H → (∀ v H3, H3 acc = some (.lst ys) → Pv acc (i + 1) (ys ++ [v]) (upd H3 acc (.lst (ys ++ [v]))) → Qf v H3) → te (some (.int (lo + i)) :: frees σ fj) H Qf)
  (hd : ∀ acc ys H, H1 acc = none → Pv acc n ys H → Q acc H) :
  ∀ acc, H1 acc = none → ∃ W : Nat → Nat → List V → Hp → Prop, (∃ m, W 0 m [] (upd H1 acc (.lst []))) ∧ ∀ i m ys H, W i m ys H →
   ((Itr lo n).stop i H ∧ Q acc H) ∨ ((Itr lo n).go i H ∧ ∀ x H', (Itr lo n).yld i H x H' → tYes (some x :: frees σ fj) H' fun b H2 =>
    if b = true then te (some x :: frees σ fj) H2 fun v H3 => H3 acc = some (.lst ys) ∧ ys.length < sizeLine ∧ ∃ m', m' < m ∧ W (i + 1) m' (ys ++ [v]) (upd H3 acc (.lst (ys ++ [v])))
    else ∃ m', m' < m ∧ W (i + 1) m' ys H2) := by
 intro acc hacc
 refine ⟨fun i m ys H => m = n - i ∧ i ≤ n ∧ Pv acc i ys H, ⟨n, rfl, Nat.zero_le _, h0 acc hacc⟩, ?_⟩
 rintro i m ys H ⟨rfl, hi, hp⟩
 by_cases e : i = n
 ·subst e; exact .inl ⟨Nat.le_refl _, hd acc ys H hacc hp⟩
 ·have hlt : i < n := by omega
  refine .inr ⟨hlt, ?_⟩
  rintro x H' ⟨rfl, rfl⟩
  refine (hs acc i ys _ (fun v H3 => H3 acc = some (.lst ys) ∧ ys.length < sizeLine ∧ ∃ m', m' < n - i ∧ (m' = n - (i + 1) ∧ i + 1 ≤ n ∧ Pv acc (i + 1) (ys ++ [v]) (upd H3 acc (.lst (ys ++ [v]))))) hlt hp fun v H3 q1 q2 => ⟨q1, ?_, n - (i + 1), by omega, rfl, by omega, q2⟩)
  have := hl acc i ys _ hi hp
  exact small1000 (by omega)
theorem lc_list {K : PySem.W.Frag} {a : Addr} {xs : List V} {fj : List (Str × Nat)} {te : TE} {σ : St} {H1 : Hp} {Q : Addr → Hp → Prop} (hn : xs.length ≤ 1000)
  (Pv : Addr → Nat → List V → Hp → Prop) (h0 : ∀ acc, H1 acc = none → Pv acc 0 [] (upd H1 acc (.lst [])))
  (hl : ∀ acc i ys H, i ≤ xs.length → Pv acc i ys H → ys.length = i ∧ SqL K H a xs)
  (hs : ∀ acc i x ys H (Qf : VK), xs[i]? = some x → Pv acc i ys H → (∀ v H3, H3 acc = some (.lst ys) → Pv acc (i + 1) (ys ++ [v]) (upd H3 acc (.lst (ys ++ [v]))) → Qf v H3) → te (some x :: frees σ fj) H Qf)
  (hd : ∀ acc ys H, H1 acc = none → Pv acc xs.length ys H → Q acc H) :
  ∀ acc, H1 acc = none → ∃ W : Nat → Nat → List V → Hp → Prop, (∃ m, W 0 m [] (upd H1 acc (.lst []))) ∧ ∀ i m ys H, W i m ys H →
   ((Itl K a).stop i H ∧ Q acc H) ∨ ((Itl K a).go i H ∧ ∀ x H', (Itl K a).yld i H x H' → tYes (some x :: frees σ fj) H' fun b H2 =>
    if b = true then te (some x :: frees σ fj) H2 fun v H3 => H3 acc = some (.lst ys) ∧ ys.length < sizeLine ∧ ∃ m', m' < m ∧ W (i + 1) m' (ys ++ [v]) (upd H3 acc (.lst (ys ++ [v])))
    else ∃ m', m' < m ∧ W (i + 1) m' ys H2) := by
 intro acc hacc
 refine ⟨fun i m ys H => m = xs.length - i ∧ i ≤ xs.length ∧ Pv acc i ys H, ⟨_, rfl, Nat.zero_le _, h0 acc hacc⟩, ?_⟩
 rintro i m ys H ⟨rfl, hi, hp⟩
 obtain ⟨l1, l2⟩ := hl acc i ys H hi hp
 by_cases e : i = xs.length
 ·subst e; exact .inl ⟨⟨xs, l2, Nat.le_refl _⟩, hd acc ys H hacc hp⟩
 ·have hlt : i < xs.length := by omega
  refine .inr ⟨⟨xs, xs[i], l2, List.getElem?_eq_getElem hlt⟩, ?_⟩
  rintro x H' ⟨rfl, hy⟩
  refine (hs acc i x ys _ (fun v H3 => H3 acc = some (.lst ys) ∧ ys.length < sizeLine ∧ ∃ m', m' < xs.length - i ∧ (m' = xs.length - (i + 1) ∧ i + 1 ≤ xs.length ∧ Pv acc (i + 1) (ys ++ [v]) (upd H3 acc (.lst (ys ++ [v]))))) (hy xs l2) hp fun v H3 q1 q2 => ⟨q1, ?_, xs.length - (i + 1), by omega, rfl, by omega, q2⟩)
  exact small1000 (by omega)
mutual
inductive DV (K : PySem.W.Frag) (H : Hp) : V → PyData → Prop
 | non : DV K H .non .none
 | bl (b : Bool) : DV K H (.bl b) (.bool b)
 | int (i : Int) : DV K H (.int i) (.int i)
 | str (x : Str) : DV K H (.str x) (.str x)
 | lst {a : Addr} {xs : List V} {ds : List PyData} : SqL K H a xs → DVs K H xs ds → DV K H (.ref a) (.list ds)
 | tup {a : Addr} {xs : List V} {ds : List PyData} : SqT K H a xs → DVs K H xs ds → DV K H (.ref a) (.tuple ds)
inductive DVs (K : PySem.W.Frag) (H : Hp) : List V → List PyData → Prop
 | nil : DVs K H [] []
 | cons {x : V} {xs : List V} {d : PyData} {ds : List PyData} : DV K H x d → DVs K H xs ds → DVs K H (x :: xs) (d :: ds)
end
section
variable {X : Cx} {pins : List (Addr × Obj)} {σ : St} {H : Hp} {s : Shared}
mutual
theorem DV.reads (I : Inv X pins σ H s) : ∀ {v : V} {d : PyData} {u : Value}, DV X.K H v d → RelV v u → ∃ as, Reads s.heap u d as
 | _, _, _, .non, r => by cases (show _ = Value.none from r); exact ⟨_, .none⟩
 | _, _, _, .bl b, r => by cases (show _ = Value.bool b from r); exact ⟨_, .bool b⟩
 | _, _, _, .int i, r => by obtain ⟨t, e⟩ := (show ∃ t, _ = Value.int i t from r); subst e; exact ⟨_, .int i t⟩
 | _, _, _, .str x, r => by obtain ⟨t, e⟩ := (show ∃ t, _ = Value.str x t from r); subst e; exact ⟨_, .str x t⟩
 | _, _, _, .lst (a := a) hq hd, r => by
  cases (show _ = Value.ref a from r)
  obtain ⟨its, rv, ⟨o, n, e, c, _, dt⟩, _⟩ := I.list hq
  obtain ⟨as, q⟩ := DVs.reads I hd rv
  exact ⟨_, .list e c dt (by simpa using q)⟩
 | _, _, _, .tup (a := a) hq hd, r => by
  cases (show _ = Value.ref a from r)
  obtain ⟨its, rv, p, _⟩ := I.tuple hq
  obtain ⟨o, e, c, n, dt⟩ := p
  obtain ⟨as, q⟩ := DVs.reads I hd rv
  exact ⟨_, .tuple e c dt (by simpa using q)⟩
theorem DVs.reads (I : Inv X pins σ H s) : ∀ {vs : List V} {ds : List PyData} {us : List Value}, DVs X.K H vs ds → Vals vs us → ∃ as, ReadsAll s.heap us ds as
 | _, _, _, .nil, r => by cases r; exact ⟨_, .nil⟩
 | _, _, _, .cons hd ht, r => by
  cases r with
  | cons r1 r2 =>
   obtain ⟨as, q⟩ := DV.reads I hd r1
   obtain ⟨bs, p⟩ := DVs.reads I ht r2
   exact ⟨_, .cons q p⟩
end
end
section
variable {X : Cx}
def rEqD (K : PySem.W.Frag) (neg : Bool) : R2 := fun x y H Q => ∃ d e, DV K H x d ∧ DV K H y e ∧ SeqAt.shaped d = true ∧ SeqAt.shaped e = true ∧ Q (.bl (if neg then !PyData.eqv d e else PyData.eqv d e)) H
theorem op_eqD (hu : X.A.units + 64 < cLine) : OpR X (compareOp .Eq) (rEqD X.K false) := by
 intro pins s σ H x y v u Q I rx ry ⟨d, e, hd, he, sd, se, q⟩
 obtain ⟨as, ra⟩ := hd.reads I rx
 obtain ⟨bs, rb⟩ := he.reads I ry
 exact SeqAt.compareEq_shaped ra rb sd se hu (fin_bl I q rfl)
theorem op_neD (hu : X.A.units + 64 < cLine) : OpR X (compareOp .NotEq) (rEqD X.K true) := by
 intro pins s σ H x y v u Q I rx ry ⟨d, e, hd, he, sd, se, q⟩
 obtain ⟨as, ra⟩ := hd.reads I rx
 obtain ⟨bs, rb⟩ := he.reads I ry
 exact SeqAt.compareNe_shaped ra rb sd se hu (fin_bl I q rfl)
def rIsin (K : PySem.W.Frag) (T : String) : List V → Hp → VK → Prop := fun xs H Q => ∃ x t b, xs = [x, .ty T] ∧ TyOf K H x t ∧ PySem.W.kitOne K t (.type T) = some b ∧ Q (.bl b) H
theorem call_isinst {T : String} : CallR X (.builtin "isinstance") (rIsin X.K T) := by
 intro pins s σ H xs us Q I r ⟨x, t, b, e, ty, ek, q⟩
 subst e
 obtain ⟨u, w', rfl, ru, rw'⟩ := vals2 r
 cases (show w' = Value.type T from rw')
 exact isinst_ok I ru ty ek fun tk => ⟨.bl b, H, I.tok tk, rfl, q⟩
theorem call_isinstC {C : Addr} : CallR X (.builtin "isinstance") (fun xs H Q => ∃ x t b, xs = [x, .ref C] ∧ TyOf X.K H x t ∧ PySem.W.kitOne X.K t (.ref C) = some b ∧ Q (.bl b) H) := by
 intro pins s σ H xs us Q I r ⟨x, t, b, e, ty, ek, q⟩
 subst e
 obtain ⟨u, w', rfl, ru, rw'⟩ := vals2 r
 cases (show w' = Value.ref C from rw')
 exact isinst_ok I ru ty ek fun tk => ⟨.bl b, H, I.tok tk, rfl, q⟩
theorem all_range : ∀ bs : List Bool, (List.range bs.length).all (fun i => bs.getD i true) = bs.all id
 | [] => rfl
 | b :: r => by
  rw [List.length_cons, List.range_succ_eq_map, List.all_cons, List.all_map, List.all_cons]
  have := all_range r
  simp only [List.getD_cons_zero, Function.comp_def, List.getD_cons_succ] at this ⊢
  rw [this]
  rfl
def HdIn (A : Around) (L : List Addr) (h : Heap) : Prop := A.handled = none ∨ ∃ (e : Addr) (oe : Obj) (vs : Array Value), A.handled = some (.ref e) ∧ e ∈ L ∧ h.get? e = some oe ∧ oe.data = .fields vs ∧
 (vs[2]? = some .none ∨ ∃ (b : Addr) (ob : Obj) (vb : Array Value), vs[2]? = some (.ref b) ∧ b ≠ e ∧ b ∈ L ∧ h.get? b = some ob ∧ ob.data = .fields vb ∧ vb[2]? = some .none)
theorem HdIn.at {A : Around} {L : List Addr} {h : Heap} (x : HdIn A L h) : HdAt A h := by
 rcases x with x | ⟨e, oe, vs, a, _, b, c, d⟩
 ·exact .inl x
 ·refine .inr ⟨e, oe, vs, a, b, c, ?_⟩
  rcases d with d | ⟨b, ob, vb, d1, d2, _, d3⟩
  ·exact .inl d
  ·exact .inr ⟨b, ob, vb, d1, d2, d3⟩
theorem HdAt.in {A : Around} {h : Heap} (x : HdAt A h) : ∃ L, HdIn A L h := by
 rcases x with x | ⟨e, oe, vs, a, b, c, d⟩
 ·exact ⟨[], .inl x⟩
 ·rcases d with d | ⟨b', ob, vb, d1, d2, d3⟩
  ·exact ⟨[e], .inr ⟨e, oe, vs, a, by simp, b, c, .inl d⟩⟩
  ·exact ⟨[e, b'], .inr ⟨e, oe, vs, a, by simp, b, c, .inr ⟨b', ob, vb, d1, d2, by simp, d3⟩⟩⟩
theorem HdIn.keepF {A : Around} {L : List Addr} {h h' : Heap} (x : HdIn A L h) (k : ∀ b ∈ L, ∀ o, h.get? b = some o → h'.get? b = some o) : HdIn A L h' := by
 rcases x with x | ⟨e, oe, vs, a, m, b, c, d⟩
 ·exact .inl x
 ·refine .inr ⟨e, oe, vs, a, m, k e m oe b, c, ?_⟩
  rcases d with d | ⟨b, ob, vb, d1, d2, d3, d4, d5⟩
  ·exact .inl d
  ·exact .inr ⟨b, ob, vb, d1, d2, d3, k b d3 ob d4, d5⟩
theorem walks_listH {prog : Program} {w : World} {A : Around} (I ax : Addr) (hne : ax ≠ I) (items : Array Value) (L : List Addr) :
  Walks prog w A I (I :: ax :: L) [I] items.size (fun i v => items[i]? = some v) (fun i h => h.IsListIter I ax i ∧ h.IsList ax items ∧ HdIn A L h) where
 sub := fun b hb => by rw [List.mem_singleton.mp hb]; exact List.mem_cons_self ..
 frame := fun _ _ _ st hk => ⟨st.1.at fun o e => hk I (List.mem_cons_self ..) o e, st.2.1.at fun o e => hk ax (List.mem_cons_of_mem _ (List.mem_cons_self ..)) o e, st.2.2.keepF fun b hb o e => hk b (List.mem_cons_of_mem _ (List.mem_cons_of_mem _ hb)) o e⟩
 item := fun i s Q E hi st hQ => by
  refine wpAny_pyNext_list_item st.1 st.2.1 (x := items[i]) (by simp [hi]) fun h' hit' hs' => ?_
  refine hQ _ h' s.toks (by simp [hi]) ⟨hit', st.2.1.extBut hs'.extBut hne, ?_⟩ fun b o hb e => hs'.extBut b o (fun h => hb (by simp [h])) e
  have nit : ∀ (c : Addr) (o : Obj) (vs : Array Value), s.heap.get? c = some o → o.data = .fields vs → (vs[2]? = some .none ∨ ∃ b, vs[2]? = some (.ref b)) → c ≠ I := fun c o vs b c' d z => by
   subst z
   obtain ⟨o', ho, _, hd⟩ := st.1
   rw [b] at ho; cases ho; rw [hd] at c'; cases c'
   rcases d with d | ⟨_, d⟩ <;> simp at d
  rcases st.2.2 with x | ⟨e, oe, vs, a, m, b, c, d⟩
  ·exact .inl x
  ·refine .inr ⟨e, oe, vs, a, m, hs'.extBut e oe (nit e oe vs b c ?_) b, c, ?_⟩
   ·rcases d with d | ⟨b, _, _, d, _⟩
    ·exact .inl d
    ·exact .inr ⟨b, d⟩
   ·rcases d with d | ⟨b, ob, vb, d1, d2, d3, d4, d5, d6⟩
    ·exact .inl d
    ·exact .inr ⟨b, ob, vb, d1, d2, d3, hs'.extBut b ob (nit b ob vb d4 d5 (.inl d6)) d4, d5, d6⟩
 done := fun s Q E st hQ => list_endH st.2.2.at st.1 st.2.1 (by simp) fun h' he => hQ h' s.toks fun b o hb e => he b o (fun h => hb (by simp [h])) e
 self := fun _ _ _ _ st h => wpAny_pyIter_listiter st.1 h
def rAll (K : PySem.W.Frag) : List V → Hp → VK → Prop := fun xs H Q => ∃ (p : Addr) (bs : List Bool), xs = [.ref p] ∧ SqL K H p (bs.map V.bl) ∧ Q (.bl (bs.all id)) H
theorem call_all (hc : X.calm = true) : CallR X (.builtin "all") (rAll X.K) := by
 intro pins s σ H xs us Q I r ⟨p, bs, e, hq, q⟩
 subst e
 obtain ⟨u, rfl, ru⟩ := vals1 r
 cases (show u = Value.ref p from ru)
 obtain ⟨its, rv, pl, hz⟩ := I.list hq
 have hp : p < s.heap.objs.size := by obtain ⟨o, n, e, _⟩ := pl; exact Heap.lt_size e
 have hlen : its.length = bs.length := by rw [← rv.length, List.length_map]
 refine call_all_walk (wpAny_pyIter_list pl.isList ?_)
 obtain ⟨HL, hHL⟩ := I.hd.in
 refine ⟨s.heap.objs.size, _, [s.heap.objs.size], its.toArray.size, _, _, (fun i => bs.getD i true), rfl, walks_listH s.heap.objs.size p (Nat.ne_of_lt hp) its.toArray HL,
  ⟨⟨_, Heap.get?_push_size _ rfl, rfl, rfl⟩, pl.isList.push _, hHL.keepF fun _ _ _ e => Heap.get?_push_of_some _ e⟩, ?_, fun h' tk hk => ?_⟩
 ·intro i v s' Q' E' hv hQ
  have hv' : its[i]? = some v := by simpa using hv
  have hi : i < bs.length := by rw [← hlen]; exact (List.getElem?_eq_some_iff.mp hv').1
  obtain ⟨w', e1, r1⟩ := rv.get (i := i) (x := .bl bs[i]) (by rw [List.getElem?_map, List.getElem?_eq_getElem hi]; rfl)
  rw [hv'] at e1
  cases e1
  cases (show v = Value.bool bs[i] from r1)
  refine wpAny_truthy_bool ?_
  rw [show bs[i] = bs.getD i true by rw [List.getD_eq_getElem?_getD, List.getElem?_eq_getElem hi]; rfl]
  exact hQ
 ·have ks : ∀ b o, s.heap.get? b = some o → h'.get? b = some o := fun b o e => hk b o (by
   intro z
   rcases List.mem_cons.mp z with z | z
   ·exact absurd (Heap.lt_size e) (by rw [z]; exact Nat.lt_irrefl _)
   ·cases z) (Heap.get?_push_of_some _ e)
  refine ⟨.bl _, H, I.kept (t' := tk) ks, rfl, ?_⟩
  rw [List.size_toArray, hlen, all_range]
  exact q
theorem Inv.bigX {pins : List (Addr × Obj)} {σ : St} {H : Hp} {s : Shared} (I : Inv X pins σ H s) : sysModules < s.heap.objs.size := by
 have h : mainGlobals < s.heap.objs.size := (I.mod.glob.keeps I.bk).lt
 exact Nat.lt_trans (by decide) h
def tDict0 : TE := fun _ H Q => ∀ p, H p = none → Q (.ref p) (upd H p (.dK []))
theorem pe_dict0 {pos : Pos} : PE X (.Dict [] [] pos) tDict0 := fun pins s σ H Q I h =>
 wpAny_Dict_empty ⟨.ref s.heap.objs.size, _, I.laid (a := s.heap.objs.size) (o := .dK []) (t' := s.toks) (fun _ _ q => Heap.get?_push_of_some _ q) (Nat.le_refl _)
  ⟨Nat.zero_le _, beq_eq_false_iff_ne.mpr (Ne.symm (Nat.ne_of_lt I.bigX)), [], .nil, Heap.DictOf.new _⟩, rfl, h _ (I.hok.fresh (Nat.le_refl _))⟩
end
section
variable {prog : Program} {w : World} {A : Around} {E : Value → Shared → Prop} {s : Shared}
end
section
variable {X : Cx}
end
end L2
end
section
set_option Elab.async false
set_option linter.all false
set_option maxRecDepth 100000
set_option maxHeartbeats 4000000
namespace L2
open PySem PySem.Spec PyProof.Rows
structure Mvd (fs ex : List Addr) (h h' : Heap) : Prop where
 keep : ∀ b o, b ∉ ex → b ∉ fs → h.get? b = some o → h'.get? b = some o
 slot : ∀ b o, b ∉ ex → h.get? b = some o → ∃ sl, h'.get? b = some { o with slots := sl }
 there : ∀ b o, h.get? b = some o → ∃ o', h'.get? b = some o'
theorem Mvd.trans {fs ex : List Addr} {h h1 h2 : Heap} (a : Mvd fs ex h h1) (b : Mvd fs ex h1 h2) : Mvd fs ex h h2 where
 keep := fun c o hx hf e => b.keep c o hx hf (a.keep c o hx hf e)
 slot := fun c o hx e => by
  obtain ⟨sl, e1⟩ := a.slot c o hx e
  obtain ⟨sl', e2⟩ := b.slot c _ hx e1
  exact ⟨sl', e2⟩
 there := fun c o e => by
  obtain ⟨o', e1⟩ := a.there c o e
  exact b.there c o' e1
theorem Mvd.mono {fs fs' ex ex' : List Addr} {h h' : Heap} (a : Mvd fs ex h h') (hf : ∀ b ∈ fs, b ∈ fs') (hx : ∀ b ∈ ex, b ∈ ex') : Mvd fs' ex' h h' :=
 ⟨fun c o nx nf e => a.keep c o (fun z => nx (hx c z)) (fun z => nf (hf c z)) e, fun c o nx e => a.slot c o (fun z => nx (hx c z)) e, a.there⟩
def Fly (e T : Addr) (cls fl cx : Value) (h : Heap) : Prop :=
 ∃ oe vs oT ts, h.get? e = some oe ∧ oe.cls = cls ∧ oe.dict = none ∧ oe.data = .fields vs ∧ vs[1]? = some (.ref T) ∧ vs[2]? = some cx ∧ T ≠ e ∧ h.get? T = some oT ∧ oT.data = .fields ts ∧ ts[3]? = some fl
section
variable {M : Model} {A : Around} {E : Value → Shared → Prop} {s : Shared}
theorem setField_mvd {a : Addr} {o : Obj} {vs : Array Value} {i : Nat} {x : Value} (h : Heap) (ho : h.get? a = some o) (hd : o.data = .fields vs) :
  Mvd [] [a] h (h.update a (Obj.mapFields (·.setIfInBounds i x))) ∧ (h.update a (Obj.mapFields (·.setIfInBounds i x))).get? a = some (Obj.mapFields (·.setIfInBounds i x) o) := by
 have self := Heap.get?_update_self (Obj.mapFields (·.setIfInBounds i x)) ho (Obj.isFreed_of_fields (Obj.data_mapFields hd _))
 have oth : ∀ b, b ∉ [a] → (h.update a (Obj.mapFields (·.setIfInBounds i x))).get? b = h.get? b := fun b hb => Heap.get?_update_other _ _ (fun z => hb (by simp [z]))
 refine ⟨⟨fun b ob hb _ e => (oth b hb).trans e, fun b ob hb e => ⟨ob.slots, (oth b hb).trans e⟩, fun b ob e => ?_⟩, self⟩
 by_cases hb : b ∈ [a]
 ·rw [List.mem_singleton.mp hb]; exact ⟨_, self⟩
 ·exact ⟨ob, (oth b hb).trans e⟩
theorem dict_mapFields (f : Array Value → Array Value) (o : Obj) : (Obj.mapFields f o).dict = o.dict := by
 unfold Obj.mapFields; split <;> rfl
theorem entry_new {cx : Value} {base : Heap} {env : Env} {outer : List Env} {L e : Addr} {oe : Obj} {vs : Array Value} {head : Value} {hadNext : Bool} {Q : Unit → Shared → Prop}
  (hfr : A.frames = some (env :: outer)) (hl : s.heap.FunFrames base (env :: outer)) (hf : env.frame = some L)
  (he : s.heap.get? e = some oe) (hdn : oe.dict = none) (hd : oe.data = .fields vs) (hsz : 1 < vs.size) (h2 : vs[2]? = some cx)
  (h : ∀ h' T, Mvd (frs (env :: outer)) [e] s.heap h' → Fly e T oe.cls (rawInt L) cx h' → s.heap.get? T = none → Q () { s with heap := h' }) :
  wpAny M A (do let a ← frameOf env; let pl ← entryPlaceOf L hadNext; let b ← EntryCells.newEntry head a .none (rawInt L) .none pl; setField (.ref e) 1 b) Q E s := by
 have hene : e ∉ (env :: outer).filterMap (·.frame) := fun hm => by
  obtain ⟨_, o, ho, hnf⟩ := hl.mem hm
  rw [he] at ho; injection ho with ho; subst ho; exact hnf vs hd
 refine wpAny_bind (wpAny_frameOf_fun hfr hl hf fun h₁ hs₁ => ?_)
 refine wpAny_bind (wpAny_entryPlaceOf fun pl hpl => ?_)
 unfold EntryCells.newEntry newFields
 refine wpAny_bind (wpAny_newObj_type ?_ (hpl.sizeOk5 _ _ _ _ _))
 have he₁ : h₁.get? e = some oe := (hs₁.2.1 e hene).trans he
 have he₂ := Heap.get?_push_of_some (h := h₁) { cls := .type "traceback", dict := none, data := .fields ([head, .ref L, .none, rawInt L, .none] ++ (if pl.isEmpty then List.replicate 6 Value.none else pl)).toArray } he₁
 obtain ⟨mv, self⟩ := setField_mvd (i := 1) (x := .ref h₁.objs.size) _ he₂ hd
 have hTe : h₁.objs.size ≠ e := Nat.ne_of_gt (Heap.lt_size he₁)
 have hT := (Heap.get?_update_other (h₁.push { cls := .type "traceback", dict := none, data := .fields ([head, .ref L, .none, rawInt L, .none] ++ (if pl.isEmpty then List.replicate 6 Value.none else pl)).toArray })
  (Obj.mapFields (·.setIfInBounds 1 (Value.ref h₁.objs.size))) (Ne.symm hTe)).trans (Heap.get?_push_size h₁ rfl)
 refine wpAny_setField he₂ hd hsz (h _ h₁.objs.size ⟨fun b o hx hb eo => ?_, fun b o hx eo => ?_, fun b o eo => ?_⟩ ⟨_, _, _, _, self, Obj.cls_mapFields _ _, (dict_mapFields _ _).trans hdn, Obj.data_mapFields hd _, by simp [hsz], by rw [Array.getElem?_setIfInBounds_ne (by decide)]; exact h2, hTe, hT, rfl, by simp⟩ ?_)
 ·exact mv.keep b o hx (by simp) (Heap.get?_push_of_some _ ((hs₁.2.1 b hb).trans eo))
 ·obtain ⟨sl, es⟩ := hs₁.2.2 b o eo
  obtain ⟨sl', es'⟩ := mv.slot b _ hx (Heap.get?_push_of_some _ es)
  exact ⟨sl', es'⟩
 ·obtain ⟨sl, es⟩ := hs₁.2.2 b o eo
  exact mv.there b _ (Heap.get?_push_of_some _ es)
 ·cases q : s.heap.get? h₁.objs.size with
  | none => rfl
  | some o =>
   obtain ⟨sl, es⟩ := hs₁.2.2 _ o q
   exact absurd (Heap.lt_size es) (Nat.lt_irrefl _)
theorem note_first {cx : Value} {base : Heap} {env : Env} {outer : List Env} {L e : Addr} {oe : Obj} {vs : Array Value} {Q : Unit → Shared → Prop}
  (hfr : A.frames = some (env :: outer)) (hl : s.heap.FunFrames base (env :: outer)) (hf : env.frame = some L)
  (he : s.heap.get? e = some oe) (hdn : oe.dict = none) (hd : oe.data = .fields vs) (h1 : vs[1]? = some .none) (h2 : vs[2]? = some cx)
  (h : ∀ h' T, Mvd (frs (env :: outer)) [e] s.heap h' → Fly e T oe.cls (rawInt L) cx h' → s.heap.get? T = none → Q () { s with heap := h' }) : wpAny M A (noteFrame (.ref e) env) Q E s := by
 unfold noteFrame
 simp only [hf]
 refine wpAny_bind (wpAny_field he hd h1 ?_)
 rw [if_neg (by decide)]
 exact entry_new hfr hl hf he hdn hd (Array.getElem?_eq_some_iff.mp h1).1 h2 h
theorem note_next {cx : Value} {base : Heap} {env : Env} {outer : List Env} {L e T : Addr} {cls : Value} {Q : Unit → Shared → Prop}
  (hfr : A.frames = some (env :: outer)) (hl : s.heap.FunFrames base (env :: outer)) (hf : env.frame = some L) (ht : Fly e T cls .none cx s.heap)
  (h : ∀ h' T', Mvd (frs (env :: outer)) [e, T] s.heap h' → Fly e T' cls (rawInt L) cx h' → s.heap.get? T' = none → Q () { s with heap := h' }) : wpAny M A (noteFrame (.ref e) env) Q E s := by
 obtain ⟨oe, vs, oT, ts, he, hcls, hdn, hd, h1, h2, hTe, hT, hdT, h3⟩ := ht
 subst hcls
 unfold noteFrame
 simp only [hf]
 refine wpAny_bind (wpAny_field he hd h1 ?_)
 rw [if_pos (show (Value.ref T != Value.none) = true from by simp)]
 refine wpAny_bind (wpAny_field hT hdT h3 ?_)
 rw [if_neg (show ¬ ((Value.none == rawInt L) = true) from by simp [rawInt])]
 refine wpAny_bind (wpAny_setField hT hdT (Array.getElem?_eq_some_iff.mp h3).1 ?_)
 obtain ⟨mv, self⟩ := setField_mvd (i := 3) (x := Value.none) _ hT hdT
 have hl' : (s.heap.update T (Obj.mapFields (·.setIfInBounds 3 Value.none))).FunFrames base (env :: outer) := hl.of_keeps fun b o hb hnf => by
  have hbT : b ∉ [T] := fun z => by rw [List.mem_singleton.mp z, hT] at hb; cases hb; exact hnf ts hdT
  exact ⟨o, mv.keep b o hbT (by simp) hb, rfl⟩
 refine entry_new (s := { s with heap := s.heap.update T (Obj.mapFields (·.setIfInBounds 3 Value.none)) }) hfr hl' hf (mv.keep e oe (by simp [Ne.symm hTe]) (by simp) he) hdn hd (Array.getElem?_eq_some_iff.mp h1).1 h2 fun h' T' mv' fl' fr' => ?_
 refine h h' T' ((mv.mono (by simp) (by simp)).trans (mv'.mono (fun _ z => z) (by simp))) fl' ?_
 cases q : s.heap.get? T' with
 | none => rfl
 | some o =>
  obtain ⟨o', q'⟩ := mv.there T' o q
  rw [show (({ s with heap := s.heap.update T (Obj.mapFields (·.setIfInBounds 3 Value.none)) } : Shared).heap.get? T') = none from fr'] at q'
  cases q'
theorem flight_none {e T : Addr} {cls fl cx : Value} {Q : Unit → Shared → Prop} (ht : Fly e T cls fl cx s.heap)
  (h : ∀ h', Mvd [] [T] s.heap h' → Fly e T cls .none cx h' → Q () { s with heap := h' }) : wpAny M A (setFlight (.ref e) none) Q E s := by
 obtain ⟨oe, vs, oT, ts, he, hcls, hdn, hd, h1, h2, hTe, hT, hdT, h3⟩ := ht
 unfold setFlight
 refine wpAny_bind (wpAny_field he hd h1 ?_)
 rw [if_pos (show (Value.ref T != Value.none) = true from by simp)]
 obtain ⟨mv, self⟩ := setField_mvd (i := 3) (x := (none : Option Addr).elim Value.none fun f => rawInt f) _ hT hdT
 have hsz := (Array.getElem?_eq_some_iff.mp h3).1
 refine wpAny_setField hT hdT hsz (h _ mv ⟨oe, vs, _, _, mv.keep e oe (by simp [Ne.symm hTe]) (by simp) he, hcls, hdn, hd, h1, h2, hTe, self, Obj.data_mapFields hdT _, by simp [hsz]⟩)
theorem note_here {env : Env} {L e T : Addr} {cls cx : Value} {Q : Unit → Shared → Prop} (hf : env.frame = some L) (ht : Fly e T cls (rawInt L) cx s.heap) (h : Q () s) : wpAny M A (noteFrame (.ref e) env) Q E s := by
 obtain ⟨oe, vs, oT, ts, he, hcls, hdn, hd, h1, h2, hTe, hT, hdT, h3⟩ := ht
 unfold noteFrame
 simp only [hf]
 refine wpAny_bind (wpAny_field he hd h1 ?_)
 rw [if_pos (show (Value.ref T != Value.none) = true from by simp)]
 refine wpAny_bind (wpAny_field hT hdT h3 ?_)
 rw [if_pos (show ((rawInt L == rawInt L) = true) from by simp)]
 exact wpAny_pure h
end
end L2
end
section
set_option Elab.async false
set_option linter.all false
set_option maxRecDepth 100000
set_option maxHeartbeats 4000000
namespace L2
open PySem PySem.Spec PyProof.Rows
theorem ObjOk.is {P : Program} {w : World} {H : Hp} {h : Heap} {a : Addr} {o : HO} (x : ObjOk P w H h a o) : ∃ ob, h.get? a = some ob := by
 cases o with
 | lst xs => obtain ⟨_, _, _, _, e⟩ := x; exact ⟨_, e⟩
 | tup xs => obtain ⟨_, _, _, o, e, _⟩ := x; exact ⟨_, e⟩
 | dK kvs => obtain ⟨_, _, _, _, o, _, _, e, _⟩ := x; exact ⟨_, e⟩
 | dT kvs => obtain ⟨_, _, _, _, o, _, _, e, _⟩ := x; exact ⟨_, e⟩
 | set S n => obtain ⟨o, _, _, _, e, _⟩ := x; exact ⟨_, e⟩
 | ins C dx fs => obtain ⟨_, _, _, e, _⟩ := x; exact ⟨_, e⟩
 | own y => obtain ⟨_, e⟩ := x; exact ⟨_, e⟩
 | xd fs => obtain ⟨_, ⟨_, _, _, e, _⟩, _⟩ := x; exact ⟨_, e⟩
 | rng lo hi => obtain ⟨_, _, _, e⟩ := x; exact ⟨_, e⟩
 | frz ob u => obtain ⟨e, _⟩ := x; exact ⟨_, e⟩
 | tbl ps => exact ⟨_, (show h.get? a = some _ from x)⟩
 | met f y => exact ⟨_, (show h.get? a = some _ from x)⟩
 | ext φ => obtain ⟨_, ⟨_, e⟩, _⟩ := x; exact ⟨_, e⟩
 | exc c => obtain ⟨_, _, e, _⟩ := x; exact ⟨_, e⟩
theorem HOk.none_of {P : Program} {w : World} {H : Hp} {h : Heap} (x : HOk P w H h) {a : Addr} (n : h.get? a = none) : H a = none := by
 cases q : H a with
 | none => rfl
 | some u => obtain ⟨o, e⟩ := (x a u q).is; rw [n] at e; cases e
theorem HOk.put {P : Program} {w : World} {H : Hp} {h : Heap} {a : Addr} {o : HO} (x : HOk P w H h) (hn : H a = none) (new : ObjOk P w (upd H a o) h a o) : HOk P w (upd H a o) h := fun b u e => by
 by_cases hb : b = a
 ·subst hb; rw [upd_same] at e; cases e; exact new
 ·rw [upd_ne hb] at e
  exact (x b u e).stay (fun c v _ q => q) (fun c q => by rw [upd_ne (ne_of_none q hn)]; exact q) fun c xs q => by rw [upd_ne (ne_of_none q hn)]; exact q
section
variable {X : Cx} {pins : List (Addr × Obj)} {σ σ' : St} {H H' : Hp} {s : Shared} {h' : Heap}
theorem Inv.stepN {g' : Array GenState} {t' : Nat} {d' : Drawn} {ch : List Addr} (I : Inv X pins σ H s)
  (hch : ∀ b ∈ ch, X.s₀.heap.get? b = none ∧ b ≠ X.env.locals ∧ (∀ x c, X.env.cells.lookup x = some c → c ≠ b) ∧ ∀ p ∈ X.pn ++ pins, p.1 ≠ b)
  (keep : ∀ b o, b ≠ X.env.locals → b ∉ X.fs → b ∉ ch → s.heap.get? b = some o → H b = none → h'.get? b = some o)
  (slot : ∀ b o, b ≠ X.env.locals → b ∈ X.fs → b ∉ ch → s.heap.get? b = some o → H b = none → ∃ sl, h'.get? b = some { o with slots := sl }) (free : ∀ b o, b ∉ ch → s.heap.get? b = some o → H b = none → H' b = none)
  (there : ∀ b o, b ∉ ch → s.heap.get? b = some o → ∃ o', h'.get? b = some o')
  (tups : ∀ b xs, H b = some (.tup xs) → H' b = some (.tup xs)) (frzs : ∀ b o u, H b = some (.frz o u) → H' b = some (.frz o u)) (tbls : ∀ b ps, H b = some (.tbl ps) → ∃ more, H' b = some (.tbl (ps ++ more))) (excs : ∀ b c, H b = some (.exc c) → H' b = some (.exc c))
  (loc : (∀ x c, X.env.cells.lookup x = some c → ∀ v, s.heap.IsCell c v → h'.IsCell c v) → ∃ m, h'.Ns X.env.locals m ∧ ∀ (i : Nat) (x : Str) (v : V), X.N[i]? = some x → σ'[i]? = some (some v) → Vis X.env.scope x → ∃ u, RelV v u ∧ Look X.env h' m x u)
  (fix : (∀ x c, X.env.cells.lookup x = some c → ∀ v, s.heap.IsCell c v → h'.IsCell c v) → ∀ p ∈ X.fx, ∃ m, h'.Ns X.env.locals m ∧ Look X.env h' m p.1 p.2)
  (len : σ'.length = σ.length) (hok : HOk X.prog X.w H' h') (hg : AllBare g') :
  Inv X pins σ' H' { s with heap := h', gens := g', drawn := d', toks := t' } := by
 have neL : ∀ b o, X.s₀.heap.get? b = some o → b ≠ X.env.locals := fun b o e => Nat.ne_of_lt (Nat.lt_of_lt_of_le (Heap.lt_size e) I.ok.above)
 have neC : ∀ b o, X.s₀.heap.get? b = some o → b ∉ ch := fun b o e hb => by
  rw [(hch b hb).1] at e; cases e
 have cellK : ∀ x c, X.env.cells.lookup x = some c → ∀ v, s.heap.IsCell c v → h'.IsCell c v := fun x c e v ⟨o, ho, hd⟩ => by
  have nch : c ∉ ch := fun z => (hch c z).2.2.1 x c e rfl
  by_cases hc : c ∈ X.fs
  ·obtain ⟨sl, q⟩ := slot c o (I.cne x c e) hc nch ho (I.freeC x c e)
   exact ⟨_, q, hd⟩
  ·exact ⟨o, keep c o (I.cne x c e) hc nch ho (I.freeC x c e), hd⟩
 refine ⟨I.ok, I.os, hg, ⟨fun b o e n hb hx => ?_, fun b o e n hb hx => ?_, fun b o e n hx => ?_, fun b o e hx => ?_, fun b xs e => tups b xs (I.base.tups b xs e), fun b o xs e => frzs b o xs (I.base.frzs b o xs e), fun b ps e => ?_, fun b c e => excs b c (I.base.excs b c e)⟩, loc cellK, fun x c e => ?_, ?_, fun x c e => ?_, fun p hp => ?_, hok, len.trans I.len, fun p hp => excs _ _ (I.tr p hp), fix cellK⟩
 ·exact keep b o (neL b o e) hb (neC b o e) (I.base.keep b o e n hb hx) (I.base.free b o e n hx)
 ·obtain ⟨sl, e1⟩ := I.base.slot b o e n hb hx
  obtain ⟨sl', e2⟩ := slot b _ (neL b o e) hb (neC b o e) e1 (I.base.free b o e n hx)
  exact ⟨sl', e2⟩
 ·obtain ⟨o', e1⟩ := I.base.there b o e hx
  exact free b o' (neC b o e) e1 (I.base.free b o e n hx)
 ·obtain ⟨o', e1⟩ := I.base.there b o e hx
  exact there b o' (neC b o e) e1
 ·obtain ⟨m1, e1⟩ := I.base.tbls b ps e
  obtain ⟨m2, e2⟩ := tbls b _ e1
  exact ⟨m1 ++ m2, by rw [e2, Array.append_assoc]⟩
 ·obtain ⟨v, z⟩ := I.cell x c e
  exact ⟨v, cellK x c e v z⟩
 ·obtain ⟨m, ⟨o, _, _, ho, _⟩, _⟩ := I.loc
  exact free _ o (fun z => (hch _ z).2.1 rfl) ho I.free
 ·obtain ⟨v, o, ho, hd⟩ := I.cell x c e
  exact free c o (fun z => (hch c z).2.2.1 x c e rfl) ho (I.freeC x c e)
 ·obtain ⟨e, n, ne, nf, d⟩ := I.pin p hp
  have nch : p.1 ∉ ch := fun z => (hch p.1 z).2.2.2 p hp rfl
  exact ⟨keep p.1 p.2 ne nf nch e n, free p.1 p.2 nch e n, ne, nf, d⟩
structure Nw (X : Cx) (pins : List (Addr × Obj)) (H : Hp) (b : Addr) : Prop where
 free : H b = none
 new : X.s₀.heap.get? b = none
 loc : b ≠ X.env.locals
 cel : ∀ x c, X.env.cells.lookup x = some c → c ≠ b
 pin : ∀ p ∈ X.pn ++ pins, p.1 ≠ b
theorem Nw.of (I : Inv X pins σ H s) (hex : X.ex = []) {b : Addr} (n : s.heap.get? b = none) (f : H' b = none) : Nw X pins H' b where
 free := f
 new := by
  cases q : X.s₀.heap.get? b with
  | none => rfl
  | some o => obtain ⟨o', e⟩ := I.base.there b o q (by rw [hex]; simp); rw [n] at e; cases e
 loc := fun z => by obtain ⟨m, ⟨o, _, _, ho, _⟩, _⟩ := I.loc; rw [← z, n] at ho; cases ho
 cel := fun x c e z => by obtain ⟨v, o, ho, _⟩ := I.cell x c e; rw [z, n] at ho; cases ho
 pin := fun p hp z => by obtain ⟨e, _⟩ := I.pin p hp; rw [z, n] at e; cases e
theorem Inv.mvd {ex : List Addr} (I : Inv X pins σ H s) (mv : Mvd (frs X.stack) ex s.heap h') (hex : ∀ b ∈ ex, Nw X pins H b) : Inv X pins σ H { s with heap := h' } := by
 have nx : ∀ b u, H b = some u → b ∉ ex := fun b u e z => by rw [(hex b z).free] at e; cases e
 have nf : ∀ b u, H b = some u → b ∉ frs X.stack := fun b u e z => by rw [I.stkFree b z] at e; cases e
 refine I.stepN (g' := s.gens) (d' := s.drawn) (t' := s.toks) (ch := ex) (fun b hb => ⟨(hex b hb).new, (hex b hb).loc, (hex b hb).cel, (hex b hb).pin⟩) (fun b o hL hf hc e _ => mv.keep b o hc (fun z => (List.mem_cons.mp (I.stkSub b z)).elim hL hf) e) (fun b o _ _ hc e _ => mv.slot b o hc e)
  (fun _ _ _ _ n => n) (fun b o _ e => mv.there b o e) (fun _ _ e => e) (fun _ _ _ e => e) (fun b ps e => ⟨#[], by rw [e]; simp⟩) (fun _ _ e => e) (fun cellK => ?_) (fun cellK p hp => ?_) rfl (fun a o e => (I.hok a o e).stay (fun b u hb q => ?_) (fun _ q => q) fun _ _ q => q) I.bare
 ·obtain ⟨m, ⟨o, es, ep, ho, r⟩, hl⟩ := I.loc
  obtain ⟨sl, hL⟩ := mv.slot _ o (fun z => (hex _ z).loc rfl) ho
  refine ⟨m, ⟨_, es, ep, hL, r⟩, fun i x v e1 e2 e3 => ?_⟩
  obtain ⟨u, r, l⟩ := hl i x v e1 e2 e3
  refine ⟨u, r, ?_⟩
  rcases l with l | ⟨k, c, e, z⟩
  ·exact .inl l
  ·exact .inr ⟨k, c, e, cellK x c e _ z⟩
 ·obtain ⟨m, ⟨o, es, ep, ho, r⟩, lk⟩ := I.fix p hp
  obtain ⟨sl, hL⟩ := mv.slot _ o (fun z => (hex _ z).loc rfl) ho
  exact ⟨m, ⟨_, es, ep, hL, r⟩, lk.elim .inl fun ⟨k, c, e, z⟩ => .inr ⟨k, c, e, cellK p.1 c e _ z⟩⟩
 ·rcases hb with rfl | hb
  ·exact mv.keep b u (nx b _ e) (nf b _ e) q
  ·exact mv.keep b u (nx b _ hb) (nf b _ hb) q
end
def Raw (e : Addr) (cls cx : Value) (h : Heap) : Prop := ∃ oe vs, h.get? e = some oe ∧ oe.cls = cls ∧ oe.dict = none ∧ oe.data = .fields vs ∧ vs[1]? = some .none ∧ vs[2]? = some cx
def Chn (H : Hp) (h : Heap) (e : Addr) (cx : Value) (d : Option Addr) : Prop := (d = none ∧ cx = .none) ∨ ∃ (b : Addr) (ob : Obj) (vb : Array Value), d = some b ∧ cx = .ref b ∧ b ≠ e ∧ H b = some (.own e) ∧ h.get? b = some ob ∧ ob.data = .fields vb ∧ vb[2]? = some .none
theorem Chn.keep {H H' : Hp} {h h' : Heap} {e : Addr} {cx : Value} {d : Option Addr} (x : Chn H h e cx d) (k : ∀ b ob, H b = some (.own e) → h.get? b = some ob → H' b = some (.own e) ∧ h'.get? b = some ob) : Chn H' h' e cx d := by
 rcases x with x | ⟨b, ob, vb, x1, x2, x3, x4, x5, x6⟩
 ·exact .inl x
 ·obtain ⟨y1, y2⟩ := k b ob x4 x5
  exact .inr ⟨b, ob, vb, x1, x2, x3, y1, y2, x6⟩
def Air (X : Cx) (pins : List (Addr × Obj)) (H : Hp) (e : Addr) (cls : Value) (d : Option Addr) (h : Heap) : Prop := Nw X pins H e ∧ ∃ cx, Chn H h e cx d ∧ (Raw e cls cx h ∨ ∃ T fl, Fly e T cls fl cx h ∧ (fl = .none ∨ fl = rawInt X.env.locals) ∧ Nw X pins H T)
def Out (X : Cx) (E : XK) : Prop := ∀ (pins : List (Addr × Obj)) (σ : St) (H : Hp) (s : Shared) (e : Addr) (cls : Value) (d : Option Addr), Inv X pins σ H s → Air X pins H e cls d s.heap → E cls d H → X.xe (.ref e) s
def CXE (P : Program) (w : World) : CXT := fun outer H s E e s' => (outer = [] ∧ E = fun _ _ _ => True) ∨ ∃ (a T : Addr) (cls cx : Value) (d : Option Addr) (H' : Hp), e = .ref a ∧ s'.os = s.os ∧ AllBare s'.gens ∧ Un (frs outer) [] H H' s.heap s'.heap ∧ HOk P w H' s'.heap ∧
 H' a = none ∧ s.heap.get? a = none ∧ Fly a T cls .none cx s'.heap ∧ Chn H' s'.heap a cx d ∧ H' T = none ∧ s.heap.get? T = none ∧ E cls d H'
theorem calm_of {P : Program} {w : World} {A : Around} (s : Shared) (h : Calm (CXE P w) A) : A.handled = none := by
 rcases h with h | h
 ·have q : CXE P w [] (fun _ => none) s (fun _ _ _ => True) .none s := .inl ⟨rfl, rfl⟩
  rw [h] at q
  exact q.elim
 ·exact h
section
variable {X : Cx} {pins : List (Addr × Obj)} {σ : St} {H : Hp} {s : Shared} {E : XK} {M : Model} {e : Addr} {cls : Value}
theorem passes_out (O : Out X E) (hst : X.stack = X.env :: X.outer) (hex : X.ex = []) : Passes (CXE X.prog X.w) X E := by
 intro pins σ H s e s' I h
 rcases h with ⟨h, _⟩ | ⟨a, T, cls, cx, d, H', rfl, os, bare, un, hok, f1, n1, fl, ch, f2, n2, q⟩
 ·rw [hst] at h; cases h
 ·have I' : Inv X pins σ H' s' := I.call' (ch := []) os un hok bare (fun b z => absurd z (by simp))
  exact O pins σ H' s' a cls d I' ⟨Nw.of I hex n1 f1, cx, ch, .inr ⟨T, _, fl, .inl rfl, Nw.of I hex n2 f2⟩⟩ q
theorem Inv.own_kept {ex : List Addr} {h' : Heap} (I : Inv X pins σ H s) (mv : Mvd (frs X.stack) ex s.heap h') (hex : ∀ b ∈ ex, Nw X pins H b) : ∀ b ob, H b = some (.own e) → s.heap.get? b = some ob → H b = some (.own e) ∧ h'.get? b = some ob := fun b ob hb q =>
 ⟨hb, mv.keep b ob (fun z => by rw [(hex b z).free] at hb; cases hb) (fun z => by rw [I.stkFree b z] at hb; cases hb) q⟩
theorem look_note {A : Around} {Ex : Value → Shared → Prop} {d : Option Addr} {Q : Unit → Shared → Prop} (I : Inv X pins σ H s) (hA : A.frames = X.A.frames) (hst : X.stack = X.env :: X.outer) (hfr : X.env.frame = some X.env.locals) (hex : X.ex = []) (a : Air X pins H e cls d s.heap)
  (h : ∀ h' T cx, Inv X pins σ H { s with heap := h' } → Fly e T cls (rawInt X.env.locals) cx h' → Chn H h' e cx d → Nw X pins H T → Nw X pins H e → Q () { s with heap := h' }) :
  wpAny M A (noteFrame (.ref e) X.env) Q Ex s := by
 have hl := I.stack
 have hf := I.ok.frames
 rw [hst] at hl hf
 rw [← hA] at hf
 obtain ⟨ne, cx, ch, a⟩ := a
 have fin : ∀ (h1 : Heap) (T : Addr) (ex : List Addr), Mvd (frs (X.env :: X.outer)) ex s.heap h1 → (∀ b ∈ ex, Nw X pins H b) → Fly e T cls (rawInt X.env.locals) cx h1 → s.heap.get? T = none →
   Q () { s with heap := h1 } := fun h1 T ex mv hx fl nT => by
  have mv' : Mvd (frs X.stack) ex s.heap h1 := by rw [hst]; exact mv
  exact h h1 T cx (I.mvd mv' hx) fl (ch.keep (I.own_kept mv' hx)) (Nw.of I hex nT (I.hok.none_of nT)) ne
 rcases a with ⟨oe, vs, he, hc, hdn, hd, h1, h2⟩ | ⟨T0, fl0, fl, hfl, nT0⟩
 ·subst hc
  refine note_first hf hl hfr he hdn hd h1 h2 fun h' T mv fl nT => fin h' T [e] mv (fun b hb => by rw [List.mem_singleton.mp hb]; exact ne) fl nT
 ·rcases hfl with rfl | rfl
  ·refine note_next hf hl hfr fl fun h' T mv fl nT => fin h' T [e, T0] mv (fun b hb => ?_) fl nT
   rcases List.mem_cons.mp hb with rfl | hb
   ·exact ne
   ·rw [List.mem_singleton.mp hb]; exact nT0
  ·exact note_here hfr fl (h s.heap T0 cx I fl ch nT0 ne)
theorem look_land {A : Around} {Ex : Value → Shared → Prop} {d : Option Addr} {Q : Unit → Shared → Prop} (I : Inv X pins σ H s) (hA : A.frames = X.A.frames) (hst : X.stack = X.env :: X.outer) (hfr : X.env.frame = some X.env.locals) (hex : X.ex = []) (a : Air X pins H e cls d s.heap)
  (h : ∀ h' T cx, Inv X pins σ H { s with heap := h' } → Fly e T cls .none cx h' → Chn H h' e cx d → Nw X pins H T → Nw X pins H e → Q () { s with heap := h' }) :
  wpAny M A (noteFrame (.ref e) X.env) (fun _ s2 => wpAny M A (setFlight (.ref e) none) Q Ex s2) Ex s := by
 refine look_note I hA hst hfr hex a fun h1 T cx I1 fl ch nT ne => ?_
 refine flight_none (s := { s with heap := h1 }) fl fun h2 mv2 fl2 => ?_
 have mv' : Mvd (frs X.stack) [T] h1 h2 := mv2.mono (fun b z => nomatch z) fun b z => z
 have hx : ∀ b ∈ [T], Nw X pins H b := fun b hb => by rw [List.mem_singleton.mp hb]; exact nT
 exact h h2 T cx (I1.mvd mv' hx) fl2 (ch.keep (I1.own_kept mv' hx)) nT ne
end
theorem out_fn {P : Program} {w : World} {K : PySem.W.Frag} {mg : Str → Option Value} {base : Heap} {N : List Str} {qual : Str} {scope : Scope} {f : Addr} {cd : Value} {A : Around} {outer : List Env} {s : Shared} {H : Hp} {E E' : XK} (hE : ∀ c d H, E' c d H → E c d H) :
  Out (cxOf (CXE P w) P w K mg base N qual scope f cd A outer s H E) E' := by
 intro pins σ H' s' e cls d I a q
 show wpAny _ _ (leaving _ (.ref e)) _ _ _
 unfold leaving
 refine wpAny_bind (look_land I rfl rfl rfl rfl a fun h' T cx I' fl ch nT ne => ?_)
 exact .inr ⟨e, T, cls, cx, d, H', rfl, I'.os, I'.bare, I'.base, I'.hok, ne.free, ne.new, fl, ch, nT.free, nT.new, hE _ _ _ q⟩
theorem passes_fn {P : Program} {w : World} {K : PySem.W.Frag} {mg : Str → Option Value} {base : Heap} {N : List Str} {qual : Str} {scope : Scope} {f : Addr} {cd : Value} {A : Around} {outer : List Env} {s : Shared} {H : Hp} {E E' : XK} (hE : ∀ c d H, E' c d H → E c d H) :
  Passes (CXE P w) (cxOf (CXE P w) P w K mg base N qual scope f cd A outer s H E) E' := passes_out (X := cxOf (CXE P w) P w K mg base N qual scope f cd A outer s H E) (out_fn hE) rfl rfl
theorem cxe0 {P : Program} {w : World} {l : List Env} {H : Hp} {s : Shared} {e : Value} {s' : Shared} (h : CXE P w l H s (fun _ _ _ => False) e s') : False := by
 rcases h with ⟨_, h⟩ | ⟨a, T, cls, cx, d, H', _, _, _, _, _, _, _, _, _, _, _, q⟩
 ·have := congrFun (congrFun (congrFun h .none) none) H
  rw [this]; trivial
 ·exact q
theorem passesE0 {X : Cx} : Passes (CXE X.prog X.w) X E0 := fun _ _ _ _ _ _ _ h => (cxe0 h).elim
theorem own_obj {K : PySem.W.Frag} {h : Heap} {C : Addr} {bmB : List Value} {newId : String} (X : K.In h) (q : PySem.W.excIn K C bmB newId = true) :
  ∃ bm N nm qn bs hdct sn sub ab col dd k0 k1 k2 k3 k5 mN, h.get? C = some (excClassObj nm qn C N bs bm hdct sn sub ab col dd k0 k1 k2 k3 k5 newId) ∧ h.Ns N mN ∧ mN "__init__" = none ∧ OwnTail h bmB bm := by
 unfold PySem.W.excIn at q
 split at q
 ·rename_i dd cd sl ho
  split at q
  ·rename_i C' bm k0 k1 k2 k3 n k5 hm hs
   simp only [Bool.and_eq_true, beq_iff_eq, Bool.not_eq_true'] at q
   obtain ⟨⟨⟨⟨⟨rfl, rfl⟩, hdel⟩, ht⟩, hok⟩, hni⟩ := q
   obtain ⟨nm, bs, mro, ns, qn, hd, sn, sub, ab, col, del⟩ := cd
   dsimp only at hm hdel hok hni
   subst hm hdel
   have hsl : sl = #[k0, k1, k2, k3, some (.builtin n), k5] := by
    obtain ⟨l⟩ := sl
    simp only at hs
    rw [hs]
   subst hsl
   exact ⟨bm, ns, nm, qn, bs, hd, sn, sub, ab, col, dd, k0, k1, k2, k3, k5, _, X _ _ ho, .of_isNs (PySem.W.isNs_of_in X hok), PySem.W.nsMap_none_of_in X hok hni, PySem.W.tail_of_in X ht⟩
  ·cases q
 ·cases q
abbrev veMro : List Value := [.type "ValueError", .type "Exception", .type "BaseException", .type "object"]
def tRaise (E : XK) (C : Addr) (t : TA) : TS := fun _ σ H => t σ H fun vs H1 => vs.length ≤ 1000 ∧ E (.ref C) none H1
theorem ps_raise {X : Cx} {E : XK} {C : Addr} {x : Str} {np cpos pos : Pos} {e : Expr} {es : List Expr} {t : TA} (O : Out X E) (hex : X.ex = []) (hh : X.A.handled = none) (hg : Gl X x) (hm : X.mg x = some (.ref C)) (hc : PySem.W.excIn X.K C veMro "ValueError.__new__" = true)
  (ha : PA X (e :: es) t) (hdb : (x == ("__debug__" : Str)) = false := by decide) (he : starEach (e :: es) X.env = (false, eval e X.env) :: starEach es X.env := by rfl) (hpl : (backTo cpos (starEach es X.env)).any (·.1) = false := by rfl) :
  PS X (.Raise (some (.Call (.Name x np) (e :: es) [] cpos)) none pos) (tRaise E C t) := by
 intro pins s σ H D I h
 obtain ⟨bm, N, nm, q, bs, hdct, sn, sub, ab, col, dd, k0, k1, k2, k3, k5, mN, hC, hN, hni, T⟩ := own_obj I.ok.mod.kin hc
 refine wpAny_Raise_call_subT (C := C) (nm := nm) (q := q) (N := N) (bs := bs) (bm := bm) (hdct := hdct) (sn := sn) (sub := sub) (ab := ab) (col := col) (dd := dd) (k0 := k0) (k1 := k1) (k2 := k2) (k3 := k3) (k5 := k5)
  PySem.F.excBase_ValueError (mN := mN) (T.hasType PySem.F.excBase_ValueError.hasBase) hh (by rw [he]; show (false || (backTo cpos (starEach es X.env)).any (·.1)) = false; rw [hpl]; rfl) hni (ld_glob I hg hm ⟨rfl, ?_⟩ hdb)
 have h2 := ha cpos pins s σ H _ I h
 rw [he] at h2 ⊢
 refine Calls.evalArgs_plain (wpAny_mono h2 (fun us s2 ⟨vs, H1, I1, r, z, q⟩ => ?_) fun _ _ y => y)
 refine ⟨rfl, ?_, I1.bk _ _ hC, hN.keeps I1.bk, T.keeps I1.bk, fun h' e hm => ?_⟩
 ·have e := r.length
  show us.length ≤ _
  rw [← e]
  exact Nat.le_of_lt (small1000 z)
 ·have I2 : Inv X pins σ H1 { s2 with heap := h' } := I1.kept (t' := s2.toks) hm.keeps
  obtain ⟨t, h1, h2, h3⟩ := hm.there
  exact O pins σ H1 { s2 with heap := h' } e (.ref C) none I2 ⟨Nw.of I1 hex hm.new (I1.hok.none_of hm.new), .none, .inl ⟨rfl, rfl⟩, .inl ⟨_, _, h1, rfl, rfl, rfl, rfl, rfl⟩⟩ q
end L2
end
section
set_option Elab.async false
set_option linter.all false
set_option maxRecDepth 100000
set_option maxHeartbeats 4000000
namespace L2
open PySem PySem.Spec PyProof.Rows
structure CatK (K : PySem.W.Frag) (C : Addr) : Prop where
 cls : (match K.lookup C with | some ⟨.type "type", _, .cls _, _⟩ => true | _ => false) = true
 bx : PySem.W.mroIn K C (.type "BaseException") = some true
open PySem.W in
theorem exc_matches {M : Model} {A : Around} {E : Value → Shared → Prop} {s : Shared} {K : PySem.W.Frag} {C0 C e : Addr} {oe : Obj} {b : Bool} {Q : Bool → Shared → Prop} (X : K.In s.heap) (k : CatK K C0) (he : s.heap.get? e = some oe) (hcls : oe.cls = .ref C)
  (hm : mroIn K C (.ref C0) = some b) (h : Q b s) : wpAny M A (excMatches (.ref e) (.ref C0)) Q E s := by
 obtain ⟨hp, g, d, t, os⟩ := s
 have L1 := looks_mroIn (M := M) X k.bx
 have L2 := looks_mroIn (M := M) X hm
 have kc := k.cls
 split at kc
 ·rename_i dd cd sl ho
  have hC : hp.get? C0 = some ⟨.type "type", dd, .cls cd, sl⟩ := X _ _ ho
  have f := tc_notTuple
  unfold excMatches
  repeat (first | (with_reducible refine wpAny_loadPart_at he ?_; rw [hcls]) | with_reducible refine wpAny_loadPart_at hC ?_ | (with_reducible refine L1.here ?_) | (with_reducible refine L2.here ?_) | wp_step)
  cases b <;> (wp_walk; exact h)
 ·cases kc
end L2
namespace L2
open PySem PySem.Spec PyProof.Rows
abbrev Cx.bod (X : Cx) (pn : List (Addr × Obj)) (fx : List (Str × Value)) (xe : Value → Shared → Prop) : Cx := { X with pn := pn, fx := fx, xe := xe }
abbrev Cx.hnd (X : Cx) (e : Addr) (c : Value) (pn : List (Addr × Obj)) : Cx := { X with A := X.A.mark (some (.ref e)), pn := pn, tr := (e, c) :: X.tr, xe := fun _ _ => False }
theorem Cx.Ok.bod {X : Cx} (ok : X.Ok) (pn : List (Addr × Obj)) (fx : List (Str × Value)) (xe : Value → Shared → Prop) : (X.bod pn fx xe).Ok :=
 ⟨ok.mod, ok.kind, ok.glob, ok.blt, ok.above, ok.inj, ok.has, ok.cab, ok.hd, ok.frames, ok.stk, ok.exf, ok.bs, ok.bsz, ok.noex, ok.exfs, ok.funs, ok.frf⟩
theorem Cx.Ok.hnd {X : Cx} (ok : X.Ok) (e : Addr) (c : Value) (pn : List (Addr × Obj)) : (X.hnd e c pn).Ok :=
 ⟨ok.mod, ok.kind, ok.glob, ok.blt, ok.above, ok.inj, ok.has, ok.cab, .inr ⟨e, c, rfl, .inr (List.mem_cons_self ..)⟩, ok.frames, ok.stk, ok.exf, ok.bs, ok.bsz, ok.noex, ok.exfs, ok.funs, ok.frf⟩
def mask (W : List Str) : List Str → St → St
 | n :: N, v :: σ => (if W.contains n = true then none else v) :: mask W N σ
 | _, σ => σ
theorem mask_len (W : List Str) : ∀ (N : List Str) (σ : St), (mask W N σ).length = σ.length
 | [], _ => rfl
 | _ :: _, [] => rfl
 | _ :: N, _ :: σ => by simp [mask, mask_len W N σ]
theorem mask_get {W : List Str} : ∀ {N : List Str} {σ : St} {i : Nat} {x : Str} {v : V}, N[i]? = some x → (mask W N σ)[i]? = some (some v) → σ[i]? = some (some v) ∧ x ∉ W
 | [], _, _, _, _, h, _ => by simp at h
 | _ :: _, [], _, _, _, _, h => by simp [mask] at h
 | n :: N, u :: σ, 0, x, v, h1, h2 => by
  simp only [List.getElem?_cons_zero, Option.some.injEq] at h1
  subst h1
  simp only [mask, List.getElem?_cons_zero, Option.some.injEq] at h2
  split at h2
  ·cases h2
  ·rename_i hc
   exact ⟨by simp [h2], fun z => hc (by simpa using z)⟩
 | n :: N, u :: σ, i + 1, x, v, h1, h2 => by
  have := mask_get (N := N) (σ := σ) (i := i) (x := x) (v := v) (by simpa using h1) (by simpa [mask] using h2)
  simpa using this
section
variable {X : Cx} {pins : List (Addr × Obj)} {σ : St} {H : Hp} {s : Shared} {e : Addr} {c : Value}
theorem Inv.fixed (I : Inv X pins σ H s) (W : List Str) : ∃ fx : List (Str × Value), (∀ p ∈ fx, p.1 ∉ W) ∧ (∀ p ∈ fx, ∃ m, s.heap.Ns X.env.locals m ∧ Look X.env s.heap m p.1 p.2) ∧
  ∀ (i : Nat) (x : Str) (v : V), X.N[i]? = some x → σ[i]? = some (some v) → Vis X.env.scope x → x ∉ W → ∃ u, RelV v u ∧ (x, u) ∈ fx := by
 obtain ⟨m, hn, hl⟩ := I.loc
 have key : ∀ n : Nat, ∃ fx : List (Str × Value), (∀ p ∈ fx, p.1 ∉ W) ∧ (∀ p ∈ fx, ∃ m, s.heap.Ns X.env.locals m ∧ Look X.env s.heap m p.1 p.2) ∧
   ∀ (i : Nat) (x : Str) (v : V), i < n → X.N[i]? = some x → σ[i]? = some (some v) → Vis X.env.scope x → x ∉ W → ∃ u, RelV v u ∧ (x, u) ∈ fx := by
  intro n
  induction n with
  | zero => exact ⟨[], fun p h => (by cases h), fun p h => (by cases h), fun i x v h => absurd h (Nat.not_lt_zero _)⟩
  | succ n ih =>
   obtain ⟨fx, h1, h2, h3⟩ := ih
   by_cases hx : ∃ x v, X.N[n]? = some x ∧ σ[n]? = some (some v) ∧ Vis X.env.scope x ∧ x ∉ W
   ·obtain ⟨x, v, a1, a2, a3, a4⟩ := hx
    obtain ⟨u, r, lk⟩ := hl n x v a1 a2 a3
    refine ⟨(x, u) :: fx, fun p hp => ?_, fun p hp => ?_, fun i y v' hi b1 b2 b3 b4 => ?_⟩
    ·rcases List.mem_cons.mp hp with rfl | hp
     ·exact a4
     ·exact h1 p hp
    ·rcases List.mem_cons.mp hp with rfl | hp
     ·exact ⟨m, hn, lk⟩
     ·exact h2 p hp
    ·by_cases hin : i = n
     ·subst hin
      rw [a1] at b1; cases b1
      rw [a2] at b2; cases b2
      exact ⟨u, r, List.mem_cons_self ..⟩
     ·obtain ⟨u', r', z⟩ := h3 i y v' (by omega) b1 b2 b3 b4
      exact ⟨u', r', List.mem_cons_of_mem _ z⟩
   ·refine ⟨fx, h1, h2, fun i y v' hi b1 b2 b3 b4 => ?_⟩
    by_cases hin : i = n
    ·subst hin
     exact absurd ⟨y, v', b1, b2, b3, b4⟩ hx
    ·exact h3 i y v' (by omega) b1 b2 b3 b4
 obtain ⟨fx, h1, h2, h3⟩ := key X.N.length
 exact ⟨fx, h1, h2, fun i x v a1 a2 a3 a4 => h3 i x v (List.getElem?_eq_some_iff.mp a1).1 a1 a2 a3 a4⟩
theorem Inv.bod (I : Inv X pins σ H s) (hfx0 : X.fx = []) {fx : List (Str × Value)} (hf : ∀ p ∈ fx, ∃ m, s.heap.Ns X.env.locals m ∧ Look X.env s.heap m p.1 p.2) (xe : Value → Shared → Prop) : Inv (X.bod (X.pn ++ pins) fx xe) [] σ H s :=
 ⟨I.ok.bod _ _ _, I.os, I.bare, I.base, I.loc, I.cell, I.free, I.freeC, fun p hp => I.pin p (by simpa using hp), I.hok, I.len, I.tr, hf⟩
theorem Inv.unbod {fx : List (Str × Value)} {xe : Value → Shared → Prop} (J : Inv X pins σ H s) (hfx0 : X.fx = []) {ps : List (Addr × Obj)} {σ' : St} {H' : Hp} {s' : Shared} (I : Inv (X.bod (X.pn ++ pins) fx xe) ps σ' H' s') : Inv X pins σ' H' s' :=
 ⟨J.ok, I.os, I.bare, I.base, I.loc, I.cell, I.free, I.freeC, fun p hp => I.pin p (List.mem_append_left _ hp), I.hok, I.len, I.tr, fun p hp => by rw [hfx0] at hp; cases hp⟩
theorem Nw.unbod {fx : List (Str × Value)} {xe : Value → Shared → Prop} {ps : List (Addr × Obj)} {b : Addr} (n : Nw (X.bod (X.pn ++ pins) fx xe) ps H b) : Nw X pins H b := ⟨n.free, n.new, n.loc, n.cel, fun p hp => n.pin p (List.mem_append_left _ hp)⟩
theorem Nw.hnd {e' : Addr} {b : Addr} (n : Nw X pins H b) (hb : b ≠ e') (c : Value) (o : HO) : Nw (X.hnd e' c (X.pn ++ pins)) [] (upd H e' o) b := ⟨by rw [upd_ne hb]; exact n.free, n.new, n.loc, n.cel, fun p hp => n.pin p (by simpa using hp)⟩
theorem Inv.hnd (I : Inv X pins σ H s) (hfx0 : X.fx = []) (n : Nw X pins H e) {T : Addr} {cx : Value} {dd : Option Addr} (fl : Fly e T c .none cx s.heap) (ch : Chn H s.heap e cx dd) : Inv (X.hnd e c (X.pn ++ pins)) [] σ (upd H e (.exc c)) s := by
 obtain ⟨oe, vs, oT, ts, h1, h2, h3, h4, _, h5, _⟩ := fl
 refine ⟨I.ok.hnd _ _ _, I.os, I.bare, ⟨I.base.keep, I.base.slot, fun b o q nb hx => ?_, I.base.there, fun b xs q => ?_, fun b o u q => ?_, fun b ps q => ?_, fun b k q => ?_⟩, I.loc, I.cell, ?_, fun x k q => ?_, fun p hp => ?_, I.hok.put n.free ⟨oe, vs, h1, h2, h3, h4, ?_⟩, I.len, fun p hp => ?_, fun p hp => ?_⟩
 case refine_9 =>
  rcases ch with ⟨_, rfl⟩ | ⟨b, ob, vb, _, rfl, d2, d3, d4, d5⟩
  ·exact .inl h5
  ·exact .inr ⟨b, ob, vb, h5, d2, by rw [upd_ne d2]; exact d3, d4, d5⟩
 ·have hb : b ≠ e := fun z => by rw [z] at q; rw [show X.s₀.heap.get? e = none from n.new] at q; cases q
  rw [upd_ne hb]; exact I.base.free b o q nb hx
 ·have := I.base.tups b xs q; rw [upd_ne (ne_of_none this n.free)]; exact this
 ·have := I.base.frzs b o u q; rw [upd_ne (ne_of_none this n.free)]; exact this
 ·obtain ⟨more, z⟩ := I.base.tbls b ps q; exact ⟨more, by rw [upd_ne (ne_of_none z n.free)]; exact z⟩
 ·have := I.base.excs b k q; rw [upd_ne (ne_of_none this n.free)]; exact this
 ·rw [upd_ne (Ne.symm n.loc)]; exact I.free
 ·rw [upd_ne (n.cel x k q)]; exact I.freeC x k q
 ·have hp' : p ∈ X.pn ++ pins := by simpa using hp
  obtain ⟨a1, a2, a3⟩ := I.pin p hp'
  exact ⟨a1, by rw [upd_ne (n.pin p hp')]; exact a2, a3⟩
 ·rcases List.mem_cons.mp hp with rfl | hp
  ·exact upd_same
  ·have := I.tr p hp; rw [upd_ne (ne_of_none this n.free)]; exact this
 ·have hp' : p ∈ X.fx := hp
  rw [hfx0] at hp'; cases hp'
theorem Inv.offh (J : Inv X pins σ H s) (hfx0 : X.fx = []) {σ' : St} {H' : Hp} {s' : Shared} (I : Inv (X.hnd e c (X.pn ++ pins)) [] σ' H' s') : Inv X pins σ' H' s' :=
 ⟨J.ok, I.os, I.bare, I.base, I.loc, I.cell, I.free, I.freeC, fun p hp => I.pin p (List.mem_append_left _ hp), I.hok, I.len, fun p hp => I.tr p (List.mem_cons_of_mem _ hp), fun p hp => by rw [hfx0] at hp; cases hp⟩
theorem Inv.unhnd (J : Inv X pins σ H s) (hfx0 : X.fx = []) {i : Nat} {n : Str} (hi : X.N[i]? = some n) {σ' : St} {H' : Hp} {s' : Shared} {m : Str → Option Value} {u : Option Value} {h' : Heap} {t' : Nat} (I : Inv (X.hnd e c (X.pn ++ pins)) [] σ' H' s') (hm : s'.heap.Ns X.env.locals m)
  (hn : h'.Ns X.env.locals (fun x => if x = n then u else m x)) (sb : Heap.SameBut X.env.locals s'.heap h') (hN : X.N.Nodup) : Inv X pins (σ'.set i none) H' { s' with heap := h', toks := t' } := by
 have K0 : ∀ b o, b ≠ X.env.locals → s'.heap.get? b = some o → h'.get? b = some o := fun b o hb e => (sb.2 b hb).trans e
 have hL : H' X.env.locals = none := I.free
 have I' : Inv X pins σ' H' s' := J.offh hfx0 I
 refine I'.stepN (g' := s'.gens) (d' := s'.drawn) (ch := []) (fun b hb => nomatch hb) (fun b o hb _ _ q _ => K0 b o hb q) (fun b o hb _ _ q _ => ⟨o.slots, K0 b o hb q⟩) (fun _ _ _ _ n => n) (fun b o _ q => ?_) (fun _ _ q => q) (fun _ _ _ q => q) (fun b ps q => ⟨#[], by rw [q]; simp⟩) (fun _ _ q => q)
  (fun cellK => ?_) (fun _ p hp => by rw [hfx0] at hp; cases hp) (by simp) (fun a o q => (I.hok a o q).stay (fun b u hb z => K0 b u ?_ z) (fun _ z => z) fun _ _ z => z) I.bare
 ·by_cases hb : b = X.env.locals
  ·obtain ⟨ol, _, _, ho, _⟩ := hn
   exact ⟨ol, by rw [hb]; exact ho⟩
  ·exact ⟨o, K0 b o hb q⟩
 ·obtain ⟨m1, hn1, hl1⟩ := I'.loc
  have em := ns_uniq hn1 hm
  subst em
  refine ⟨_, hn, fun j y v a1 a2 a3 => ?_⟩
  have hji : j ≠ i := fun z => by
   subst z
   by_cases hlt : j < σ'.length
   ·rw [List.getElem?_set_self hlt] at a2; cases a2
   ·rw [List.getElem?_eq_none (by simp; omega)] at a2; cases a2
  rw [List.getElem?_set_ne (Ne.symm hji)] at a2
  obtain ⟨u', r, lk⟩ := hl1 j y v a1 a2 a3
  refine ⟨u', r, ?_⟩
  rcases lk with ⟨k, e'⟩ | ⟨k, c', e', z⟩
  ·have : y ≠ n := fun z => hji (nodup_ix hN a1 (z ▸ hi))
   exact .inl ⟨k, by simp [this, e']⟩
  ·exact .inr ⟨k, c', e', cellK y c' e' _ z⟩
 ·intro zb
  rcases hb with hb | hb
  ·rw [← hb, zb, hL] at q; cases q
  ·rw [zb, hL] at hb; cases hb
theorem Inv.known {fx : List (Str × Value)} {xe : Value → Shared → Prop} {W : List Str} (J : Inv X pins σ H s) (hfx0 : X.fx = []) (hk : ∀ (i : Nat) (x : Str) (v : V), X.N[i]? = some x → σ[i]? = some (some v) → Vis X.env.scope x → x ∉ W → ∃ u, RelV v u ∧ (x, u) ∈ fx)
  {ps : List (Addr × Obj)} {σ' : St} {H' : Hp} {s' : Shared} (I : Inv (X.bod (X.pn ++ pins) fx xe) ps σ' H' s') : Inv X pins (mask W X.N σ) H' s' := by
 have I' := J.unbod hfx0 I
 obtain ⟨m, hn, _⟩ := I'.loc
 refine ⟨I'.ok, I'.os, I'.bare, I'.base, ⟨m, hn, fun i x v a1 a2 a3 => ?_⟩, I'.cell, I'.free, I'.freeC, I'.pin, I'.hok, by rw [mask_len]; exact J.len, I'.tr, I'.fix⟩
 obtain ⟨b1, b2⟩ := mask_get a1 a2
 obtain ⟨u, r, hm⟩ := hk i x v a1 b1 a3 b2
 obtain ⟨m1, hn1, lk⟩ := I.fix (x, u) hm
 have em := ns_uniq hn1 hn
 subst em
 exact ⟨u, r, lk⟩
end
def Ends.dim (D : Ends) (i : Nat) : Ends := { nx := fun σ H => D.nx (σ.set i none) H, rt := D.rt, bk := fun σ H => D.bk (σ.set i none) H, ct := fun σ H => D.ct (σ.set i none) H }
def xTry (X : Cx) (C0 : Addr) (i : Nat) (W : List Str) (th : TS) (D : Ends) (σ : St) : XK := fun c _ H => (∃ C, c = .ref C ∧ PySem.W.mroIn X.K C (.ref C0) = some true) ∧ ∀ e, H e = none → th (D.dim i) ((mask W X.N σ).set i (some (.ref e))) (upd H e (.exc c))
def tTry (X : Cx) (C0 : Addr) (i : Nat) (W : List Str) (tb : XK → TS) (th : TS) : TS := fun D σ H => tb (xTry X C0 i W th D σ) D σ H
section
variable {X : Cx} {C0 : Addr} {x n : Str} {np hpos pos : Pos} {i : Nat} {W : List Str} {body suite : List Stmt} {b₀ : Stmt} {tb : XK → TS} {th : TS}
def TryQ (X : Cx) (pins : List (Addr × Obj)) (D : Ends) (hpos : Pos) : Option Str → Flow → Shared → Prop
 | none, f, s => SP X pins D f s
 | some n, f, s => wpAny (model X.prog X.w) X.A (do bindName X.env n .none; unbindBehindTheSuite X.env n hpos) (fun _ s₃ => SP X pins D f s₃) X.xe s
theorem try_core {name : Option Str} {pins : List (Addr × Obj)} {s : Shared} {σ : St} {H : Hp} {D : Ends} {E : XK} (hst : X.stack = X.env :: X.outer) (hfr : X.env.frame = some X.env.locals) (hex : X.ex = []) (hfx0 : X.fx = [])
  (hg : Gl X x) (hm : X.mg x = some (.ref C0)) (hk : CatK X.K C0) (hE : ∀ c d H, E c d H → ∃ C, c = .ref C ∧ PySem.W.mroIn X.K C (.ref C0) = some true)
  (hb : ∀ Ex pn fx xe, (∀ p ∈ fx, p.1 ∉ W) → Out (X.bod pn fx xe) Ex → PSs (X.bod pn fx xe) body (tb Ex)) (hdb : (x == ("__debug__" : Str)) = false) (I : Inv X pins σ H s) (h : tb E D σ H)
  (hs : ∀ (e T C : Addr) (cx : Value) (d : Option Addr) (H' : Hp) (s3 : Shared), Inv X pins (mask W X.N σ) H' s3 → Nw X pins H' e → Nw X pins H' T → T ≠ e → E (.ref C) d H' → Fly e T (.ref C) .none cx s3.heap → Chn H' s3.heap e cx d →
   codeAny (model X.prog X.w) (X.A.mark (some (.ref e))) (.handlers (.ref e) [.ExceptHandler none name (b₀ :: suite) hpos] X.env) (fun r s₂ => match r with
     | .ok f => TryQ X pins D hpos name f s₂
     | .error x => cameBackBy (model X.prog X.w) X.A X.env X.xe x s₂) s3) :
  wpAny (model X.prog X.w) X.A (exec (.Try body [.ExceptHandler (some (.Name x np)) name (b₀ :: suite) hpos] [] [] pos) X.env) (SP X pins D) X.xe s := by
 obtain ⟨fx, fx1, fx2, fx3⟩ := I.fixed W
 have O : Out (X.bod (X.pn ++ pins) fx fun v s1 => ∃ a cls d H', v = .ref a ∧ Inv X pins (mask W X.N σ) H' s1 ∧ Air X pins H' a cls d s1.heap ∧ E cls d H') E := by
  intro ps σ' H' s' a cls d J air q
  obtain ⟨air1, cx, ch, air2⟩ := air
  refine ⟨a, cls, d, H', rfl, I.known hfx0 fx3 J, ⟨air1.unbod, cx, ch, ?_⟩, q⟩
  rcases air2 with z | ⟨T, fl, z1, z3, z2⟩
  ·exact .inl z
  ·exact .inr ⟨T, fl, z1, z3, z2.unbod⟩
 refine wpAny_Try_except (wpAny_mono (hb _ _ _ _ fx1 O [] s σ H D (I.bod hfx0 fx2 _) h) (fun f s1 q => ?_) fun v s1 q => ?_)
 ·cases f with
  | next => obtain ⟨σ', H', J, q⟩ := q; exact wpAny_execs_nil ⟨σ', H', I.unbod hfx0 J, q⟩
  | brk => obtain ⟨σ', H', J, q⟩ := q; exact ⟨σ', H', I.unbod hfx0 J, q⟩
  | cont => obtain ⟨σ', H', J, q⟩ := q; exact ⟨σ', H', I.unbod hfx0 J, q⟩
  | ret u => obtain ⟨v, σ', H', J, r, q⟩ := q; exact ⟨v, σ', H', I.unbod hfx0 J, r, q⟩
 ·obtain ⟨e, c, d, H', rfl, J, air, qE⟩ := q
  obtain ⟨C, rfl, hmro⟩ := hE _ _ _ qE
  refine look_land J rfl hst hfr hex air fun h' T cx J1 fl ch nT ne => ?_
  have hTe : T ≠ e := by obtain ⟨_, _, _, _, _, _, _, _, _, _, z, _⟩ := id fl; exact z
  have Ih := J1.hnd hfx0 ne fl ch
  refine wpAny_handleBy_cons (codeAny_handlers_test (ld_glob (X := X.hnd e (.ref C) (X.pn ++ pins)) Ih hg hm ?_ hdb)) (by intro q; cases q)
  obtain ⟨oe, _, _, _, h1, h2, _⟩ := id fl
  refine exc_matches Ih.kIn hk h1 h2 hmro ?_
  show codeAny _ _ (.handlers _ [.ExceptHandler none name (b₀ :: suite) hpos] _) _ _
  refine codeAny_mono (hs e T C cx d H' _ J1 ne nT hTe qE fl ch) fun r s2 hq => ?_
  cases r with
  | error x => exact hq
  | ok f => cases name <;> exact hq
theorem ps_try (W : List Str) (hst : X.stack = X.env :: X.outer) (hfr : X.env.frame = some X.env.locals) (hex : X.ex = []) (hfx0 : X.fx = [])
  (hN : X.N.Nodup) (hi : X.N[i]? = some n) (hl : X.env.scope.names.lookup n = some .local) (hg : Gl X x) (hm : X.mg x = some (.ref C0)) (hk : CatK X.K C0)
  (hb : ∀ Ex pn fx xe, (∀ p ∈ fx, p.1 ∉ W) → Out (X.bod pn fx xe) Ex → PSs (X.bod pn fx xe) body (tb Ex)) (hh : ∀ e c pn, PSs (X.hnd e c pn) (b₀ :: suite) th) (hdb : (x == ("__debug__" : Str)) = false := by decide) :
  PS X (.Try body [.ExceptHandler (some (.Name x np)) (some n) (b₀ :: suite) hpos] [] [] pos) (tTry X C0 i W tb th) := by
 intro pins s σ H D I h
 refine try_core hst hfr hex hfx0 hg hm hk (fun c d H z => z.1) hb hdb I h fun e T C cx d H' s3 J1 ne nT hTe qE fl ch => ?_
 have Ih := J1.hnd hfx0 ne fl ch
 refine codeAny_handlers_suite_as ?_
 refine flight_none fl fun h2 mv2 fl2 => ?_
 have Ih2 := Ih.mvd (mv2.mono (fun b z => nomatch z) fun b z => z) fun b hb => by rw [List.mem_singleton.mp hb]; exact nT.hnd hTe _ _
 refine store_ok (X := X.hnd e (.ref C) (X.pn ++ pins)) (v := .ref e) Ih2 hN hi (.inl hl) rfl (fun s3 I3 => ?_) (.inr hl) (fun p hp => by have hp' : p ∈ X.fx := hp; rw [hfx0] at hp'; cases hp')
 refine wpAny_mono (hh e (.ref C) (X.pn ++ pins) [] s3 _ _ (D.dim i) I3 (qE.2 e ne.free)) (fun f s4 q => ?_) fun _ _ z => z.elim
 have gone : ∀ {σ4 : St} {H4 : Hp}, Inv (X.hnd e (.ref C) (X.pn ++ pins)) [] σ4 H4 s4 → (∀ s5, Inv X pins (σ4.set i none) H4 s5 → SP X pins D f s5) →
   wpAny (model X.prog X.w) X.A (do bindName X.env n .none; unbindBehindTheSuite X.env n hpos) (fun _ s5 => SP X pins D f s5) X.xe s4 := fun {σ4 H4} I4 k => by
  obtain ⟨m, hn, _⟩ := I4.loc
  exact wpAny_nameGoes_keeps hl hn (by rw [J1.ok.kind]; rfl) fun h5 v5 hn5 sb => k _ (J1.unhnd hfx0 hi I4 hn hn5 sb hN)
 cases f with
 | next => obtain ⟨σ4, H4, I4, q⟩ := q; exact gone I4 fun s5 I5 => ⟨_, _, I5, q⟩
 | brk => obtain ⟨σ4, H4, I4, q⟩ := q; exact gone I4 fun s5 I5 => ⟨_, _, I5, q⟩
 | cont => obtain ⟨σ4, H4, I4, q⟩ := q; exact gone I4 fun s5 I5 => ⟨_, _, I5, q⟩
 | ret u => obtain ⟨v, σ4, H4, I4, r, q⟩ := q; exact gone I4 fun s5 I5 => ⟨v, _, _, I5, r, q⟩
end
end L2
namespace L2
open PySem PySem.Spec PyProof.Rows
theorem Fun.okE {P : Program} {w : World} {K : PySem.W.Frag} {mg : Str → Option Value} {base : Heap} {x qual : Str} {st : Stmt} {f : Addr} {fd : FuncData} {N ps : List Str} {k : Nat} {sp : Sp} (F : Fun K x qual st f fd) (S : FnScope N ps (defScope st)) (len : ∀ vs H Q E, sp vs H Q E → vs.length = ps.length)
  (hbody : ∀ (cdv : Value) (A : Around) (outer : List Env) (s : Shared) (H : Hp) (vs : List V) (Q : VK) (E : XK), Room k (A.deeper (envOfC qual (defScope st) s.heap.objs.size f cdv)) → A.handled = none → sp vs H Q E →
   ∃ t, PSs (cxOf (CXE P w) P w K mg base N qual (defScope st) f cdv A outer s H E) (defBody st) t ∧ t { nx := fun _ H' => Q .non H', rt := Q } (start N vs) H) : FnOk P w K mg base (CXE P w) (k + 1) f fd ps sp := by
 obtain ⟨oc, od, kV, doc, pm, an, cdv, ct, osl, rfl, lk, hcd⟩ := F.ex
 exact fn_of lk hcd S len fun A outer s H vs Q E hr hc hsp => hbody cdv A outer s H vs Q E hr (calm_of s hc) hsp
end L2
end
section
set_option Elab.async false
set_option linter.all false
set_option maxRecDepth 100000
set_option maxHeartbeats 4000000
namespace L2
open PySem PySem.Spec PyProof.Rows
section
variable {M : Model} {A : Around} {E : Value → Shared → Prop} {s : Shared}
end
section
variable {prog : Program} {w : World} {A : Around} {E : Value → Shared → Prop} {s : Shared} {env : Env}
variable {nm q : Str} {C N : Addr} {bs bm bmB : List Value} {hdct : Bool} {sn : List Str} {sub : List Value} {ab : Bool} {col : Option Bool} {dd : Option Addr} {k0 k1 k2 k3 k5 : Option Value} {B newId initId : String}
end
section
variable {X : Cx} {C0 C1 : Addr} {x x1 z : Str} {np np1 hpos pos cpos pos1 cp zp : Pos} {j j2 : Nat} {W : List Str} {body : List Stmt} {tb : XK → TS} {E : XK}
end
end L2
end
section
set_option Elab.async false
set_option linter.all false
set_option maxRecDepth 100000
set_option maxHeartbeats 4000000
namespace L2
open PySem PySem.Spec PyProof.Rows
section
variable {κ : Type} [DecidableEq κ]
def valV (kvs : List (κ × V)) (k : κ) : Option V := (kvs.find? fun kv => decide (kv.1 = k)).map (·.2)
def putK (kvs : List (κ × V)) (k : κ) (v : V) : List (κ × V) :=
 if (kvs.any fun kv => decide (kv.1 = k)) = true then kvs.map (fun kv => if kv.1 = k then (kv.1, v) else kv) else kvs ++ [(k, v)]
theorem valV_pos {p : κ × V} {r : List (κ × V)} {k : κ} (e : p.1 = k) : valV (p :: r) k = some p.2 := by simp [valV, List.find?_cons, e]
theorem valV_neg {p : κ × V} {r : List (κ × V)} {k : κ} (e : ¬ p.1 = k) : valV (p :: r) k = valV r k := by simp [valV, List.find?_cons, e]
theorem valV_any (k : κ) : ∀ kvs : List (κ × V), (kvs.any fun kv => decide (kv.1 = k)) = (valV kvs k).isSome
 | [] => rfl
 | p :: r => by
  rw [List.any_cons]
  by_cases e : p.1 = k
  ·simp only [valV_pos e, decide_eq_true e, Bool.true_or, Option.isSome_some]
  ·rw [valV_neg e, decide_eq_false e, Bool.false_or]; exact valV_any k r
theorem valV_map (k j : κ) (y : V) : ∀ kvs : List (κ × V), valV (kvs.map fun kv => if kv.1 = k then (kv.1, y) else kv) j = (valV kvs j).map fun x => if j = k then y else x
 | [] => rfl
 | p :: r => by
  have ih := valV_map k j y r
  rw [List.map_cons]
  by_cases h : p.1 = k
  ·rw [if_pos h]
   by_cases e : p.1 = j
   ·rw [valV_pos (p := (p.1, y)) e, valV_pos e, Option.map_some, if_pos (e.symm.trans h)]
   ·rw [valV_neg (p := (p.1, y)) e, valV_neg e, ih]
  ·rw [if_neg h]
   by_cases e : p.1 = j
   ·rw [valV_pos (p := p) e, valV_pos e, Option.map_some, if_neg (fun z => h (e.trans z))]
   ·rw [valV_neg (p := p) e, valV_neg e, ih]
theorem valV_snoc (k j : κ) (y : V) : ∀ kvs : List (κ × V), valV kvs k = none → valV (kvs ++ [(k, y)]) j = if j = k then some y else valV kvs j
 | [], _ => by
  by_cases e : k = j
  ·rw [if_pos e.symm]; exact valV_pos (p := (k, y)) e
  ·rw [if_neg (fun z => e z.symm)]; exact valV_neg (p := (k, y)) e
 | p :: r, hn => by
  rw [List.cons_append]
  have hk : ¬ p.1 = k := fun z => by rw [valV_pos z] at hn; cases hn
  rw [valV_neg hk] at hn
  have ih := valV_snoc k j y r hn
  by_cases e : p.1 = j
  ·rw [valV_pos e, valV_pos e, if_neg (fun z => hk (e.trans z))]
  ·rw [valV_neg e, valV_neg e, ih]
theorem valV_put (kvs : List (κ × V)) (k j : κ) (y : V) : valV (putK kvs k y) j = if j = k then some y else valV kvs j := by
 unfold putK
 by_cases a : (kvs.any fun kv => decide (kv.1 = k)) = true
 ·rw [if_pos a, valV_map]
  rw [valV_any] at a
  by_cases e : j = k
  ·obtain ⟨x, hx⟩ := Option.isSome_iff_exists.mp a
   rw [if_pos e, e, hx, Option.map_some, if_pos rfl]
  ·rw [if_neg e]
   cases valV kvs j with
   | none => rfl
   | some x => rw [Option.map_some, if_neg e]
 ·rw [if_neg a]
  refine valV_snoc k j y kvs ?_
  rw [valV_any] at a
  cases q : valV kvs k with
  | none => rfl
  | some x => rw [q] at a; exact (a rfl).elim
theorem length_putK (kvs : List (κ × V)) (k : κ) (v : V) : (putK kvs k v).length ≤ kvs.length + 1 := by
 unfold putK
 split
 ·rw [List.length_map]; omega
 ·rw [List.length_append, List.length_cons, List.length_nil]; omega
theorem RelO.isSome_eq {o : Option V} {u : Option Value} (r : RelO o u) : o.isSome = u.isSome := by
 cases o with
 | none => cases u with
  | none => rfl
  | some _ => exact (show False from r).elim
 | some _ => cases u with
  | none => exact (show False from r).elim
  | some _ => rfl
theorem KV.val {kvs : List (κ × V)} {vs : List (κ × Value)} (r : KV kvs vs) (k : κ) : RelO (valV kvs k) (valueAt vs k) := by
 unfold KV at r
 induction r with
 | nil => exact True.intro
 | @cons p q ps qs h t ih =>
  obtain ⟨h1, h2⟩ := h
  by_cases e : p.1 = k
  ·have e' : q.1 = k := h1.symm.trans e
   have b : valueAt (q :: qs) k = some q.2 := by simp [valueAt, List.find?_cons, e']
   rw [valV_pos e, b]; exact h2
  ·have e' : ¬ q.1 = k := fun z => e (h1.trans z)
   have b : valueAt (q :: qs) k = valueAt qs k := by simp [valueAt, List.find?_cons, e']
   rw [valV_neg e, b]; exact ih
theorem KV.any {kvs : List (κ × V)} {vs : List (κ × Value)} (r : KV kvs vs) (k : κ) : (kvs.any fun kv => decide (kv.1 = k)) = vs.any fun kv => decide (kv.1 = k) := by
 unfold KV at r
 induction r with
 | nil => rfl
 | cons h t ih => rw [List.any_cons, List.any_cons, ih, h.1]
theorem KV.repl {kvs : List (κ × V)} {vs : List (κ × Value)} (r : KV kvs vs) (k : κ) {y : V} {u : Value} (ry : RelV y u) :
  KV (kvs.map fun kv => if kv.1 = k then (kv.1, y) else kv) (vs.map fun kv => if kv.1 = k then (kv.1, u) else kv) := by
 unfold KV at r ⊢
 induction r with
 | nil => exact .nil
 | @cons p q ps qs h t ih =>
  rw [List.map_cons, List.map_cons]
  refine .cons ?_ ih
  obtain ⟨h1, h2⟩ := h
  by_cases e : p.1 = k
  ·rw [if_pos e, if_pos (h1.symm.trans e)]; exact ⟨h1, ry⟩
  ·rw [if_neg e, if_neg (fun z => e (h1.trans z))]; exact ⟨h1, h2⟩
theorem KV.put {kvs : List (κ × V)} {vs : List (κ × Value)} (r : KV kvs vs) (k : κ) {y : V} {u : Value} (ry : RelV y u) : KV (putK kvs k y) (stored vs k u) := by
 unfold putK stored
 rw [r.any k]
 by_cases e : (vs.any fun kv => decide (kv.1 = k)) = true
 ·rw [if_pos e, if_pos e]; exact r.repl k ry
 ·rw [if_neg e, if_neg e]; exact Paired.snoc r ⟨rfl, ry⟩
theorem KV.length {kvs : List (κ × V)} {vs : List (κ × Value)} (r : KV kvs vs) : kvs.length = vs.length := Paired.length r
end
theorem kV_is {P : Program} {w : World} {k : Key} {u : Value} (r : RelV (kV k) u) : (mixKind P w).is k u = true := by
 cases k with
 | inl i => obtain ⟨t, e⟩ := (show ∃ t, u = Value.int i t from r); subst e; exact mixKind_int P w i t
 | inr x => obtain ⟨t, e⟩ := (show ∃ t, u = Value.str x t from r); subst e; exact mixKind_str P w x t
theorem items_are {P : Program} {w : World} : ∀ {ks : List Key} {us : List Value}, Vals (ks.map kV) us → ItemsAre (mixKind P w) ks us
 | [], _, r => by rw [List.map_nil] at r; cases r; exact .nil
 | k :: ks, _, r => by
  rw [List.map_cons] at r
  cases r with
  | cons h t => exact .cons (kV_is h) (items_are t)
abbrev KT (H : Hp) : List (List Key × V) → List (List Key × Addr × Value) → Prop := Paired fun p q => p.1 = q.1 ∧ H q.2.1 = some (.tup (p.1.map kV)) ∧ RelV p.2 q.2.2
theorem KT.val {H : Hp} {kvs : List (List Key × V)} {xs : List (List Key × Addr × Value)} (r : KT H kvs xs) (k : List Key) : RelO (valV kvs k) ((atKey xs k).map (·.2)) := by
 induction r with
 | nil => exact True.intro
 | @cons p q ps qs h t ih =>
  obtain ⟨h1, _, h2⟩ := h
  by_cases e : p.1 = k
  ·have e' : q.1 = k := h1.symm.trans e
   have b : atKey (q :: qs) k = some q.2 := by simp [atKey, List.find?_cons, e']
   rw [valV_pos e, b]; exact h2
  ·have e' : ¬ q.1 = k := fun z => e (h1.trans z)
   have b : atKey (q :: qs) k = atKey qs k := by simp [atKey, List.find?_cons, e']
   rw [valV_neg e, b]; exact ih
theorem KT.repl {H : Hp} {kvs : List (List Key × V)} {xs : List (List Key × Addr × Value)} (r : KT H kvs xs) (k : List Key) {y : V} {u : Value} (ry : RelV y u) :
  KT H (kvs.map fun kv => if kv.1 = k then (kv.1, y) else kv) (xs.map (putAt k u)) := by
 induction r with
 | nil => exact .nil
 | @cons p q ps qs h t ih =>
  rw [List.map_cons, List.map_cons]
  refine .cons ?_ ih
  obtain ⟨h1, h2, h3⟩ := h
  unfold putAt
  by_cases e : p.1 = k
  ·rw [if_pos e, if_pos (h1.symm.trans e)]; exact ⟨h1, h2, ry⟩
  ·rw [if_neg e, if_neg (fun z => e (h1.trans z))]; exact ⟨h1, h2, h3⟩
theorem KT.put {H : Hp} {kvs : List (List Key × V)} {xs : List (List Key × Addr × Value)} (r : KT H kvs xs) (k : List Key) {b : Addr} {y : V} {u : Value} (hb : H b = some (.tup (k.map kV))) (ry : RelV y u) :
  KT H (putK kvs k y) (storedH xs k b u) := by
 have e : (kvs.any fun kv => decide (kv.1 = k)) = (atKey xs k).isSome := by
  rw [valV_any, (r.val k).isSome_eq, Option.isSome_map]
 unfold putK storedH
 rw [e]
 by_cases q : (atKey xs k).isSome = true
 ·rw [if_pos q, if_pos q]; exact r.repl k ry
 ·rw [if_neg q, if_neg q]; exact Paired.snoc r ⟨rfl, hb, ry⟩
theorem KT.keeps {H H' : Hp} {kvs : List (List Key × V)} {xs : List (List Key × Addr × Value)} (r : KT H kvs xs) (ht : ∀ b ys, H b = some (.tup ys) → H' b = some (.tup ys)) : KT H' kvs xs :=
 Paired.mapP r fun _ _ z => ⟨z.1, ht _ _ z.2.1, z.2.2⟩
section
variable {P : Program} {w : World} {H : Hp} {h : Heap} {a : Addr}
theorem rd_of {u : HO} (ok : HOk P w H h) (e : Rd H a u) : ObjOk P w H h a u := e.ok ok
theorem dk_rd {kvs : List (Key × V)} (ok : HOk P w H h) (e : Rd H a (.dK kvs)) : kvs.length ≤ sizeLine ∧ (a == sysModules) = false ∧ ∃ vs, KV kvs vs ∧ h.DictOf (mixKind P w) a vs :=
 show ObjOk P w H h a (.dK kvs) from rd_of ok e
theorem dk_of {kvs : List (Key × V)} (ok : HOk P w H h) (e : H a = some (.dK kvs)) : kvs.length ≤ sizeLine ∧ (a == sysModules) = false ∧ ∃ vs, KV kvs vs ∧ h.DictOf (mixKind P w) a vs := dk_rd ok (.inl e)
theorem key_of {ks : List Key} (ok : HOk P w H h) (e : H a = some (.tup (ks.map kV))) : (tupleKind (mixKind P w)).is h ks a := by
 obtain ⟨_, its, r, o, h1, h2, n, h3⟩ := (show ObjOk P w H h a (.tup (ks.map kV)) from ok a _ e)
 exact ⟨o, its.toArray, n, h1, h2, h3, by simpa using items_are r⟩
theorem dt_rd {kvs : List (List Key × V)} (ok : HOk P w H h) (e : Rd H a (.dT kvs)) : kvs.length ≤ sizeLine ∧ (a == sysModules) = false ∧
  ∃ xs, KT H kvs xs ∧ h.DictOfH (tupleKind (mixKind P w)) a xs := by
 obtain ⟨z, y, xs, r, o, es, ep, h1, h2, h3, h4, h5⟩ := (show ObjOk P w H h a (.dT kvs) from rd_of ok e)
 refine ⟨z, y, xs, r, o, es, ep, h1, h2, h3, h4, fun x hx => ?_, h5⟩
 have all : ∀ {l : List (List Key × V)} {m : List (List Key × Addr × Value)}, KT H l m → ∀ x ∈ m, (tupleKind (mixKind P w)).is h x.1 x.2.1 := by
  intro l m q
  induction q with
  | nil => intro x hx; exact nomatch hx
  | @cons p q ps qs hq t ih =>
   intro x hx
   rcases List.mem_cons.mp hx with e | hx
   ·subst e
    exact key_of ok (by rw [← hq.1]; exact hq.2.1)
   ·exact ih x hx
 exact all r x hx
theorem dt_of {kvs : List (List Key × V)} (ok : HOk P w H h) (e : H a = some (.dT kvs)) : kvs.length ≤ sizeLine ∧ (a == sysModules) = false ∧
  ∃ xs, KT H kvs xs ∧ h.DictOfH (tupleKind (mixKind P w)) a xs := dt_rd ok (.inl e)
end
def DGet (H : Hp) (a : Addr) (y : V) (r : Option V) : Prop :=
 (∃ kvs k, Rd H a (.dK kvs) ∧ y = kV k ∧ r = valV kvs k) ∨ ∃ kvs k b, Rd H a (.dT kvs) ∧ y = .ref b ∧ H b = some (.tup (k.map kV)) ∧ r = valV kvs k
def DPut (H : Hp) (a : Addr) (y v : V) (H' : Hp) : Prop :=
 (∃ kvs k, H a = some (.dK kvs) ∧ y = kV k ∧ kvs.length < sizeLine ∧ H' = upd H a (.dK (putK kvs k v))) ∨
 ∃ kvs k b, H a = some (.dT kvs) ∧ y = .ref b ∧ H b = some (.tup (k.map kV)) ∧ kvs.length < sizeLine ∧ H' = upd H a (.dT (putK kvs k v))
theorem DGet.k {H : Hp} {a : Addr} {kvs : List (Key × V)} {k : Key} (e : H a = some (.dK kvs)) : DGet H a (kV k) (valV kvs k) := .inl ⟨kvs, k, .inl e, rfl, rfl⟩
theorem DPut.k {H : Hp} {a : Addr} {kvs : List (Key × V)} {k : Key} {v : V} (e : H a = some (.dK kvs)) (hl : kvs.length < sizeLine) : DPut H a (kV k) v (upd H a (.dK (putK kvs k v))) := .inl ⟨kvs, k, e, rfl, hl, rfl⟩
section
variable {X : Cx} {pins : List (Addr × Obj)} {σ : St} {H : Hp} {s : Shared} {a : Addr} {y v : V} {u r : Value} {o : Option V} {A : Around} {E : Value → Shared → Prop}
theorem d_getItem {Q : Value → Shared → Prop} (hu : A.units + 1 < cLine) (I : Inv X pins σ H s) (g : DGet H a y (some v)) (ry : RelV y u) (h : ∀ w' s', Inv X pins σ H s' → RelV v w' → Q w' s') :
  wpAny (model X.prog X.w) A (getItem (.ref a) u) Q E s := by
 rcases g with ⟨kvs, k, e, ey, l⟩ | ⟨kvs, k, b, e, ey, eb, l⟩
 ·subst ey
  obtain ⟨z, hd, vs, rel, dd⟩ := dk_rd I.hok e
  obtain ⟨w', hw, rw'⟩ := RelO.some_of (v := v) (o := valueAt vs k) (by rw [l]; exact rel.val k)
  exact wpAny_getItem_of (kV_is ry) dd.mapOf hw (h w' _ (I.tok _) rw')
 ·subst ey
  cases (show u = Value.ref b from ry)
  obtain ⟨z, hd, xs, rel, dd⟩ := dt_rd I.hok e
  obtain ⟨w', hw, rw'⟩ := RelO.some_of (v := v) (o := (atKey xs k).map (·.2)) (by rw [l]; exact rel.val k)
  obtain ⟨p, hp, hp2⟩ := Option.map_eq_some_iff.mp hw
  refine wpAny_getItem_heap (tupleKind_room_in1 hu) (key_of I.hok eb) dd hp ?_
  rw [hp2]
  exact h w' _ (I.tok _) rw'
theorem d_in {Q : Value → Shared → Prop} (hu : A.units + 1 < cLine) (I : Inv X pins σ H s) (g : DGet H a y o) (ry : RelV y u) (h : ∀ s', Inv X pins σ H s' → Q (.bool o.isSome) s') :
  wpAny (model X.prog X.w) A (compareOp .In u (.ref a)) Q E s := by
 rcases g with ⟨kvs, k, e, ey, l⟩ | ⟨kvs, k, b, e, ey, eb, l⟩
 ·subst ey
  obtain ⟨z, hd, vs, rel, dd⟩ := dk_rd I.hok e
  refine wpAny_in_of (kV_is ry) hd dd.mapOf ?_
  rw [← (rel.val k).isSome_eq, ← l]
  exact h _ (I.tok _)
 ·subst ey
  cases (show u = Value.ref b from ry)
  obtain ⟨z, hd, xs, rel, dd⟩ := dt_rd I.hok e
  refine wpAny_in_heap (tupleKind_room_in1 hu) (key_of I.hok eb) hd dd ?_
  have q := (rel.val k).isSome_eq
  rw [Option.isSome_map] at q
  rw [← q, ← l]
  exact h _ (I.tok _)
theorem d_write {h' : Heap} {t' : Nat} {ob : HO} (I : Inv X pins σ H s) (mu : Mut (H a)) (hs : Heap.SameBut a s.heap h') (he : ∃ q, h'.get? a = some q) (new : ObjOk X.prog X.w (upd H a ob) h' a ob) :
  Inv X pins σ (upd H a ob) { s with heap := h', toks := t' } :=
 I.write (x := a) (e := a) mu (.inl rfl) (fun b q hb z => (hs.2 b hb).trans z) he new
theorem dk_new {P : Program} {w : World} {H' : Hp} {h' : Heap} {kvs : List (Key × V)} {vs : List (Key × Value)} (z : kvs.length ≤ sizeLine) (hd : (a == sysModules) = false) (rel : KV kvs vs) (dd : h'.DictOf (mixKind P w) a vs) :
  ObjOk P w H' h' a (.dK kvs) := ⟨z, hd, vs, rel, dd⟩
theorem d_setItem {H' : Hp} {Q : Unit → Shared → Prop} (hu : A.units + 1 < cLine) (I : Inv X pins σ H s) (g : DPut H a y v H') (ry : RelV y u) (rv : RelV v r) (h : ∀ s', Inv X pins σ H' s' → Q () s') :
  wpAny (model X.prog X.w) A (setItem (.ref a) u r) Q E s := by
 rcases g with ⟨kvs, k, e, ey, l, eH⟩ | ⟨kvs, k, b, e, ey, eb, l, eH⟩
 ·subst ey eH
  obtain ⟨z, hd, vs, rel, dd⟩ := dk_of I.hok e
  have hz : vs.length ≤ sizeLine := by rw [← rel.length]; exact z
  have hl : (putK kvs k v).length ≤ sizeLine := by have := length_putK kvs k v; omega
  refine wpAny_setItem_pairs (hsz := hz) (kV_is ry) dd fun h' dd' hs => h _ ?_
  have he : ∃ q, h'.get? a = some q := let ⟨q, _, _, hq, _⟩ := dd'; ⟨q, hq⟩
  exact d_write I (by rw [e]; exact True.intro) hs he (dk_new hl hd (rel.put k rv) dd')
 ·subst ey eH
  cases (show u = Value.ref b from ry)
  obtain ⟨z, hd, xs, rel, dd⟩ := dt_of I.hok e
  have hz : xs.length ≤ sizeLine := by rw [← Paired.length rel]; exact z
  have hl : (putK kvs k v).length ≤ sizeLine := by have := length_putK kvs k v; omega
  refine wpAny_setItem_heap (hsz := hz) (tupleKind_room_in1 hu) (key_of I.hok eb) dd fun h' dd' hs => h _ ?_
  obtain ⟨q, es, ep, hq, h2, h3, h4, _, h5⟩ := dd'
  refine d_write I (by rw [e]; exact True.intro) hs ⟨q, hq⟩ ⟨hl, hd, _, (rel.put k eb rv).keeps fun c ys ec => ?_, q, es, ep, hq, h2, h3, h4, h5⟩
  rw [upd_ne (ne_of ec e (fun z => nomatch z))]
  exact ec
end
section
variable {X : Cx} {pins : List (Addr × Obj)} {σ : St} {H : Hp} {s : Shared} {a : Addr} {kvs : List (Key × V)} {k : Key} {u : Value} {A : Around} {E : Value → Shared → Prop}
end
def NoSl (i : Expr) : Prop := ∀ ov iv, subscripted i false ov iv = operate [ov, iv] (getItem ov iv)
theorem subD_of {prog : Program} {w : World} {A : Around} {E : Value → Shared → Prop} {s : Shared} {env : Env} {value slice : Expr} {pos : Pos} {T id : String} {Q : Value → Shared → Prop}
  (hl : typeLookup (.type T) "__getitem__" = pure (some (.builtin id))) (hs : NoSl slice)
  (h : wpAny (model prog w) A (eval value env) (fun o s₁ => wpAny (model prog w) A (eval slice env) (fun i s₂ => s₂.TypeIs o T ∧ wpAny (model prog w) A (getItem o i) Q E s₂) E s₁) E s) :
  wpAny (model prog w) A (eval (.Subscript value slice pos) env) Q E s := by
 refine Subscript_ (wpAny_mono h (fun o s₁ h₁ => wpAny_mono h₁ (fun i s₂ h₂ => ?_) fun _ _ x => x) fun _ _ x => x)
 obtain ⟨hT, h₂⟩ := h₂
 unfold subscriptTail
 refine wpAny_bind ?_
 rw [getitemInPython_of_ne hT.not_modules]
 refine wpAny_bind (wpAny_specialOf hT hl ?_)
 have fin : wpAny (model prog w) A (subscripted slice false o i) (fun r s₃ => wpAny (model prog w) A (letTemporaryGo value o r >>= fun _ => pure r) Q E s₃) E s₂ := by
  rw [hs o i]
  exact wpAny_operating (wpAny_mono h₂ (fun r s₃ h₃ => wpAny_bind (wpAny_letTemporaryGo (wpAny_pure h₃))) fun _ _ x => x)
 first
  | exact wpAny_pure (wpAny_bind fin)
  | exact wpAny_bind (wpAny_pure (wpAny_bind fin))
  | exact wpAny_bind fin
theorem dict_typeIs {X : Cx} {pins : List (Addr × Obj)} {σ : St} {H : Hp} {s : Shared} {a : Addr} {y : V} {o : Option V} (I : Inv X pins σ H s) (g : DGet H a y o) : s.TypeIs (.ref a) "dict" := by
 rcases g with ⟨kvs, k, e, _, _⟩ | ⟨kvs, k, b, e, _, _, _⟩
 ·obtain ⟨_, _, vs, _, dd⟩ := dk_rd I.hok e
  exact dd.typeIs
 ·obtain ⟨_, _, xs, _, dd⟩ := dt_rd I.hok e
  exact dd.typeIs
def tDGet (td ty : TE) : TE := fun σ H Q => td σ H fun x H1 => ty σ H1 fun y H2 => ∃ a v, x = .ref a ∧ DGet H2 a y (some v) ∧ Q v H2
def tDIn (ty td : TE) : TE := fun σ H Q => ty σ H fun y H1 => td σ H1 fun x H2 => ∃ a o, x = .ref a ∧ DGet H2 a y o ∧ Q (.bl o.isSome) H2
def sDPut (td ty tv : TE) : TS := fun D σ H => tv σ H fun v H1 => td σ H1 fun x H2 => ty σ H2 fun y H3 => ∃ a H4, x = .ref a ∧ DPut H3 a y v H4 ∧ D.nx σ H4
section
variable {X : Cx} {o i e value : Expr} {pos pos' tpos : Pos} {td ty tv : TE}
theorem pe_dget (hu : X.A.units + 1 < cLine) (ho : PE X o td) (hi : PE X i ty) (hs : NoSl i) : PE X (.Subscript o i pos) (tDGet td ty) := by
 intro pins s σ H Q I h
 refine subD_of PySem.F.slot_dict_getitem.lookup hs (thn (ho pins s σ H _ I h) fun u s1 ⟨x, H1, I1, rx, q1⟩ => thn (hi pins s1 σ H1 _ I1 q1) fun iv s2 ⟨y, H2, I2, ry, a, v, ex, g, q2⟩ => ?_)
 subst ex
 obtain rfl : u = Value.ref a := rx
 exact ⟨dict_typeIs I2 g, d_getItem hu I2 g ry fun w' s3 I3 rw' => ⟨v, H2, I3, rw', q2⟩⟩
theorem pc_din (hu : X.A.units + 1 < cLine) (hi : PE X i ty) (ho : PE X o td) : PC X .In i o (tDIn ty td) := by
 intro pins s σ H Q I h
 refine thn (hi pins s σ H _ I h) fun iv s1 ⟨y, H1, I1, ry, q1⟩ => thn (ho pins s1 σ H1 _ I1 q1) fun u s2 ⟨x, H2, I2, rx, a, ov, ex, g, q2⟩ => ?_
 subst ex
 obtain rfl : u = Value.ref a := rx
 exact d_in hu I2 g ry fun s3 I3 => ⟨.bl ov.isSome, H2, I3, rfl, q2⟩
theorem ps_dput (hu : X.A.units + 1 < cLine) (ho : PE X o td) (hi : PE X i ty) (hv : PE X value tv) (hs : swapsWith value (some (.Subscript o i pos')) pos.line X.env = pure false) :
  PS X (.Assign [.Subscript o i pos'] value pos) (sDPut td ty tv) := by
 intro pins s σ H D I h
 refine wpAny_Assign_Subscript (thn (hv pins s σ H _ I h) fun r s1 ⟨v, H1, I1, rv, q1⟩ => thn (ho pins s1 σ H1 _ I1 q1) fun u s2 ⟨x, H2, I2, rx, q2⟩ => thn (hi pins s2 σ H2 _ I2 q2) fun iv s3 ⟨y, H3, I3, ry, a, H4, ex, g, q3⟩ => ?_) hs
 subst ex
 obtain rfl : u = Value.ref a := rx
 exact d_setItem hu I3 g ry rv fun s4 I4 => ⟨σ, H4, I4, q3⟩
end
section
variable {X : Cx} {pos : Pos}
end
section
variable {X : Cx} {pins : List (Addr × Obj)} {σ : St} {H : Hp} {s : Shared} {a : Addr} {y d : V} {u r : Value} {o : Option V} {A : Around} {E : Value → Shared → Prop}
end
section
variable {X : Cx} {o e f : Expr} {apos cpos : Pos} {td ty tx : TE}
end
section
variable {X : Cx} {pins : List (Addr × Obj)} {σ : St} {H : Hp} {s : Shared} {a : Addr} {kvs : List (Key × V)} {A : Around} {E : Value → Shared → Prop}
end
section
variable {X : Cx} {pins : List (Addr × Obj)} {σ : St} {H : Hp} {s : Shared} {a : Addr} {y : V} {u : Value} {A : Around} {E : Value → Shared → Prop}
end
end L2
namespace L2
open PySem PySem.Spec PyProof.Rows
section
variable {κ : Type} [DecidableEq κ]
theorem valV_in {kvs : List (κ × V)} {k : κ} {v : V} (h : valV kvs k = some v) : k ∈ kvs.map (·.1) := by
 have q : (kvs.any fun kv => decide (kv.1 = k)) = true := by
  rw [valV_any, h]
  all_goals rfl
 obtain ⟨p, hp, e⟩ := List.any_eq_true.mp q
 exact List.mem_map.mpr ⟨p, hp, of_decide_eq_true e⟩
end
end L2
end
section
set_option Elab.async false
set_option linter.all false
set_option maxRecDepth 100000
set_option maxHeartbeats 4000000
namespace BK
open PySem L2
theorem bt_int : bootBuiltins "int" = some (.type "int") := by decide +kernel
theorem bt_bool : bootBuiltins "bool" = some (.type "bool") := by decide +kernel
theorem bt_list : bootBuiltins "list" = some (.type "list") := by decide +kernel
theorem bt_tuple : bootBuiltins "tuple" = some (.type "tuple") := by decide +kernel
theorem bt_ValueError : bootBuiltins "ValueError" = some (.type "ValueError") := by decide +kernel
theorem bt_isinstance : bootBuiltins "isinstance" = some (.builtin "isinstance") := by decide +kernel
theorem bt_all : bootBuiltins "all" = some (.builtin "all") := by decide +kernel
theorem bt_min : bootBuiltins "min" = some (.builtin "min") := by decide +kernel
theorem bt_len : bootBuiltins "len" = some (.builtin "len") := by decide +kernel
theorem bt_max : bootBuiltins "max" = some (.builtin "max") := by decide +kernel
theorem bt_sorted : bootBuiltins "sorted" = some (.builtin "sorted") := by decide +kernel
def isI : V → Bool
 | .int _ => true
 | .bl _ => true
 | _ => false
def isB : V → Bool
 | .bl _ => true
 | _ => false
def isLH : Option HO → Bool
 | some (.lst _) => true
 | _ => false
def isL (H : Hp) : V → Bool
 | .ref a => isLH (H a)
 | _ => false
structure Kd (K : PySem.W.Frag) (H : Hp) (v : V) : Prop where
 ex : ∃ t, TyOf K H v t ∧ PySem.W.kitOne K t (.type "int") = some (isI v) ∧ PySem.W.kitOne K t (.type "bool") = some (isB v) ∧ PySem.W.kitOne K t (.type "list") = some (isL H v)
section
variable {K : PySem.W.Frag} {H H' : Hp}
theorem Kd.int (i : Int) : Kd K H (.int i) := ⟨_, .int i, by kernel_rfl, by kernel_rfl, by kernel_rfl⟩
theorem Kd.bl (b : Bool) : Kd K H (.bl b) := ⟨_, .bl b, by kernel_rfl, by kernel_rfl, by kernel_rfl⟩
theorem Kd.non : Kd K H .non := ⟨_, .non, by kernel_rfl, by kernel_rfl, by kernel_rfl⟩
theorem Kd.str (x : Str) : Kd K H (.str x) := ⟨_, .str x, by kernel_rfl, by kernel_rfl, by kernel_rfl⟩
theorem Kd.lst {a : Addr} {xs : List V} (e : H a = some (.lst xs)) : Kd K H (.ref a) := ⟨_, .lst e, by kernel_rfl, by kernel_rfl, by rw [show isL H (.ref a) = true by show isLH (H a) = _; rw [e]; rfl]; kernel_rfl⟩
theorem Kd.tup {a : Addr} {xs : List V} (e : H a = some (.tup xs)) : Kd K H (.ref a) := ⟨_, .tup e, by kernel_rfl, by kernel_rfl, by rw [show isL H (.ref a) = false by show isLH (H a) = _; rw [e]; rfl]; kernel_rfl⟩
theorem tyof_same {v : V} {t : Value} (e : Same H H') (h : TyOf K H v t) : TyOf K H' v t := by
 cases h with
 | non => exact .non
 | bl b => exact .bl b
 | int i => exact .int i
 | str i => exact .str i
 | flt i => exact .flt i
 | lst q => exact .lst (e _ _ q)
 | frz q => exact .frz (e _ _ q)
 | tup q => exact .tup (e _ _ q)
 | dK q => exact .dK (e _ _ q)
 | dT q => exact .dT (e _ _ q)
 | ins q c1 c2 c3 c4 c5 => exact .ins (e _ _ q) c1 c2 c3 c4 c5
 | exc q F => exact .exc (e _ _ q) F
theorem isL_same {v : V} {t : Value} (e : Same H H') (h : TyOf K H v t) : isL H' v = isL H v := by
 cases h with
 | lst q => show isLH _ = isLH _; rw [e _ _ q, q]
 | frz q => show isLH _ = isLH _; rw [e _ _ q, q]
 | tup q => show isLH _ = isLH _; rw [e _ _ q, q]
 | dK q => show isLH _ = isLH _; rw [e _ _ q, q]
 | dT q => show isLH _ = isLH _; rw [e _ _ q, q]
 | ins q c1 c2 c3 c4 c5 => show isLH _ = isLH _; rw [e _ _ q, q]
 | exc q F => show isLH _ = isLH _; rw [e _ _ q, q]
 | _ => rfl
theorem Kd.same {v : V} (e : Same H H') (h : Kd K H v) : Kd K H' v := by
 obtain ⟨t, ty, e1, e2, e3⟩ := h
 exact ⟨t, tyof_same e ty, e1, e2, by rw [isL_same e ty]; exact e3⟩
theorem same_new {H : Hp} {p : Addr} (h : H p = none) (o : HO) : Same H (upd H p o) := fun b u q => by rw [upd_ne (ne_of_none q h)]; exact q
theorem same_upd {H H' : Hp} {p : Addr} (h : H p = none) (s : Same H H') (o : HO) : Same H (upd H' p o) := fun b u q => by rw [upd_ne (ne_of_none q h)]; exact s b u q
theorem sqT_same {a : Addr} {xs : List V} (e : Same H H') (h : SqT K H a xs) : SqT K H' a xs := by
 rcases h with h | h
 ·rcases h with h | ⟨o, h⟩
  ·exact .inl (.inl (e _ _ h))
  ·exact .inl (.inr ⟨o, e _ _ h⟩)
 ·exact .inr h
end
def wholeV (v : V) (lo hi : Int) : Bool := match v with
 | .int i => decide (lo ≤ i) && decide (i ≤ hi)
 | _ => false
def goodV (v : V) : Bool := wholeV v 0 999999999
section
variable {P : Program} {w : World} {K : PySem.W.Frag} {mg : Str → Option Value} {base : Heap} {f : Addr} {fd : FuncData} {H H' : Hp}
theorem iteF' {c : Bool} {A B : Prop} (hc : c = false) (h : B) : if c = true then A else B := by subst hc; exact iteF h
theorem iteT' {c : Bool} {A B : Prop} (hc : c = true) (h : A) : if c = true then A else B := by subst hc; exact iteT h
theorem small {n : Nat} (h : n ≤ 1000) : n ≤ sizeLine := Nat.le_of_lt (small1000 h)
theorem all_good (xs : List V) : (xs.map goodV).all id = xs.all goodV := by rw [List.all_map]; rfl
theorem dec_V {i j : Int} : decide (V.int i = V.int j) = decide (i = j) := by
 by_cases h : i = j
 ·subst h; simp
 ·rw [decide_eq_false h, decide_eq_false (fun q => h (V.int.inj q))]
theorem cut_to (xs : List V) (k : Nat) : cutV xs none (some (k : Int)) = xs.take k := by
 unfold cutV
 rw [HT.sIx_none, HT.sIx_nat]
 simp
theorem cut_from (xs : List V) (k : Nat) : cutV xs (some (k : Int)) none = xs.drop k := by
 unfold cutV
 rw [HT.sIx_none, HT.sIx_nat]
 by_cases h : k ≤ xs.length
 ·rw [Nat.min_eq_left h]
  rw [List.take_of_length_le (by rw [List.length_drop]; exact Nat.le_refl _)]
 ·rw [Nat.min_eq_right (by omega)]
  simp [List.drop_eq_nil_of_le (show xs.length ≤ k by omega)]
mutual
theorem dv_same (e : Same H H') : ∀ {v : V} {d : PyData}, DV K H v d → DV K H' v d
 | _, _, .non => .non
 | _, _, .bl b => .bl b
 | _, _, .int i => .int i
 | _, _, .str x => .str x
 | _, _, .lst q r => .lst (e.seq q) (dvs_same e r)
 | _, _, .tup q r => .tup (sqT_same e q) (dvs_same e r)
theorem dvs_same (e : Same H H') : ∀ {vs : List V} {ds : List PyData}, DVs K H vs ds → DVs K H' vs ds
 | _, _, .nil => .nil
 | _, _, .cons q r => .cons (dv_same e q) (dvs_same e r)
end
theorem dvs_ints : ∀ R : List Int, DVs K H (R.map V.int) (R.map PyData.int)
 | [] => .nil
 | i :: r => .cons (.int i) (dvs_ints r)
theorem shaped_list {ds : List PyData} (c : PyData.canLayAll0 ds = true) (l : PyData.depthAll ds ≤ 1) : SeqAt.shaped (.list ds) = true := by
 have l' : (PyData.list ds).depth ≤ 64 := by simp only [PyData.depth]; omega
 have c' : (PyData.list ds).canLay0 = true := by simp only [PyData.canLay0]; exact c
 unfold SeqAt.shaped
 rw [c', Bool.true_and]
 exact decide_eq_true l'
theorem eqv_same {d : PyData} (h : SeqAt.shaped d = true) : PyData.eqv d d = true := SeqAt.eqv_refl d (SeqAt.canLay_of_shaped h)
theorem good_ints (R : List Int) (h : ∀ r ∈ R, 0 ≤ r ∧ r ≤ 999999999) : (R.map V.int).all goodV = true := by
 rw [List.all_eq_true]
 intro x hx
 obtain ⟨i, hi, rfl⟩ := List.mem_map.mp hx
 have := h i hi
 show (decide ((0 : Int) ≤ i) && decide (i ≤ 999999999)) = true
 simp [this]
theorem lc_ints {fj : List (Str × Nat)} {te : TE} {σ : St} {H : Hp} {Q : Addr → Hp → Prop} {n : Nat} (hn : n ≤ 1000) (g : Nat → Int)
  (hs : ∀ (i : Nat) (H' : Hp) (Qf : VK), i < n → Same H H' → (∀ H3, Same H' H3 → Qf (.int (g i)) H3) → te (some (.int (0 + (i : Int))) :: frees σ fj) H' Qf)
  (hd : ∀ acc H', H acc = none → Same H H' → H' acc = some (.lst (((List.range n).map g).map V.int)) → Q acc H') :
  ∀ acc, H acc = none → ∃ W : Nat → Nat → List V → Hp → Prop, (∃ m, W 0 m [] (upd H acc (.lst []))) ∧ ∀ i m ys H, W i m ys H →
   ((Itr 0 n).stop i H ∧ Q acc H) ∨ ((Itr 0 n).go i H ∧ ∀ x H', (Itr 0 n).yld i H x H' → tYes (some x :: frees σ fj) H' fun b H2 =>
    if b = true then te (some x :: frees σ fj) H2 fun v H3 => H3 acc = some (.lst ys) ∧ ys.length < sizeLine ∧ ∃ m', m' < m ∧ W (i + 1) m' (ys ++ [v]) (upd H3 acc (.lst (ys ++ [v])))
    else ∃ m', m' < m ∧ W (i + 1) m' ys H2) := by
 refine lc_range hn (fun acc i ys H' => ys = (((List.range i).map g).map V.int) ∧ H' acc = some (.lst ys) ∧ H acc = none ∧ Same H H') ?_ ?_ ?_ ?_
 ·exact fun acc h => ⟨rfl, upd_same, h, same_new h _⟩
 ·rintro acc i ys H' hi ⟨rfl, h1, h2, h3⟩
  simp
 ·rintro acc i ys H' Qf hi ⟨rfl, h1, h2, h3⟩ k
  refine hs i H' Qf hi h3 fun H3 h4 => k _ _ (h4 _ _ h1) ⟨?_, upd_same, h2, same_upd h2 (h3.trans h4) _⟩
  rw [List.range_succ]
  simp
 ·rintro acc ys H' h ⟨rfl, h1, h2, h3⟩
  exact hd acc H' h2 h3 h1
def Chg (S : List Addr) (H H' : Hp) : Prop := ∀ b o, H b = some o → b ∉ S → H' b = some o
theorem Chg.of {S : List Addr} (s : Same H H') : Chg S H H' := fun b o q _ => s b o q
theorem Chg.trans {S : List Addr} {H1 H2 : Hp} (a : Chg S H H1) (b : Chg S H1 H2) : Chg S H H2 := fun c o q n => b c o (a c o q n) n
theorem Chg.mono {S S' : List Addr} (c : Chg S H H') (h : ∀ b ∈ S, b ∈ S') : Chg S' H H' := fun b o q n => c b o q fun z => n (h b z)
theorem Chg.upd {S : List Addr} {a : Addr} (c : Chg S H H') (ha : a ∈ S) (o : HO) : Chg S H (L2.upd H' a o) := fun b u q n => by rw [L2.upd_ne (fun z => n (by rw [z]; exact ha))]; exact c b u q n
theorem Chg.new {S : List Addr} {a : Addr} (c : Chg S H H') (n : H' a = none) (o : HO) : Chg S H (L2.upd H' a o) := fun b u q m => by rw [upd_ne (ne_of_none (c b u q m) n)]; exact c b u q m
theorem lc_vals {fj : List (Str × Nat)} {te : TE} {σ : St} {H : Hp} {Q : Addr → Hp → Prop} {n : Nat} (hn : n ≤ 1000) (G : Addr → Hp → Nat → V → Prop) (mono : ∀ {acc : Addr} {H H' : Hp} {i : Nat} {v : V}, (∀ b o, b ≠ acc → H b = some o → H' b = some o) → G acc H i v → G acc H' i v)
  (hs : ∀ (acc : Addr) (i : Nat) (H' : Hp) (Qf : VK), i < n → H acc = none → Same H H' → H' acc ≠ none → (∀ v H3, Same H' H3 → G acc H3 i v → Qf v H3) → te (some (.int (0 + (i : Int))) :: frees σ fj) H' Qf)
  (hd : ∀ acc vs H', H acc = none → Same H H' → H' acc = some (.lst vs) → vs.length = n → (∀ i v, vs[i]? = some v → G acc H' i v) → Q acc H') :
  ∀ acc, H acc = none → ∃ W : Nat → Nat → List V → Hp → Prop, (∃ m, W 0 m [] (upd H acc (.lst []))) ∧ ∀ i m ys H, W i m ys H →
   ((Itr 0 n).stop i H ∧ Q acc H) ∨ ((Itr 0 n).go i H ∧ ∀ x H', (Itr 0 n).yld i H x H' → tYes (some x :: frees σ fj) H' fun b H2 =>
    if b = true then te (some x :: frees σ fj) H2 fun v H3 => H3 acc = some (.lst ys) ∧ ys.length < sizeLine ∧ ∃ m', m' < m ∧ W (i + 1) m' (ys ++ [v]) (upd H3 acc (.lst (ys ++ [v])))
    else ∃ m', m' < m ∧ W (i + 1) m' ys H2) := by
 refine lc_range hn (fun acc i ys H' => ys.length = i ∧ H' acc = some (.lst ys) ∧ H acc = none ∧ Same H H' ∧ ∀ j v, ys[j]? = some v → G acc H' j v) ?_ ?_ ?_ ?_
 ·exact fun acc h => ⟨rfl, upd_same, h, same_new h _, fun j v z => by simp at z⟩
 ·rintro acc i ys H' hi ⟨h0, h1, h2, h3, _⟩
  exact h0
 ·rintro acc i ys H' Qf hi ⟨h0, h1, h2, h3, h4⟩ k
  refine hs acc i H' Qf hi h2 h3 (by rw [h1]; simp) fun v H3 s3 g => k v H3 (s3 _ _ h1) ⟨by simp [h0], upd_same, h2, same_upd h2 (h3.trans s3) _, fun j u hj => ?_⟩
  have up : ∀ b o, b ≠ acc → H3 b = some o → upd H3 acc (.lst (ys ++ [v])) b = some o := fun b o hb q => by rw [upd_ne hb]; exact q
  by_cases hji : j < ys.length
  ·rw [List.getElem?_append_left hji] at hj
   exact mono up (mono (fun b o _ q => s3 b o q) (h4 j u hj))
  ·rw [List.getElem?_append_right (by omega)] at hj
   have e : j = i := by
    rcases Nat.lt_or_ge (j - ys.length) 1 with z | z
    ·omega
    ·rw [List.getElem?_eq_none (by simpa using z)] at hj; cases hj
   subst e
   rw [show j - ys.length = 0 by omega] at hj
   cases hj
   exact mono up g
 ·rintro acc ys H' h ⟨h0, h1, h2, h3, h4⟩
  exact hd acc ys H' h2 h3 h1 h0 h4
theorem lc_valsL {fj : List (Str × Nat)} {te : TE} {σ : St} {H : Hp} {Q : Addr → Hp → Prop} {a : Addr} {xs : List V} (hn : xs.length ≤ 1000) (ha : H a = some (.lst xs)) (G : Addr → Hp → Nat → V → Prop) (mono : ∀ {acc : Addr} {H H' : Hp} {i : Nat} {v : V}, (∀ b o, b ≠ acc → H b = some o → H' b = some o) → G acc H i v → G acc H' i v)
  (hs : ∀ (acc : Addr) (i : Nat) (x : V) (H' : Hp) (Qf : VK), xs[i]? = some x → H acc = none → Same H H' → H' acc ≠ none → (∀ v H3, Same H' H3 → G acc H3 i v → Qf v H3) → te (some x :: frees σ fj) H' Qf)
  (hd : ∀ acc vs H', H acc = none → Same H H' → H' acc = some (.lst vs) → vs.length = xs.length → (∀ i v, vs[i]? = some v → G acc H' i v) → Q acc H') :
  ∀ acc, H acc = none → ∃ W : Nat → Nat → List V → Hp → Prop, (∃ m, W 0 m [] (upd H acc (.lst []))) ∧ ∀ i m ys H, W i m ys H →
   ((Itl K a).stop i H ∧ Q acc H) ∨ ((Itl K a).go i H ∧ ∀ x H', (Itl K a).yld i H x H' → tYes (some x :: frees σ fj) H' fun b H2 =>
    if b = true then te (some x :: frees σ fj) H2 fun v H3 => H3 acc = some (.lst ys) ∧ ys.length < sizeLine ∧ ∃ m', m' < m ∧ W (i + 1) m' (ys ++ [v]) (upd H3 acc (.lst (ys ++ [v])))
    else ∃ m', m' < m ∧ W (i + 1) m' ys H2) := by
 refine lc_list (xs := xs) hn (fun acc i ys H' => ys.length = i ∧ H' acc = some (.lst ys) ∧ H acc = none ∧ Same H H' ∧ ∀ j v, ys[j]? = some v → G acc H' j v) ?_ ?_ ?_ ?_
 ·exact fun acc h => ⟨rfl, upd_same, h, same_new h _, fun j v z => by simp at z⟩
 ·rintro acc i ys H' hi ⟨h0, h1, h2, h3, _⟩
  exact ⟨h0, SqL.of (h3 _ _ ha)⟩
 ·rintro acc i x ys H' Qf hx ⟨h0, h1, h2, h3, h4⟩ k
  refine hs acc i x H' Qf hx h2 h3 (by rw [h1]; simp) fun v H3 s3 g => k v H3 (s3 _ _ h1) ⟨by simp [h0], upd_same, h2, same_upd h2 (h3.trans s3) _, fun j u hj => ?_⟩
  have up : ∀ b o, b ≠ acc → H3 b = some o → upd H3 acc (.lst (ys ++ [v])) b = some o := fun b o hb q => by rw [upd_ne hb]; exact q
  by_cases hji : j < ys.length
  ·rw [List.getElem?_append_left hji] at hj
   exact mono up (mono (fun b o _ q => s3 b o q) (h4 j u hj))
  ·rw [List.getElem?_append_right (by omega)] at hj
   have e : j = i := by
    rcases Nat.lt_or_ge (j - ys.length) 1 with z | z
    ·omega
    ·rw [List.getElem?_eq_none (by simpa using z)] at hj; cases hj
   subst e
   rw [show j - ys.length = 0 by omega] at hj
   cases hj
   exact mono up g
 ·rintro acc ys H' h ⟨h0, h1, h2, h3, h4⟩
  exact hd acc ys H' h2 h3 h1 h0 h4
theorem lc_test {K : PySem.W.Frag} {σ : St} {H : Hp} {a : Addr} {xs : List V} {Q : Addr → Hp → Prop} {sp : Sp} {g : V → Bool} (hsp : ∀ x (H' : Hp) (Qf : VK), Kd K H' x → Qf (.bl (g x)) H' → sp [x] H' Qf E0) (ha : H a = some (.lst xs)) (hz : xs.length ≤ 1000) (hk : ∀ x ∈ xs, Kd K H x)
  (hq : ∀ acc H', H acc = none → Same H H' → H' acc = some (.lst ((xs.map g).map V.bl)) → Q acc H') :
  ∀ acc, H acc = none → ∃ W : Nat → Nat → List V → Hp → Prop, (∃ m, W 0 m [] (upd H acc (.lst []))) ∧ ∀ i m ys H, W i m ys H →
   ((Itl K a).stop i H ∧ Q acc H) ∨ ((Itl K a).go i H ∧ ∀ x H', (Itl K a).yld i H x H' → tYes (some x :: frees σ []) H' fun b H2 =>
    if b = true then tCall sp [] E0 (tCons (tVar 0) tNil) (some x :: frees σ []) H2 fun v H3 => H3 acc = some (.lst ys) ∧ ys.length < sizeLine ∧ ∃ m', m' < m ∧ W (i + 1) m' (ys ++ [v]) (upd H3 acc (.lst (ys ++ [v])))
    else ∃ m', m' < m ∧ W (i + 1) m' ys H2) := by
 refine lc_list (xs := xs) hz (fun acc i ys H' => ys = ((xs.take i).map g).map V.bl ∧ H' acc = some (.lst ys) ∧ H acc = none ∧ Same H H') ?_ ?_ ?_ ?_
 ·exact fun acc h => ⟨rfl, upd_same, h, same_new h _⟩
 ·rintro acc i ys H' hi ⟨rfl, h1, h2, h3⟩
  refine ⟨?_, SqL.of (h3 _ _ ha)⟩
  rw [List.length_map, List.length_map, List.length_take]
  omega
 ·rintro acc i x ys H' Qf hx ⟨rfl, h1, h2, h3⟩ k
  refine ⟨x, rfl, hsp x H' _ ((hk x (List.mem_of_getElem? hx)).same h3) (k _ _ h1 ⟨?_, upd_same, h2, same_upd h2 h3 _⟩)⟩
  rw [List.take_add_one, hx]
  simp
 ·rintro acc ys H' h ⟨rfl, h1, h2, h3⟩
  rw [List.take_length] at h1
  exact hq acc H' h2 h3 h1
def RowsAt (H : Hp) (rs : List Addr) (R : List (List Int)) : Prop := rs.length = R.length ∧ ∀ (i : Nat) (r : Addr) (row : List Int), rs[i]? = some r → R[i]? = some row → H r = some (.lst (row.map V.int))
def GoodRow (row : List Int) : Prop := row.length = 16 ∧ ∀ x ∈ row, 0 ≤ x ∧ x ≤ 999999999
def lv : Option Int → V
 | none => .non
 | some k => .int k
structure DiskAt (C : Addr) (H : Hp) (d kr : Addr) (R : List (List Int)) (n : Int) (l : Option Int) : Prop where
 ex : ∃ dx rs, H d = some (.ins C dx [("kept_rows", .ref kr), ("writes_done", .int n), ("writes_left", lv l)]) ∧ H kr = some (.lst (rs.map V.ref)) ∧ RowsAt H rs R
 lo : 24 ≤ R.length
 hi : R.length ≤ 96
 good : ∀ row ∈ R, GoodRow row
theorem RowsAt.chg {rs : List Addr} {R : List (List Int)} {S : List Addr} (h : RowsAt H rs R) (c : Chg S H H') (n : ∀ r ∈ rs, r ∉ S) : RowsAt H' rs R :=
 ⟨h.1, fun i r row h1 h2 => c r _ (h.2 i r row h1 h2) (n r (List.mem_of_getElem? h1))⟩
theorem RowsAt.set {rs : List Addr} {R : List (List Int)} (h : RowsAt H rs R) (i : Nat) {p : Addr} {row : List Int} (hp : H p = some (.lst (row.map V.int))) : RowsAt H (rs.set i p) (R.set i row) := by
 refine ⟨by simp [h.1], fun j r q h1 h2 => ?_⟩
 rw [List.getElem?_set] at h1 h2
 by_cases e : i = j
 ·subst e
  rw [if_pos rfl] at h1 h2
  split at h1
  ·split at h2
   ·cases h1; cases h2; exact hp
   ·cases h2
  ·cases h1
 ·rw [if_neg e] at h1 h2
  exact h.2 j r q h1 h2
theorem RowsAt.get {rs : List Addr} {R : List (List Int)} (h : RowsAt H rs R) {i : Nat} (hi : i < R.length) : ∃ r, rs[i]? = some r ∧ H r = some (.lst ((R[i]).map V.int)) := by
 have hi' : i < rs.length := by rw [h.1]; exact hi
 exact ⟨rs[i], List.getElem?_eq_getElem hi', h.2 i _ _ (List.getElem?_eq_getElem hi') (List.getElem?_eq_getElem hi)⟩
theorem RowsAt.all {rs : List Addr} {R : List (List Int)} (h : RowsAt H rs R) {r : Addr} (hr : r ∈ rs) : ∃ row ∈ R, H r = some (.lst (row.map V.int)) := by
 obtain ⟨i, hi, e⟩ := List.mem_iff_getElem.mp hr
 have hi' : i < R.length := by rw [← h.1]; exact hi
 exact ⟨R[i], List.getElem_mem hi', h.2 i r _ (by rw [← e]; exact List.getElem?_eq_getElem hi) (List.getElem?_eq_getElem hi')⟩
theorem ref_ne_row {rs : List Addr} {row : List Int} (h : row.length = 16) : (HO.lst (rs.map V.ref)) ≠ HO.lst (row.map V.int) := by
 intro z
 cases rs with
 | nil => cases row with
  | nil => cases h
  | cons => cases z
 | cons => cases row with
  | nil => cases h
  | cons => cases z
variable {C d kr : Addr} {R : List (List Int)} {n : Int} {l : Option Int}
theorem DiskAt.chg {S : List Addr} (h : DiskAt C H d kr R n l) (c : Chg S H H') (hd : d ∉ S) (hk : kr ∉ S) (hr : ∀ r row, H r = some (.lst (row.map V.int)) → GoodRow row → r ∉ S) : DiskAt C H' d kr R n l := by
 obtain ⟨dx, rs, h1, h2, h3⟩ := h.ex
 refine ⟨⟨dx, rs, c _ _ h1 hd, c _ _ h2 hk, h3.chg c fun r hm => ?_⟩, h.lo, h.hi, h.good⟩
 obtain ⟨row, hrow, e⟩ := h3.all hm
 exact hr r row e (h.good row hrow)
theorem DiskAt.same (h : DiskAt C H d kr R n l) (s : Same H H') : DiskAt C H' d kr R n l := h.chg (S := []) (Chg.of s) (by simp) (by simp) (by simp)
theorem DiskAt.put {n' : Int} {l' : Option Int} (D : DiskAt C H d kr R n l) {dx : Addr} {fs : List (Str × V)} (h1 : H d = some (.ins C dx fs)) : DiskAt C (L2.upd H d (.ins C dx [("kept_rows", .ref kr), ("writes_done", .int n'), ("writes_left", lv l')])) d kr R n' l' := by
 obtain ⟨dx', rs, h1', h2, h3⟩ := D.ex
 refine ⟨⟨dx, rs, upd_same, ?_, h3.1, fun i r row e1 e2 => ?_⟩, D.lo, D.hi, D.good⟩
 ·rw [upd_ne (ne_of h2 h1 (fun z => by cases z))]; exact h2
 ·have hr := h3.2 i r row e1 e2
  rw [upd_ne (ne_of hr h1 (fun z => by cases z))]; exact hr
theorem DiskAt.at {C d kr : Addr} (h : DiskAt C H d kr R n l) : ∃ dx, H d = some (.ins C dx [("kept_rows", .ref kr), ("writes_done", .int n), ("writes_left", lv l)]) := let ⟨dx, _, e, _⟩ := h.ex; ⟨dx, e⟩
end
section
variable {X : Cx} {K : PySem.W.Frag}
def rLenK (K : PySem.W.Frag) : List V → Hp → VK → Prop := fun xs H Q => ∃ p ys, xs = [.ref p] ∧ (SqL K H p ys ∨ SqT K H p ys) ∧ Q (.int ys.length) H
def rListK (K : PySem.W.Frag) : List V → Hp → VK → Prop := fun xs H Q => ∃ p ys, xs = [.ref p] ∧ (SqL K H p ys ∨ SqT K H p ys) ∧ ∀ l, H l = none → Q (.ref l) (upd H l (.lst ys))
theorem call_lenK (h : X.K = K) : CallR X (.builtin "len") (rLenK K) := by subst h; exact call_len_seq
theorem call_listK (h : X.K = K) : CallR X (.type "list") (rListK K) := by subst h; exact call_list_of
theorem ix_listK (h : X.K = K) : IxR X (rIxL K) := by subst h; exact ix_list
theorem sl_listK (h : X.K = K) : SlR X (rSlL K) := by subst h; exact sl_list
theorem call_isinstK {T : String} (h : X.K = K) : CallR X (.builtin "isinstance") (rIsin K T) := by subst h; exact call_isinst
end
section
variable {X : Cx}
def rIndex : V → List V → Hp → VK → Prop := fun x vs H Q => ∃ (l : Addr) (xs : List V) (y : V) (j : Nat), x = .ref l ∧ vs = [y] ∧ H l = some (.lst xs) ∧ flatV y = true ∧ xs.all flatV = true ∧ (∃ z, xs[j]? = some z ∧ eqV z y = true) ∧ (∀ (m : Nat) z, m < j → xs[m]? = some z → eqV z y = false) ∧ Q (.int j) H
theorem mt_index : MtR X "list.index" rIndex := by
 intro pins s σ H x vs v us Q I rx rv h
 obtain ⟨l, xs, y, j, rfl, rfl, hH, fy, fs, ⟨z, hz, ez⟩, hno, q⟩ := h
 cases rx
 obtain ⟨u, rfl, ry⟩ := rv.one
 obtain ⟨zl, its, n, r, hl, e⟩ := I.lstM hH
 have get : ∀ (m : Nat) (hm : m < its.toArray.size), ∃ z', xs[m]? = some z' ∧ eqU y its.toArray[m] = eqV z' y := fun m hm => by
  have hm' : m < its.length := by simpa using hm
  have hx : m < xs.length := by rw [r.length]; exact hm'
  obtain ⟨u', hu, rz⟩ := r.get (List.getElem?_eq_getElem hx)
  have fz : flatV xs[m] = true := List.all_eq_true.mp fs _ (List.getElem_mem hx)
  refine ⟨_, List.getElem?_eq_getElem hx, ?_⟩
  have e1 : its.toArray[m] = u' := by
   have : its[m]? = some its[m] := List.getElem?_eq_getElem hm'
   rw [this] at hu
   simpa using Option.some.inj hu
  rw [e1]
  exact eqU_of rz fz
 have hj : j < its.toArray.size := by have := (List.getElem?_eq_some_iff.mp hz).1; rw [r.length] at this; simpa using this
 refine call_meets PySem.F.slot_list_index ⟨_, e, rfl⟩ PySem.F.entry_list_index (PySem.F.args_list_index_2 _ _) (SeqAt.list_indexAt l its.toArray n none #[] u (eqU y) j hj ?_ ?_ ?_)
  ⟨e, fun w hw => mem_eqAt ry fy r fs w (by simpa using hw), ⟨.int j, H, I.tok _, ⟨_, rfl⟩, q⟩⟩
 ·have : j < xs.length := (List.getElem?_eq_some_iff.mp hz).1
  have h2 : sizeLine ≤ 2 ^ 62 := by decide
  omega
 ·obtain ⟨z', h1, h2⟩ := get j hj
  rw [hz] at h1; cases h1
  rw [h2]; exact ez
 ·intro m hm hlt
  obtain ⟨z', h1, h2⟩ := get m hm
  rw [h2]; exact hno m z' hlt h1
end
section
variable {X : Cx} {K : PySem.W.Frag}
def rIsinC (K : PySem.W.Frag) (C : Addr) : List V → Hp → VK → Prop := fun xs H Q => ∃ x t b, xs = [x, .ref C] ∧ TyOf K H x t ∧ PySem.W.kitOne K t (.ref C) = some b ∧ Q (.bl b) H
theorem call_isinstCK {C : Addr} (h : X.K = K) : CallR X (.builtin "isinstance") (rIsinC K C) := by subst h; exact call_isinstC
theorem pi_listK {tg l : Expr} {tl : TE} (h : X.K = K) (hl : PE X l tl) : PI X tg l (iList K tl) := by subst h; exact pi_list hl
theorem pe_fldK {e : Expr} {f : Str} {pos : Pos} {ta : TE} (h : X.K = K) (he : PE X e ta) (hb : attributeBase e f X.env (eval e X.env) = eval e X.env) : PE X (.Attribute e f pos) (tFld K ta f) := by subst h; exact pe_fld he hb
theorem op_eqDK (h : X.K = K) (hu : X.A.units + 64 < cLine) : OpR X (compareOp .Eq) (rEqD K false) := by subst h; exact op_eqD hu
theorem op_neDK (h : X.K = K) (hu : X.A.units + 64 < cLine) : OpR X (compareOp .NotEq) (rEqD K true) := by subst h; exact op_neD hu
theorem call_allK (h : X.K = K) (hc : X.calm = true) : CallR X (.builtin "all") (rAll K) := by subst h; exact call_all hc
theorem call_tupleK (h : X.K = K) : CallR X (.type "tuple") (fun xs H Q => ∃ p ys, xs = [.ref p] ∧ ((SqL K H p ys ∧ ∀ l, H l = none → Q (.ref l) (upd H l (.tup ys))) ∨ (SqT K H p ys ∧ Q (.ref p) H))) := by subst h; exact call_tuple_of
variable {o e : Expr} {es : List Expr} {to : TE} {t : TA} {name : Str} {apos cpos : Pos} {T id : String} {r : V → List V → Hp → VK → Prop}
theorem pe_bmK (h : X.K = K) (pa : PySem.PlainAttrs T) (slot : PySem.Slot T name id) (hty : typeOf (.builtin id) = pure (.type "method_descriptor")) (hm : MtR X id r) (ho : PE X o to) (ha : PA X (e :: es) t)
  (hbase : attributeBase o name X.env (eval o X.env) = eval o X.env := by rfl)
  (hfew : ((backTo cpos (starEach (e :: es) X.env)).all (fun x => !x.1) && (backToKw cpos (keywordEach [] X.env)).all (fun x => x.1.isSome)
   && decide ((e :: es).length + ([] : List Keyword).length + (if ([] : List Keyword).isEmpty then 0 else 1) < 30)) = true := by rfl)
  (hline : (apos.endLine == cpos.line) = true := by rfl) (hs : starEach (e :: es) X.env = (false, eval e X.env) :: starEach es X.env := by rfl) (hplain : (backTo cpos (starEach es X.env)).any (·.1) = false := by rfl) :
  PE X (.Call (.Attribute o name apos) (e :: es) [] cpos) (tBM K T r to t) := by subst h; exact pe_bm pa slot hty hm ho ha hbase hfew hline hs hplain
end
section
variable {σ : St} {H : Hp} {Q : Bool → Hp → Prop} {i : Nat} {c : Int}
theorem t_modeq {n b : Int} (hσ : σ[i]? = some (some (.int c))) (hn : 0 < n) (h : Q (decide (c % n = b)) H) : tTest (tOp rEq (tOp (rI (fun _ j => 0 < j) fun i j => .int (i % j)) (tVar i) (tC (.int n))) (tC (.int b))) σ H Q :=
 ⟨_, hσ, _, _, rfl, rfl, hn, rfl, _, rfl, by rw [dec_V]; exact h⟩
end
theorem whole_get {v : V} {m : Nat} (h : wholeV v 0 ((m : Int) - 1) = true) : ∃ b : Nat, v = .int b ∧ b < m := by
 cases v with
 | int i =>
  have h' : (decide ((0 : Int) ≤ i) && decide (i ≤ (m : Int) - 1)) = true := h
  rw [Bool.and_eq_true, decide_eq_true_eq, decide_eq_true_eq] at h'
  exact ⟨i.toNat, by rw [show ((i.toNat : Nat) : Int) = i by omega], by omega⟩
 | _ => cases h
section
variable {C d kr p : Addr} {H H' : Hp} {R : List (List Int)} {n : Int} {l : Option Int}
def NoRowAt (H : Hp) (kr p : Addr) : Prop := ∀ rs : List Addr, H kr = some (.lst (rs.map V.ref)) → p ∉ rs
theorem refs_inj : ∀ {xs ys : List Addr}, xs.map V.ref = ys.map V.ref → xs = ys
 | [], [], _ => rfl
 | [], _ :: _, h => by cases h
 | _ :: _, [], h => by cases h
 | x :: xs, y :: ys, h => by
  rw [List.map_cons, List.map_cons] at h
  injection h with h1 h2
  injection h1 with h1
  rw [h1, refs_inj h2]
theorem DiskAt.noRow (D : DiskAt C H d kr R n l) (hp : H p = none) : NoRowAt H kr p := fun rs hrs hm => by
 obtain ⟨dx, rs', _, h2, h3⟩ := D.ex
 rw [h2] at hrs
 have e : rs' = rs := refs_inj (by injection hrs with z; injection z)
 subst e
 obtain ⟨row, _, e⟩ := h3.all hm
 rw [hp] at e; cases e
theorem NoRowAt.chg {S : List Addr} (h : NoRowAt H kr p) (D : DiskAt C H d kr R n l) (c : Chg S H H') (hk : kr ∉ S) : NoRowAt H' kr p := fun rs hrs => by
 obtain ⟨dx, rs', _, h2, _⟩ := D.ex
 have := c _ _ h2 hk
 rw [this] at hrs
 have e : rs' = rs := refs_inj (by injection hrs with z; injection z)
 subst e
 exact h rs' h2
end
end BK
end
section
set_option Elab.async false
set_option linter.all false
set_option maxRecDepth 100000
set_option maxHeartbeats 4000000
namespace BK
open PySem L2
theorem ix_tupK {X : Cx} {K : PySem.W.Frag} (h : X.K = K) : IxR X (rIxT K) := by subst h; exact ix_tup
end BK
end
section
set_option Elab.async false
set_option linter.all false
set_option maxRecDepth 100000
namespace L2
open PySem PySem.Spec PySem.Calls PyProof.Rows PySem.W
section
variable {prog : Program} {w : World} {A : Around} {E : Value → Shared → Prop} {s : Shared} {T : String} {r d : Addr} {n : Nat} {P : Nat → Value → Prop} {OK : Heap → Prop}
end
section
variable {X : Cx}
end
end L2
end
section
set_option Elab.async false
set_option linter.all false
set_option maxRecDepth 100000
set_option maxHeartbeats 4000000
namespace BK
open PySem L2
structure DS where
 R : List (List Int)
 n : Int
 l : Option Int
def DS.stop (S : DS) : Bool := match S.l with
 | some k => decide (k < 1)
 | none => false
def DS.put (S : DS) (x : Nat × List Int) : DS := ⟨S.R.set x.1 x.2, S.n + 1, S.l.map (· - 1)⟩
theorem stop_iff {S : DS} (h : S.stop = true) : ∃ k, S.l = some k ∧ k < 1 := by
 unfold DS.stop at h
 split at h
 ·rename_i k e; exact ⟨k, e, of_decide_eq_true h⟩
 ·cases h
theorem stop_not {S : DS} (h : ¬ S.stop = true) : ∀ k, S.l = some k → ¬ k < 1 := fun k e z => h (by unfold DS.stop; rw [e]; exact decide_eq_true z)
abbrev DkAt (C : Addr) (H : Hp) (d kr : Addr) (S : DS) : Prop := DiskAt C H d kr S.R S.n S.l
structure Homes (H : Hp) (a : Addr) (m : Int) (ks : List Int) (ρ : Int → List Int) : Prop where
 ex : ∃ kvs, H a = some (.dK kvs) ∧ kvs.map (·.1) = ks.map (Sum.inl : Int → Key) ∧ ∀ k ∈ ks, ∃ r, valV kvs (.inl k) = some (.ref r) ∧ H r = some (.lst ((ρ k).map V.int))
 nd : ks.Nodup
 inn : ∀ k ∈ ks, 17 ≤ k ∧ k ≤ m - 1
 good : ∀ k ∈ ks, GoodRow (ρ k)
theorem DiskAt.offs {C d kr : Addr} {H H' : Hp} {R : List (List Int)} {n : Int} {l : Option Int} {S : List Addr} (D : DiskAt C H d kr R n l) (c : Chg S H H') (hd : d ∉ S) (hk : kr ∉ S) (hr : ∀ u ∈ S, NoRowAt H kr u) : DiskAt C H' d kr R n l := by
 obtain ⟨dx, rs, g1, g2, g3⟩ := D.ex
 exact ⟨⟨dx, rs, c _ _ g1 hd, c _ _ g2 hk, g3.chg c fun r hm z => hr r z rs g2 hm⟩, D.lo, D.hi, D.good⟩
theorem dvs_rows {K : PySem.W.Frag} {H : Hp} : ∀ {R : List (List Int)} {qs : List Addr}, RowsAt H qs R → DVs K H (qs.map V.ref) (R.map fun row => PyData.list (row.map PyData.int))
 | [], [], _ => .nil
 | [], _ :: _, h => by cases h.1
 | _ :: _, [], h => by cases h.1
 | row :: R, r :: qs, h => by
  have h0 : H r = some (.lst (row.map V.int)) := h.2 0 r row rfl rfl
  refine .cons (.lst (SqL.of h0) (dvs_ints row)) (dvs_rows ⟨by have := h.1; simpa using this, fun i r' row' h1 h2 => h.2 (i + 1) r' row' (by simpa using h1) (by simpa using h2)⟩)
theorem shaped_rows (R : List (List Int)) : SeqAt.shaped (.list (R.map fun row => PyData.list (row.map PyData.int))) = true := by
 have h : PyData.canLayAll0 (R.map fun row => PyData.list (row.map PyData.int)) = true ∧ PyData.depthAll (R.map fun row => PyData.list (row.map PyData.int)) ≤ 1 := by
  induction R with
  | nil => exact ⟨rfl, Nat.zero_le _⟩
  | cons row R ih =>
   constructor
   ·simp [PyData.canLayAll0, PyData.canLay0, PySem.W.ke_canLayAll0] at ih ⊢
    exact ih.1
   ·have e := PySem.W.ke_depthAll row
    simp only [List.map_cons, PyData.depthAll, PyData.depth]
    rw [e]
    have := ih.2
    omega
 exact shaped_list h.1 h.2
end BK
end
section
set_option Elab.async false
set_option linter.all false
set_option maxRecDepth 100000
set_option maxHeartbeats 4000000
namespace BK
open PySem L2
def insK (ks : List Int) (k : Int) : List Int := if k ∈ ks then ks else ks ++ [k]
theorem insK_mem {ks : List Int} {k x : Int} : x ∈ insK ks k ↔ x ∈ ks ∨ x = k := by
 unfold insK
 split
 ·rename_i h; exact ⟨.inl, fun z => z.elim id fun e => by rw [e]; exact h⟩
 ·simp
theorem insK_nd {ks : List Int} {k : Int} (h : ks.Nodup) : (insK ks k).Nodup := by
 unfold insK
 split
 ·exact h
 ·rename_i hk
  rw [List.nodup_append]
  exact ⟨h, by simp, fun x hx y hy z => hk (by rw [List.mem_singleton.mp hy] at z; rw [← z]; exact hx)⟩
theorem insK_len {ks : List Int} {k : Int} : (insK ks k).length ≤ ks.length + 1 := by
 unfold insK; split <;> simp
theorem putK_ins {kvs : List (Key × V)} {ks : List Int} (h : kvs.map (·.1) = ks.map (Sum.inl : Int → Key)) (k : Int) (v : V) : (putK kvs (.inl k) v).map (·.1) = (insK ks k).map (Sum.inl : Int → Key) := by
 by_cases hk : k ∈ ks
 ·have hany : (kvs.any fun kv => decide (kv.1 = Sum.inl k)) = true := by
   have : (Sum.inl k : Key) ∈ kvs.map (·.1) := by rw [h]; exact List.mem_map.mpr ⟨k, hk, rfl⟩
   obtain ⟨kv, hkv, e⟩ := List.mem_map.mp this
   exact List.any_eq_true.mpr ⟨kv, hkv, decide_eq_true e⟩
  unfold putK insK
  rw [if_pos hany, if_pos hk, List.map_map, ← h]
  refine List.map_congr_left fun kv _ => ?_
  show (if kv.1 = Sum.inl k then (kv.1, v) else kv).1 = kv.1
  split <;> rfl
 ·have hany : ¬ (kvs.any fun kv => decide (kv.1 = Sum.inl k)) = true := fun z => hk (by
   obtain ⟨kv, hkv, e⟩ := List.any_eq_true.mp z
   have : kv.1 ∈ kvs.map (·.1) := List.mem_map.mpr ⟨kv, hkv, rfl⟩
   rw [of_decide_eq_true e, h] at this
   obtain ⟨j, hj, e⟩ := List.mem_map.mp this
   cases e; exact hj)
  unfold putK insK
  rw [if_neg hany, if_neg hk, List.map_append, h, List.map_append]; rfl
def OffD (H : Hp) (a p : Addr) : Prop := ∀ kvs : List (Key × V), H a = some (.dK kvs) → ∀ (k : Key) (r : Addr), valV kvs k = some (.ref r) → r ≠ p
section
variable {H H' : Hp} {a p : Addr} {m : Int} {ks : List Int} {ρ : Int → List Int}
theorem Homes.at (h : Homes H a m ks ρ) : ∃ kvs, H a = some (.dK kvs) := let ⟨kvs, e, _⟩ := h.ex; ⟨kvs, e⟩
theorem Homes.row (h : Homes H a m ks ρ) {kvs : List (Key × V)} (e : H a = some (.dK kvs)) {k : Key} {r : Addr} (hv : valV kvs k = some (.ref r)) : ∃ j ∈ ks, k = .inl j ∧ H r = some (.lst ((ρ j).map V.int)) := by
 obtain ⟨kvs', e1, e2, e3⟩ := h.ex
 rw [e] at e1
 cases e1
 have := valV_in hv
 rw [e2] at this
 obtain ⟨j, hj, rfl⟩ := List.mem_map.mp this
 obtain ⟨r', z1, z2⟩ := e3 j hj
 rw [hv] at z1
 cases z1
 exact ⟨j, hj, rfl, z2⟩
theorem Homes.new (h : Homes H a m ks ρ) (hp : H p = none) : OffD H a p := fun kvs e k r hv z => by
 obtain ⟨j, _, _, q⟩ := h.row e hv
 rw [z, hp] at q; cases q
theorem Homes.offo (h : Homes H a m ks ρ) {o : HO} (hp : H p = some o) (no : ∀ row : List Int, row.length = 16 → o ≠ .lst (row.map V.int)) : OffD H a p := fun kvs e k r hv z => by
 obtain ⟨j, hj, _, q⟩ := h.row e hv
 rw [z, hp] at q
 exact no _ (h.good j hj).1 (Option.some.inj q)
theorem Homes.chg {S : List Addr} (h : Homes H a m ks ρ) (c : Chg S H H') (ha : a ∉ S) (hs : ∀ p ∈ S, OffD H a p) : Homes H' a m ks ρ := by
 obtain ⟨⟨kvs, h1, h2, h3⟩, h4, h5, h6⟩ := h
 refine ⟨⟨kvs, c _ _ h1 ha, h2, fun k hk => ?_⟩, h4, h5, h6⟩
 obtain ⟨r, q1, q2⟩ := h3 k hk
 exact ⟨r, q1, c _ _ q2 fun z => hs r z kvs h1 _ _ q1 rfl⟩
theorem OffD.chg {S : List Addr} (o : OffD H a p) (h : Homes H a m ks ρ) (c : Chg S H H') (ha : a ∉ S) : OffD H' a p := fun kvs e k r hv => by
 obtain ⟨kvs', e1⟩ := h.at
 have := c _ _ e1 ha
 rw [this] at e
 cases e
 exact o _ e1 k r hv
theorem OffD.same (o : OffD H a p) (h : Homes H a m ks ρ) (s : Same H H') : OffD H' a p := o.chg h (Chg.of s (S := [])) (by simp)
theorem Homes.put2 (h : Homes H a m ks ρ) (hz : ks.length < 900) {k : Int} (h1 : 17 ≤ k) (h2 : k ≤ m - 1) {r : Addr} {row : List Int} (hr : H r = some (.lst (row.map V.int))) (g : GoodRow row) :
  ∃ H', DPut H a (.int k) (.ref r) H' ∧ Chg [a] H H' ∧ Homes H' a m (insK ks k) (fun j => if j = k then row else ρ j) ∧ ∀ u, OffD H a u → r ≠ u → OffD H' a u := by
 obtain ⟨⟨kvs, e1, e2, e3⟩, nd, inn, gd⟩ := h
 have hlen : kvs.length = ks.length := by have := congrArg List.length e2; simpa using this
 refine ⟨_, DPut.k (k := .inl k) e1 (small1000 (by omega)), (Chg.of (Same.refl _)).upd (by simp) _, ⟨⟨_, upd_same, putK_ins e2 k _, fun j hj => ?_⟩, insK_nd nd, fun j hj => ?_, fun j hj => ?_⟩, fun u ou hru kvs' ek k' r' hv => ?_⟩
 ·have off : ∀ {r : Addr} {xs : List V}, H r = some (.lst xs) → ∀ o : HO, (upd H a o) r = some (.lst xs) := fun z o => by rw [upd_ne (ne_of z e1 (fun z => by cases z))]; exact z
  by_cases hjk : j = k
  ·subst hjk
   exact ⟨r, by rw [valV_put, if_pos rfl], by rw [if_pos rfl]; exact off hr _⟩
  ·have hj' : j ∈ ks := (insK_mem.mp hj).resolve_right hjk
   obtain ⟨r', z1, z2⟩ := e3 j hj'
   exact ⟨r', by rw [valV_put, if_neg (fun z => hjk (Sum.inl.inj z))]; exact z1, by rw [if_neg hjk]; exact off z2 _⟩
 ·rcases insK_mem.mp hj with z | z
  ·exact inn j z
  ·rw [z]; exact ⟨h1, h2⟩
 ·by_cases hjk : j = k
  ·rw [if_pos hjk]; exact g
  ·rw [if_neg hjk]; exact gd j ((insK_mem.mp hj).resolve_right hjk)
 ·rw [upd_same] at ek
  cases ek
  rw [valV_put] at hv
  split at hv
  ·cases hv; exact hru
  ·exact ou kvs e1 k' r' hv
theorem homes_nil (h : H a = some (.dK [])) : Homes H a m [] ρ := ⟨⟨[], h, rfl, fun k hk => (by cases hk)⟩, .nil, fun k hk => (by cases hk), fun k hk => (by cases hk)⟩
theorem Homes.get (h : Homes H a m ks ρ) {k : Int} (hk : k ∈ ks) : ∃ r, DGet H a (.int k) (some (.ref r)) ∧ H r = some (.lst ((ρ k).map V.int)) := by
 obtain ⟨kvs, e1, _, e3⟩ := h.ex
 obtain ⟨r, z1, z2⟩ := e3 k hk
 have := DGet.k (k := .inl k) e1
 rw [z1] at this
 exact ⟨r, this, z2⟩
theorem Homes.getN (h : Homes H a m ks ρ) {k : Int} (hk : k ∉ ks) : DGet H a (.int k) none := by
 obtain ⟨kvs, e1, e2, _⟩ := h.ex
 have := DGet.k (k := .inl k) e1
 cases e : valV kvs (.inl k) with
 | none => rw [e] at this; exact this
 | some v =>
  have z := valV_in e
  rw [e2] at z
  obtain ⟨j, hj, q⟩ := List.mem_map.mp z
  cases q; exact absurd hj hk
end
structure Bat (C : Addr) (H : Hp) (b d nr : Addr) (m : Int) (ks : List Int) (ρ : Int → List Int) : Prop where
 ex : ∃ dx, H b = some (.ins C dx [("disk", .ref d), ("new_rows", .ref nr)])
 ho : Homes H nr m ks ρ
section
variable {C CD b d kr nr : Addr} {H H' : Hp} {m : Int} {ks : List Int} {ρ : Int → List Int} {S : DS}
theorem Bat.chg {T : List Addr} (h : Bat C H b d nr m ks ρ) (c : Chg T H H') (hb : b ∉ T) (hn : nr ∉ T) (ho : ∀ p ∈ T, OffD H nr p) : Bat C H' b d nr m ks ρ :=
 ⟨let ⟨dx, e⟩ := h.ex; ⟨dx, c _ _ e hb⟩, h.ho.chg c hn ho⟩
theorem Bat.same (h : Bat C H b d nr m ks ρ) (s : Same H H') : Bat C H' b d nr m ks ρ := h.chg (Chg.of s (S := [])) (by simp) (by simp) (by simp)
theorem disk_dict {a : Addr} (D : DkAt CD H d kr S) (h : ∃ kvs, H a = some (.dK kvs)) (c : Chg [a] H H') : DkAt CD H' d kr S := by
 obtain ⟨dx, rs, g1, g2, g3⟩ := D.ex
 obtain ⟨kvs, e1⟩ := h
 exact D.chg c (by simp only [List.mem_singleton]; exact ne_of g1 e1 (fun z => by cases z)) (by simp only [List.mem_singleton]; exact ne_of g2 e1 (fun z => by cases z)) fun r row hr _ => by simp only [List.mem_singleton]; exact ne_of hr e1 (fun z => by cases z)
end
theorem lc_listN {K : PySem.W.Frag} {a : Addr} {xs : List V} {fj : List (Str × Nat)} {tc : TT} {te : TE} {σ : St} {H : Hp} {Q : Addr → Hp → Prop} (ha : H a = some (.lst xs))
  (hc : ∀ (i : Nat) (x : V) (H' : Hp) (Qb : Bool → Hp → Prop), xs[i]? = some x → Same H H' → Qb false H' → tc (some x :: frees σ fj) H' Qb)
  (hd : ∀ acc H', H acc = none → Same H H' → H' acc = some (.lst []) → Q acc H') :
  ∀ acc, H acc = none → ∃ W : Nat → Nat → List V → Hp → Prop, (∃ m, W 0 m [] (upd H acc (.lst []))) ∧ ∀ i m ys H, W i m ys H →
   ((Itl K a).stop i H ∧ Q acc H) ∨ ((Itl K a).go i H ∧ ∀ x H', (Itl K a).yld i H x H' → tc (some x :: frees σ fj) H' fun b H2 =>
    if b = true then te (some x :: frees σ fj) H2 fun v H3 => H3 acc = some (.lst ys) ∧ ys.length < sizeLine ∧ ∃ m', m' < m ∧ W (i + 1) m' (ys ++ [v]) (upd H3 acc (.lst (ys ++ [v])))
    else ∃ m', m' < m ∧ W (i + 1) m' ys H2) := by
 intro acc hacc
 refine ⟨fun i m ys H' => m = xs.length - i ∧ i ≤ xs.length ∧ ys = [] ∧ H' acc = some (.lst []) ∧ Same H H', ⟨_, rfl, Nat.zero_le _, rfl, upd_same, same_new hacc _⟩, ?_⟩
 rintro i m ys H' ⟨rfl, hi, rfl, h1, s1⟩
 have hq := SqL.of (K := K) (s1 _ _ ha)
 by_cases hlt : i < xs.length
 ·refine .inr ⟨⟨xs, xs[i], hq, List.getElem?_eq_getElem hlt⟩, ?_⟩
  rintro x H2 ⟨rfl, hx⟩
  exact hc i x _ _ (hx _ hq) s1 (iteF ⟨_, by omega, rfl, hlt, rfl, h1, s1⟩)
 ·exact .inl ⟨⟨xs, hq, by omega⟩, hd acc H' hacc s1 h1⟩
end BK
end
section
set_option Elab.async false
set_option linter.all false
set_option maxRecDepth 100000
set_option maxHeartbeats 4000000
namespace L2
open PySem PySem.Spec PySem.Calls PyProof.Rows PySem.W
section
variable {Κ : Type} [DecidableEq Κ] {prog : Program} {w : World} {knd : PySem.KeyKind prog w Κ} {A : Around} {E : Value → Shared → Prop} {s : Shared}
end
section
variable {prog : Program} {w : World} {A : Around} {E : Value → Shared → Prop} {s : Shared} {T : String} {r d : Addr} {n : Nat} {P : Nat → Value → Prop} {OK : Heap → Prop}
end
section
variable {Κ : Type} [DecidableEq Κ] {prog : Program} {w : World} {knd : PySem.KeyKind prog w Κ} {A : Around} {E : Value → Shared → Prop} {s : Shared} {d : Addr} {kvs : List (Κ × Value)} {ep : Nat}
end
end L2
end
section
set_option Elab.async false
set_option linter.all false
set_option maxRecDepth 100000
namespace L2
open PySem PySem.Spec PySem.Calls PyProof.Rows
section
variable {X : Cx} {tg : Expr}
def rCount : V → List V → Hp → VK → Prop := fun x vs H Q => ∃ (l : Addr) (xs : List V) (y : V), x = .ref l ∧ vs = [y] ∧ H l = some (.lst xs) ∧ flatV y = true ∧ xs.all flatV = true ∧ Q (.int (xs.countP fun z => eqV z y)) H
theorem countP_vals {y : V} : ∀ {xs : List V} {its : List Value}, Vals xs its → xs.all flatV = true → its.countP (eqU y) = xs.countP fun z => eqV z y
 | _, _, .nil, _ => rfl
 | _, _, .cons (a := x) (b := u) r1 r2, h => by
  rw [List.all_cons, Bool.and_eq_true] at h
  rw [List.countP_cons, List.countP_cons, countP_vals r2 h.2, eqU_of r1 h.1]
theorem mt_count : MtR X "list.count" rCount := by
 intro pins s σ H x vs v us Q I rx rv h
 obtain ⟨l, xs, y, rfl, rfl, hH, fy, fs, q⟩ := h
 cases rx
 obtain ⟨u, rfl, ry⟩ := rv.one
 obtain ⟨zl, its, n, r, hl, e⟩ := I.lstM hH
 refine call_meets PySem.F.slot_list_count ⟨_, e, rfl⟩ PySem.F.entry_list_count (PySem.F.args_list_count_2 _ _) (SeqAt.list_countAt l its.toArray n none #[] u (eqU y))
  ⟨e, fun w hw => mem_eqAt ry fy r fs w (by simpa using hw), ?_⟩
 have e1 : its.toArray.toList.countP (eqU y) = xs.countP fun z => eqV z y := countP_vals r fs
 rw [e1]
 exact ⟨.int _, H, I.tok _, ⟨_, rfl⟩, q⟩
end
end L2
end
section
set_option Elab.async false
set_option linter.all false
set_option maxRecDepth 100000
set_option maxHeartbeats 4000000
namespace BK
open PySem L2
theorem lc_step {It0 : It} {fj : List (Str × Nat)} {te : TE} {σ : St} {H : Hp} {Q : Addr → Hp → Prop} {n : Nat} (hn : n ≤ 1000) (xv : Nat → V) (hgo : ∀ i H, i < n → It0.go i H) (hstop : ∀ H, It0.stop n H) (hy : ∀ i H x H', It0.yld i H x H' → H' = H ∧ x = xv i)
  (G : Addr → Hp → Nat → V → Prop) (mono : ∀ {acc : Addr} {H H' : Hp} {i : Nat} {v : V}, (∀ b o, b ≠ acc → H b = some o → H' b = some o) → G acc H i v → G acc H' i v)
  (hs : ∀ (acc : Addr) (i : Nat) (H' : Hp) (Qf : VK), i < n → H acc = none → Same H H' → H' acc ≠ none → (∀ v H3, Same H' H3 → G acc H3 i v → Qf v H3) → te (some (xv i) :: frees σ fj) H' Qf)
  (hd : ∀ acc vs H', H acc = none → Same H H' → H' acc = some (.lst vs) → vs.length = n → (∀ i v, vs[i]? = some v → G acc H' i v) → Q acc H') :
  ∀ acc, H acc = none → ∃ W : Nat → Nat → List V → Hp → Prop, (∃ m, W 0 m [] (upd H acc (.lst []))) ∧ ∀ i m ys H, W i m ys H →
   (It0.stop i H ∧ Q acc H) ∨ (It0.go i H ∧ ∀ x H', It0.yld i H x H' → tYes (some x :: frees σ fj) H' fun b H2 =>
    if b = true then te (some x :: frees σ fj) H2 fun v H3 => H3 acc = some (.lst ys) ∧ ys.length < sizeLine ∧ ∃ m', m' < m ∧ W (i + 1) m' (ys ++ [v]) (upd H3 acc (.lst (ys ++ [v])))
    else ∃ m', m' < m ∧ W (i + 1) m' ys H2) := by
 intro acc hacc
 refine ⟨fun i m ys H' => m = n - i ∧ i ≤ n ∧ ys.length = i ∧ H' acc = some (.lst ys) ∧ Same H H' ∧ ∀ j v, ys[j]? = some v → G acc H' j v, ⟨n, rfl, Nat.zero_le _, rfl, upd_same, same_new hacc _, fun j v z => by simp at z⟩, ?_⟩
 rintro i m ys H' ⟨rfl, hi, h0, h1, s1, hG⟩
 by_cases hlt : i < n
 ·refine .inr ⟨hgo i H' hlt, fun x H2 y => ?_⟩
  obtain ⟨rfl, rfl⟩ := hy i H' x H2 y
  refine hs acc i _ (fun v H3 => H3 acc = some (.lst ys) ∧ ys.length < sizeLine ∧ ∃ m', m' < n - i ∧ (m' = n - (i + 1) ∧ i + 1 ≤ n ∧ (ys ++ [v]).length = i + 1 ∧ (upd H3 acc (.lst (ys ++ [v]))) acc = some (.lst (ys ++ [v])) ∧ Same H (upd H3 acc (.lst (ys ++ [v]))) ∧ ∀ j u, (ys ++ [v])[j]? = some u → G acc (upd H3 acc (.lst (ys ++ [v]))) j u)) hlt hacc s1 (by rw [h1]; simp) fun v H3 s3 g => ⟨s3 _ _ h1, small1000 (by omega), n - (i + 1), by omega, rfl, hlt, by simp [h0], upd_same, same_upd hacc (s1.trans s3) _, fun j u hj => ?_⟩
  have up : ∀ b o, b ≠ acc → H3 b = some o → upd H3 acc (.lst (ys ++ [v])) b = some o := fun b o hb q => by rw [upd_ne hb]; exact q
  by_cases hji : j < ys.length
  ·rw [List.getElem?_append_left hji] at hj
   exact mono up (mono (fun b o _ q => s3 b o q) (hG j u hj))
  ·rw [List.getElem?_append_right (by omega)] at hj
   have e : j = i := by
    rcases Nat.lt_or_ge (j - ys.length) 1 with z | z
    ·omega
    ·rw [List.getElem?_eq_none (by simpa using z)] at hj; cases hj
   subst e
   rw [show j - ys.length = 0 by omega] at hj
   cases hj
   exact mono up g
 ·have e : i = n := by omega
  subst e
  exact .inl ⟨hstop H', hd acc ys H' hacc s1 h1 h0 hG⟩
end BK
end
section
set_option Elab.async false
set_option linter.all false
set_option maxRecDepth 100000
namespace L2
open PySem PySem.Spec PySem.Calls PyProof.Rows
section
variable {prog : Program} {w : World} {A : Around} {E : Value → Shared → Prop} {s : Shared}
theorem nextOf_endH {it l : Addr} {i : Nat} {items : Array Value} {Q : Value → Shared → Prop} (hh : HdAt A s.heap) (hit : s.heap.IsListIter it l i) (hl : s.heap.IsList l items) (hx : items[i]? = none)
  (hE : ∀ h' e, Heap.ExtBut it s.heap h' → (∃ o, h'.get? e = some o ∧ o.cls = .type "StopIteration") → E (.ref e) { s with heap := h' }) :
  wpAny (model prog w) A (Builtin.SmallTypes.nextOf (.ref it)) Q E s := by
 obtain ⟨o, ho, hc, hd⟩ := id hit
 obtain ⟨ol, hol, _, nl, hdl⟩ := hl
 unfold Builtin.SmallTypes.nextOf
 refine wpAny_bind (wpAny_callSpecial?_slot (name := Str.ofString "__next__") hit.typeIs slot_listiter_next
  (wpAny_call_entry slot_listiter_next hit.typeIs entry_listiter_next ?_ (args_listiter_next _)))
 show wpAny _ _ (field (.ref it) 0 >>= _) _ _ s
 refine wpAny_bind (wpAny_field ho hd (x := .ref l) rfl ?_)
 show wpAny _ _ (if (Value.ref l == Value.none) = true then _ else _) _ _ s
 rw [if_neg (show ¬ ((Value.ref l == Value.none) = true) from Bool.false_ne_true)]
 show wpAny _ _ (field (.ref it) 1 >>= _) _ _ s
 refine wpAny_bind (wpAny_field ho hd (x := .int i 0) rfl ?_)
 show wpAny _ _ (seqItems? (.ref l) >>= _) _ _ s
 refine wpAny_bind (wpAny_seqItems hol hdl ?_)
 simp only [Int.toNat_natCast, hx]
 refine wpAny_bind (wpAny_rule (wpAny_bind (wpAny_setField ho hd (by simp) ?_)))
 show wpAny _ _ (newExc (.type "StopIteration") [] >>= _) _ _ _
 refine wpAny_bind ?_
 simp only [newExc, newTuple]
 refine wpAny_bind (wpAny_newObj_type ?_ (by size_fits))
 refine wpAny_bind (m := firstArgMember _ _) (wpAny_of_eq (a := Value.none) (by first | rfl | (simp only [firstArgMember]; rfl)) ?_)
 refine wpAny_newObj_type ?_ (by size_fits)
 refine raiseNew_hd (HdAt.two (A := A.in1) (it := it) hh (fun b o' hb e => (Heap.SameBut.update ..).extBut b o' hb e) (fun oe vs e e2 => by rw [ho] at e; cases e; rw [hd] at e2; cases e2; exact ⟨by simp, by simp⟩)) (Heap.get?_push_size _ rfl) rfl (by simp; omega) fun h' sb ⟨o', _, ho', hc', _⟩ => ?_
 refine hE _ _ (fun b ob hb e => (sb.2 b ?_).trans (((Heap.SameBut.update ..).extBut.push _).push _ b ob hb e)) ⟨o', ho', hc'⟩
 exact Nat.ne_of_lt (Nat.lt_of_lt_of_le (Heap.lt_size e) (by rw [Heap.size_push, Heap.size_after_update]; exact Nat.le_succ _))
theorem enum_endH {e it l : Addr} {i : Nat} {items : Array Value} {old : Value} {Q : Option Value → Shared → Prop} (hh : HdAt A s.heap)
  (he : IsEnum s.heap e it i old) (hit : s.heap.IsListIter it l i) (hl : s.heap.IsList l items) (hx : items[i]? = none)
  (hQ : ∀ h', Heap.ExtBut it s.heap h' → Q none { s with heap := h' }) : wpAny (model prog w) A (pyNext (.ref e)) Q E s := by
 have hT : s.TypeIs (.ref e) "enumerate" := ⟨_, he, rfl⟩
 unfold pyNext
 refine wpAny_bind (wpAny_attempt (wpAny_callSpecial?_slot (name := Str.ofString "__next__") hT PySem.F.slot_enumerate_next
  (wpAny_call_entry PySem.F.slot_enumerate_next hT PySem.F.entry_enumerate_next ?_ (PySem.F.args_enumerate_next_1 _))))
 show wpAny _ _ (field (.ref e) 2 >>= _) _ _ _
 refine wpAny_bind (wpAny_field he rfl (x := .ref it) rfl ?_)
 refine wpAny_bind (nextOf_endH (A := A.in1) hh hit hl hx fun h' x he' hx' => ?_)
 obtain ⟨o, ho, hc⟩ := hx'
 refine wpAny_bind (wpAny_isInstance (T := "StopIteration") (b := true) ⟨o, ho, hc⟩ isSubtype_stop ?_)
 exact wpAny_pure (hQ _ he')
end
def Ite (K : PySem.W.Frag) (a : Addr) : It :=
 ⟨fun i H => ∃ xs x, SqL K H a xs ∧ xs[i]? = some x, fun i H x H' => ∃ p y, x = .ref p ∧ H p = none ∧ H' = upd H p (.tup [.int i, y]) ∧ ∀ xs, SqL K H a xs → xs[i]? = some y, fun i H => ∃ xs, SqL K H a xs ∧ xs.length ≤ i⟩
theorem turn_enum {P : Program} {w : World} {K : PySem.W.Frag} {elts : List Expr} {x1} {pos : Pos} (a e it : Addr) (hne : e ≠ it) :
  Turn P w K (.Tuple elts x1 pos) (Ite K a) [e, it] e (fun i h => (∃ old, IsEnum h e it (i : Nat) old) ∧ h.IsListIter it a i) where
 mem := by simp
 obj := fun i h st b hb => by
  obtain ⟨⟨old, he⟩, hit⟩ := st
  rcases List.mem_cons.mp hb with rfl | hb
  ·exact ⟨_, he, fun v z => by
    have z' : Data.fields _ = Data.cell v := z
    cases z'⟩
  ·have q : b = it := by simpa using hb
   subst q
   obtain ⟨o, e, c, d⟩ := hit
   exact ⟨o, e, fun v z => by rw [d] at z; cases z⟩
 keep := fun i h h' ⟨⟨old, he⟩, hit⟩ k => ⟨⟨old, k e (by simp) _ he⟩, hit.at fun o q => k it (by simp) o q⟩
 item := by
  intro X hP hw hK hc i pins s σ H E I hf st hg
  subst hP hw hK
  obtain ⟨⟨old, he⟩, hit⟩ := st
  obtain ⟨xs, x, hq, hx⟩ := hg
  obtain ⟨its, rv, p, hz⟩ := I.list hq
  obtain ⟨u, hu, ru⟩ := rv.get hx
  obtain ⟨f0, f1, f2, f3, f4, f5⟩ := hf e (by simp)
  obtain ⟨g0, g1, g2, g3, g4, g5⟩ := hf it (by simp)
  refine wpAny_pyNext_enum_item he hit p.isList (x := u) (by simpa using hu) hne fun h' heo hit' ht hsz hk => ⟨_, rfl, wpAny_letOwnedTupleGo_enum heo fun h2 he2 hs2 => ?_⟩
  replace hs2 : Heap.SameBut e h' h2 := hs2
  have hel : e < s.heap.objs.size := Heap.lt_size he
  have hit2 : h2.IsListIter it a (i + 1) := hit'.extBut hs2.extBut (Ne.symm hne)
  have ht2 : h2.get? s.heap.objs.size = some { cls := .type "tuple", data := .seq #[.int i s.toks, u] } := (hs2.2 _ (Nat.ne_of_gt hel)).trans ht
  obtain ⟨oi, hoi, ci, di⟩ := id hit
  obtain ⟨oi2, hoi2, ci2, di2⟩ := id hit2
  have hil : it < s.heap.objs.size := Heap.lt_size hoi
  have m1 := Heap.get?_update_self (fun _ => ({ cls := .type "enumerate", dict := none, data := .fields #[.none, .bool false, .ref it, rawInt ((i : Int) + 1), .none, u], slots := #[] } : Obj)) he rfl
  generalize hmid : s.heap.update e (fun _ => ({ cls := .type "enumerate", dict := none, data := .fields #[.none, .bool false, .ref it, rawInt ((i : Int) + 1), .none, u], slots := #[] } : Obj)) = hm at m1
  have o1 : ∀ b o, b ≠ e → s.heap.get? b = some o → hm.get? b = some o := fun b o hb q => by rw [← hmid]; exact (Heap.get?_update_other _ _ (Ne.symm hb)).trans q
  have o1r : ∀ b o, b ≠ e → hm.get? b = some o → s.heap.get? b = some o := fun b o hb q => by rw [← hmid, Heap.get?_update_other _ _ (Ne.symm hb)] at q; exact q
  have z1 : hm.objs.size = s.heap.objs.size := by rw [← hmid, Heap.size_update]
  have m2 := Heap.get?_update_self (fun _ => oi2) (o1 it oi (Ne.symm hne) hoi) (Obj.isFreed_of_fields di2)
  generalize hmid2 : hm.update it (fun _ => oi2) = hn at m2
  have o2 : ∀ b o, b ≠ it → hm.get? b = some o → hn.get? b = some o := fun b o hb q => by rw [← hmid2]; exact (Heap.get?_update_other _ _ (Ne.symm hb)).trans q
  have o2r : ∀ b o, b ≠ it → hn.get? b = some o → hm.get? b = some o := fun b o hb q => by rw [← hmid2, Heap.get?_update_other _ _ (Ne.symm hb)] at q; exact q
  have z2 : hn.objs.size = s.heap.objs.size := by rw [← hmid2, Heap.size_update, z1]
  have I1 : Inv X pins σ H { s with heap := hm } := I.turned (t' := s.toks) o1 f0 f1 f3 f4 f5
  have I2 : Inv X pins σ H { s with heap := hn } := I1.turned (t' := s.toks) o2 g0 g1 g3 g4 g5
  have fin : ∀ b o, hn.get? b = some o → h2.get? b = some o := fun b o q => by
   by_cases be : b = it
   ·subst be; rw [m2] at q; cases q; exact hoi2
   ·have q := o2r b o be q
    by_cases bi : b = e
    ·subst bi; rw [m1] at q; cases q; exact he2
    ·exact hs2.extBut b o bi (hk b o bi be (o1r b o bi q))
  have hfr : H s.heap.objs.size = none := I.hok.fresh (Nat.le_refl _)
  have I3 : Inv X pins σ (upd H s.heap.objs.size (.tup [.int i, x])) { s with heap := h2, toks := s.toks + 1 } :=
   I2.laid (a := s.heap.objs.size) (t' := s.toks + 1) fin (by show hn.objs.size ≤ _; rw [z2]; exact Nat.le_refl _)
    (show ObjOk X.prog X.w _ h2 _ (.tup [.int i, x]) from ⟨by rw [sizeLine_eq]; simp, [.int i s.toks, u], .cons ⟨_, rfl⟩ (.cons ru .nil), ⟨_, ht2, rfl, _, rfl⟩⟩)
  refine ⟨.ref s.heap.objs.size, _, I3, rfl, ⟨_, x, rfl, hfr, rfl, fun ys hy => by rw [I.list_inj hy hq]; exact hx⟩, ⟨⟨u, by simpa using he2⟩, hit2⟩, fun b hb => ?_⟩
  have hb' : b ≠ s.heap.objs.size := by
   rcases List.mem_cons.mp hb with rfl | hb
   ·exact Nat.ne_of_lt hel
   ·have q : b = it := by simpa using hb
    subst q; exact Nat.ne_of_lt hil
  show upd H s.heap.objs.size _ b = none
  rw [upd_ne hb']
  exact (hf b hb).1
 done := by
  intro X hP hw hK hc i pins s σ H E I hf st hg
  subst hP hw hK
  obtain ⟨⟨old, he⟩, hit⟩ := st
  obtain ⟨xs, hq, hx⟩ := hg
  obtain ⟨its, rv, p, hz⟩ := I.list hq
  obtain ⟨g0, g1, g2, g3, g4, g5⟩ := hf it (by simp)
  have hl := rv.length
  exact enum_endH I.hd he hit p.isList (by simp; omega) fun h' eb => ⟨rfl, I.turned (t' := s.toks) (fun b o hb q => eb b o hb q) g0 g1 g3 g4 g5⟩
 self := fun _ _ _ _ _ ⟨⟨old, he⟩, _⟩ h => wpAny_pyIter_enum he h
section
variable {X : Cx} {elts : List Expr} {pos : Pos}
def iEnum (K : PySem.W.Frag) (ta : TA) : TI := fun σ H R => ta σ H fun vs H1 => ∃ a, vs = [.ref a] ∧ (∃ xs, SqL K H1 a xs) ∧ R (Ite K a) H1
theorem pi_enum {l : Expr} {ta : TA} {x1} {p cpos : Pos} (hg : Gl X "enumerate") (hm : X.mg "enumerate" = none) (ha : PA X [l] ta) (hs : starEach [l] X.env = [(false, eval l X.env)] := by rfl) :
  PI X (.Tuple elts x1 pos) (.Call (.Name "enumerate" p) [l] [] cpos) (iEnum X.K ta) := by
 intro pins s σ H R I h
 refine Call_ (ld_blt I hg hm boot_enumerate (PyProof.Rows.callWith_type1 (thn (ha cpos pins s σ H _ I h) fun us s1 ⟨vs, H1, I1, r1, q1⟩ => ?_) hs rfl))
 obtain ⟨a, e, ⟨xs, hq⟩, q⟩ := q1
 subst e
 obtain ⟨u, rfl, rx⟩ := vals1 r1
 cases rx
 obtain ⟨its, rv, pl, hz⟩ := I1.list hq
 refine call_enumerate_list pl.isList fun h' he hit hsz hk => ?_
 refine wpAny_pyIter_enum he ?_
 have hne : s1.heap.objs.size + 1 ≠ s1.heap.objs.size := Nat.succ_ne_self _
 refine ⟨s1.heap.objs.size + 1, [s1.heap.objs.size + 1, s1.heap.objs.size], _, _, H1, rfl, I1.kept (t' := s1.toks) hk, turn_enum a _ _ hne, ⟨⟨_, by simpa using he⟩, hit⟩, fun b hb => ?_, q⟩
 rcases List.mem_cons.mp hb with e | hb
 ·subst e
  exact I1.fpOk (Nat.le_succ _) (I1.hok.fresh (Nat.le_succ _))
 ·have e : b = s1.heap.objs.size := by simpa using hb
  subst e
  exact I1.fpOk (Nat.le_refl _) (I1.hok.fresh (Nat.le_refl _))
theorem for_enum {K : PySem.W.Frag} {a : Addr} {xs : List V} {g : TG} {tb : TS} {D : Ends} {σ : St} {H : Hp} (Pv : Nat → St → Hp → Prop) (h0 : Pv 0 σ H) (hl : ∀ i σ H, i ≤ xs.length → Pv i σ H → SqL K H a xs)
  (hs : ∀ i y σ H p, xs[i]? = some y → Pv i σ H → H p = none → g (.ref p) σ (upd H p (.tup [.int i, y])) fun σ2 H2 => tb { D with nx := Pv (i + 1), ct := Pv (i + 1), bk := D.nx } σ2 H2) (hd : ∀ σ H, Pv xs.length σ H → D.nx σ H) :
  ∃ W : Nat → Nat → St → Hp → Prop, (∃ m, W 0 m σ H) ∧ ∀ i m σ H, W i m σ H →
   ((Ite K a).stop i H ∧ D.nx σ H) ∨ ((Ite K a).go i H ∧ ∃ N : St → Hp → Prop, (∀ σ' H', N σ' H' → ∃ m', m' < m ∧ W (i + 1) m' σ' H') ∧ ∀ x H', (Ite K a).yld i H x H' → g x σ H' fun σ2 H2 => tb { D with nx := N, ct := N, bk := D.nx } σ2 H2) := by
 refine ⟨fun i m σ H => m = xs.length - i ∧ i ≤ xs.length ∧ Pv i σ H, ⟨xs.length, by simp, Nat.zero_le _, h0⟩, ?_⟩
 rintro i m σ H ⟨rfl, hi, p⟩
 have q := hl i σ H hi p
 by_cases hlt : i < xs.length
 ·refine .inr ⟨⟨xs, xs[i], q, by simp [hlt]⟩, Pv (i + 1), fun σ' H' p' => ⟨xs.length - (i + 1), by omega, rfl, hlt, p'⟩, fun x H' y => ?_⟩
  obtain ⟨b, z, e1, e2, e3, e4⟩ := y
  subst e1 e3
  exact hs i z σ H b (e4 xs q) p e2
 ·have e : i = xs.length := by omega
  subst e
  exact .inl ⟨⟨xs, q, Nat.le_refl _⟩, hd σ H p⟩
end
end L2
end
section
set_option Elab.async false
set_option linter.all false
set_option maxRecDepth 100000
namespace L2
open PySem PySem.Spec PySem.Calls PyProof.Rows
section
variable {X : Cx} {pins : List (Addr × Obj)} {σ : St} {H : Hp} {s : Shared}
end
end L2
end
section
set_option Elab.async false
set_option linter.all false
set_option maxRecDepth 100000
namespace SoP
open PySem PyProof.Rows
class Kn where
 kind : SortKind
 key : Keyed → Int
 ok : Keyed → Prop
class KnLt [Kn] (prog : Program) (w : World) (A : Around) (s : Shared) : Prop where
 lt : ∀ (x y : Keyed) (E : Value → Shared → Prop) (Q : Bool → Shared → Prop), Kn.ok x → Kn.ok y → Q (decide (Kn.key x < Kn.key y)) s → wpAny (model prog w) A (keyLt' Kn.kind x.1 y.1) Q E s
variable [Kn]
structure SG (a₀ : Array Keyed) (st : SortSt) : Prop where
 perm : (arrOf st).Perm a₀
 kind : kindOf st = Kn.kind
 failed : failedOf st = none
def key (p : Keyed) : Int := Kn.key p
def IntK (p : Keyed) : Prop := Kn.ok p
def K (xs : Array Keyed) (i : Nat) : Int := match xs[i]? with
 | some p => key p
 | none => 0
def SortedTo (xs : Array Keyed) (k : Nat) : Prop := ∀ i j, i ≤ j → j < k → K xs i ≤ K xs j
def IntKeys (xs : Array Keyed) : Prop := ∀ p, p ∈ xs.toList → IntK p
theorem K_eq {xs : Array Keyed} {i : Nat} (hi : i < xs.size) : K xs i = key xs[i] := by unfold K; rw [getElem?_pos xs i hi]
theorem K_congr {xs ys : Array Keyed} {i j : Nat} (h : xs[i]? = ys[j]?) : K xs i = K ys j := by unfold K; rw [h]
theorem K_bubble {xs : Array Keyed} {src d : Nat} (hs : src < xs.size) (hd : d ≤ src) (k : Nat) : K (bubble xs src d) k = if k = src - d then K xs src else if src - d < k ∧ k ≤ src then K xs (k - 1) else K xs k := by
 have e := getElem?_bubble hs d hd k
 split
 ·rename_i h; rw [if_pos h] at e; exact K_congr e
 ·rename_i h; rw [if_neg h] at e
  split
  ·rename_i h2; rw [if_pos h2] at e; exact K_congr e
  ·rename_i h2; rw [if_neg h2] at e; exact K_congr e
theorem K_mirror {xs : Array Keyed} {i j : Nat} (hj : j ≤ xs.size) (k : Nat) : K (mirror xs i j ((j - i) / 2)) k = if i ≤ k ∧ k < j then K xs (i + j - 1 - k) else K xs k := by
 have e := getElem?_mirror_all (i := i) hj k
 split
 ·rename_i h; rw [if_pos h] at e; exact K_congr e
 ·rename_i h; rw [if_neg h] at e; exact K_congr e
theorem K_mirror_equal {xs : Array Keyed} {i j : Nat} (hj : j ≤ xs.size) (heq : ∀ k, i ≤ k → k < j → K xs k = K xs (j - 1)) (k : Nat) : K (mirror xs i j ((j - i) / 2)) k = K xs k := by
 rw [K_mirror hj]
 split
 ·rw [heq _ (by omega) (by omega), heq k (by omega) (by omega)]
 ·rfl
section
variable {prog : Program} {w : World} {A : Around} {E : Value → Shared → Prop} {s : Shared} {a₀ : Array Keyed} [KnLt prog w A s]
theorem wpS_lt {st : SortSt} {x y : Keyed} {Q : Option Bool → SortSt → Prop} (hk : kindOf st = Kn.kind) (hx : IntK x) (hy : IntK y) (h : Q (some (decide (key x < key y))) st) :
  wpS (model prog w) A E s (lt' x y) Q st := by
 rw [lt'_eq]
 refine wpS_bind (wpS_get ?_)
 rw [hk]
 refine wpS_bind (wpS_lift (wpAny_attempt (KnLt.lt x y _ _ hx hy ⟨rfl, ?_⟩)))
 exact wpS_pure h
theorem wpS_elem {st : SortSt} {xs : Array Keyed} {i : Nat} {Q : Keyed → SortSt → Prop} (hi : i < xs.size) (h : Q xs[i] st) : wpS (model prog w) A E s (elem' xs i) Q st := by
 rw [elem'_eq, getElem?_pos xs i hi]
 exact wpS_pure h
end
def gallop' : Bool → Keyed → Array Keyed → Nat → Nat → Nat → StateT SortSt Sem (Option Nat) := sortPriv% PySem.Builtin.gallop
def beyond' (left : Bool) (k : Keyed) (arr : Array Keyed) (base i : Nat) : StateT SortSt Sem (Option Bool) := do
 let x ← elem' arr (base + i)
 if left then lt' x k else return (← lt' k x).map (!·)
def Bey (left : Bool) (k : Int) (x : Int) : Prop := if left then x < k else x ≤ k
instance (left : Bool) (k x : Int) : Decidable (Bey left k x) := by unfold Bey; infer_instance
section
variable {prog : Program} {w : World} {A : Around} {E : Value → Shared → Prop} {s : Shared} {a₀ : Array Keyed} [KnLt prog w A s]
theorem wpS_beyond {st : SortSt} {left : Bool} {k : Keyed} {arr : Array Keyed} {base i : Nat} {Q : Option Bool → SortSt → Prop} (hk : kindOf st = Kn.kind) (hi : base + i < arr.size) (h1 : IntK k) (h2 : IntK arr[base + i])
  (h : Q (some (decide (Bey left (key k) (key arr[base + i])))) st) : wpS (model prog w) A E s (beyond' left k arr base i) Q st := by
 unfold beyond'
 refine wpS_bind (wpS_elem hi ?_)
 cases left with
 | true => exact wpS_lt hk h2 h1 h
 | false =>
  refine wpS_bind (wpS_lt hk h1 h2 (wpS_pure ?_))
  have e : (Option.map (fun x => !x) (some (decide (key k < key arr[base + i])))) = some (decide (Bey false (key k) (key arr[base + i]))) := by
   unfold Bey
   simp only [Option.map_some, Bool.false_eq_true, if_false]
   congr 1
   rw [← decide_not]
   exact decide_eq_decide.mpr (by omega)
  rw [e]
  exact h
end
theorem beqT {a b : Nat} (h : a = b) : (a == b) = true := by simpa using h
theorem beqF {a b : Nat} (h : ¬ a = b) : ¬ (a == b) = true := by simpa using h
section
variable {M : Model} {A : Around} {E : Value → Shared → Prop} {s : Shared} {σ ρ : Type} {c : Prop} [Decidable c] {t e : StateT σ Sem ρ} {Q : ρ → σ → Prop} {st : σ}
theorem ifT (h : c) (q : wpS M A E s t Q st) : wpS M A E s (if c then t else e) Q st := by rw [if_pos h]; exact q
theorem ifF (h : ¬ c) (q : wpS M A E s e Q st) : wpS M A E s (if c then t else e) Q st := by rw [if_neg h]; exact q
end
end SoP
end
section
set_option Elab.async false
set_option linter.all false
set_option maxRecDepth 100000
namespace SoP
open PySem PyProof.Rows
variable [Kn]
section
variable {prog : Program} {w : World} {A : Around} {E : Value → Shared → Prop} {s : Shared} {a₀ : Array Keyed} [KnLt prog w A s]
theorem wpS_gallop {st : SortSt} {left : Bool} {k : Keyed} {arr : Array Keyed} {base n hint : Nat} {Q : Option Nat → SortSt → Prop} (hk : kindOf st = Kn.kind) (hn : base + n ≤ arr.size) (hh : hint < n) (h1 : IntK k) (h2 : ∀ (i : Nat) (hi : i < arr.size), IntK arr[i])
  (P : Nat → Prop) (hP : ∀ (i : Nat) (hi : base + i < arr.size), P i ↔ Bey left (key k) (key arr[base + i])) (anti : ∀ i j, i ≤ j → j < n → P j → P i)
  (h : ∀ m, m ≤ n → (∀ i, i < m → P i) → (∀ i, m ≤ i → i < n → ¬ P i) → Q (some m) st) : wpS (model prog w) A E s (gallop' left k arr base n hint) Q st := by
 have beyond : ∀ {i : Nat} {Q' : Option Bool → SortSt → Prop}, i < n → (P i → Q' (some true) st) → (¬ P i → Q' (some false) st) → wpS (model prog w) A E s (beyond' left k arr base i) Q' st := by
  intro i Q' hi ht hf
  refine wpS_beyond hk (by omega) h1 (h2 _ (by omega)) ?_
  have e := hP i (by omega)
  by_cases p : P i
  ·rw [decide_eq_true (e.mp p)]; exact ht p
  ·rw [decide_eq_false (fun q => p (e.mpr q))]; exact hf p
 delta gallop'
 try dsimp only
 refine wpS_bind (beyond hh (fun p => ?_) (fun p => ?_))
 ·dsimp only
  refine ifT rfl ?_
  refine wpS_bind (wpS_mono (wpS_forRange (I := fun x c st' => st' = st ∧ ∃ lf o, c = (none, lf, o) ∧ x + 1 ≤ o ∧ lf < o ∧ lf < n - hint ∧ P (hint + lf))
   (Q := fun c st' => st' = st ∧ ∃ lf o, c = (none, lf, o) ∧ lf < o ∧ lf < n - hint ∧ P (hint + lf) ∧ (n - hint ≤ o ∨ ¬ P (hint + o))) ?_ ?_ ⟨rfl, 0, 1, rfl, by omega, by omega, by omega, p⟩) ?_)
  ·rintro x c st' - hx ⟨rfl, lf, o, rfl, h3, h4, h5, h6⟩
   dsimp only
   by_cases hge : o ≥ n - hint
   ·refine ifT hge ?_
    exact wpS_pure ⟨rfl, lf, o, rfl, h4, h5, h6, .inl hge⟩
   ·refine ifF hge ?_
    refine wpS_bind (beyond (by omega) (fun p => ?_) (fun p => ?_))
    ·dsimp only
     refine ifF (by decide) ?_
     exact wpS_pure ⟨rfl, _, _, rfl, by omega, by omega, by omega, p⟩
    ·dsimp only
     refine ifT (by decide) ?_
     exact wpS_pure ⟨rfl, _, _, rfl, h4, h5, h6, .inr p⟩
  ·rintro c st' ⟨rfl, lf, o, rfl, h3, h4, h5, h6⟩
   exact ⟨rfl, lf, o, rfl, h4, h5, h6, .inl (by omega)⟩
  ·rintro c st' ⟨rfl, lf, o, rfl, h4, h5, h6, h7⟩
   dsimp only
   have hlh : hint + lf + 1 ≤ hint + min o (n - hint) := by omega
   have hhn : hint + min o (n - hint) ≤ n := by omega
   have b1 : ∀ i, i < hint + lf + 1 → P i := fun i hi => anti i (hint + lf) (by omega) (by omega) h6
   have b2 : ∀ i, hint + min o (n - hint) ≤ i → i < n → ¬ P i := fun i h1' h2' q => by
    rcases h7 with h7 | h7
    ·omega
    ·by_cases ho : o < n - hint
     ·exact h7 (anti (hint + o) i (by omega) h2' q)
     ·omega
   refine wpS_bind (wpS_forRange (I := fun x c sx => sx = st' ∧ ∃ lo hi, c = (none, lo, hi) ∧ lo ≤ hi ∧ hi ≤ n ∧ hi - lo ≤ n - x ∧ (∀ i, i < lo → P i) ∧ (∀ i, hi ≤ i → i < n → ¬ P i)) ?_ ?_ ⟨rfl, _, _, rfl, hlh, hhn, by omega, b1, b2⟩)
   ·rintro x c st' - hx ⟨rfl, lo, hi, rfl, hlh, hhn, hm, b1, b2⟩
    dsimp only
    by_cases hge : lo ≥ hi
    ·refine ifT hge ?_
     have : lo = hi := by omega
     subst this
     exact wpS_pure (wpS_pure (h lo hhn b1 b2))
    ·refine ifF hge ?_
     refine wpS_bind (beyond (by omega) (fun p => ?_) (fun p => ?_))
     ·dsimp only
      refine ifT rfl ?_
      exact wpS_pure ⟨rfl, _, _, rfl, by omega, hhn, by omega, fun i hi' => anti i _ (by omega) (by omega) p, b2⟩
     ·dsimp only
      refine ifF (by decide) ?_
      exact wpS_pure ⟨rfl, _, _, rfl, by omega, by omega, by omega, b1, fun i h1' h2' q => p (anti _ i (by omega) h2' q)⟩
   ·rintro c st' ⟨rfl, lo, hi, rfl, hlh, hhn, hm, b1, b2⟩
    have : lo = hi := by omega
    subst this
    exact wpS_pure (h lo hhn b1 b2)
 ·dsimp only
  refine ifF (by decide) ?_
  refine wpS_bind (wpS_mono (wpS_forRange (I := fun x c st' => st' = st ∧ ∃ lf o, c = (none, lf, o) ∧ x + 1 ≤ o ∧ lf < o ∧ lf < hint + 1 ∧ ¬ P (hint - lf))
   (Q := fun c st' => st' = st ∧ ∃ lf o, c = (none, lf, o) ∧ lf < o ∧ lf < hint + 1 ∧ ¬ P (hint - lf) ∧ (hint + 1 ≤ o ∨ P (hint - o))) ?_ ?_ ⟨rfl, 0, 1, rfl, by omega, by omega, by omega, p⟩) ?_)
  ·rintro x c st' - hx ⟨rfl, lf, o, rfl, h3, h4, h5, h6⟩
   dsimp only
   by_cases hge : o ≥ hint + 1
   ·refine ifT hge ?_
    exact wpS_pure ⟨rfl, lf, o, rfl, h4, h5, h6, .inl hge⟩
   ·refine ifF hge ?_
    refine wpS_bind (beyond (by omega) (fun p => ?_) (fun p => ?_))
    ·dsimp only
     refine ifT rfl ?_
     exact wpS_pure ⟨rfl, _, _, rfl, h4, h5, h6, .inr p⟩
    ·dsimp only
     refine ifF (by decide) ?_
     exact wpS_pure ⟨rfl, _, _, rfl, by omega, by omega, by omega, p⟩
  ·rintro c st' ⟨rfl, lf, o, rfl, h3, h4, h5, h6⟩
   exact ⟨rfl, lf, o, rfl, h4, h5, h6, .inl (by omega)⟩
  ·rintro c st' ⟨rfl, lf, o, rfl, h4, h5, h6, h7⟩
   dsimp only
   have hlh : hint + 1 - min o (hint + 1) ≤ hint - lf := by omega
   have hhn : hint - lf ≤ n := by omega
   have b1 : ∀ i, i < hint + 1 - min o (hint + 1) → P i := fun i hi => by
    rcases h7 with h7 | h7
    ·omega
    ·by_cases ho : o < hint + 1
     ·exact anti i (hint - o) (by omega) (by omega) h7
     ·omega
   have b2 : ∀ i, hint - lf ≤ i → i < n → ¬ P i := fun i h1' h2' q => h6 (anti (hint - lf) i (by omega) h2' q)
   refine wpS_bind (wpS_forRange (I := fun x c sx => sx = st' ∧ ∃ lo hi, c = (none, lo, hi) ∧ lo ≤ hi ∧ hi ≤ n ∧ hi - lo ≤ n - x ∧ (∀ i, i < lo → P i) ∧ (∀ i, hi ≤ i → i < n → ¬ P i)) ?_ ?_ ⟨rfl, _, _, rfl, hlh, hhn, by omega, b1, b2⟩)
   ·rintro x c st' - hx ⟨rfl, lo, hi, rfl, hlh, hhn, hm, b1, b2⟩
    dsimp only
    by_cases hge : lo ≥ hi
    ·refine ifT hge ?_
     have : lo = hi := by omega
     subst this
     exact wpS_pure (wpS_pure (h lo hhn b1 b2))
    ·refine ifF hge ?_
     refine wpS_bind (beyond (by omega) (fun p => ?_) (fun p => ?_))
     ·dsimp only
      refine ifT rfl ?_
      exact wpS_pure ⟨rfl, _, _, rfl, by omega, hhn, by omega, fun i hi' => anti i _ (by omega) (by omega) p, b2⟩
     ·dsimp only
      refine ifF (by decide) ?_
      exact wpS_pure ⟨rfl, _, _, rfl, by omega, by omega, by omega, b1, fun i h1' h2' q => p (anti _ i (by omega) h2' q)⟩
   ·rintro c st' ⟨rfl, lo, hi, rfl, hlh, hhn, hm, b1, b2⟩
    have : lo = hi := by omega
    subst this
    exact wpS_pure (h lo hhn b1 b2)
end
end SoP
end
section
set_option Elab.async false
set_option linter.all false
set_option maxRecDepth 100000
namespace SoP
open PySem PyProof.Rows
variable [Kn]
abbrev setG (st : SortSt) (g : Nat) : SortSt := SortSt.mk' (kindOf st) (arrOf st) (pendingOf st) g (failedOf st)
def mergeLo' : Array Keyed → Array Keyed → StateT SortSt Sem (Array Keyed) := sortPriv% PySem.Builtin.mergeLo
section
variable {M : Model} {A : Around} {E : Value → Shared → Prop} {s : Shared} {σ ρ α β : Type} {c : Prop} [Decidable c] {t e : StateT σ Sem ρ} {Q : ρ → σ → Prop} {st : σ}
theorem jp0 (C : σ → Prop) (hx : ¬ c → C st) (h : ∀ st, C st → wpS M A E s e Q st) (ht : c → (∀ st, C st → wpS M A E s e Q st) → wpS M A E s t Q st) : wpS M A E s (if c then t else e) Q st := by
 split
 ·rename_i hc; exact ht hc h
 ·rename_i hc; exact h st (hx hc)
end
section
variable {M : Model} {A : Around} {E : Value → Shared → Prop} {s : Shared} {σ ρ α β : Type} {Q : ρ → σ → Prop} {st : σ}
theorem jp1 {c : α → Prop} [∀ x, Decidable (c x)] {t e : α → StateT σ Sem ρ} (g : α → α) (he : ∀ x, t x = e (g x)) (h : ∀ x, wpS M A E s (e x) Q st) (x : α) : wpS M A E s (if c x then t x else e x) Q st := by
 split
 ·rw [he]; exact h _
 ·exact h x
theorem jp2 {c C0 : α → β → Prop} [∀ x y, Decidable (c x y)] {t e : α → β → StateT σ Sem ρ} (C : α → β → σ → Prop) (h : ∀ x y st, C x y st → wpS M A E s (e x y) Q st) (hx : ∀ x y, C0 x y → ¬ c x y → C x y st) (ht : ∀ x y, C0 x y → c x y → (∀ x y st, C x y st → wpS M A E s (e x y) Q st) → wpS M A E s (t x y) Q st) (x : α) (y : β) (h0 : C0 x y) : wpS M A E s (if c x y then t x y else e x y) Q st :=
 jp0 (C x y) (hx x y h0) (h x y) fun hc _ => ht x y h0 hc h
theorem jp3 {c C0 : α → Prop} [∀ x, Decidable (c x)] {t e : α → StateT σ Sem ρ} (C : α → σ → Prop) (h : ∀ x st, C x st → wpS M A E s (e x) Q st) (hx : ∀ x, C0 x → ¬ c x → C x st) (ht : ∀ x, C0 x → c x → (∀ x st, C x st → wpS M A E s (e x) Q st) → wpS M A E s (t x) Q st) (x : α) (h0 : C0 x) : wpS M A E s (if c x then t x else e x) Q st :=
 jp0 (C x) (hx x h0) (h x) fun hc _ => ht x h0 hc h
end
def Srt (l : List Keyed) : Prop := l.Pairwise fun p q => key p ≤ key q
def Res (a b m : Array Keyed) : Prop := m.toList.Perm (a.toList ++ b.toList) ∧ Srt m.toList
structure LoI (a b out : Array Keyed) (ia ib : Nat) : Prop where
 perm : (out.toList ++ (a.toList.drop ia ++ b.toList.drop ib)).Perm (a.toList ++ b.toList)
 sa : Srt (out.toList ++ a.toList.drop ia)
 sb : Srt (out.toList ++ b.toList.drop ib)
theorem srt_app {x y : List Keyed} : Srt (x ++ y) ↔ Srt x ∧ Srt y ∧ ∀ p ∈ x, ∀ q ∈ y, key p ≤ key q := List.pairwise_append
theorem ext_toList (a : Array Keyed) (i j : Nat) : (a.extract i j).toList = (a.toList.drop i).take (j - i) := by
 rw [Array.toList_extract, List.extract_eq_drop_take]
theorem ext_rest (a : Array Keyed) (i : Nat) : (a.extract i a.size).toList = a.toList.drop i := by
 rw [ext_toList, List.take_of_length_le (by simp)]
theorem drop_at {a : Array Keyed} {i : Nat} (h : i < a.size) : a.toList.drop i = a[i] :: a.toList.drop (i + 1) := by
 rw [List.drop_eq_getElem_cons (by simpa using h)]; simp
section
variable {a b out : Array Keyed} {ia ib : Nat}
theorem LoI.moveA {x ra : List Keyed} {o : Array Keyed} {ia' : Nat} (h : LoI a b out ia ib) (e : a.toList.drop ia = x ++ ra) (eo : o.toList = out.toList ++ x) (er : a.toList.drop ia' = ra) (hx : ∀ p ∈ x, ∀ q ∈ b.toList.drop ib, key p ≤ key q) : LoI a b o ia' ib := by
 obtain ⟨h1, h2, h3⟩ := h
 rw [e] at h1 h2
 refine ⟨?_, ?_, ?_⟩
 ·rw [eo, er]; simpa [List.append_assoc] using h1
 ·rw [eo, er]; simpa [List.append_assoc] using h2
 ·rw [eo]
  rw [srt_app] at h2 h3 ⊢
  obtain ⟨a1, a2, a3⟩ := h2
  obtain ⟨b1, b2, b3⟩ := h3
  refine ⟨srt_app.mpr ⟨a1, (srt_app.mp a2).1, fun p hp q hq => a3 p hp q (List.mem_append_left _ hq)⟩, b2, fun p hp q hq => ?_⟩
  rcases List.mem_append.mp hp with hp | hp
  ·exact b3 p hp q hq
  ·exact hx p hp q hq
theorem LoI.moveB {x rb : List Keyed} {o : Array Keyed} {ib' : Nat} (h : LoI a b out ia ib) (e : b.toList.drop ib = x ++ rb) (eo : o.toList = out.toList ++ x) (er : b.toList.drop ib' = rb) (hx : ∀ p ∈ x, ∀ q ∈ a.toList.drop ia, key p ≤ key q) : LoI a b o ia ib' := by
 obtain ⟨h1, h2, h3⟩ := h
 rw [e] at h1 h3
 refine ⟨?_, ?_, ?_⟩
 ·rw [eo, er]
  refine List.Perm.trans ?_ h1
  rw [List.append_assoc]
  refine List.Perm.append_left _ ?_
  rw [← List.append_assoc, ← List.append_assoc]
  exact List.Perm.append_right _ List.perm_append_comm
 ·rw [eo]
  rw [srt_app] at h2 h3 ⊢
  obtain ⟨a1, a2, a3⟩ := h3
  obtain ⟨b1, b2, b3⟩ := h2
  refine ⟨srt_app.mpr ⟨a1, (srt_app.mp a2).1, fun p hp q hq => a3 p hp q (List.mem_append_left _ hq)⟩, b2, fun p hp q hq => ?_⟩
  rcases List.mem_append.mp hp with hp | hp
  ·exact b3 p hp q hq
  ·exact hx p hp q hq
 ·rw [eo, er]; simpa [List.append_assoc] using h3
theorem srt_head {x : Keyed} {l : List Keyed} (h : Srt (x :: l)) : ∀ q ∈ x :: l, key x ≤ key q := by
 intro q hq
 rcases List.mem_cons.mp hq with rfl | hq
 ·exact Int.le_refl _
 ·exact (List.pairwise_cons.mp h).1 q hq
theorem LoI.headA (h : LoI a b out ia ib) (ha : ia < a.size) : ∀ q ∈ a.toList.drop ia, key a[ia] ≤ key q := by
 have := (srt_app.mp h.sa).2.1
 rw [drop_at ha] at this ⊢
 exact srt_head this
theorem LoI.headB (h : LoI a b out ia ib) (hb : ib < b.size) : ∀ q ∈ b.toList.drop ib, key b[ib] ≤ key q := by
 have := (srt_app.mp h.sb).2.1
 rw [drop_at hb] at this ⊢
 exact srt_head this
theorem LoI.pushB (h : LoI a b out ia ib) (hb : ib < b.size) (ha : ia < a.size) (hk : key b[ib] ≤ key a[ia]) : LoI a b (out.push b[ib]) ia (ib + 1) :=
 h.moveB (x := [b[ib]]) (drop_at hb) (by simp) rfl fun p hp q hq => by
  rw [List.mem_singleton.mp hp]; exact Int.le_trans hk (h.headA ha q hq)
theorem LoI.pushA (h : LoI a b out ia ib) (ha : ia < a.size) (hb : ib < b.size) (hk : key a[ia] ≤ key b[ib]) : LoI a b (out.push a[ia]) (ia + 1) ib :=
 h.moveA (x := [a[ia]]) (drop_at ha) (by simp) rfl fun p hp q hq => by
  rw [List.mem_singleton.mp hp]; exact Int.le_trans hk (h.headB hb q hq)
theorem LoI.runA {k : Nat} (h : LoI a b out ia ib) (hb : ib < b.size) (hk : ∀ (i : Nat) (hi : ia + i < a.size), i < k → key a[ia + i] ≤ key b[ib]) : LoI a b (out ++ a.extract ia (ia + k)) (ia + k) ib := by
 refine h.moveA (x := (a.toList.drop ia).take k) (ra := a.toList.drop (ia + k)) ?_ ?_ rfl fun p hp q hq => ?_
 ·rw [← List.drop_drop, List.take_append_drop]
 ·rw [Array.toList_append, ext_toList, Nat.add_sub_cancel_left]
 ·obtain ⟨i, hi, e⟩ := List.mem_take_iff_getElem.mp hp
  rw [List.length_drop, Array.length_toList] at hi
  have e' : a[ia + i]'(by omega) = p := by rw [← e]; simp
  rw [← e']
  exact Int.le_trans (hk i (by omega) (by omega)) (h.headB hb q hq)
theorem LoI.runB {k : Nat} (h : LoI a b out ia ib) (ha : ia < a.size) (hk : ∀ (i : Nat) (hi : ib + i < b.size), i < k → key b[ib + i] ≤ key a[ia]) : LoI a b (out ++ b.extract ib (ib + k)) ia (ib + k) := by
 refine h.moveB (x := (b.toList.drop ib).take k) (rb := b.toList.drop (ib + k)) ?_ ?_ rfl fun p hp q hq => ?_
 ·rw [← List.drop_drop, List.take_append_drop]
 ·rw [Array.toList_append, ext_toList, Nat.add_sub_cancel_left]
 ·obtain ⟨i, hi, e⟩ := List.mem_take_iff_getElem.mp hp
  rw [List.length_drop, Array.length_toList] at hi
  have e' : b[ib + i]'(by omega) = p := by rw [← e]; simp
  rw [← e']
  exact Int.le_trans (hk i (by omega) (by omega)) (h.headA ha q hq)
theorem LoI.doneB (h : LoI a b out ia ib) (hb : ib = b.size) : Res a b (out ++ a.extract ia a.size ++ b.extract ib b.size) := by
 subst hb
 have e : b.toList.drop b.size = [] := List.drop_of_length_le (by simp)
 obtain ⟨h1, h2, h3⟩ := h
 rw [e, List.append_nil] at h1
 unfold Res
 rw [Array.toList_append, Array.toList_append, ext_rest, ext_rest, e, List.append_nil]
 exact ⟨h1, h2⟩
theorem LoI.doneA (h : LoI a b out ia ib) (ha : ia = a.size) : Res a b (out ++ a.extract ia a.size ++ b.extract ib b.size) := by
 subst ha
 have e : a.toList.drop a.size = [] := List.drop_of_length_le (by simp)
 obtain ⟨h1, h2, h3⟩ := h
 rw [e, List.nil_append] at h1
 unfold Res
 rw [Array.toList_append, Array.toList_append, ext_rest, ext_rest, e, List.append_nil]
 exact ⟨h1, h3⟩
theorem LoI.lastA (h : LoI a b out ia ib) (ha : ia + 1 = a.size) (hl : ∀ p ∈ b.toList, ∀ (hi : a.size - 1 < a.size), key p ≤ key a[a.size - 1]) : Res a b (out ++ b.extract ib b.size ++ a.extract ia a.size) := by
 have hlt : ia < a.size := by omega
 have e : a.toList.drop ia = [a[ia]] := by rw [drop_at hlt, List.drop_of_length_le (by simp; omega)]
 have e2 : a[ia] = a[a.size - 1]'(by omega) := by congr 1; omega
 obtain ⟨h1, h2, h3⟩ := h
 unfold Res
 rw [Array.toList_append, Array.toList_append, ext_rest, ext_rest]
 constructor
 ·refine List.Perm.trans ?_ h1
  rw [List.append_assoc]
  exact List.Perm.append_left _ List.perm_append_comm
 ·rw [e] at h2 ⊢
  rw [srt_app] at h2 ⊢
  refine ⟨h3, h2.2.1, fun p hp q hq => ?_⟩
  rcases List.mem_append.mp hp with hp | hp
  ·exact h2.2.2 p hp q hq
  ·rw [List.mem_singleton.mp hq, e2]
   exact hl p (List.mem_of_mem_drop hp) (by omega)
end
end SoP
end
section
set_option Elab.async false
set_option linter.all false
set_option maxRecDepth 100000
set_option maxHeartbeats 4000000
namespace SoP
open PySem PyProof.Rows
variable [Kn]
def Eqv (st sx : SortSt) : Prop := ∃ g, sx = setG st g
theorem Eqv.refl (st : SortSt) : Eqv st st := ⟨gallopOf st, rfl⟩
theorem Eqv.set {st sx : SortSt} (h : Eqv st sx) (g : Nat) : Eqv st (setG sx g) := by obtain ⟨g', rfl⟩ := h; exact ⟨g, rfl⟩
theorem Eqv.kind {st sx : SortSt} (h : Eqv st sx) (hk : kindOf st = Kn.kind) : kindOf sx = Kn.kind := by obtain ⟨g', rfl⟩ := h; exact hk
def LoG (a b out : Array Keyed) (ia ib n : Nat) : Prop := LoI a b out ia ib ∧ ia + 1 < a.size ∧ ib < b.size ∧ n ≤ ia + ib
section
variable {prog : Program} {w : World} {A : Around} {E : Value → Shared → Prop} {s : Shared} [KnLt prog w A s]
variable {a b : Array Keyed}
theorem srt_idx {a : Array Keyed} (h : Srt a.toList) {i j : Nat} (hij : i ≤ j) (hj : j < a.size) : key a[i] ≤ key a[j] := by
 by_cases e : i = j
 ·subst e; exact Int.le_refl _
 ·have := List.pairwise_iff_getElem.mp h i j (by simp; omega) (by simpa using hj) (by omega)
  simpa using this
theorem gallopR {st : SortSt} {ia ib : Nat} {Q : Option Nat → SortSt → Prop} (hk : kindOf st = Kn.kind) (ka : ∀ (i : Nat) (hi : i < a.size), IntK a[i]) (kb : ∀ (i : Nat) (hi : i < b.size), IntK b[i]) (sa : Srt a.toList) (h1 : ia < a.size) (h2 : ib < b.size)
  (h : ∀ m, ia + m ≤ a.size → (∀ (i : Nat) (hi : ia + i < a.size), i < m → key a[ia + i] ≤ key b[ib]) → (∀ (i : Nat) (hi : ia + i < a.size), m ≤ i → key b[ib] ≤ key a[ia + i]) → Q (some m) st) : wpS (model prog w) A E s (gallop' false b[ib] a ia (a.size - ia) 0) Q st := by
 refine wpS_gallop hk (by omega) (by omega) (kb _ h2) ka (fun i => ∃ hi : ia + i < a.size, key a[ia + i] ≤ key b[ib]) (fun i hi => ?_) (fun i j hij hj => ?_) fun m h3 h4 h5 => ?_
 ·unfold Bey
  simp only [Bool.false_eq_true, if_false]
  exact ⟨fun ⟨_, q⟩ => q, fun q => ⟨hi, q⟩⟩
 ·rintro ⟨hi, q⟩
  exact ⟨by omega, Int.le_trans (srt_idx sa (by omega) hi) q⟩
 ·refine h m (by omega) (fun i hi him => (h4 i him).2) fun i hi him => ?_
  have : ¬ key a[ia + i] ≤ key b[ib] := fun q => h5 i him (by omega) ⟨hi, q⟩
  omega
theorem gallopL {st : SortSt} {ia ib : Nat} {Q : Option Nat → SortSt → Prop} (hk : kindOf st = Kn.kind) (ka : ∀ (i : Nat) (hi : i < a.size), IntK a[i]) (kb : ∀ (i : Nat) (hi : i < b.size), IntK b[i]) (sb : Srt b.toList) (h1 : ia < a.size) (h2 : ib < b.size)
  (h : ∀ m, ib + m ≤ b.size → (∀ (i : Nat) (hi : ib + i < b.size), i < m → key b[ib + i] ≤ key a[ia]) → (∀ (i : Nat) (hi : ib + i < b.size), m ≤ i → key a[ia] ≤ key b[ib + i]) → Q (some m) st) : wpS (model prog w) A E s (gallop' true a[ia] b ib (b.size - ib) 0) Q st := by
 refine wpS_gallop hk (by omega) (by omega) (ka _ h1) kb (fun i => ∃ hi : ib + i < b.size, key b[ib + i] < key a[ia]) (fun i hi => ?_) (fun i j hij hj => ?_) fun m h3 h4 h5 => ?_
 ·unfold Bey
  simp only [if_true]
  exact ⟨fun ⟨_, q⟩ => q, fun q => ⟨hi, q⟩⟩
 ·rintro ⟨hi, q⟩
  exact ⟨by omega, Int.lt_of_le_of_lt (srt_idx sb (by omega) hi) q⟩
 ·refine h m (by omega) (fun i hi him => Int.le_of_lt (h4 i him).2) fun i hi him => ?_
  have : ¬ key b[ib + i] < key a[ia] := fun q => h5 i him (by omega) ⟨hi, q⟩
  omega
theorem wpS_mergeLo {st : SortSt} {Q : Array Keyed → SortSt → Prop} (hk : kindOf st = Kn.kind) (ka : ∀ (i : Nat) (hi : i < a.size), IntK a[i]) (kb : ∀ (i : Nat) (hi : i < b.size), IntK b[i]) (sa : Srt a.toList) (sb : Srt b.toList) (ha : 1 ≤ a.size) (hb : 1 ≤ b.size)
  (hfirst : key b[0] ≤ key a[0]) (hl : ∀ p ∈ b.toList, ∀ (hi : a.size - 1 < a.size), key p ≤ key a[a.size - 1]) (h : ∀ m sx, Eqv st sx → Res a b m → Q m sx) : wpS (model prog w) A E s (mergeLo' a b) Q st := by
 delta mergeLo'
 try dsimp only
 refine wpS_bind (wpS_lift (wpAny_rule ⟨rfl, ?_⟩))
 refine wpS_bind (wpS_elem (by omega) ?_)
 have h0 : LoI a b #[] 0 0 := ⟨by simp, by simpa using sa, by simpa using sb⟩
 have h1 : LoI a b #[b[0]] 0 1 := h0.pushB (by omega) (by omega) hfirst
 try dsimp only
 by_cases e1 : 1 = b.size
 ·refine ifT (beqT e1) ?_
  exact wpS_pure (h _ _ (Eqv.refl st) (h1.doneB e1))
 refine ifF (beqF e1) ?_
 by_cases e2 : 0 + 1 = a.size
 ·refine ifT (beqT e2) ?_
  exact wpS_pure (h _ _ (Eqv.refl st) (h1.lastA e2 hl))
 refine ifF (beqF e2) ?_
 refine wpS_bind (wpS_get ?_)
 refine wpS_bind (wpS_mono (wpS_forRange (I := fun x c sx => Eqv st sx ∧ ∃ out ia ib mg, c = (none, out, ia, ib, mg) ∧ LoG a b out ia ib x) (Q := fun c sx => Eqv st sx ∧ ∃ m d, c = (some m, d) ∧ Res a b m) ?_ ?_ ⟨Eqv.refl st, _, _, _, _, rfl, h1, by omega, by omega, by omega⟩) ?_)
 ·rintro n c sx - hx ⟨hv, out, ia, ib, mg, rfl, hG⟩
  try dsimp only
  refine wpS_bind (wpS_mono (wpS_forRange (I := fun x c sy => sy = sx ∧ ∃ out ia ib ac bc, c = (none, out, ia, ib, ac, bc) ∧ LoG a b out ia ib n)
   (Q := fun c sy => sy = sx ∧ ((∃ m d, c = (some m, d) ∧ Res a b m) ∨ ∃ out ia ib ac bc, c = (none, out, ia, ib, ac, bc) ∧ LoG a b out ia ib n)) ?_ ?_ ⟨rfl, _, _, _, _, _, rfl, hG⟩) ?_)
  ·rintro x c sy - hx ⟨rfl, out, ia, ib, ac, bc, rfl, hI, h1, h2, h3⟩
   try dsimp only
   refine wpS_bind (wpS_elem h2 (wpS_bind (wpS_elem (by omega) (wpS_bind (wpS_lt (hv.kind hk) (kb _ h2) (ka _ (by omega)) ?_)))))
   by_cases hw : key b[ib] < key a[ia]
   ·rw [decide_eq_true hw]
    try dsimp only
    refine ifT rfl ?_
    have hJ := hI.pushB h2 (by omega) (Int.le_of_lt hw)
    refine wpS_bind (wpS_elem h2 ?_)
    by_cases e : ib + 1 = b.size
    ·refine ifT (beqT e) ?_
     exact wpS_pure ⟨rfl, .inl ⟨_, _, rfl, hJ.doneB e⟩⟩
    ·refine ifF (beqF e) ?_
     have hG : LoG a b _ ia (ib + 1) n := ⟨hJ, h1, by omega, by omega⟩
     split
     ·exact wpS_pure ⟨rfl, .inr ⟨_, _, _, _, _, rfl, hG⟩⟩
     ·exact wpS_pure ⟨rfl, _, _, _, _, _, rfl, hG⟩
   ·rw [decide_eq_false hw]
    try dsimp only
    refine ifF (by decide) ?_
    have hJ := hI.pushA (by omega) h2 (by omega)
    refine wpS_bind (wpS_elem (by omega) ?_)
    by_cases e : ia + 1 + 1 = a.size
    ·refine ifT (beqT e) ?_
     exact wpS_pure ⟨rfl, .inl ⟨_, _, rfl, hJ.lastA e hl⟩⟩
    ·refine ifF (beqF e) ?_
     have hG : LoG a b _ (ia + 1) ib n := ⟨hJ, by omega, h2, by omega⟩
     split
     ·exact wpS_pure ⟨rfl, .inr ⟨_, _, _, _, _, rfl, hG⟩⟩
     ·exact wpS_pure ⟨rfl, _, _, _, _, _, rfl, hG⟩
  ·rintro c sy ⟨rfl, out, ia, ib, ac, bc, rfl, hG⟩
   exact ⟨rfl, .inr ⟨_, _, _, _, _, rfl, hG⟩⟩
  ·rintro c sy ⟨rfl, ⟨m, d, rfl, hm⟩ | ⟨out, ia, ib, ac, bc, rfl, hG⟩⟩
   ·try dsimp only
    exact wpS_pure ⟨hv, _, _, rfl, hm⟩
   ·try dsimp only
    refine wpS_bind (wpS_lift (wpAny_rule ⟨rfl, ?_⟩))
    refine wpS_bind (wpS_mono (wpS_forRange (I := fun x c sz => Eqv st sz ∧ ∃ out ia ib mg ac bc, c = (none, out, ia, ib, mg, ac, bc) ∧ ((x = 0 ∧ LoG a b out ia ib n) ∨ LoG a b out ia ib (n + 1)))
     (Q := fun c sz => Eqv st sz ∧ ((∃ m d, c = (some m, d) ∧ Res a b m) ∨ ∃ out ia ib mg ac bc, c = (none, out, ia, ib, mg, ac, bc) ∧ LoG a b out ia ib (n + 1))) ?_ ?_ ⟨hv, _, _, _, _, _, _, rfl, .inl ⟨rfl, hG⟩⟩) ?_)
    ·rintro x c sz - hx ⟨hv, out, ia, ib, mg, ac, bc, rfl, hG⟩
     replace hG : LoG a b out ia ib n := by
      rcases hG with ⟨_, hG⟩ | ⟨q1, q2, q3, q4⟩
      ·exact hG
      ·exact ⟨q1, q2, q3, by omega⟩
     obtain ⟨hI, h1, h2, h3⟩ := hG
     try dsimp only
     revert mg
     refine jp1 (fun mg => mg - 1) (fun _ => rfl) fun mg => ?_
     refine wpS_bind (wpS_modify ?_)
     have hvv := hv.set mg
     refine wpS_bind (wpS_elem h2 ?_)
     refine wpS_bind (gallopR (hvv.kind hk) ka kb sa (by omega) h2 fun k p1 p2 p3 => ?_)
     try dsimp only
     have hC := And.intro hI (And.intro h1 (And.intro h3 (And.intro p1 (And.intro p2 p3))))
     clear hI h1 h3 p1 p2 p3
     revert out ia
     refine jp2 (fun o i sz' => Eqv st sz' ∧ LoI a b o i ib ∧ i + 1 < a.size ∧ n ≤ i + ib ∧ ∀ hi : i < a.size, key b[ib] ≤ key a[i]) ?_ (fun _ ia ⟨hI, h1, h3, p1, p2, p3⟩ hk0 => ⟨hvv, hI, h1, h3, fun hi => p3 0 hi (by omega)⟩) fun out ia ⟨hI, h1, h3, p1, p2, p3⟩ hk0 key => ?_
     ·rintro out i sz ⟨hvv, hL, c1, c2, c3⟩
      refine wpS_bind (wpS_elem h2 ?_)
      have hJ := hL.pushB h2 (by omega) (c3 (by omega))
      by_cases e2 : ib + 1 = b.size
      ·refine ifT (beqT e2) ?_
       exact wpS_pure ⟨hvv, .inl ⟨_, _, rfl, hJ.doneB e2⟩⟩
      refine ifF (beqF e2) ?_
      generalize out.push b[ib] = o2 at hJ ⊢
      generalize hjb : ib + 1 = jb at hJ e2 ⊢
      refine wpS_bind (wpS_elem (by omega) ?_)
      refine wpS_bind (gallopL (hvv.kind hk) ka kb sb (by omega) (by omega) fun k1 q1 q2 q3 => ?_)
      try dsimp only
      have hC := And.intro hJ (And.intro (show jb < b.size by omega) (And.intro (show n + 1 ≤ i + jb by omega) (And.intro q1 (And.intro q2 q3))))
      clear hJ e2 hjb q1 q2 q3
      revert o2 jb
      refine jp2 (fun o j sz' => Eqv st sz' ∧ LoI a b o i j ∧ j < b.size ∧ n + 1 ≤ i + j ∧ ∀ hi : j < b.size, key (a[i]'(by omega)) ≤ key b[j]) ?_ (fun _ jb ⟨hJ, e2, e3, q1, q2, q3⟩ hk1 => ⟨hvv, hJ, e2, e3, fun hi => q3 0 hi (by omega)⟩) fun o2 jb ⟨hJ, e2, e3, q1, q2, q3⟩ hk1 key => ?_
      ·rintro o j sz ⟨hvv, hL, d1, d2, d3⟩
       refine wpS_bind (wpS_elem (by omega) ?_)
       have hN := hL.pushA (by omega) d1 (d3 d1)
       by_cases e3 : i + 1 + 1 = a.size
       ·refine ifT (beqT e3) ?_
        exact wpS_pure ⟨hvv, .inl ⟨_, _, rfl, hN.lastA e3 hl⟩⟩
       refine ifF (beqF e3) ?_
       have hG : LoG a b _ (i + 1) j (n + 1) := ⟨hN, by omega, d1, by omega⟩
       split
       ·exact wpS_pure ⟨hvv, .inr ⟨_, _, _, _, _, _, rfl, hG⟩⟩
       ·exact wpS_pure ⟨hvv, _, _, _, _, _, _, rfl, .inr hG⟩
      ·have hL := hJ.runB (by omega) q2
       by_cases e4 : jb + k1 = b.size
       ·refine ifT (beqT e4) ?_
        exact wpS_pure ⟨hvv, .inl ⟨_, _, rfl, hL.doneB e4⟩⟩
       refine ifF (beqF e4) ?_
       exact key _ _ _ ⟨hvv, hL, by omega, by omega, fun hi => q3 k1 hi (Nat.le_refl _)⟩
     ·have hL := hI.runA h2 p2
      by_cases e1 : ia + k + 1 = a.size
      ·refine ifT (beqT e1) ?_
       exact wpS_pure ⟨hvv, .inl ⟨_, _, rfl, hL.lastA e1 hl⟩⟩
      refine ifF (beqF e1) ?_
      by_cases e5 : ia + k = a.size
      ·refine ifT (beqT e5) ?_
       exact wpS_pure ⟨hvv, .inl ⟨_, _, rfl, hL.doneA e5⟩⟩
      refine ifF (beqF e5) ?_
      exact key _ _ _ ⟨hvv, hL, by omega, by omega, fun hi => p3 k hi (Nat.le_refl _)⟩
    ·rintro c sz ⟨hv, out, ia, ib, mg, ac, bc, rfl, hG⟩
     rcases hG with ⟨hz, _⟩ | hG
     ·omega
     ·exact ⟨hv, .inr ⟨_, _, _, _, _, _, rfl, hG⟩⟩
    ·rintro c sz ⟨hv, ⟨m, d, rfl, hm⟩ | ⟨out, ia, ib, mg, ac, bc, rfl, hG⟩⟩
     ·try dsimp only
      exact wpS_pure ⟨hv, _, _, rfl, hm⟩
     ·try dsimp only
      exact wpS_bind (wpS_modify (wpS_pure ⟨hv.set _, _, _, _, _, rfl, hG⟩))
 ·rintro c sx ⟨hv, out, ia, ib, mg, rfl, hI, h1, h2, h3⟩
  omega
 ·rintro c sx ⟨hv, m, d, rfl, hm⟩
  exact wpS_pure (h _ _ hv hm)
end
end SoP
end
section
set_option Elab.async false
set_option linter.all false
set_option maxRecDepth 100000
set_option maxHeartbeats 4000000
namespace SoP
open PySem PyProof.Rows
variable [Kn]
def mergeHi' : Array Keyed → Array Keyed → StateT SortSt Sem (Array Keyed) := sortPriv% PySem.Builtin.mergeHi
structure HiI (a b out : Array Keyed) (na nb : Nat) : Prop where
 perm : (a.toList.take na ++ (b.toList.take nb ++ out.toList.reverse)).Perm (a.toList ++ b.toList)
 sa : Srt (a.toList.take na ++ out.toList.reverse)
 sb : Srt (b.toList.take nb ++ out.toList.reverse)
theorem ext_first (a : Array Keyed) (n : Nat) : (a.extract 0 n).toList = a.toList.take n := by
 rw [ext_toList, Nat.sub_zero, List.drop_zero]
theorem take_at {a : Array Keyed} {n : Nat} (h : 1 ≤ n) (h2 : n ≤ a.size) : a.toList.take n = a.toList.take (n - 1) ++ [a[n - 1]'(by omega)] := by
 have e := List.take_succ_eq_append_getElem (l := a.toList) (i := n - 1) (by simp; omega)
 rw [show n - 1 + 1 = n by omega] at e
 rw [e]; simp
section
variable {a b out : Array Keyed} {na nb : Nat}
theorem HiI.moveA {x la : List Keyed} {o : Array Keyed} {na' : Nat} (h : HiI a b out na nb) (e : a.toList.take na = la ++ x) (eo : o.toList.reverse = x ++ out.toList.reverse) (er : a.toList.take na' = la) (hx : ∀ p ∈ b.toList.take nb, ∀ q ∈ x, key p ≤ key q) : HiI a b o na' nb := by
 obtain ⟨h1, h2, h3⟩ := h
 rw [e] at h1 h2
 refine ⟨?_, ?_, ?_⟩
 ·rw [eo, er]
  refine List.Perm.trans ?_ h1
  rw [List.append_assoc]
  refine List.Perm.append_left _ ?_
  rw [← List.append_assoc, ← List.append_assoc]
  exact List.Perm.append_right _ List.perm_append_comm
 ·rw [eo, er]; simpa [List.append_assoc] using h2
 ·rw [eo]
  rw [List.append_assoc] at h2
  rw [srt_app] at h2 h3 ⊢
  obtain ⟨a1, a2, a3⟩ := h2
  obtain ⟨b1, b2, b3⟩ := h3
  refine ⟨b1, a2, fun p hp q hq => ?_⟩
  rcases List.mem_append.mp hq with hq | hq
  ·exact hx p hp q hq
  ·exact b3 p hp q hq
theorem HiI.moveB {x lb : List Keyed} {o : Array Keyed} {nb' : Nat} (h : HiI a b out na nb) (e : b.toList.take nb = lb ++ x) (eo : o.toList.reverse = x ++ out.toList.reverse) (er : b.toList.take nb' = lb) (hx : ∀ p ∈ a.toList.take na, ∀ q ∈ x, key p ≤ key q) : HiI a b o na nb' := by
 obtain ⟨h1, h2, h3⟩ := h
 rw [e] at h1 h3
 refine ⟨?_, ?_, ?_⟩
 ·rw [eo, er]; simpa [List.append_assoc] using h1
 ·rw [eo]
  rw [List.append_assoc] at h3
  rw [srt_app] at h2 h3 ⊢
  obtain ⟨a1, a2, a3⟩ := h3
  obtain ⟨b1, b2, b3⟩ := h2
  refine ⟨b1, a2, fun p hp q hq => ?_⟩
  rcases List.mem_append.mp hq with hq | hq
  ·exact hx p hp q hq
  ·exact b3 p hp q hq
 ·rw [eo, er]; simpa [List.append_assoc] using h3
theorem srt_lastL {x : Keyed} {l : List Keyed} (h : Srt (l ++ [x])) : ∀ q ∈ l ++ [x], key q ≤ key x := by
 intro q hq
 rcases List.mem_append.mp hq with hq | hq
 ·exact (srt_app.mp h).2.2 q hq x (List.mem_singleton.mpr rfl)
 ·rw [List.mem_singleton.mp hq]; exact Int.le_refl _
theorem HiI.lastA (h : HiI a b out na nb) (h1 : 1 ≤ na) (h2 : na ≤ a.size) : ∀ q ∈ a.toList.take na, key q ≤ key (a[na - 1]'(by omega)) := by
 have := (srt_app.mp h.sa).1
 rw [take_at h1 h2] at this ⊢
 exact srt_lastL this
theorem HiI.lastB (h : HiI a b out na nb) (h1 : 1 ≤ nb) (h2 : nb ≤ b.size) : ∀ q ∈ b.toList.take nb, key q ≤ key (b[nb - 1]'(by omega)) := by
 have := (srt_app.mp h.sb).1
 rw [take_at h1 h2] at this ⊢
 exact srt_lastL this
theorem HiI.pushA (h : HiI a b out na nb) (h1 : 1 ≤ na) (h2 : na ≤ a.size) (h3 : 1 ≤ nb) (h4 : nb ≤ b.size) (hk : key (b[nb - 1]'(by omega)) ≤ key (a[na - 1]'(by omega))) : HiI a b (out.push (a[na - 1]'(by omega))) (na - 1) nb :=
 h.moveA (x := [a[na - 1]'(by omega)]) (take_at h1 h2) (by simp) rfl fun p hp q hq => by
  rw [List.mem_singleton.mp hq]; exact Int.le_trans (h.lastB h3 h4 p hp) hk
theorem HiI.pushB (h : HiI a b out na nb) (h1 : 1 ≤ na) (h2 : na ≤ a.size) (h3 : 1 ≤ nb) (h4 : nb ≤ b.size) (hk : key (a[na - 1]'(by omega)) ≤ key (b[nb - 1]'(by omega))) : HiI a b (out.push (b[nb - 1]'(by omega))) na (nb - 1) :=
 h.moveB (x := [b[nb - 1]'(by omega)]) (take_at h3 h4) (by simp) rfl fun p hp q hq => by
  rw [List.mem_singleton.mp hq]; exact Int.le_trans (h.lastA h1 h2 p hp) hk
theorem take_split (l : List Keyed) {m n : Nat} (h : m ≤ n) : l.take n = l.take m ++ (l.drop m).take (n - m) := by
 have e : n = m + (n - m) := by omega
 conv => lhs; rw [e]
 exact List.take_add
theorem HiI.runA {m : Nat} (h : HiI a b out na nb) (h2 : na ≤ a.size) (h3 : 1 ≤ nb) (h4 : nb ≤ b.size) (hm : m ≤ na) (hk : ∀ (i : Nat) (hi : i < a.size), m ≤ i → i < na → key (b[nb - 1]'(by omega)) ≤ key a[i]) : HiI a b (out ++ (a.extract m na).reverse) m nb := by
 refine h.moveA (x := (a.toList.drop m).take (na - m)) (take_split _ hm) ?_ rfl fun p hp q hq => ?_
 ·rw [Array.toList_append, List.reverse_append, Array.toList_reverse, List.reverse_reverse, ext_toList]
 ·obtain ⟨i, hi, e⟩ := List.mem_take_iff_getElem.mp hq
  rw [List.length_drop, Array.length_toList] at hi
  have e' : a[m + i]'(by omega) = q := by rw [← e]; simp
  rw [← e']
  exact Int.le_trans (h.lastB h3 h4 p hp) (hk _ (by omega) (by omega) (by omega))
theorem HiI.runB {m : Nat} (h : HiI a b out na nb) (h1 : 1 ≤ na) (h2 : na ≤ a.size) (h4 : nb ≤ b.size) (hm : m ≤ nb) (hk : ∀ (i : Nat) (hi : i < b.size), m ≤ i → i < nb → key (a[na - 1]'(by omega)) ≤ key b[i]) : HiI a b (out ++ (b.extract m nb).reverse) na m := by
 refine h.moveB (x := (b.toList.drop m).take (nb - m)) (take_split _ hm) ?_ rfl fun p hp q hq => ?_
 ·rw [Array.toList_append, List.reverse_append, Array.toList_reverse, List.reverse_reverse, ext_toList]
 ·obtain ⟨i, hi, e⟩ := List.mem_take_iff_getElem.mp hq
  rw [List.length_drop, Array.length_toList] at hi
  have e' : b[m + i]'(by omega) = q := by rw [← e]; simp
  rw [← e']
  exact Int.le_trans (h.lastA h1 h2 p hp) (hk _ (by omega) (by omega) (by omega))
theorem HiI.doneA (h : HiI a b out na nb) (ha : na = 0) : Res a b (a.extract 0 na ++ b.extract 0 nb ++ out.reverse) := by
 subst ha
 obtain ⟨h1, h2, h3⟩ := h
 unfold Res
 rw [Array.toList_append, Array.toList_append, ext_first, ext_first, Array.toList_reverse]
 simp only [List.take_zero, List.nil_append] at h1 ⊢
 exact ⟨h1, h3⟩
theorem HiI.doneB (h : HiI a b out na nb) (hb : nb = 0) : Res a b (a.extract 0 na ++ b.extract 0 nb ++ out.reverse) := by
 subst hb
 obtain ⟨h1, h2, h3⟩ := h
 unfold Res
 rw [Array.toList_append, Array.toList_append, ext_first, ext_first, Array.toList_reverse]
 simp only [List.take_zero, List.nil_append, List.append_nil] at h1 ⊢
 exact ⟨h1, h2⟩
theorem HiI.firstB (h : HiI a b out na nb) (hb : nb = 1) (hbs : 1 ≤ b.size) (hf : ∀ q ∈ a.toList, ∀ (hi : 0 < b.size), key b[0] ≤ key q) : Res a b (b.extract 0 nb ++ a.extract 0 na ++ out.reverse) := by
 subst hb
 obtain ⟨h1, h2, h3⟩ := h
 have e : b.toList.take 1 = [b[0]'(by omega)] := by rw [take_at (Nat.le_refl 1) hbs]; simp
 unfold Res
 rw [Array.toList_append, Array.toList_append, ext_first, ext_first, Array.toList_reverse]
 constructor
 ·refine List.Perm.trans ?_ h1
  rw [← List.append_assoc]
  exact List.Perm.append_right _ List.perm_append_comm
 ·rw [e] at h3 ⊢
  rw [List.append_assoc]
  rw [srt_app] at h3 ⊢
  refine ⟨h3.1, h2, fun p hp q hq => ?_⟩
  rcases List.mem_append.mp hq with hq | hq
  ·rw [List.mem_singleton.mp hp]
   exact hf q (List.mem_of_mem_take hq) (by omega)
  ·exact h3.2.2 p hp q hq
end
end SoP
end
section
set_option Elab.async false
set_option linter.all false
set_option maxRecDepth 100000
set_option maxHeartbeats 4000000
namespace SoP
open PySem PyProof.Rows
variable [Kn]
def HiG (a b out : Array Keyed) (na nb n : Nat) : Prop := HiI a b out na nb ∧ 1 ≤ na ∧ na ≤ a.size ∧ 2 ≤ nb ∧ nb ≤ b.size ∧ n + na + nb ≤ a.size + b.size
section
variable {prog : Program} {w : World} {A : Around} {E : Value → Shared → Prop} {s : Shared} [KnLt prog w A s]
variable {a b : Array Keyed}
theorem gallopRh {st : SortSt} {na : Nat} {k : Keyed} {Q : Option Nat → SortSt → Prop} (hk : kindOf st = Kn.kind) (ka : ∀ (i : Nat) (hi : i < a.size), IntK a[i]) (kk : IntK k) (sa : Srt a.toList) (h1 : 1 ≤ na) (h2 : na ≤ a.size)
  (h : ∀ m, m ≤ na → (∀ (i : Nat) (hi : i < a.size), i < m → key a[i] ≤ key k) → (∀ (i : Nat) (hi : i < a.size), m ≤ i → i < na → key k ≤ key a[i]) → Q (some m) st) : wpS (model prog w) A E s (gallop' false k a 0 na (na - 1)) Q st := by
 refine wpS_gallop hk (by omega) (by omega) kk ka (fun i => ∃ hi : 0 + i < a.size, key a[0 + i] ≤ key k) (fun i hi => ?_) (fun i j hij hj => ?_) fun m h3 h4 h5 => ?_
 ·unfold Bey
  simp only [Bool.false_eq_true, if_false]
  exact ⟨fun ⟨_, q⟩ => q, fun q => ⟨hi, q⟩⟩
 ·rintro ⟨hi, q⟩
  exact ⟨by omega, Int.le_trans (srt_idx sa (by omega) hi) q⟩
 ·refine h m (by omega) (fun i hi him => ?_) fun i hi him hin => ?_
  ·have := (h4 i him).2
   simpa using this
  ·have : ¬ key a[0 + i] ≤ key k := fun q => h5 i him (by omega) ⟨by omega, q⟩
   simp only [Nat.zero_add] at this
   omega
theorem gallopLh {st : SortSt} {nb : Nat} {k : Keyed} {Q : Option Nat → SortSt → Prop} (hk : kindOf st = Kn.kind) (kb : ∀ (i : Nat) (hi : i < b.size), IntK b[i]) (kk : IntK k) (sb : Srt b.toList) (h1 : 1 ≤ nb) (h2 : nb ≤ b.size)
  (h : ∀ m, m ≤ nb → (∀ (i : Nat) (hi : i < b.size), i < m → key b[i] ≤ key k) → (∀ (i : Nat) (hi : i < b.size), m ≤ i → i < nb → key k ≤ key b[i]) → Q (some m) st) : wpS (model prog w) A E s (gallop' true k b 0 nb (nb - 1)) Q st := by
 refine wpS_gallop hk (by omega) (by omega) kk kb (fun i => ∃ hi : 0 + i < b.size, key b[0 + i] < key k) (fun i hi => ?_) (fun i j hij hj => ?_) fun m h3 h4 h5 => ?_
 ·unfold Bey
  simp only [if_true]
  exact ⟨fun ⟨_, q⟩ => q, fun q => ⟨hi, q⟩⟩
 ·rintro ⟨hi, q⟩
  exact ⟨by omega, Int.lt_of_le_of_lt (srt_idx sb (by omega) hi) q⟩
 ·refine h m (by omega) (fun i hi him => ?_) fun i hi him hin => ?_
  ·have := (h4 i him).2
   simp only [Nat.zero_add] at this
   omega
  ·have : ¬ key b[0 + i] < key k := fun q => h5 i him (by omega) ⟨by omega, q⟩
   simp only [Nat.zero_add] at this
   omega
theorem wpS_mergeHi {st : SortSt} {Q : Array Keyed → SortSt → Prop} (hk : kindOf st = Kn.kind) (ka : ∀ (i : Nat) (hi : i < a.size), IntK a[i]) (kb : ∀ (i : Nat) (hi : i < b.size), IntK b[i]) (sa : Srt a.toList) (sb : Srt b.toList) (ha : 1 ≤ a.size) (hb : 1 ≤ b.size)
  (hf : ∀ q ∈ a.toList, ∀ (hi : 0 < b.size), key b[0] ≤ key q) (hlast : key (b[b.size - 1]'(by omega)) ≤ key (a[a.size - 1]'(by omega))) (h : ∀ m sx, Eqv st sx → Res a b m → Q m sx) : wpS (model prog w) A E s (mergeHi' a b) Q st := by
 delta mergeHi'
 try dsimp only
 refine wpS_bind (wpS_lift (wpAny_rule ⟨rfl, ?_⟩))
 refine wpS_bind (wpS_elem (by omega) ?_)
 have ta : a.toList.take a.size = a.toList := List.take_of_length_le (by simp)
 have tb : b.toList.take b.size = b.toList := List.take_of_length_le (by simp)
 have h0 : HiI a b #[] a.size b.size := ⟨by rw [ta, tb]; simp, by rw [ta]; simpa using sa, by rw [tb]; simpa using sb⟩
 have h1 : HiI a b #[a[a.size - 1]'(by omega)] (a.size - 1) b.size := h0.pushA (by omega) (by omega) (by omega) (by omega) hlast
 try dsimp only
 by_cases e1 : a.size - 1 = 0
 ·refine ifT (beqT e1) ?_
  exact wpS_pure (h _ _ (Eqv.refl st) (h1.doneA e1))
 refine ifF (beqF e1) ?_
 by_cases e2 : b.size = 1
 ·refine ifT (beqT e2) ?_
  exact wpS_pure (h _ _ (Eqv.refl st) (h1.firstB e2 (by omega) hf))
 refine ifF (beqF e2) ?_
 refine wpS_bind (wpS_get ?_)
 refine wpS_bind (wpS_mono (wpS_forRange (I := fun x c sx => Eqv st sx ∧ ∃ na nb out mg, c = (none, na, nb, out, mg) ∧ HiG a b out na nb x) (Q := fun c sx => Eqv st sx ∧ ∃ m d, c = (some m, d) ∧ Res a b m) ?_ ?_ ⟨Eqv.refl st, _, _, _, _, rfl, h1, by omega, by omega, by omega, by omega, by omega⟩) ?_)
 ·rintro n c sx - hx ⟨hv, na, nb, out, mg, rfl, hG⟩
  try dsimp only
  refine wpS_bind (wpS_mono (wpS_forRange (I := fun x c sy => sy = sx ∧ ∃ na nb out ac bc, c = (none, na, nb, out, ac, bc) ∧ HiG a b out na nb n)
   (Q := fun c sy => sy = sx ∧ ((∃ m d, c = (some m, d) ∧ Res a b m) ∨ ∃ na nb out ac bc, c = (none, na, nb, out, ac, bc) ∧ HiG a b out na nb n)) ?_ ?_ ⟨rfl, _, _, _, _, _, rfl, hG⟩) ?_)
  ·rintro x c sy - hx ⟨rfl, na, nb, out, ac, bc, rfl, hI, h1, h2, h3, h4, h5⟩
   try dsimp only
   refine wpS_bind (wpS_elem (by omega) (wpS_bind (wpS_elem (by omega) (wpS_bind (wpS_lt (hv.kind hk) (kb _ (by omega)) (ka _ (by omega)) ?_)))))
   by_cases hw : key (b[nb - 1]'(by omega)) < key (a[na - 1]'(by omega))
   ·rw [decide_eq_true hw]
    try dsimp only
    refine ifT rfl ?_
    have hJ := hI.pushA h1 h2 (by omega) h4 (Int.le_of_lt hw)
    refine wpS_bind (wpS_elem (by omega) ?_)
    by_cases e : na - 1 = 0
    ·refine ifT (beqT e) ?_
     exact wpS_pure ⟨rfl, .inl ⟨_, _, rfl, hJ.doneA e⟩⟩
    ·refine ifF (beqF e) ?_
     have hG : HiG a b _ (na - 1) nb n := ⟨hJ, by omega, by omega, by omega, by omega, by omega⟩
     split
     ·exact wpS_pure ⟨rfl, .inr ⟨_, _, _, _, _, rfl, hG⟩⟩
     ·exact wpS_pure ⟨rfl, _, _, _, _, _, rfl, hG⟩
   ·rw [decide_eq_false hw]
    try dsimp only
    refine ifF (by decide) ?_
    have hJ := hI.pushB h1 h2 (by omega) h4 (by omega)
    refine wpS_bind (wpS_elem (by omega) ?_)
    by_cases e : nb - 1 = 1
    ·refine ifT (beqT e) ?_
     exact wpS_pure ⟨rfl, .inl ⟨_, _, rfl, hJ.firstB e (by omega) hf⟩⟩
    ·refine ifF (beqF e) ?_
     have hG : HiG a b _ na (nb - 1) n := ⟨hJ, by omega, by omega, by omega, by omega, by omega⟩
     split
     ·exact wpS_pure ⟨rfl, .inr ⟨_, _, _, _, _, rfl, hG⟩⟩
     ·exact wpS_pure ⟨rfl, _, _, _, _, _, rfl, hG⟩
  ·rintro c sy ⟨rfl, na, nb, out, ac, bc, rfl, hG⟩
   exact ⟨rfl, .inr ⟨_, _, _, _, _, rfl, hG⟩⟩
  ·rintro c sy ⟨rfl, ⟨m, d, rfl, hm⟩ | ⟨na, nb, out, ac, bc, rfl, hG⟩⟩
   ·try dsimp only
    exact wpS_pure ⟨hv, _, _, rfl, hm⟩
   ·try dsimp only
    refine wpS_bind (wpS_lift (wpAny_rule ⟨rfl, ?_⟩))
    refine wpS_bind (wpS_mono (wpS_forRange (I := fun x c sz => Eqv st sz ∧ ∃ na nb out mg ac bc, c = (none, na, nb, out, mg, ac, bc) ∧ ((x = 0 ∧ HiG a b out na nb n) ∨ HiG a b out na nb (n + 1)))
     (Q := fun c sz => Eqv st sz ∧ ((∃ m d, c = (some m, d) ∧ Res a b m) ∨ ∃ na nb out mg ac bc, c = (none, na, nb, out, mg, ac, bc) ∧ HiG a b out na nb (n + 1))) ?_ ?_ ⟨hv, _, _, _, _, _, _, rfl, .inl ⟨rfl, hG⟩⟩) ?_)
    ·rintro x c sz - hx ⟨hv, na, nb, out, mg, ac, bc, rfl, hG⟩
     replace hG : HiG a b out na nb n := by
      rcases hG with ⟨_, hG⟩ | ⟨q1, q2, q3, q4, q5, q6⟩
      ·exact hG
      ·exact ⟨q1, q2, q3, q4, q5, by omega⟩
     obtain ⟨hI, h1, h2, h3, h4, h5⟩ := hG
     try dsimp only
     revert mg
     refine jp1 (fun mg => mg - 1) (fun _ => rfl) fun mg => ?_
     refine wpS_bind (wpS_modify ?_)
     refine wpS_bind (wpS_elem (by omega) ?_)
     have hvv := hv.set mg
     refine wpS_bind (gallopRh (hvv.kind hk) ka (kb _ (by omega)) sa (by omega) (by omega) fun m p1 p2 p3 => ?_)
     try dsimp only
     generalize hac : na - m = ac
     have hC := And.intro hI (And.intro h1 (And.intro h2 (And.intro h5 (And.intro hac (And.intro p1 (And.intro p2 p3))))))
     clear hI h1 h2 h5 hac p1 p2 p3
     revert na out
     refine jp2 (fun i o sz' => Eqv st sz' ∧ HiI a b o i nb ∧ 1 ≤ i ∧ i ≤ a.size ∧ n + i + nb ≤ a.size + b.size ∧ ∀ hi : i - 1 < a.size, key a[i - 1] ≤ key (b[nb - 1]'(by omega))) ?_ (fun na _ ⟨hI, h1, h2, h5, hac, p1, p2, p3⟩ hk0 => ⟨hvv, hI, h1, h2, h5, fun hi => p2 _ hi (by omega)⟩) fun na out ⟨hI, h1, h2, h5, hac, p1, p2, p3⟩ hk0 key => ?_
     ·rintro i out sz ⟨hvv, hL, c1, c2, c4, c3⟩
      refine wpS_bind (wpS_elem (by omega) ?_)
      have hJ := hL.pushB c1 (by omega) (by omega) h4 (c3 (by omega))
      by_cases e2 : nb - 1 = 1
      ·refine ifT (beqT e2) ?_
       exact wpS_pure ⟨hvv, .inl ⟨_, _, rfl, hJ.firstB e2 (by omega) hf⟩⟩
      refine ifF (beqF e2) ?_
      generalize out.push (b[nb - 1]'(by omega)) = o2 at hJ ⊢
      generalize hjb : nb - 1 = jb at hJ e2 ⊢
      refine wpS_bind (wpS_elem (by omega) ?_)
      refine wpS_bind (gallopLh (hvv.kind hk) kb (ka _ (by omega)) sb (by omega) (by omega) fun m1 q1 q2 q3 => ?_)
      try dsimp only
      generalize hbc : jb - m1 = bc
      have hC := And.intro hJ (And.intro hbc (And.intro (show 2 ≤ jb by omega) (And.intro (show jb ≤ b.size by omega) (And.intro (show n + 1 + i + jb ≤ a.size + b.size by omega) (And.intro q1 (And.intro q2 q3))))))
      clear hJ e2 hjb hbc q1 q2 q3
      revert jb o2
      refine jp2 (fun o j sz' => Eqv st sz' ∧ HiI a b o i j ∧ 2 ≤ j ∧ j ≤ b.size ∧ n + 1 + i + j ≤ a.size + b.size ∧ ∀ hi : j - 1 < b.size, key b[j - 1] ≤ key (a[i - 1]'(by omega))) ?_ (fun _ jb ⟨hJ, hbc, e2, e3, e4, q1, q2, q3⟩ hk1 => ⟨hvv, hJ, e2, e3, e4, fun hi => q2 _ hi (by omega)⟩) fun o2 jb ⟨hJ, hbc, e2, e3, e6, q1, q2, q3⟩ hk1 key => ?_
      ·rintro o j sz ⟨hvv, hL, d1, d2, d4, d3⟩
       refine wpS_bind (wpS_elem (by omega) ?_)
       have hN := hL.pushA c1 (by omega) (by omega) (by omega) (d3 (by omega))
       by_cases e3 : i - 1 = 0
       ·refine ifT (beqT e3) ?_
        exact wpS_pure ⟨hvv, .inl ⟨_, _, rfl, hN.doneA e3⟩⟩
       refine ifF (beqF e3) ?_
       have hG : HiG a b _ (i - 1) j (n + 1) := ⟨hN, by omega, by omega, d1, by omega, by omega⟩
       split
       ·exact wpS_pure ⟨hvv, .inr ⟨_, _, _, _, _, _, rfl, hG⟩⟩
       ·exact wpS_pure ⟨hvv, _, _, _, _, _, _, rfl, .inr hG⟩
      ·have hL := hJ.runB c1 (by omega) (by omega) q1 q3
       by_cases e4 : m1 = 1
       ·refine ifT (beqT e4) ?_
        exact wpS_pure ⟨hvv, .inl ⟨_, _, rfl, hL.firstB e4 (by omega) hf⟩⟩
       refine ifF (beqF e4) ?_
       by_cases e5 : m1 = 0
       ·refine ifT (beqT e5) ?_
        exact wpS_pure ⟨hvv, .inl ⟨_, _, rfl, hL.doneB e5⟩⟩
       refine ifF (beqF e5) ?_
       exact key _ _ _ ⟨hvv, hL, by omega, by omega, by omega, fun hi => q2 _ hi (by omega)⟩
     ·have hL := hI.runA h2 (by omega) h4 p1 p3
      by_cases e1 : m = 0
      ·refine ifT (beqT e1) ?_
       exact wpS_pure ⟨hvv, .inl ⟨_, _, rfl, hL.doneA e1⟩⟩
      refine ifF (beqF e1) ?_
      exact key _ _ _ ⟨hvv, hL, by omega, by omega, by omega, fun hi => p2 _ hi (by omega)⟩
    ·rintro c sz ⟨hv, na, nb, out, mg, ac, bc, rfl, hG⟩
     rcases hG with ⟨hz, _⟩ | hG
     ·omega
     ·exact ⟨hv, .inr ⟨_, _, _, _, _, _, rfl, hG⟩⟩
    ·rintro c sz ⟨hv, ⟨m, d, rfl, hm⟩ | ⟨na, nb, out, mg, ac, bc, rfl, hG⟩⟩
     ·try dsimp only
      exact wpS_pure ⟨hv, _, _, rfl, hm⟩
     ·try dsimp only
      exact wpS_bind (wpS_modify (wpS_pure ⟨hv.set _, _, _, _, _, rfl, hG⟩))
 ·rintro c sx ⟨hv, na, nb, out, mg, rfl, hI, h1, h2, h3, h4, h5⟩
  omega
 ·rintro c sx ⟨hv, m, d, rfl, hm⟩
  exact wpS_pure (h _ _ hv hm)
end
end SoP
end
section
set_option Elab.async false
set_option linter.all false
set_option maxRecDepth 100000
set_option maxHeartbeats 4000000
namespace SoP
open PySem PyProof.Rows
variable [Kn]
def SOn (xs : Array Keyed) (lo hi : Nat) : Prop := ∀ i j, lo ≤ i → i ≤ j → j < hi → K xs i ≤ K xs j
theorem K_key {xs : Array Keyed} {i : Nat} (hi : i < xs.size) : K xs i = key xs[i] := K_eq hi
theorem IntKeys.at {xs a₀ : Array Keyed} (h0 : IntKeys a₀) (hp : xs.Perm a₀) (i : Nat) (hi : i < xs.size) : IntK xs[i] :=
 h0 _ ((Array.perm_iff_toList_perm.mp hp).mem_iff.mp (by simp))
def wr (b : Nat) (l : List Keyed) (j : Nat) (a : Array Keyed) : Array Keyed := (l.zipIdx j).foldl (fun a (p, j) => a.setIfInBounds (b + j) p) a
theorem wr_toList (b : Nat) : ∀ (l : List Keyed) (j : Nat) (a : Array Keyed), b + j + l.length ≤ a.size → (wr b l j a).toList = a.toList.take (b + j) ++ (l ++ a.toList.drop (b + j + l.length))
 | [], j, a, h => by unfold wr; simp
 | p :: l, j, a, h => by
  rw [List.length_cons] at h
  have ih := wr_toList b l (j + 1) (a.setIfInBounds (b + j) p) (by rw [Array.size_setIfInBounds]; omega)
  have e : wr b (p :: l) j a = wr b l (j + 1) (a.setIfInBounds (b + j) p) := by unfold wr; rw [List.zipIdx_cons, List.foldl_cons]
  rw [e, ih, Array.toList_setIfInBounds]
  have hl : b + j < a.toList.length := by simp; omega
  rw [List.set_eq_take_append_cons_drop, if_pos hl]
  have hm : min (b + j) a.toList.length = b + j := by omega
  rw [List.length_cons, show b + (j + 1) = (b + j) + 1 by omega]
  have h1 : (a.toList.take (b + j)).length = b + j := by rw [List.length_take]; exact hm
  have g : ∀ (T D : List Keyed) (n m : Nat), T.length = n → (T ++ p :: D).take (n + 1) = T ++ [p] ∧ (T ++ p :: D).drop (n + 1 + m) = D.drop m := by
   intro T D n m hn
   subst hn
   constructor
   ·rw [List.take_append, List.take_of_length_le (Nat.le_succ _), Nat.add_sub_cancel_left]; rfl
   ·rw [List.drop_append, List.drop_of_length_le (by omega), show T.length + 1 + m - T.length = m + 1 by omega, List.nil_append, List.drop_succ_cons]
  obtain ⟨g1, g2⟩ := g (a.toList.take (b + j)) (a.toList.drop (b + j + 1)) (b + j) l.length h1
  rw [g1, g2, List.drop_drop, show b + j + 1 + l.length = b + j + (l.length + 1) by omega]
  simp
theorem K_list {xs : Array Keyed} (t : Nat) : K xs t = match xs.toList[t]? with | some p => key p | none => 0 := by
 unfold K; rw [Array.getElem?_toList] <;> rfl
end SoP
end
section
set_option Elab.async false
set_option linter.all false
set_option maxRecDepth 100000
set_option maxHeartbeats 4000000
namespace SoP
open PySem PyProof.Rows
variable [Kn]
theorem wpS_set {σ : Type} {M : Model} {A : Around} {E : Value → Shared → Prop} {s : Shared} {x : σ} {Q : PUnit → σ → Prop} {st : σ} (h : Q ⟨⟩ x) : wpS M A E s (set x : StateT σ Sem PUnit) Q st := by
 unfold wpS; rw [StateT.run_set]; exact wpAny_pure ⟨rfl, h⟩
theorem set_erase {α : Type} {p : Array α} {l1 l2 : List α} {x y z : α} {i : Nat} (h : p.toList = l1 ++ x :: y :: l2) (hi : l1.length = i) : ((p.setIfInBounds i z).eraseIdxIfInBounds (i + 1)).toList = l1 ++ z :: l2 := by
 obtain ⟨pl⟩ := p
 simp only at h
 subst h hi
 rw [List.setIfInBounds_toArray, List.eraseIdxIfInBounds_toArray]
 simp only
 rw [List.set_append_right _ _ (Nat.le_refl _), Nat.sub_self, List.set_cons_zero, List.eraseIdx_append_of_length_le (show l1.length ≤ l1.length + 1 by omega), Nat.add_sub_cancel_left]
 rfl
theorem at_two {α : Type} {p : Array α} {l1 l2 : List α} {x y : α} {i : Nat} (h : p.toList = l1 ++ x :: y :: l2) (hi : l1.length = i) : p[i]? = some x ∧ p[i + 1]? = some y := by
 subst hi
 rw [← Array.getElem?_toList, ← Array.getElem?_toList, h]
 constructor
 ·rw [List.getElem?_append_right (Nat.le_refl _), Nat.sub_self]; rfl
 ·rw [List.getElem?_append_right (show l1.length ≤ l1.length + 1 by omega), Nat.add_sub_cancel_left]; rfl
theorem sOn_ext {xs : Array Keyed} {lo hi : Nat} (h : SOn xs lo hi) (hs : hi ≤ xs.size) : Srt (xs.extract lo hi).toList := by
 unfold Srt
 rw [List.pairwise_iff_getElem]
 intro i j hi' hj' hij
 simp only [Array.length_toList, Array.size_extract] at hi' hj'
 have := h (lo + i) (lo + j) (by omega) (by omega) (by omega)
 rw [K_key (by omega), K_key (by omega)] at this
 simpa using this
theorem K_out {xs ys : Array Keyed} {s : Nat} {M : List Keyed} (e : ys.toList = xs.toList.take s ++ (M ++ xs.toList.drop (s + M.length))) (hs : s + M.length ≤ xs.size) (t : Nat) (ht : t < s ∨ s + M.length ≤ t) : ys[t]? = xs[t]? := by
 rw [← Array.getElem?_toList, ← Array.getElem?_toList, e]
 have h1 : (xs.toList.take s).length = s := by rw [List.length_take, Array.length_toList]; omega
 rcases ht with ht | ht
 ·rw [List.getElem?_append_left (by omega), List.getElem?_take_of_lt ht]
 ·rw [List.getElem?_append_right (by omega), List.getElem?_append_right (by omega), List.getElem?_drop]
  congr 1
  omega
theorem K_in {xs ys : Array Keyed} {s : Nat} {M : List Keyed} (e : ys.toList = xs.toList.take s ++ (M ++ xs.toList.drop (s + M.length))) (hs : s + M.length ≤ xs.size) (t : Nat) (h1 : s ≤ t) (h2 : t < s + M.length) : ∃ h : t - s < M.length, K ys t = key M[t - s] := by
 refine ⟨by omega, ?_⟩
 rw [K_list, e]
 have hl : (xs.toList.take s).length = s := by rw [List.length_take, Array.length_toList]; omega
 rw [List.getElem?_append_right (by omega), hl, List.getElem?_append_left (by omega), List.getElem?_eq_getElem (by omega)]
section
variable {prog : Program} {w : World} {A : Around} {E : Value → Shared → Prop} {s : Shared} {a₀ : Array Keyed} [KnLt prog w A s]
theorem wpS_mergeAt {st : SortSt} {l1 l2 : List (Nat × Nat × Nat)} {sa na pw sb nb pw2 i : Nat} {Q : Bool → SortSt → Prop} (h0 : IntKeys a₀) (hS : SG a₀ st) (hp : (pendingOf st).toList = l1 ++ (sa, na, pw) :: (sb, nb, pw2) :: l2) (hi : l1.length = i)
  (hsb : sb = sa + na) (ha : 1 ≤ na) (hb : 1 ≤ nb) (hsz : sb + nb ≤ a₀.size) (oa : SOn (arrOf st) sa sb) (ob : SOn (arrOf st) sb (sb + nb))
  (h : ∀ sx, SG a₀ sx → (pendingOf sx).toList = l1 ++ (sa, na + nb, pw) :: l2 → SOn (arrOf sx) sa (sb + nb) → (∀ t, t < sa ∨ sb + nb ≤ t → (arrOf sx)[t]? = (arrOf st)[t]?) → Q true sx) :
  wpS (model prog w) A E s (mergeAt' i) Q st := by
 obtain ⟨hperm, hkind, hfail⟩ := hS
 have hsize : (arrOf st).size = a₀.size := hperm.size_eq
 have hint := fun i hi => IntKeys.at h0 hperm i hi
 delta mergeAt'
 try dsimp only
 refine wpS_bind (wpS_get ?_)
 obtain ⟨e1, e2⟩ := at_two hp hi
 rw [e1, e2]
 try dsimp only
 refine wpS_bind (wpS_set ?_)
 have hpend := set_erase (z := (sa, na + nb, pw)) hp hi
 refine wpS_bind (wpS_elem (xs := arrOf st) (by omega) ?_)
 refine wpS_bind (wpS_gallop (arr := arrOf st) hkind (by omega) (by omega) (hint _ (by omega)) hint (fun i => ∃ hi : sa + i < (arrOf st).size, key (arrOf st)[sa + i] ≤ key ((arrOf st)[sb]'(by omega))) (fun i hi => ?_) (fun i j hij hj => ?_) fun k k1 k2 k3 => ?_)
 ·unfold Bey
  simp only [Bool.false_eq_true, if_false]
  exact ⟨fun ⟨_, q⟩ => q, fun q => ⟨hi, q⟩⟩
 ·rintro ⟨hi, q⟩
  have := oa (sa + i) (sa + j) (by omega) (by omega) (by omega)
  rw [K_key (by omega), K_key (by omega)] at this
  exact ⟨by omega, Int.le_trans this q⟩
 have k2' : ∀ t, sa ≤ t → t < sa + k → K (arrOf st) t ≤ K (arrOf st) sb := fun t h1 h2 => by
  obtain ⟨hi, q⟩ := k2 (t - sa) (by omega)
  rw [K_key (by omega), K_key (by omega)]
  simpa [show sa + (t - sa) = t by omega] using q
 have k3' : ∀ t, sa + k ≤ t → t < sb → K (arrOf st) sb ≤ K (arrOf st) t := fun t h1 h2 => by
  have q : ¬ key ((arrOf st)[sa + (t - sa)]'(by omega)) ≤ key ((arrOf st)[sb]'(by omega)) := fun q => k3 (t - sa) (by omega) (by omega) ⟨by omega, q⟩
  rw [K_key (by omega), K_key (by omega)]
  simp only [show sa + (t - sa) = t by omega] at q
  omega
 try dsimp only
 by_cases hk : na - k = 0
 ·refine ifT (beqT hk) ?_
  refine wpS_pure (h _ ⟨hperm, hkind, hfail⟩ hpend (fun i j h1 h2 h3 => ?_) fun t _ => rfl)
  show K (arrOf st) i ≤ K (arrOf st) j
  by_cases c1 : j < sb
  ·exact oa i j h1 h2 c1
  ·by_cases c2 : sb ≤ i
   ·exact ob i j c2 h2 h3
   ·exact Int.le_trans (k2' i h1 (by omega)) (ob sb j (Nat.le_refl _) (by omega) h3)
 refine ifF (beqF hk) ?_
 have hlast : sa + k + (na - k) - 1 = sb - 1 := by omega
 rw [hlast]
 refine wpS_bind (wpS_elem (xs := arrOf st) (by omega) ?_)
 refine wpS_bind (wpS_gallop (arr := arrOf st) hkind (by omega) (by omega) (hint _ (by omega)) hint (fun i => ∃ hi : sb + i < (arrOf st).size, key (arrOf st)[sb + i] < key ((arrOf st)[sb - 1]'(by omega))) (fun i hi => ?_) (fun i j hij hj => ?_) fun m m1 m2 m3 => ?_)
 ·unfold Bey
  simp only [if_true]
  exact ⟨fun ⟨_, q⟩ => q, fun q => ⟨hi, q⟩⟩
 ·rintro ⟨hi, q⟩
  have := ob (sb + i) (sb + j) (by omega) (by omega) (by omega)
  rw [K_key (by omega), K_key (by omega)] at this
  exact ⟨by omega, Int.lt_of_le_of_lt this q⟩
 have m2' : ∀ t, sb ≤ t → t < sb + m → K (arrOf st) t ≤ K (arrOf st) (sb - 1) := fun t h1 h2 => by
  obtain ⟨hi, q⟩ := m2 (t - sb) (by omega)
  rw [K_key (by omega), K_key (by omega)]
  simp only [show sb + (t - sb) = t by omega] at q
  omega
 have m3' : ∀ t, sb + m ≤ t → t < sb + nb → K (arrOf st) (sb - 1) ≤ K (arrOf st) t := fun t h1 h2 => by
  have q : ¬ key ((arrOf st)[sb + (t - sb)]'(by omega)) < key ((arrOf st)[sb - 1]'(by omega)) := fun q => m3 (t - sb) (by omega) (by omega) ⟨by omega, q⟩
  rw [K_key (by omega), K_key (by omega)]
  simp only [show sb + (t - sb) = t by omega] at q
  omega
 try dsimp only
 by_cases hm : m = 0
 ·refine ifT (beqT hm) ?_
  refine wpS_pure (h _ ⟨hperm, hkind, hfail⟩ hpend (fun i j h1 h2 h3 => ?_) fun t _ => rfl)
  show K (arrOf st) i ≤ K (arrOf st) j
  by_cases c1 : j < sb
  ·exact oa i j h1 h2 c1
  ·by_cases c2 : sb ≤ i
   ·exact ob i j c2 h2 h3
   ·exact Int.le_trans (oa i (sb - 1) h1 (by omega) (by omega)) (m3' j (by omega) h3)
 refine ifF (beqF hm) ?_
 have sx : ((arrOf st).extract (sa + k) sb).size = na - k := by rw [Array.size_extract]; omega
 have sy : ((arrOf st).extract sb (sb + m)).size = m := by rw [Array.size_extract]; omega
 have kx : ∀ (i : Nat) (hi : i < ((arrOf st).extract (sa + k) sb).size), ((arrOf st).extract (sa + k) sb)[i] = (arrOf st)[sa + k + i]'(by omega) := fun i hi => Array.getElem_extract ..
 have ky : ∀ (i : Nat) (hi : i < ((arrOf st).extract sb (sb + m)).size), ((arrOf st).extract sb (sb + m))[i] = (arrOf st)[sb + i]'(by omega) := fun i hi => Array.getElem_extract ..
 have mx : ∀ p ∈ ((arrOf st).extract (sa + k) sb).toList, ∃ t, sa + k ≤ t ∧ t < sb ∧ K (arrOf st) t = key p := fun p hp => by
  obtain ⟨i, hi, e⟩ := List.getElem_of_mem hp
  simp only [Array.length_toList] at hi
  refine ⟨sa + k + i, by omega, by omega, ?_⟩
  rw [K_key (by omega), ← e, Array.getElem_toList, kx]
 have my : ∀ p ∈ ((arrOf st).extract sb (sb + m)).toList, ∃ t, sb ≤ t ∧ t < sb + m ∧ K (arrOf st) t = key p := fun p hp => by
  obtain ⟨i, hi, e⟩ := List.getElem_of_mem hp
  simp only [Array.length_toList] at hi
  refine ⟨sb + i, by omega, by omega, ?_⟩
  rw [K_key (by omega), ← e, Array.getElem_toList, ky]
 have ssx : Srt ((arrOf st).extract (sa + k) sb).toList := sOn_ext (fun i j h1 h2 h3 => oa i j (by omega) h2 h3) (by omega)
 have ssy : Srt ((arrOf st).extract sb (sb + m)).toList := sOn_ext (fun i j h1 h2 h3 => ob i j h1 h2 (by omega)) (by omega)
 have fin : ∀ mg sx, Eqv (setPending st (((pendingOf st).setIfInBounds i (sa, na + nb, pw)).eraseIdxIfInBounds (i + 1))) sx → Res ((arrOf st).extract (sa + k) sb) ((arrOf st).extract sb (sb + m)) mg →
   wpS (model prog w) A E s (do
    modify fun s => setArr s (wr (sa + k) mg.toList 0 (arrOf s))
    return (failedOf (← get)).isNone) Q sx := by
  rintro mg _ ⟨g, rfl⟩ ⟨r1, r2⟩
  refine wpS_bind (wpS_modify (wpS_bind (wpS_get ?_)))
  have hlen : mg.toList.length = na - k + m := by rw [r1.length_eq, List.length_append, Array.length_toList, Array.length_toList, sx, sy]
  have el : (wr (sa + k) mg.toList 0 (arrOf st)).toList = (arrOf st).toList.take (sa + k) ++ (mg.toList ++ (arrOf st).toList.drop (sa + k + mg.toList.length)) := wr_toList (sa + k) mg.toList 0 (arrOf st) (by omega)
  have hs' : sa + k + mg.toList.length ≤ (arrOf st).size := by omega
  have mm : ∀ p ∈ mg.toList, ∃ t, sa + k ≤ t ∧ t < sb + m ∧ K (arrOf st) t = key p := fun p hp => by
   rcases List.mem_append.mp (r1.mem_iff.mp hp) with hp | hp
   ·obtain ⟨t, a1, a2, a3⟩ := mx p hp; exact ⟨t, a1, by omega, a3⟩
   ·obtain ⟨t, a1, a2, a3⟩ := my p hp; exact ⟨t, by omega, a2, a3⟩
  have low : ∀ t, sa + k ≤ t → t < sb + m → K (arrOf st) sb ≤ K (arrOf st) t := fun t h1 h2 => by
   by_cases c : t < sb
   ·exact k3' t h1 c
   ·exact ob sb t (Nat.le_refl _) (by omega) (by omega)
  have high : ∀ t u, sa + k ≤ t → t < sb + m → sb + m ≤ u → u < sb + nb → K (arrOf st) t ≤ K (arrOf st) u := fun t u h1 h2 h3 h4 => by
   by_cases c : t < sb
   ·exact Int.le_trans (oa t (sb - 1) (by omega) (by omega) (by omega)) (m3' u h3 h4)
   ·exact ob t u (by omega) (by omega) h4
  have hpm : (wr (sa + k) mg.toList 0 (arrOf st)).Perm (arrOf st) := by
   rw [Array.perm_iff_toList_perm, el]
   have ex : (arrOf st).toList = (arrOf st).toList.take (sa + k) ++ ((((arrOf st).extract (sa + k) sb).toList ++ ((arrOf st).extract sb (sb + m)).toList) ++ (arrOf st).toList.drop (sa + k + mg.toList.length)) := by
    rw [ext_toList, ext_toList, hlen, show sb + m - sb = m by omega, show sb - (sa + k) = na - k by omega]
    have q1 : (arrOf st).toList.drop (sa + k + (na - k + m)) = ((arrOf st).toList.drop sb).drop m := by rw [List.drop_drop]; congr 1; omega
    have q2 : (arrOf st).toList.drop sb = ((arrOf st).toList.drop (sa + k)).drop (na - k) := by rw [List.drop_drop]; congr 1; omega
    rw [q1, List.append_assoc, List.take_append_drop, q2, List.take_append_drop, List.take_append_drop]
   conv => rhs; rw [ex]
   exact List.Perm.append_left _ (List.Perm.append_right _ r1)
  refine wpS_pure ?_
  have hff : (failedOf st).isNone = true := by rw [hfail]; rfl
  show Q ((failedOf st).isNone) _
  rw [hff]
  have out : ∀ t, t < sa + k ∨ sb + m ≤ t → (wr (sa + k) mg.toList 0 (arrOf st))[t]? = (arrOf st)[t]? := fun t ht => K_out el hs' t (by omega)
  refine h _ ⟨hpm.trans hperm, hkind, hfail⟩ hpend (fun i j h1 h2 h3 => ?_) fun t ht => out t (by omega)
  show K (wr (sa + k) mg.toList 0 (arrOf st)) i ≤ K (wr (sa + k) mg.toList 0 (arrOf st)) j
  have old : ∀ t, t < sa + k ∨ sb + m ≤ t → K (wr (sa + k) mg.toList 0 (arrOf st)) t = K (arrOf st) t := fun t ht => K_congr (out t ht)
  have new : ∀ t, sa + k ≤ t → t < sb + m → ∃ h : t - (sa + k) < mg.toList.length, K (wr (sa + k) mg.toList 0 (arrOf st)) t = key mg.toList[t - (sa + k)] := fun t h1 h2 => K_in el hs' t h1 (by omega)
  by_cases ci : i < sa + k
  ·rw [old i (.inl ci)]
   by_cases cj : j < sa + k
   ·rw [old j (.inl cj)]; exact oa i j h1 h2 (by omega)
   ·by_cases cj2 : j < sb + m
    ·obtain ⟨hh, e⟩ := new j (by omega) cj2
     rw [e]
     obtain ⟨t, t1, t2, t3⟩ := mm _ (List.getElem_mem hh)
     rw [← t3]
     exact Int.le_trans (k2' i h1 ci) (low t t1 t2)
    ·rw [old j (.inr (by omega))]
     exact Int.le_trans (k2' i h1 ci) (ob sb j (Nat.le_refl _) (by omega) h3)
  ·by_cases ci2 : i < sb + m
   ·obtain ⟨hh, e⟩ := new i (by omega) ci2
    rw [e]
    by_cases cj2 : j < sb + m
    ·obtain ⟨hh2, e2⟩ := new j (by omega) cj2
     rw [e2]
     by_cases eij : i = j
     ·subst eij; exact Int.le_refl _
     ·exact List.pairwise_iff_getElem.mp r2 _ _ hh hh2 (by omega)
    ·rw [old j (.inr (by omega))]
     obtain ⟨t, t1, t2, t3⟩ := mm _ (List.getElem_mem hh)
     rw [← t3]
     exact high t j t1 t2 (by omega) h3
   ·rw [old i (.inr (by omega)), old j (.inr (by omega))]
    exact ob i j (by omega) h2 h3
 have hx0 : ∀ (i : Nat) (hi : i < ((arrOf st).extract (sa + k) sb).size), IntK ((arrOf st).extract (sa + k) sb)[i] := fun i hi => by rw [kx]; exact hint _ _
 have hy0 : ∀ (i : Nat) (hi : i < ((arrOf st).extract sb (sb + m)).size), IntK ((arrOf st).extract sb (sb + m))[i] := fun i hi => by rw [ky]; exact hint _ _
 by_cases hle : na - k ≤ m
 ·refine ifT hle ?_
  refine wpS_bind (wpS_mergeLo (a := (arrOf st).extract (sa + k) sb) (b := (arrOf st).extract sb (sb + m)) hkind hx0 hy0 ssx ssy (by omega) (by omega) ?_ (fun p hp hi => ?_) fun mg sx hv hr => fin mg sx hv hr)
  ·rw [kx, ky]
   have := k3' (sa + k) (Nat.le_refl _) (by omega)
   rw [K_key (by omega), K_key (by omega)] at this
   simpa using this
  ·obtain ⟨t, t1, t2, t3⟩ := my p hp
   rw [kx, ← t3, ← K_key (i := sa + k + (((arrOf st).extract (sa + k) sb).size - 1)) (by omega), show sa + k + (((arrOf st).extract (sa + k) sb).size - 1) = sb - 1 by omega]
   exact m2' t t1 t2
 ·refine ifF hle ?_
  refine wpS_bind (wpS_mergeHi (a := (arrOf st).extract (sa + k) sb) (b := (arrOf st).extract sb (sb + m)) hkind hx0 hy0 ssx ssy (by omega) (by omega) (fun q hq hi => ?_) ?_ fun mg sx hv hr => fin mg sx hv hr)
  ·obtain ⟨t, t1, t2, t3⟩ := mx q hq
   rw [ky, ← t3]
   have := k3' t t1 t2
   rw [K_key (i := sb) (by omega)] at this
   simpa using this
  ·rw [kx, ky, ← K_key (i := sa + k + (((arrOf st).extract (sa + k) sb).size - 1)) (by omega), ← K_key (i := sb + (((arrOf st).extract sb (sb + m)).size - 1)) (by omega), show sa + k + (((arrOf st).extract (sa + k) sb).size - 1) = sb - 1 by omega]
   exact m2' (sb + (((arrOf st).extract sb (sb + m)).size - 1)) (by omega) (by omega)
end
end SoP
end
section
set_option Elab.async false
set_option linter.all false
set_option maxRecDepth 100000
set_option maxHeartbeats 4000000
namespace SoP
open PySem PyProof.Rows
variable [Kn]
structure Upd (a₀ : Array Keyed) (lo hi : Nat) (st sx : SortSt) : Prop where
 sg : SG a₀ sx
 pend : pendingOf sx = pendingOf st
 out : ∀ t, t < lo ∨ hi ≤ t → (arrOf sx)[t]? = (arrOf st)[t]?
def NOn (xs : Array Keyed) (lo hi : Nat) : Prop := ∀ i j, lo ≤ i → i ≤ j → j < hi → K xs j ≤ K xs i
section
variable {prog : Program} {w : World} {A : Around} {E : Value → Shared → Prop} {s : Shared} {a₀ : Array Keyed} [KnLt prog w A s]
theorem SG.size {st : SortSt} (h : SG a₀ st) : (arrOf st).size = a₀.size := h.perm.size_eq
theorem wpS_ltI {st : SortSt} {i j : Nat} {Q : Option Bool → SortSt → Prop} (h0 : IntKeys a₀) (hS : SG a₀ st) (hi : i < a₀.size) (hj : j < a₀.size) (h : Q (some (decide (K (arrOf st) i < K (arrOf st) j))) st) :
  wpS (model prog w) A E s (ltAt' i j) Q st := by
 have hs := hS.size
 rw [ltAt'_eq]
 refine wpS_bind (wpS_get ?_)
 refine wpS_bind (wpS_elem (by omega) (wpS_bind (wpS_elem (by omega) (wpS_lt hS.kind (IntKeys.at h0 hS.perm _ _) (IntKeys.at h0 hS.perm _ _) ?_))))
 rw [K_key (by omega), K_key (by omega)] at h
 exact h
theorem Upd.mir {st sx : SortSt} {lo hi i j : Nat} (h : Upd a₀ lo hi st sx) (h1 : lo ≤ i) (h2 : j ≤ hi) (h3 : hi ≤ a₀.size) : Upd a₀ lo hi st (setArr sx (mirror (arrOf sx) i j ((j - i) / 2))) := by
 have hs := h.sg.size
 refine ⟨⟨(mirror_perm _ _ _ _).trans h.sg.perm, h.sg.kind, h.sg.failed⟩, h.pend, fun t ht => ?_⟩
 show (mirror (arrOf sx) i j ((j - i) / 2))[t]? = _
 rw [getElem?_mirror_all (by omega), if_neg (by omega)]
 exact h.out t ht
theorem rev_on {xs : Array Keyed} {lo n : Nat} (hN : NOn xs lo (lo + n)) (hs : lo + n ≤ xs.size) : SOn (mirror xs lo (lo + n) ((lo + n - lo) / 2)) lo (lo + n) := by
 intro i j h1 h2 h3
 rw [K_mirror hs, K_mirror hs, if_pos (by omega), if_pos (by omega)]
 exact hN _ _ (by omega) (by omega) (by omega)
theorem non_eq {xs ys : Array Keyed} {lo hi : Nat} (hk : ∀ k, K ys k = K xs k) (hN : NOn xs lo hi) : NOn ys lo hi := fun i j h1 h2 h3 => by rw [hk, hk]; exact hN i j h1 h2 h3
theorem non_more {xs ys : Array Keyed} {lo x : Nat} (hk : ∀ k, K ys k = K xs k) (hN : NOn xs lo (lo + x)) (hl : K xs (lo + x) < K xs (lo + x - 1)) : NOn ys lo (lo + (x + 1)) := by
 intro i j h1 h2 h3
 rw [hk, hk]
 by_cases hj : j < lo + x
 ·exact hN i j h1 h2 hj
 ·have e : j = lo + x := by omega
  subst e
  by_cases hi : i = lo + x
  ·subst hi; exact Int.le_refl _
  ·exact Int.le_trans (Int.le_of_lt hl) (hN i (lo + x - 1) h1 (by omega) (by omega))
theorem non_same {xs : Array Keyed} {lo x : Nat} (hN : NOn xs lo (lo + x)) (hl : K xs (lo + x) = K xs (lo + x - 1)) : NOn xs lo (lo + (x + 1)) := by
 intro i j h1 h2 h3
 by_cases hj : j < lo + x
 ·exact hN i j h1 h2 hj
 ·have e : j = lo + x := by omega
  subst e
  by_cases hi : i = lo + x
  ·subst hi; exact Int.le_refl _
  ·rw [hl]; exact hN i (lo + x - 1) h1 (by omega) (by omega)
theorem wpS_countRunG {st : SortSt} {lo nrem : Nat} {Q : Option Nat → SortSt → Prop} (h0 : IntKeys a₀) (hS : SG a₀ st) (h1 : 1 ≤ nrem) (hn : lo + nrem ≤ a₀.size)
  (h : ∀ m sx, 1 ≤ m → m ≤ nrem → Upd a₀ lo (lo + nrem) st sx → SOn (arrOf sx) lo (lo + m) → Q (some m) sx) : wpS (model prog w) A E s (countRun' lo nrem) Q st := by
 rw [countRun'_eq]
 obtain ⟨sx, hsx⟩ : ∃ sx, sx = st := ⟨st, rfl⟩
 have hU : Upd a₀ lo (lo + nrem) st sx := by subst hsx; exact ⟨hS, rfl, fun t _ => rfl⟩
 have hO : SOn (arrOf sx) lo (lo + 1) := fun i j h1 h2 h3 => by
  have : i = j := by omega
  subst this; exact Int.le_refl _
 rw [← hsx]
 refine wpS_bind ?_
 refine wpS_mono (wpS_forRange (I := fun x c sz => sz = sx ∧ c = (none, x) ∧ SOn (arrOf sx) lo (lo + x)) (Q := fun c sz => sz = sx ∧ ∃ m, c = (none, m) ∧ 1 ≤ m ∧ m ≤ nrem ∧ SOn (arrOf sx) lo (lo + m) ∧ (m = nrem ∨ K (arrOf sx) (lo + m) < K (arrOf sx) (lo + m - 1))) ?_ ?_ ⟨rfl, rfl, hO⟩) ?_
 ·rintro x c sz hx1 hx2 ⟨rfl, rfl, hO⟩
  dsimp only
  refine wpS_bind (wpS_ltI h0 hU.sg (by omega) (by omega) ?_)
  by_cases hl : K (arrOf sz) (lo + x) < K (arrOf sz) (lo + x - 1)
  ·rw [decide_eq_true hl]
   dsimp only
   refine ifT rfl ?_
   exact wpS_pure ⟨rfl, x, rfl, by omega, by omega, hO, .inr hl⟩
  ·rw [decide_eq_false hl]
   dsimp only
   refine ifF (by decide) ?_
   refine wpS_pure ⟨rfl, rfl, fun i j h1 h2 h3 => ?_⟩
   by_cases hj : j < lo + x
   ·exact hO i j h1 h2 hj
   ·have hj' : j = lo + x := by omega
    subst hj'
    by_cases hi : i = lo + x
    ·subst hi; exact Int.le_refl _
    ·exact Int.le_trans (hO i (lo + x - 1) h1 (by omega) (by omega)) (Int.not_lt.mp hl)
 ·rintro c sz ⟨rfl, rfl, hO⟩
  rw [show max 1 nrem = nrem by omega] at hO ⊢
  exact ⟨rfl, nrem, rfl, by omega, Nat.le_refl _, hO, .inl rfl⟩
 rintro c sz ⟨rfl, n, rfl, n1, n2, n3, n4⟩
 dsimp only
 by_cases e : n = nrem
 ·refine ifT (beqT e) ?_
  exact wpS_pure (h n _ n1 n2 hU n3)
 refine ifF (beqF e) ?_
 have n4 := n4.resolve_left e
 refine jp0 (fun sx => Upd a₀ lo (lo + nrem) st sx ∧ NOn (arrOf sx) lo (lo + (n + 1))) (fun hg => ⟨hU, non_more (fun _ => rfl) (fun i j i1 i2 i3 => ?_) n4⟩) ?_ fun hg key => ?_
 ·have : i = j := by omega
  subst this; exact Int.le_refl _
 ·rintro sx ⟨hU, hN⟩
  refine wpS_bind (wpS_lift (wpAny_rule ⟨rfl, ?_⟩))
  refine wpS_bind (wpS_mono (wpS_forRange (I := fun x c sz => ∃ neq, c = (none, x, neq) ∧ Upd a₀ lo (lo + nrem) st sz ∧ NOn (arrOf sz) lo (lo + x) ∧ neq + 1 ≤ x ∧ ∀ i, lo + x - (neq + 1) ≤ i → i < lo + x → K (arrOf sz) i = K (arrOf sz) (lo + x - 1))
   (Q := fun c sz => ∃ x neq, c = (none, x, neq) ∧ 1 ≤ x ∧ x ≤ nrem ∧ Upd a₀ lo (lo + nrem) st sz ∧ NOn (arrOf sz) lo (lo + x) ∧ neq + 1 ≤ x ∧ ∀ i, lo + x - (neq + 1) ≤ i → i < lo + x → K (arrOf sz) i = K (arrOf sz) (lo + x - 1)) ?_ ?_ ⟨0, rfl, hU, hN, by omega, fun i h1 h2 => by congr 1; omega⟩) ?_)
  ·rintro x c sz hx1 hx2 ⟨neq, rfl, hU, hN, hq, he⟩
   have hsz := hU.sg.size
   dsimp only
   refine wpS_bind (wpS_ltI h0 hU.sg (by omega) (by omega) ?_)
   by_cases hl : K (arrOf sz) (lo + x) < K (arrOf sz) (lo + x - 1)
   ·rw [decide_eq_true hl]
    dsimp only
    refine ifT rfl ?_
    by_cases hneq : neq > 0
    ·rw [if_pos hneq, reverseSlice'_eq]
     refine wpS_bind (wpS_modify (wpS_pure ⟨0, rfl, hU.mir (by omega) (by omega) (by omega), non_more (K_mirror_equal (by omega) he) hN hl, by omega, fun i h1 h2 => by congr 1; omega⟩))
    ·refine ifF hneq ?_
     exact wpS_pure ⟨0, rfl, hU, non_more (fun _ => rfl) hN hl, by omega, fun i h1 h2 => by congr 1; omega⟩
   ·rw [decide_eq_false hl]
    dsimp only
    refine ifF (by decide) ?_
    refine wpS_bind (wpS_ltI h0 hU.sg (by omega) (by omega) ?_)
    by_cases hg : K (arrOf sz) (lo + x - 1) < K (arrOf sz) (lo + x)
    ·rw [decide_eq_true hg]
     dsimp only
     refine ifT rfl ?_
     exact wpS_pure ⟨x, neq, rfl, by omega, by omega, hU, hN, hq, he⟩
    ·rw [decide_eq_false hg]
     dsimp only
     refine ifF (by decide) ?_
     have hx : K (arrOf sz) (lo + x) = K (arrOf sz) (lo + x - 1) := by omega
     refine wpS_pure ⟨neq + 1, rfl, hU, non_same hN hx, by omega, fun i h1 h2 => ?_⟩
     rw [show lo + (x + 1) - 1 = lo + x by omega]
     by_cases hi : i = lo + x
     ·subst hi; rfl
     ·rw [hx]; exact he i (by omega) (by omega)
  ·rintro c sz ⟨neq, rfl, hU, hN, hq, he⟩
   rw [show max (n + 1) nrem = nrem by omega] at hN hq he ⊢
   exact ⟨nrem, neq, rfl, by omega, Nat.le_refl _, hU, hN, hq, he⟩
  ·rintro c sx ⟨x, neq, rfl, x1, x2, hU, hN, hq, he⟩
   dsimp only
   have hsz := hU.sg.size
   refine jp0 (fun sx => Upd a₀ lo (lo + nrem) st sx ∧ NOn (arrOf sx) lo (lo + x)) (fun _ => ⟨hU, hN⟩) ?_ fun hneq key => ?_
   ·rintro sx ⟨hU, hN⟩
    rw [reverseSlice'_eq]
    refine wpS_bind (wpS_modify ?_)
    have hsz := hU.sg.size
    have hO := rev_on (lo := lo) (n := x) hN (by omega)
    have hU := hU.mir (i := lo) (j := lo + x) (Nat.le_refl _) (by omega) (by omega)
    generalize hgen : setArr sx (mirror (arrOf sx) lo (lo + x) ((lo + x - lo) / 2)) = sx at hU
    have hO : SOn (arrOf sx) lo (lo + x) := by rw [← hgen]; exact hO
    refine wpS_bind ?_
    refine wpS_mono (wpS_forRange (I := fun x c sz => sz = sx ∧ c = (none, x) ∧ SOn (arrOf sx) lo (lo + x)) (Q := fun c sz => sz = sx ∧ ∃ m, c = (none, m) ∧ x ≤ m ∧ m ≤ nrem ∧ SOn (arrOf sx) lo (lo + m) ∧ (m = nrem ∨ K (arrOf sx) (lo + m) < K (arrOf sx) (lo + m - 1))) ?_ ?_ ⟨rfl, rfl, hO⟩) ?_
    ·rintro x c sz hx1 hx2 ⟨rfl, rfl, hO⟩
     dsimp only
     refine wpS_bind (wpS_ltI h0 hU.sg (by omega) (by omega) ?_)
     by_cases hl : K (arrOf sz) (lo + x) < K (arrOf sz) (lo + x - 1)
     ·rw [decide_eq_true hl]
      dsimp only
      refine ifT rfl ?_
      exact wpS_pure ⟨rfl, x, rfl, by omega, by omega, hO, .inr hl⟩
     ·rw [decide_eq_false hl]
      dsimp only
      refine ifF (by decide) ?_
      refine wpS_pure ⟨rfl, rfl, fun i j h1 h2 h3 => ?_⟩
      by_cases hj : j < lo + x
      ·exact hO i j h1 h2 hj
      ·have hj' : j = lo + x := by omega
       subst hj'
       by_cases hi : i = lo + x
       ·subst hi; exact Int.le_refl _
       ·exact Int.le_trans (hO i (lo + x - 1) h1 (by omega) (by omega)) (Int.not_lt.mp hl)
    ·rintro c sz ⟨rfl, rfl, hO⟩
     rw [show max x nrem = nrem by omega] at hO ⊢
     exact ⟨rfl, nrem, rfl, by omega, Nat.le_refl _, hO, .inl rfl⟩
    rintro c sz ⟨rfl, m, rfl, m1, m2, m3, m4⟩
    exact wpS_pure (h m _ (by omega) m2 hU m3)
   ·rw [reverseSlice'_eq]
    exact wpS_bind (wpS_modify (key _ ⟨hU.mir (i := lo + x - (neq + 1)) (j := lo + x) (by omega) (by omega) (by omega), non_eq (K_mirror_equal (xs := arrOf sx) (i := lo + x - (neq + 1)) (j := lo + x) (by omega) he) hN⟩))
 ·refine wpS_bind (wpS_ltI h0 hU.sg (by omega) (by omega) ?_)
  by_cases hr : K (arrOf sz) lo < K (arrOf sz) (lo + n - 1)
  ·rw [decide_eq_true hr]
   dsimp only
   refine ifT rfl ?_
   exact wpS_pure (h n _ n1 n2 hU n3)
  ·rw [decide_eq_false hr]
   dsimp only
   rw [if_neg (by decide), reverseSlice'_eq]
   have hsz := hU.sg.size
   have hall : ∀ k, lo ≤ k → k < lo + n → K (arrOf sz) k = K (arrOf sz) (lo + n - 1) := fun k k1 k2 => by
    have a1 := n3 lo k (Nat.le_refl _) k1 k2
    have a2 := n3 k (lo + n - 1) k1 (by omega) (by omega)
    omega
   have hN : NOn (arrOf sz) lo (lo + n) := fun i j i1 i2 i3 => by rw [hall i i1 (by omega), hall j (by omega) i3]; exact Int.le_refl _
   exact wpS_bind (wpS_modify (key _ ⟨hU.mir (i := lo) (j := lo + n) (Nat.le_refl _) (by omega) (by omega), non_more (K_mirror_equal (by omega) hall) hN n4⟩))
end
end SoP
end
section
set_option Elab.async false
set_option linter.all false
set_option maxRecDepth 100000
set_option maxHeartbeats 4000000
namespace SoP
open PySem PyProof.Rows
variable [Kn]
section
variable {prog : Program} {w : World} {A : Around} {E : Value → Shared → Prop} {s : Shared} {a₀ : Array Keyed} [KnLt prog w A s]
theorem Upd.bub {st sx : SortSt} {lo hi src d : Nat} (h : Upd a₀ lo hi st sx) (h1 : lo + d ≤ src) (h2 : src < hi) (h3 : hi ≤ a₀.size) : Upd a₀ lo hi st (setArr sx (bubble (arrOf sx) src d)) := by
 have hs := h.sg.size
 refine ⟨⟨(bubble_perm _ _ _).trans h.sg.perm, h.sg.kind, h.sg.failed⟩, h.pend, fun t ht => ?_⟩
 show (bubble (arrOf sx) src d)[t]? = _
 rw [getElem?_bubble (by omega) d (by omega), if_neg (by omega), if_neg (by omega)]
 exact h.out t ht
theorem wpS_binarySortG {st : SortSt} {lo n ok : Nat} {Q : Bool → SortSt → Prop} (h0 : IntKeys a₀) (hS : SG a₀ st) (hn : lo + n ≤ a₀.size) (hok : ok ≤ n) (hO : SOn (arrOf st) lo (lo + ok))
  (h : ∀ sx, Upd a₀ lo (lo + n) st sx → SOn (arrOf sx) lo (lo + n) → Q true sx) : wpS (model prog w) A E s (binarySort' lo n ok) Q st := by
 rw [binarySort'_eq]
 refine wpS_bind (wpS_mono (wpS_forRange (I := fun k c sx => c = (none, ()) ∧ Upd a₀ lo (lo + n) st sx ∧ SOn (arrOf sx) lo (lo + min k n))
  (Q := fun c sx => c = (none, ()) ∧ Upd a₀ lo (lo + n) st sx ∧ SOn (arrOf sx) lo (lo + n)) ?_ ?_ ⟨rfl, ⟨hS, rfl, fun t _ => rfl⟩, fun i j h1 h2 h3 => ?_⟩) ?_)
 ·rintro k c sx hk1 hk2 ⟨rfl, hU, hO⟩
  rw [show min k n = k by omega] at hO
  have hsz := hU.sg.size
  refine wpS_bind (wpS_mono (wpS_forRange (I := fun x c sy => sy = sx ∧ ∃ l r, c = (none, l, r) ∧ l ≤ r ∧ r ≤ k ∧ r - l ≤ k - x ∧ (∀ i, i < l → K (arrOf sx) (lo + i) ≤ K (arrOf sx) (lo + k)) ∧ (∀ i, r ≤ i → i < k → K (arrOf sx) (lo + k) < K (arrOf sx) (lo + i)))
   (Q := fun c sy => sy = sx ∧ ∃ l r, c = (none, l, r) ∧ l ≤ k ∧ (∀ i, i < l → K (arrOf sx) (lo + i) ≤ K (arrOf sx) (lo + k)) ∧ (∀ i, l ≤ i → i < k → K (arrOf sx) (lo + k) < K (arrOf sx) (lo + i))) ?_ ?_ ⟨rfl, 0, k, rfl, by omega, by omega, by omega, fun i hi => by omega, fun i h1 h2 => by omega⟩) ?_)
  ·rintro x c sy - hx ⟨rfl, l, r, rfl, hlr, hrk, hm, b1, b2⟩
   dsimp only
   by_cases hge : l ≥ r
   ·refine ifT hge ?_
    have : l = r := by omega
    subst this
    exact wpS_pure ⟨rfl, l, l, rfl, hrk, b1, b2⟩
   ·refine ifF hge ?_
    refine wpS_bind (wpS_ltI h0 hU.sg (by omega) (by omega) ?_)
    by_cases hl : K (arrOf sy) (lo + k) < K (arrOf sy) (lo + (l + r) / 2)
    ·rw [decide_eq_true hl]
     dsimp only
     refine ifT rfl ?_
     refine wpS_pure ⟨rfl, l, (l + r) / 2, rfl, by omega, by omega, by omega, b1, fun i h1 h2 => ?_⟩
     exact Int.lt_of_lt_of_le hl (hO _ _ (by omega) (by omega) (by omega))
    ·rw [decide_eq_false hl]
     dsimp only
     refine ifF (by decide) ?_
     refine wpS_pure ⟨rfl, (l + r) / 2 + 1, r, rfl, by omega, by omega, by omega, fun i h1 => ?_, b2⟩
     exact Int.le_trans (hO (lo + i) (lo + (l + r) / 2) (by omega) (by omega) (by omega)) (Int.not_lt.mp hl)
  ·rintro c sy ⟨rfl, l, r, rfl, hlr, hrk, hm, b1, b2⟩
   have : l = r := by omega
   subst this
   exact ⟨rfl, l, l, rfl, hrk, b1, b2⟩
  ·rintro c sy ⟨rfl, l, r, rfl, hlk, b1, b2⟩
   dsimp only
   rw [moveDown'_eq]
   refine wpS_bind (wpS_modify (wpS_pure ⟨rfl, hU.bub (by omega) (by omega) (by omega), ?_⟩))
   rw [show min (k + 1) n = k + 1 by omega]
   intro i j h1 h2 h3
   show K (bubble (arrOf sy) (lo + k) (lo + k - (lo + l))) i ≤ K (bubble (arrOf sy) (lo + k) (lo + k - (lo + l))) j
   rw [K_bubble (by omega) (by omega), K_bubble (by omega) (by omega), show lo + k - (lo + k - (lo + l)) = lo + l by omega]
   have b1' : ∀ i, lo ≤ i → i < lo + l → K (arrOf sy) i ≤ K (arrOf sy) (lo + k) := fun i h1 h2 => by
    have := b1 (i - lo) (by omega)
    rwa [show lo + (i - lo) = i by omega] at this
   have b2' : ∀ i, lo + l ≤ i → i < lo + k → K (arrOf sy) (lo + k) ≤ K (arrOf sy) i := fun i h1 h2 => by
    have := b2 (i - lo) (by omega) (by omega)
    rw [show lo + (i - lo) = i by omega] at this
    exact Int.le_of_lt this
   repeat' split
   all_goals first
    | (exfalso; omega)
    | exact Int.le_refl _
    | exact b1' _ (by omega) (by omega)
    | exact b2' _ (by omega) (by omega)
    | exact hO _ _ (by omega) (by omega) (by omega)
 ·rintro c sx ⟨rfl, hU, hO⟩
  rw [show min (max (max ok 1) n) n = n by omega] at hO
  exact ⟨rfl, hU, hO⟩
 ·by_cases e : ok = 0
  ·have : i = j := by omega
   subst this; exact Int.le_refl _
  ·exact hO i j h1 h2 (by omega)
 ·rintro c sx ⟨rfl, hU, hO⟩
  exact wpS_pure (h sx hU hO)
def Runs (xs : Array Keyed) : Nat → List (Nat × Nat × Nat) → Nat → Prop
 | f, [], t => f = t
 | f, q :: r, t => q.1 = f ∧ 1 ≤ q.2.1 ∧ SOn xs f (f + q.2.1) ∧ Runs xs (f + q.2.1) r t
theorem runs_le {xs : Array Keyed} : ∀ {p : List (Nat × Nat × Nat)} {f t : Nat}, Runs xs f p t → f + p.length ≤ t
 | [], f, t, h => by have : f = t := h; simp [this]
 | q :: r, f, t, ⟨h1, h2, h3, h4⟩ => by have := runs_le h4; rw [List.length_cons]; omega
theorem runs_app {xs : Array Keyed} : ∀ {p q : List (Nat × Nat × Nat)} {f t : Nat}, Runs xs f (p ++ q) t ↔ ∃ m, Runs xs f p m ∧ Runs xs m q t
 | [], q, f, t => ⟨fun h => ⟨f, rfl, h⟩, fun ⟨m, h1, h2⟩ => by have : f = m := h1; subst this; exact h2⟩
 | x :: p, q, f, t => by
  constructor
  ·rintro ⟨h1, h2, h3, h4⟩
   obtain ⟨m, h5, h6⟩ := runs_app.mp h4
   exact ⟨m, ⟨h1, h2, h3, h5⟩, h6⟩
  ·rintro ⟨m, ⟨h1, h2, h3, h4⟩, h5⟩
   exact ⟨h1, h2, h3, runs_app.mpr ⟨m, h4, h5⟩⟩
theorem sOn_congr {xs ys : Array Keyed} {lo hi : Nat} (h : SOn xs lo hi) (e : ∀ u, lo ≤ u → u < hi → ys[u]? = xs[u]?) : SOn ys lo hi := fun i j h1 h2 h3 => by
 rw [K_congr (e i h1 (by omega)), K_congr (e j (by omega) h3)]; exact h i j h1 h2 h3
theorem runs_congr {xs ys : Array Keyed} : ∀ {p : List (Nat × Nat × Nat)} {f t : Nat}, Runs xs f p t → (∀ u, f ≤ u → u < t → ys[u]? = xs[u]?) → Runs ys f p t
 | [], f, t, h, _ => h
 | q :: r, f, t, ⟨h1, h2, h3, h4⟩, e => by
  have := runs_le h4
  exact ⟨h1, h2, sOn_congr h3 fun u u1 u2 => e u u1 (by omega), runs_congr h4 fun u u1 u2 => e u (by omega) u2⟩
theorem wpS_mergeR {st : SortSt} {i t : Nat} {Q : Bool → SortSt → Prop} (h0 : IntKeys a₀) (hS : SG a₀ st) (hR : Runs (arrOf st) 0 (pendingOf st).toList t) (hi : i + 1 < (pendingOf st).size) (ht : t ≤ a₀.size)
  (h : ∀ sx, SG a₀ sx → Runs (arrOf sx) 0 (pendingOf sx).toList t → (pendingOf sx).size + 1 = (pendingOf st).size → (∀ u, t ≤ u → (arrOf sx)[u]? = (arrOf st)[u]?) → Q true sx) : wpS (model prog w) A E s (mergeAt' i) Q st := by
 have hlen : (pendingOf st).toList.length = (pendingOf st).size := Array.length_toList
 have e : (pendingOf st).toList = (pendingOf st).toList.take i ++ (pendingOf st).toList[i] :: (pendingOf st).toList[i + 1] :: (pendingOf st).toList.drop (i + 2) := by
  rw [← List.drop_eq_getElem_cons (i := i + 1), ← List.drop_eq_getElem_cons (i := i), List.take_append_drop]
 generalize hl1 : (pendingOf st).toList.take i = l1 at e
 generalize hl2 : (pendingOf st).toList.drop (i + 2) = l2 at e
 have n1 : l1.length = i := by rw [← hl1, List.length_take]; omega
 have n2 : l2.length + (i + 2) = (pendingOf st).size := by rw [← hl2, List.length_drop]; omega
 obtain ⟨⟨sa, na, pw⟩, ex⟩ : ∃ x, x = (pendingOf st).toList[i] := ⟨_, rfl⟩
 obtain ⟨⟨sb, nb, pw2⟩, ey⟩ : ∃ x, x = (pendingOf st).toList[i + 1] := ⟨_, rfl⟩
 rw [← ex, ← ey] at e
 rw [e, runs_app] at hR
 obtain ⟨m, r1, r2, r3, r4, r5, r6, r7, r8⟩ := hR
 simp only at r2 r3 r4 r5 r6 r7 r8
 subst r2
 have l8 := runs_le r8
 have l1' := runs_le r1
 refine wpS_mergeAt h0 hS e n1 r5 r3 r6 (by omega) (by rw [r5]; exact r4) (by rw [r5]; exact r7) fun sx g1 g2 g3 g4 => ?_
 refine h sx g1 ?_ ?_ fun u hu => g4 u (by omega)
 ·rw [g2, runs_app]
  refine ⟨sa, runs_congr r1 fun u u1 u2 => g4 u (by omega), rfl, by show 1 ≤ na + nb; omega, ?_, ?_⟩
  ·show SOn _ sa (sa + (na + nb))
   rw [show sa + (na + nb) = sb + nb by omega]; exact g3
  ·show Runs _ (sa + (na + nb)) l2 t
   rw [show sa + (na + nb) = sa + na + nb by omega]
   exact runs_congr r8 fun u u1 u2 => g4 u (by omega)
 ·have := congrArg List.length g2
  rw [Array.length_toList, List.length_append, List.length_cons] at this
  omega
end
end SoP
end
section
set_option Elab.async false
set_option linter.all false
set_option maxRecDepth 100000
set_option maxHeartbeats 4000000
namespace SoP
open PySem PyProof.Rows
variable [Kn]
section
variable {prog : Program} {w : World} {A : Around} {E : Value → Shared → Prop} {s : Shared} {a₀ : Array Keyed} [KnLt prog w A s]
theorem back_pos {α : Type} {p : Array α} {x : α} (h : p.back? = some x) : 0 < p.size := by
 rcases Nat.eq_zero_or_pos p.size with e | e
 ·have : p = #[] := Array.eq_empty_of_size_eq_zero e
  subst this; simp at h
 ·exact e
theorem runs_pow {xs : Array Keyed} {p : Array (Nat × Nat × Nat)} {t pw : Nat} (h : Runs xs 0 p.toList t) : Runs xs 0 (p.modify (p.size - 1) fun q => (q.1, q.2.1, pw)).toList t := by
 have key : ∀ (l : List (Nat × Nat × Nat)) (i f : Nat), Runs xs f l t → Runs xs f (l.modify i fun q => (q.1, q.2.1, pw)) t := by
  intro l
  induction l with
  | nil => intro i f h; simpa using h
  | cons q r ih =>
   intro i f h
   obtain ⟨h1, h2, h3, h4⟩ := h
   cases i with
   | zero => rw [List.modify_zero_cons]; exact ⟨h1, h2, h3, h4⟩
   | succ i => rw [List.modify_succ_cons]; exact ⟨h1, h2, h3, ih i _ h4⟩
 rw [Array.toList_modify]
 exact key _ _ _ h
theorem runs_push {xs : Array Keyed} {p : Array (Nat × Nat × Nat)} {lo n : Nat} (h : Runs xs 0 p.toList lo) (h1 : 1 ≤ n) (hO : SOn xs lo (lo + n)) : Runs xs 0 (p.push (lo, n, 0)).toList (lo + n) := by
 rw [Array.toList_push]
 exact runs_app.mpr ⟨lo, h, rfl, h1, hO, rfl⟩
theorem wpS_sortRunsG {st : SortSt} {Q : Unit → SortSt → Prop} (h0 : IntKeys a₀) (hS : SG a₀ st) (hp : pendingOf st = #[])
  (h : ∀ sx, (arrOf sx).Perm a₀ → failedOf sx = none → SortedTo (arrOf sx) a₀.size → Q () sx) : wpS (model prog w) A E s sortRuns' Q st := by
 rw [sortRuns'_eq]
 refine wpS_bind (wpS_get ?_)
 try dsimp only
 rw [hS.size]
 refine wpS_bind (wpS_mono (wpS_forRange (I := fun x c sx => SG a₀ sx ∧ ∃ lo, c = (none, lo) ∧ Runs (arrOf sx) 0 (pendingOf sx).toList lo ∧ lo ≤ a₀.size ∧ x ≤ lo) (Q := fun c sx => SG a₀ sx ∧ ∃ lo, c = (none, lo) ∧ Runs (arrOf sx) 0 (pendingOf sx).toList a₀.size) ?_ ?_ ⟨hS, 0, rfl, by rw [hp]; rfl, by omega, by omega⟩) ?_)
 ·rintro x c sx - hx ⟨hS, lo, rfl, hR, hlo, hxl⟩
  try dsimp only
  by_cases hge : lo ≥ a₀.size
  ·refine ifT hge ?_
   have e : lo = a₀.size := by omega
   rw [e] at hR
   exact wpS_pure ⟨hS, lo, rfl, hR⟩
  ·refine ifF hge ?_
   refine wpS_bind (wpS_countRunG h0 hS (by omega) (by omega) fun m sy m1 m2 hU hO => ?_)
   try dsimp only
   have hR : Runs (arrOf sy) 0 (pendingOf sy).toList lo := by
    rw [hU.pend]
    exact runs_congr hR fun u u1 u2 => hU.out u (.inl u2)
   have hC := And.intro m1 (And.intro m2 hO)
   clear m1 m2 hO
   revert m
   refine jp3 (fun m sx => SG a₀ sx ∧ Runs (arrOf sx) 0 (pendingOf sx).toList lo ∧ 1 ≤ m ∧ lo + m ≤ a₀.size ∧ SOn (arrOf sx) lo (lo + m)) ?_ (fun m ⟨m1, m2, hO⟩ _ => ⟨hU.sg, hR, m1, by omega, hO⟩) fun m ⟨m1, m2, hO⟩ hm key => ?_
   ·rintro m sx ⟨hS, hR, n1', hlm, hO⟩
    refine wpS_bind (wpS_get ?_)
    rcases hb : (pendingOf sx).back? with _ | ⟨s1, n1, pz⟩
    ·try dsimp only
     exact wpS_bind (wpS_modify (wpS_pure ⟨⟨hS.perm, hS.kind, hS.failed⟩, lo + m, rfl, runs_push hR n1' hO, by omega, by omega⟩))
    ·try dsimp only
     have hpos := back_pos hb
     refine wpS_bind (wpS_mono (wpS_forRange (I := fun _ c sy => c = (none, ()) ∧ SG a₀ sy ∧ Runs (arrOf sy) 0 (pendingOf sy).toList lo ∧ SOn (arrOf sy) lo (lo + m)) (Q := fun c sy => c = (none, ()) ∧ SG a₀ sy ∧ Runs (arrOf sy) 0 (pendingOf sy).toList lo ∧ SOn (arrOf sy) lo (lo + m)) ?_ (fun _ _ q => q) ⟨rfl, hS, hR, hO⟩) ?_)
     ·rintro y c sy - hy ⟨rfl, hS, hR, hO⟩
      refine wpS_bind (wpS_get ?_)
      by_cases hg : (pendingOf sy).size > 1
      ·rw [if_pos hg]
       rcases he : (pendingOf sy)[(pendingOf sy).size - 2]? with _ | ⟨u1, u2, older⟩
       ·try dsimp only
        exact wpS_pure ⟨rfl, hS, hR, hO⟩
       ·try dsimp only
        split
        ·exact wpS_pure ⟨rfl, hS, hR, hO⟩
        ·refine wpS_bind (wpS_mergeR h0 hS hR (by omega) (by omega) fun sz g1 g2 g3 g4 => ?_)
         try dsimp only
         refine ifF (by decide) ?_
         exact wpS_pure ⟨rfl, g1, g2, sOn_congr hO fun u u1 u2 => g4 u u1⟩
      ·rw [if_neg hg]
       try dsimp only
       exact wpS_pure ⟨rfl, hS, hR, hO⟩
     ·rintro c sy ⟨rfl, hS, hR, hO⟩
      try dsimp only
      exact wpS_bind (wpS_modify (wpS_bind (wpS_modify (wpS_pure ⟨⟨hS.perm, hS.kind, hS.failed⟩, lo + m, rfl, runs_push (runs_pow hR) n1' hO, by omega, by omega⟩))))
   ·refine wpS_bind (wpS_lift (wpAny_rule ⟨rfl, ?_⟩))
    generalize hf : min (a₀.size - lo) (minRun' a₀.size a₀.size 0) = force
    refine wpS_bind (wpS_binarySortG h0 hU.sg (by omega) (by omega) hO fun sx hU2 hO => ?_)
    try dsimp only
    refine ifF (by decide) ?_
    refine key force _ ⟨hU2.sg, ?_, by omega, by omega, hO⟩
    rw [hU2.pend]
    exact runs_congr hR fun u u1 u2 => hU2.out u (.inl u2)
 ·rintro c sx ⟨hS, lo, rfl, hR, hlo, hxl⟩
  have e : lo = a₀.size := by omega
  rw [e] at hR
  exact ⟨hS, lo, rfl, hR⟩
 ·rintro c sx ⟨hS, lo, rfl, hR⟩
  try dsimp only
  refine wpS_bind (wpS_mono (wpS_forRange (I := fun x c sy => c = (none, ()) ∧ SG a₀ sy ∧ Runs (arrOf sy) 0 (pendingOf sy).toList a₀.size ∧ (pendingOf sy).size + x ≤ a₀.size) (Q := fun c sy => c = (none, ()) ∧ SG a₀ sy ∧ Runs (arrOf sy) 0 (pendingOf sy).toList a₀.size ∧ (pendingOf sy).size ≤ 1) ?_ ?_ ⟨rfl, hS, hR, ?_⟩) ?_)
  ·rintro x c sy - hx ⟨rfl, hS, hR, hz⟩
   refine wpS_bind (wpS_get ?_)
   by_cases h1 : (pendingOf sy).size ≤ 1
   ·refine ifT h1 ?_
    exact wpS_pure ⟨rfl, hS, hR, h1⟩
   ·refine ifF h1 ?_
    have hj2 : ∀ (c : Bool) (n : Nat), ¬ n ≤ 1 → (if c = true then n - 2 - 1 else n - 2) + 1 < n := by
     intro c n hn
     cases c
     ·rw [if_neg (by decide)]; omega
     ·rw [if_pos rfl]; omega
    refine wpS_bind (wpS_mergeR h0 hS hR (hj2 _ _ h1) (Nat.le_refl _) fun sz g1 g2 g3 g4 => ?_)
    try dsimp only
    refine ifF (by decide) ?_
    exact wpS_pure ⟨rfl, g1, g2, by omega⟩
  ·rintro c sy ⟨rfl, hS, hR, hz⟩
   exact ⟨rfl, hS, hR, by omega⟩
  ·have := runs_le hR
   rw [Array.length_toList] at this
   omega
  ·rintro c sy ⟨rfl, hS, hR, hz⟩
   try dsimp only
   refine wpS_pure (h sy hS.perm hS.failed ?_)
   rcases hl : (pendingOf sy).toList with _ | ⟨q, _ | ⟨q2, r⟩⟩
   ·rw [hl] at hR
    have e : 0 = a₀.size := hR
    intro i j _ hj
    omega
   ·rw [hl] at hR
    obtain ⟨r1, r2, r3, r4⟩ := hR
    have e : 0 + q.2.1 = a₀.size := r4
    rw [e] at r3
    exact fun i j hij hj => r3 i j (Nat.zero_le _) hij hj
   ·have := congrArg List.length hl
    rw [Array.length_toList, List.length_cons, List.length_cons] at this
    omega
end
end SoP
end
section
set_option Elab.async false
set_option linter.all false
set_option maxRecDepth 100000
set_option maxHeartbeats 4000000
namespace SoP
open PySem PyProof.Rows PySem.W
def PairAt (h : Heap) (v : Value) : Prop := ∃ (a : Addr) (o : Obj) (i j : Int) (n : Nat) (t u : Tok), v = .ref a ∧ h.get? a = some o ∧ o.cls = .type "tuple" ∧ o.data = .seq #[.int i t, .int j u] n ∧ 0 ≤ j ∧ j < 1000
theorem PairAt.keep {h h' : Heap} {v : Value} (x : PairAt h v) (k : ∀ b o, h.get? b = some o → h'.get? b = some o) : PairAt h' v := by
 obtain ⟨a, o, i, j, n, t, u, e, ho, r⟩ := x
 exact ⟨a, o, i, j, n, t, u, e, k _ _ ho, r⟩
def pk (h : Heap) : Value → Int
 | .ref a => match h.get? a with
  | some o => match o.data with
   | .seq xs _ => numOf (xs.getD 0 .none) * 1000 + numOf (xs.getD 1 .none)
   | _ => 0
  | none => 0
 | _ => 0
@[reducible] def kn (h : Heap) : Kn := ⟨tuples' true, fun p => pk h p.1, fun p => PairAt h p.1⟩
section
variable {prog : Program} {w : World} {A : Around} {E : Value → Shared → Prop} {s : Shared}
theorem kn_lt : @KnLt (kn s.heap) prog w A s := by
 refine @KnLt.mk (kn s.heap) prog w A s fun x y E Q hx hy h => ?_
 obtain ⟨a, o, i, j, n, t, u, e, ho, hc, hd, j0, j1⟩ := (show PairAt s.heap x.1 from hx)
 obtain ⟨a', o', i', j', n', t', u', e', ho', hc', hd', j0', j1'⟩ := (show PairAt s.heap y.1 from hy)
 have k1 : pk s.heap x.1 = i * 1000 + j := by rw [e]; simp only [pk]; rw [ho]; simp only; rw [hd]; rfl
 have k2 : pk s.heap y.1 = i' * 1000 + j' := by rw [e']; simp only [pk]; rw [ho']; simp only; rw [hd']; rfl
 have h' : Q (decide (pk s.heap x.1 < pk s.heap y.1)) s := h
 rw [k1, k2] at h'
 show wpAny (model prog w) A (keyLt' (tuples' true) x.1 y.1) Q E s
 rw [e, e']
 refine kat_lt ho hd ho' hd' ?_
 show KatLex prog w A true (decide (2 < 2)) Q [(.int i t, .int i' t'), (.int j u, .int j' u')] 0 s
 refine kat_cons (wpAny_eqBool_int ?_)
 by_cases hi : i = i'
 ·rw [show (i == i') = true by simpa using hi]
  refine kat_yes (kat_cons (wpAny_eqBool_int ?_))
  by_cases hj : j = j'
  ·rw [show (j == j') = true by simpa using hj]
   refine kat_yes (kat_nil ?_)
   rw [show decide ((2 : Nat) < 2) = decide (i * 1000 + j < i' * 1000 + j') by rw [decide_eq_false (by omega), decide_eq_false (by omega)]]
   exact h'
  ·rw [show (j == j') = false by simpa using hj]
   refine kat_no ?_
   show wpAny (model prog w) A (oneLt' false (.int j u) (.int j' u')) Q _ s
   refine kat_one _ _ (lt_int ?_)
   show Q (decide (j < j')) s
   rw [show decide (j < j') = decide (i * 1000 + j < i' * 1000 + j') from decide_eq_decide.mpr (by omega)]
   exact h'
 ·rw [show (i == i') = false by simpa using hi]
  refine kat_no ?_
  show wpAny (model prog w) A (oneLt' true (.int i t) (.int i' t')) Q _ s
  refine oneLt_int ?_
  rw [show decide (i < i') = decide (i * 1000 + j < i' * 1000 + j') from decide_eq_decide.mpr (by omega)]
  exact h'
theorem pair_firsts {h : Heap} : ∀ (vs : List Value), (∀ v ∈ vs, PairAt h v) → ∃ fs : List Value, KatTups h vs fs ∧ fs.length = vs.length ∧ ∀ v ∈ fs, ∃ (i : Int) (t : Tok), v = .int i t
 | [], _ => ⟨[], .nil, rfl, fun v hv => (by cases hv)⟩
 | v :: vs, hp => by
  obtain ⟨fs, h1, h2, h3⟩ := pair_firsts vs fun u hu => hp u (List.mem_cons_of_mem _ hu)
  obtain ⟨a, o, i, j, n, t, u, e, ho, hc, hd, _⟩ := hp v (List.mem_cons_self ..)
  subst e
  refine ⟨.int i t :: fs, .cons ho hc hd rfl h1, by simp [h2], fun v hv => ?_⟩
  rcases List.mem_cons.mp hv with z | z
  ·exact ⟨i, t, z⟩
  ·exact h3 v z
theorem sort_tree {a : Addr} {vs : List Value} {n : Nat} {P : Fin → Shared → Prop} (ho : s.heap.get? a = some (seqObj "list" vs.toArray n)) (hI : ∀ v ∈ vs, PairAt s.heap v) (hz : vs.length ≤ sizeLine)
  (h : ∀ (out : Array Value), out.toList.Perm vs → P (.done (.ret .none)) { s with heap := sortedHeap s.heap a vs out }) :
  wpAny (model prog w) A (Builtin.«list.sort» ⟨[.ref a], []⟩) P E s := by
 rw [list_sort_plain]
 have ha : a < s.heap.objs.size := Heap.lt_size ho
 have hsz : vs.toArray.size = vs.length := by simp
 refine wpAny_bind (listItems_at ho rfl (wpAny_bind (listUpdate_at ho rfl ?_ (by rw [hsz]; exact hz))))
 obtain ⟨e1, ho1⟩ : ∃ e1, (s.heap.update a (Obj.mapSeq fun _ => #[])).get? a = some (seqObj "list" #[] e1) := ⟨_, get?_update_seq ho (fun _ => #[])⟩
 refine wpAny_bind (seqEpoch_at ho1 rfl (wpAny_bind (wpAny_newTuple ?_ (by size_fits))))
 refine wpAny_bind (wpAny_newList (wpAny_holding ?_))
 have ho6 : (((s.heap.update a (Obj.mapSeq fun _ => #[])).push (seqObj "tuple" vs.toArray 0)).push (seqObj "list" #[] 0)).get? a = some (seqObj "list" #[] e1) := by
  have q1 : a ≠ ((s.heap.update a (Obj.mapSeq fun _ => #[])).push (seqObj "tuple" vs.toArray 0)).objs.size := by rw [size_push', Heap.size_update]; exact Nat.ne_of_lt (Nat.lt_succ_of_lt ha)
  have q2 : a ≠ (s.heap.update a (Obj.mapSeq fun _ => #[])).objs.size := by rw [Heap.size_update]; exact Nat.ne_of_lt ha
  rw [Heap.get?_push_ne _ _ _ q1, Heap.get?_push_ne _ _ _ q2]
  exact ho1
 have hI6 : ∀ v ∈ vs, PairAt (((s.heap.update a (Obj.mapSeq fun _ => #[])).push (seqObj "tuple" vs.toArray 0)).push (seqObj "list" #[] 0)) v := fun v hv => by
  obtain ⟨b, o, i, j, n', t, u, e, hb, hc, r⟩ := hI v hv
  have nb : b ≠ a := fun z => by rw [z, ho] at hb; cases hb; exact absurd (show Value.type "list" = Value.type "tuple" from hc) (by decide)
  refine ⟨b, o, i, j, n', t, u, e, ?_, hc, r⟩
  refine Heap.get?_push_of_some _ (Heap.get?_push_of_some _ ?_)
  rw [Heap.get?_update_ne _ _ _ _ nb]
  exact hb
 show wpAny (model prog w) A _ P E { s with heap := ((s.heap.update a (Obj.mapSeq fun _ => #[])).push (seqObj "tuple" vs.toArray 0)).push (seqObj "list" #[] 0) }
 dsimp only
 by_cases h2 : vs.toArray.size < 2
 ·rw [if_pos h2, if_pos h2]
  refine wpAny_bind (wpAny_pure ?_)
  rw [StateT.run_pure]
  refine wpAny_bind (wpAny_pure ?_)
  dsimp only
  refine wpAny_bind (seqEpoch_at ho6 rfl ?_)
  refine wpAny_bind (listUpdate_at ho6 rfl ?_ (hsz2 := by rw [Array.size_map]; show (pairsOf vs).size ≤ _; rw [pairsOf_size]; omega))
  simp only [bne_self_eq_false, Bool.false_eq_true, if_false]
  refine wpAny_pure (h _ ?_)
  have e : ((vs.toArray.zip vs.toArray).map (·.2)).toList = vs := by simp [List.map_snd_zip]
  exact List.Perm.of_eq e
 rw [if_neg h2, if_neg h2]
 obtain ⟨fs, t1, t2, t3⟩ := pair_firsts vs hI6
 refine wpAny_bind (kat_kind (T := .type "int") t1 (by omega) (fun v hv => ?_) rfl ?_)
 ·obtain ⟨i, t, e⟩ := t3 v hv
  subst e
  exact Looks.of_pure rfl
 have h : ∀ (out : Array Value), out.toList.Perm vs → P (.done (.ret .none)) { s with heap := (((s.heap.update a (Obj.mapSeq fun _ => #[])).push (seqObj "tuple" vs.toArray 0)).push (seqObj "list" #[] 0)).update a (Obj.mapSeq fun _ => out) } := h
 generalize ((s.heap.update a (Obj.mapSeq fun _ => #[])).push (seqObj "tuple" vs.toArray 0)).push (seqObj "list" #[] 0) = h6 at ho6 hI6 h ⊢
 letI : Kn := kn h6
 haveI : KnLt prog w A { s with heap := h6 } := kn_lt (s := { s with heap := h6 })
 have hI7 : IntKeys (pairsOf vs) := fun p hp => by
  rw [pairsOf_toList] at hp
  exact hI6 _ (mem_zip_self hp).2
 refine wpAny_bind (wpAny_mono (wpS_sortRunsG (a₀ := pairsOf vs) (st := SortSt.mk' (tuples' true) (vs.toArray.zip vs.toArray) #[] 7 none)
  (Q := fun _ sx => (arrOf sx).Perm (pairsOf vs) ∧ failedOf sx = none) hI7 ⟨Array.Perm.refl _, rfl, rfl⟩ rfl fun sx a1 a2 a3 => ⟨a1, a2⟩) ?_ fun _ _ e => e)
 rintro ⟨⟨⟩, sx⟩ s' ⟨rfl, hp, hf⟩
 dsimp only
 refine wpAny_bind (seqEpoch_at ho6 rfl ?_)
 refine wpAny_bind (listUpdate_at ho6 rfl ?_ (hsz2 := ?_))
 ·rw [hf]
  simp only [bne_self_eq_false, Bool.false_eq_true, if_false]
  refine wpAny_pure ?_
  have q := h ((arrOf sx).map (·.2)) ?_
  ·exact q
  have hl := Array.perm_iff_toList_perm.mp hp
  rw [Array.toList_map, pairsOf_toList] at *
  have := hl.map Prod.snd
  rwa [List.map_snd_zip (Nat.le_refl _)] at this
 ·refine Nat.le_trans (Nat.le_of_eq ((Array.size_map ..).trans (hp.size_eq.trans (pairsOf_size _)))) ?_
  omega
theorem sorted_tail {vs : List Value} {x : Value} {Q : Value → Shared → Prop} (hc : ∀ (Q' : List Value → Shared → Prop) (E' : Value → Shared → Prop),
   (∀ h' tk, (∀ b o, s.heap.get? b = some o → h'.get? b = some o) → s.heap.objs.size < h'.objs.size → Q' vs { s with heap := h', toks := tk }) → wpAny (model prog w) A.in1 (collect x) Q' E' s) (hz : vs.length ≤ sizeLine) (hI : ∀ v ∈ vs, PairAt s.heap v)
  (h : ∀ (h' : Heap) (tk e : Nat) (a : Addr) (out : Array Value), (∀ b o, s.heap.get? b = some o → h'.get? b = some o) → s.heap.objs.size ≤ a → h'.get? a = some (seqObj "list" out e) → out.toList.Perm vs → Q (.ref a) { s with heap := h', toks := tk }) :
  wpAny (model prog w) A (call (.builtin "sorted") [x]) Q E s := by
 refine Calls.call_function_entry kind_sorted plain_sorted entry_sorted (args_sorted1 _) ?_
 unfold Builtin.«sorted»
 refine wpAny_bind (m := checkCount "sorted" 1 1 _) (wpAny_pure ?_)
 refine wpAny_bind (hc _ _ fun h1 tk kp hs => ?_)
 refine wpAny_bind (wpAny_newList ?_ hz)
 have hoL : (h1.push (seqObj "list" vs.toArray 0)).get? h1.objs.size = some (seqObj "list" vs.toArray 0) := Heap.get?_push_size _ rfl
 show wpAny _ _ _ _ _ { s with heap := h1.push (seqObj "list" vs.toArray 0), toks := tk }
 refine wpAny_bind (wpAny_holding (wpAny_call_entry slot_list_sort ⟨_, hoL, rfl⟩ entry_list_sort (sort_tree hoL (fun v hv => ((hI v hv).keep kp).keep fun b o e => Heap.get?_push_of_some _ e) hz fun out a2 => ⟨_, rfl, ?_⟩) (args_list_sort _)))
 obtain ⟨e, he⟩ := sortedHeap_at (out := out) hoL
 refine wpAny_pure ⟨_, rfl, h _ tk e h1.objs.size out (fun b o q => ?_) (Nat.le_of_lt hs) he a2⟩
 have hb := Heap.lt_size (kp b o q)
 rw [sortedHeap_old (Nat.ne_of_lt hb) (by rw [size_push']; exact Nat.lt_succ_of_lt hb)]
 exact Heap.get?_push_of_some _ (kp b o q)
end
end SoP
namespace L2
open PySem PySem.Spec PySem.Calls PyProof.Rows PySem.W
section
variable {X : Cx}
theorem vals_refs : ∀ (rs : List Addr) (its : List Value), Vals (rs.map V.ref) its → its = rs.map Value.ref
 | [], its, h => by cases h; rfl
 | r :: rs, its, h => by
  cases h with
  | cons h1 h2 => cases h1; rw [vals_refs rs _ h2]; rfl
theorem refs_vals : ∀ (rs : List Addr), Vals (rs.map V.ref) (rs.map Value.ref)
 | [] => .nil
 | r :: rs => .cons rfl (refs_vals rs)
def unref : Value → Addr
 | .ref a => a
 | _ => 0
theorem perm_refs {rs : List Addr} {out : List Value} (h : out.Perm (rs.map Value.ref)) : ∃ rs' : List Addr, out = rs'.map Value.ref ∧ rs'.Perm rs := by
 refine ⟨out.map unref, ?_, ?_⟩
 ·rw [List.map_map]
  have : ∀ v ∈ out, (Value.ref ∘ unref) v = v := fun v hv => by
   obtain ⟨r, _, rfl⟩ := List.mem_map.mp (h.mem_iff.mp hv)
   rfl
  exact (List.map_id out).symm.trans (List.map_congr_left fun v hv => (this v hv).symm)
 ·have := h.map unref
  rwa [List.map_map, show (unref ∘ Value.ref) = id from rfl, List.map_id] at this
def rSortP (xs : List V) (H : Hp) (Q : VK) : Prop := ∃ (p : Addr) (rs : List Addr), xs = [.ref p] ∧ H p = some (.lst (rs.map V.ref)) ∧ (∀ r ∈ rs, ∃ i j : Int, H r = some (.tup [.int i, .int j]) ∧ 0 ≤ j ∧ j < 1000) ∧
 ∀ l (rs' : List Addr), H l = none → rs'.Perm rs → Q (.ref l) (upd H l (.lst (rs'.map V.ref)))
theorem call_sortP : CallR X (.builtin "sorted") rSortP := by
 intro pins s σ H xs us Q I r h
 obtain ⟨p, rs, rfl, hp, hr, q⟩ := h
 obtain ⟨u, rfl, rx⟩ := vals1 r
 cases rx
 obtain ⟨its, n, r', ho, hz⟩ := I.lst hp
 have ei := vals_refs rs its r'
 subst ei
 rw [List.length_map] at hz
 refine SoP.sorted_tail (vs := rs.map Value.ref) (fun Q' E' hq => ?_) (by rw [List.length_map]; exact hz) (fun v hv => ?_) fun h' tk e' a' out kp ha he hp' => ?_
 ·refine collect_list (PySem.IsL.isList (n := n) ho) (hq _ s.toks (fun b o e => ?_) ?_) (by simp only [List.size_toArray, List.length_map]; exact hz)
  ·rw [Heap.get?_update_ne _ _ _ _ (Nat.ne_of_lt (Heap.lt_size e))]
   exact Heap.get?_push_of_some _ e
  ·rw [Heap.size_update, size_push']; exact Nat.lt_succ_self _
 ·obtain ⟨r0, hr0, rfl⟩ := List.mem_map.mp hv
  obtain ⟨i, j, e, j0, j1⟩ := hr r0 hr0
  obtain ⟨_, its2, v2, ⟨o, q1, q2, n2, q3⟩⟩ := I.hok _ _ e
  cases v2 with
  | cons a1 a2 => cases a2 with
   | cons a3 a4 =>
    cases a4
    obtain ⟨t1, e1⟩ := a1
    obtain ⟨t2, e2⟩ := a3
    subst e1 e2
    exact ⟨r0, o, i, j, n2, t1, t2, rfl, q1, q2, q3, j0, j1⟩
 ·obtain ⟨rs', e2, hpm⟩ := perm_refs hp'
  exact ⟨.ref a', _, I.laid (t' := tk) kp ha (show ObjOk X.prog X.w _ h' _ (.lst (rs'.map V.ref)) from ⟨by rw [List.length_map, hpm.length_eq]; exact hz, out.toList, e', by rw [e2]; exact refs_vals rs', by simpa using he⟩), rfl, q _ _ (I.hok.fresh ha) hpm⟩
def tChain3 (r r' r2 : R2) (ta tb tc td : TE) : TT := fun σ H Q => ta σ H fun x H1 => tb σ H1 fun y H2 => r x y H2 fun z H3 => ∃ k, z = .bl k ∧
 (if k = true then tc σ H3 fun x2 H4 => r' y x2 H4 fun z2 H5 => ∃ k2, z2 = .bl k2 ∧ (if k2 = true then td σ H5 fun x3 H6 => r2 x2 x3 H6 fun z3 H7 => ∃ k3, z3 = .bl k3 ∧ Q k3 H7 else Q false H5) else Q false H3)
theorem pt_chain3 {a b c d : Expr} {pos : Pos} {ta tb tc td : TE} {op op' op2 : CmpOp} {r r' r2 : R2} (ho : OpR X (compareOp op) r) (ho' : OpR X (compareOp op') r') (ho2 : OpR X (compareOp op2) r2) (ha : PE X a ta) (hb : PE X b tb) (hc : PE X c tc) (hd : PE X d td)
  (hm : lastMarks [op, op', op2] [b, c, d] = false := by with_unfolding_all rfl) : PT X (.Compare a [op, op', op2] [b, c, d] pos) (tChain3 r r' r2 ta tb tc td) := by
 intro pins s σ H Q I h
 refine isTrue_chain (thn (ha pins s σ H _ I h) fun v s1 ⟨x, H1, I1, r1, q1⟩ => test_link (thn (hb pins s1 σ H1 _ I1 q1) fun u s2 ⟨y, H2, I2, r2, q2⟩ =>
  thn (ho pins s2 σ H2 x y v u _ I2 r1 r2 q2) fun d s3 ⟨z, H3, I3, r3, k, e, q3⟩ => ?_)) hm
 subst e
 cases r3
 refine wpAny_truthy_bool ?_
 cases k with
 | false => exact ite_ff ⟨H3, I3, q3⟩
 | true =>
  refine ite_tt (test_link (thn (hc pins s3 σ H3 _ I3 q3) fun w' s4 ⟨z', H4, I4, r4, q4⟩ => thn (ho' pins s4 σ H4 y z' u w' _ I4 r2 r4 q4) fun d' s5 ⟨z2, H5, I5, r5, k2, e2, q5⟩ => ?_))
  subst e2
  cases r5
  refine wpAny_truthy_bool ?_
  cases k2 with
  | false => exact ite_ff ⟨H5, I5, q5⟩
  | true =>
   refine ite_tt (test_last (thn (hd pins s5 σ H5 _ I5 q5) fun w6 s6 ⟨z6, H6, I6, r6, q6⟩ => thn (ho2 pins s6 σ H6 z' z6 w' w6 _ I6 r4 r6 q6) fun d7 s7 ⟨z7, H7, I7, r7, k7, e7, q7⟩ => ?_))
   subst e7
   cases r7
   exact wpAny_truthy_bool ⟨H7, I7, q7⟩
def rSetSl : V → Option Int → Option Int → V → Hp → (Hp → Prop) → Prop := fun o lo hi v H Q => ∃ (p q : Addr) (xs ys : List V) (a c : Nat), o = .ref p ∧ v = .ref q ∧ lo = some (a : Int) ∧ hi = some (c : Int) ∧ H p = some (.lst xs) ∧ H q = some (.lst ys) ∧ p ≠ q ∧ a ≤ c ∧ c ≤ xs.length ∧ xs.length + ys.length ≤ sizeLine ∧
 Q (upd H p (.lst (xs.take a ++ ys ++ xs.drop c)))
def gSl (to : TE) (tl th : TO) : TG := fun v σ H Q => to σ H fun o H1 => tl σ H1 fun l H2 => th σ H2 fun u H3 => rSetSl o l u v H3 fun H4 => Q σ H4
theorem pg_slice {o : Expr} {lo hi : Option Expr} {to : TE} {tl th : TO} {pos p2 : Pos} (ho : PE X o to) (hl : PO X lo tl) (hu : PO X hi th)
  (ha : ∀ v, assign (.Subscript o (.Slice lo hi none p2) pos) X.env v = (do
   let ov ← holding [v] (eval o X.env)
   let iv ← holding [v, ov] (eval (.Slice lo hi none p2) X.env)
   standAt pos
   holding [v, ov, iv] (setItem ov iv v)
   release [iv, v, ov] []) := by intro _; rfl) : PG X (.Subscript o (.Slice lo hi none p2) pos) (gSl to tl th) := by
 intro pins s σ H v u Q I r h
 rw [ha]
 refine wpAny_bind (wpAny_holding (thn (ho pins s σ H _ I h) fun ov s1 ⟨x, H1, I1, r1, q1⟩ => ?_))
 refine wpAny_bind (wpAny_holding (wpAny_Slice (thn (hl pins s1 σ H1 _ I1 q1) fun vl s2 ⟨l, H2, I2, pl, q2⟩ => thn (hu pins s2 σ H2 _ I2 q2) fun vu s3 ⟨uu, H3, I3, pu, q3⟩ => ?_)))
 rw [evalPart_none]
 refine wpAny_pure ?_
 have I4 : Inv X pins σ H3 { s3 with heap := s3.heap.push { cls := .type "slice", data := .fields #[vl, vu, .none] } } := I3.kept (t' := s3.toks) fun b ob q => Heap.get?_push_of_some _ q
 refine wpAny_bind (wpAny_standAt (wpAny_bind (wpAny_holding ?_)))
 obtain ⟨p, q, xs, ys, a, c, rfl, rfl, rfl, rfl, hp, hq, hne, hac, hc, hz, q4⟩ := q3
 cases r1
 cases r
 cases pl
 cases pu
 refine set_slice I4 hp hq hne (Heap.IsSliceOf.new ..) ⟨_, rfl⟩ ⟨_, rfl⟩ (by omega) (by omega) (by omega) hz fun s' I5 => ?_
 exact wpAny_release ⟨σ, _, I5, q4⟩
end
end L2
end
section
set_option Elab.async false
set_option linter.all false
set_option maxRecDepth 100000
set_option maxHeartbeats 4000000
namespace K11
open PySem L2 BK
def top (i : Nat) : Stmt := PySem.Challenge.pw_blockkeep_k11_words_of_nodes.main.body.getD i (.Pass ⟨0, 0, 0, 0⟩)
abbrev s_is_whole : Stmt := top 14
theorem sc_is_whole : FnScope ["thing", "least", "most"] ["thing", "least", "most"] (defScope s_is_whole) := ⟨rfl, rfl, rfl, by decide +kernel, rfl, by decide +kernel, by decide +kernel⟩
abbrev s_Layout___init__ : Stmt := inClass (top 45) 0
theorem sc_Layout___init__ : FnScope ["self", "many", "tables"] ["self", "many", "tables"] (defScope s_Layout___init__) := ⟨rfl, rfl, rfl, by decide +kernel, rfl, by decide +kernel, by decide +kernel⟩
abbrev s__law_cell_at : Stmt := top 51
theorem sc__law_cell_at : FnScope ["_law_script", "_law_k"] ["_law_script", "_law_k"] (defScope s__law_cell_at) := ⟨rfl, rfl, rfl, by decide +kernel, rfl, by decide +kernel, by decide +kernel⟩
abbrev s__law_order : Stmt := top 55
theorem sc__law_order : FnScope ["_law_layout", "_law_cell", "_law_step", "_law_ranked"] ["_law_layout", "_law_cell"] (defScope s__law_order) := ⟨rfl, rfl, rfl, by decide +kernel, rfl, by decide +kernel, by decide +kernel⟩
abbrev s__law_laid : Stmt := top 56
theorem sc__law_laid : FnScope ["_law_layout", "_law_script", "_law_cell", "_law_order_here", "_law_most", "_law_size", "_law_many", "_law_far"] ["_law_layout", "_law_script"] (defScope s__law_laid) := ⟨rfl, rfl, rfl, by decide +kernel, rfl, by decide +kernel, by decide +kernel⟩
abbrev s__law_drawn : Stmt := top 54
theorem sc__law_drawn : FnScope ["_law_cell", "_law_many"] ["_law_cell", "_law_many"] (defScope s__law_drawn) := ⟨rfl, rfl, rfl, by decide +kernel, rfl, by decide +kernel, by decide +kernel⟩
abbrev s_empty_row : Stmt := top 18
theorem sc_empty_row : FnScope [] [] (defScope s_empty_row) := ⟨rfl, rfl, rfl, by decide +kernel, rfl, by decide +kernel, by decide +kernel⟩
abbrev s_Disk___init__ : Stmt := inClass (top 41) 0
theorem sc_Disk___init__ : FnScope ["self", "many"] ["self", "many"] (defScope s_Disk___init__) := ⟨rfl, rfl, rfl, by decide +kernel, rfl, by decide +kernel, by decide +kernel⟩
abbrev s_Batch___init__ : Stmt := inClass (top 49) 0
theorem sc_Batch___init__ : FnScope ["self", "disk"] ["self", "disk"] (defScope s_Batch___init__) := ⟨rfl, rfl, rfl, by decide +kernel, rfl, by decide +kernel, by decide +kernel⟩
abbrev s__law_rows : Stmt := top 57
theorem sc__law_rows : FnScope ["_law_layout", "_law_words", "_law_blocks", "_law_far", "_law_node", "_law_kind", "_law_rows_here", "_law_padded", "_law_k", "_law_near", "_law_at", "_law_eight", "_law_side"] ["_law_layout", "_law_words", "_law_blocks", "_law_far", "_law_node", "_law_kind"] (defScope s__law_rows) := ⟨rfl, rfl, rfl, by decide +kernel, rfl, by decide +kernel, by decide +kernel⟩
abbrev s_Disk_blocks : Stmt := inClass (top 41) 1
theorem sc_Disk_blocks : FnScope ["self"] ["self"] (defScope s_Disk_blocks) := ⟨rfl, rfl, rfl, by decide +kernel, rfl, by decide +kernel, by decide +kernel⟩
abbrev s_Disk_refuse_no_block : Stmt := inClass (top 41) 8
theorem sc_Disk_refuse_no_block : FnScope ["self", "block"] ["self", "block"] (defScope s_Disk_refuse_no_block) := ⟨rfl, rfl, rfl, by decide +kernel, rfl, by decide +kernel, by decide +kernel⟩
abbrev s_Disk_use_up_one : Stmt := inClass (top 41) 9
theorem sc_Disk_use_up_one : FnScope ["self"] ["self"] (defScope s_Disk_use_up_one) := ⟨rfl, rfl, rfl, by decide +kernel, rfl, by decide +kernel, by decide +kernel⟩
abbrev s_is_word : Stmt := top 15
theorem sc_is_word : FnScope ["thing"] ["thing"] (defScope s_is_word) := ⟨rfl, rfl, rfl, by decide +kernel, rfl, by decide +kernel, by decide +kernel⟩
abbrev s_are_words : Stmt := top 16
theorem sc_are_words : FnScope ["thing"] ["thing"] (defScope s_are_words) := ⟨rfl, rfl, rfl, by decide +kernel, rfl, by decide +kernel, by decide +kernel⟩
abbrev s_is_row : Stmt := top 17
theorem sc_is_row : FnScope ["thing"] ["thing"] (defScope s_is_row) := ⟨rfl, rfl, rfl, by decide +kernel, rfl, by decide +kernel, by decide +kernel⟩
abbrev s_Disk_write : Stmt := inClass (top 41) 3
theorem sc_Disk_write : FnScope ["self", "block", "row"] ["self", "block", "row"] (defScope s_Disk_write) := ⟨rfl, rfl, rfl, by decide +kernel, rfl, by decide +kernel, by decide +kernel⟩
abbrev s_Layout_most_node : Stmt := inClass (top 45) 1
theorem sc_Layout_most_node : FnScope ["self"] ["self"] (defScope s_Layout_most_node) := ⟨rfl, rfl, rfl, by decide +kernel, rfl, by decide +kernel, by decide +kernel⟩
abbrev s__law_part : Stmt := top 59
theorem sc__law_part : FnScope ["_law_size", "_law_cell", "_law_begin", "_law_count", "_law_some"] ["_law_size", "_law_cell"] (defScope s__law_part) := ⟨rfl, rfl, rfl, by decide +kernel, rfl, by decide +kernel, by decide +kernel⟩
abbrev s_refuse_no_node : Stmt := top 26
theorem sc_refuse_no_node : FnScope ["layout", "node"] ["layout", "node"] (defScope s_refuse_no_node) := ⟨rfl, rfl, rfl, by decide +kernel, rfl, by decide +kernel, by decide +kernel⟩
abbrev s_first_word_of : Stmt := top 28
theorem sc_first_word_of : FnScope ["node"] ["node"] (defScope s_first_word_of) := ⟨rfl, rfl, rfl, by decide +kernel, rfl, by decide +kernel, by decide +kernel⟩
abbrev s_Disk_read : Stmt := inClass (top 41) 2
theorem sc_Disk_read : FnScope ["self", "block"] ["self", "block"] (defScope s_Disk_read) := ⟨rfl, rfl, rfl, by decide +kernel, rfl, by decide +kernel, by decide +kernel⟩
abbrev s_is_home : Stmt := top 47
theorem sc_is_home : FnScope ["disk", "block"] ["disk", "block"] (defScope s_is_home) := ⟨rfl, rfl, rfl, by decide +kernel, rfl, by decide +kernel, by decide +kernel⟩
abbrev s_Batch_read : Stmt := inClass (top 49) 1
theorem sc_Batch_read : FnScope ["self", "block"] ["self", "block"] (defScope s_Batch_read) := ⟨rfl, rfl, rfl, by decide +kernel, rfl, by decide +kernel, by decide +kernel⟩
abbrev s_block_of : Stmt := top 27
theorem sc_block_of : FnScope ["layout", "node"] ["layout", "node"] (defScope s_block_of) := ⟨rfl, rfl, rfl, by decide +kernel, rfl, by decide +kernel, by decide +kernel⟩
abbrev s_node_of : Stmt := top 25
theorem sc_node_of : FnScope ["batch", "layout", "node", "at"] ["batch", "layout", "node"] (defScope s_node_of) := ⟨rfl, rfl, rfl, by decide +kernel, rfl, by decide +kernel, by decide +kernel⟩
abbrev s_refuse_out_of_place : Stmt := top 36
theorem sc_refuse_out_of_place : FnScope ["batch", "layout", "node", "begin", "count", "size"] ["batch", "layout", "node", "begin", "count"] (defScope s_refuse_out_of_place) := ⟨rfl, rfl, rfl, by decide +kernel, rfl, by decide +kernel, by decide +kernel⟩
abbrev s_count_of_blocks : Stmt := top 35
theorem sc_count_of_blocks : FnScope ["size"] ["size"] (defScope s_count_of_blocks) := ⟨rfl, rfl, rfl, by decide +kernel, rfl, by decide +kernel, by decide +kernel⟩
abbrev s_blocks_of : Stmt := top 31
theorem sc_blocks_of : FnScope ["batch", "layout", "node", "words", "count", "near"] ["batch", "layout", "node"] (defScope s_blocks_of) := ⟨rfl, rfl, rfl, by decide +kernel, rfl, by decide +kernel, by decide +kernel⟩
abbrev s_parts : Stmt := top 37
theorem sc_parts : FnScope ["begin", "count", "end", "cuts", "at", "step"] ["begin", "count"] (defScope s_parts) := ⟨rfl, rfl, rfl, by decide +kernel, rfl, by decide +kernel, by decide +kernel⟩
abbrev s_words_of : Stmt := top 33
theorem sc_words_of : FnScope ["batch", "layout", "node", "begin", "count", "blocks", "words", "at", "step", "first"] ["batch", "layout", "node", "begin", "count"] (defScope s_words_of) := ⟨rfl, rfl, rfl, by decide +kernel, rfl, by decide +kernel, by decide +kernel⟩
abbrev s__law_whole : Stmt := top 52
theorem sc__law_whole : FnScope ["_law_found"] ["_law_found"] (defScope s__law_whole) := ⟨rfl, rfl, rfl, by decide +kernel, rfl, by decide +kernel, by decide +kernel⟩
abbrev s__law_numbers : Stmt := top 53
theorem sc__law_numbers : FnScope ["_law_found", "_law_due"] ["_law_found", "_law_due"] (defScope s__law_numbers) := ⟨rfl, rfl, rfl, by decide +kernel, rfl, by decide +kernel, by decide +kernel⟩
abbrev s_Batch_write : Stmt := inClass (top 49) 2
theorem sc_Batch_write : FnScope ["self", "block", "row"] ["self", "block", "row"] (defScope s_Batch_write) := ⟨rfl, rfl, rfl, by decide +kernel, rfl, by decide +kernel, by decide +kernel⟩
abbrev s_changed : Stmt := top 19
theorem sc_changed : FnScope ["row", "at", "words"] ["row", "at", "words"] (defScope s_changed) := ⟨rfl, rfl, rfl, by decide +kernel, rfl, by decide +kernel, by decide +kernel⟩
abbrev s_put_words : Stmt := top 34
theorem sc_put_words : FnScope ["batch", "layout", "node", "begin", "words", "count", "blocks", "at", "step", "block", "part"] ["batch", "layout", "node", "begin", "words"] (defScope s_put_words) := ⟨rfl, rfl, rfl, by decide +kernel, rfl, by decide +kernel, by decide +kernel⟩
abbrev s__law_refused : Stmt := top 58
theorem sc__law_refused : FnScope ["_law_batch", "_law_layout", "_law_node", "_law_begin", "_law_thing", "e", "_law_kinds"] ["_law_batch", "_law_layout", "_law_node", "_law_begin", "_law_thing"] (defScope s__law_refused) := ⟨rfl, rfl, rfl, by decide +kernel, rfl, by decide +kernel, by decide +kernel⟩
abbrev s__law_told : Stmt := top 61
theorem sc__law_told : FnScope ["_law_batch", "_law_layout", "_law_node", "_law_words", "_law_cell", "_law_begin", "_law_count", "_law_found"] ["_law_batch", "_law_layout", "_law_node", "_law_words", "_law_cell"] (defScope s__law_told) := ⟨rfl, rfl, rfl, by decide +kernel, rfl, by decide +kernel, by decide +kernel⟩
abbrev s__law_put : Stmt := top 60
theorem sc__law_put : FnScope ["_law_batch", "_law_layout", "_law_node", "_law_words", "_law_cell", "_law_turn", "_law_begin", "_law_count", "_law_fresh", "_law_thing", "_law_at", "_law_bad", "_law_due", "_law_handed"] ["_law_batch", "_law_layout", "_law_node", "_law_words", "_law_cell", "_law_turn"] (defScope s__law_put) := ⟨rfl, rfl, rfl, by decide +kernel, rfl, by decide +kernel, by decide +kernel⟩
abbrev s_used_by : Stmt := top 32
theorem sc_used_by : FnScope ["batch", "layout", "node", "blocks", "far"] ["batch", "layout", "node"] (defScope s_used_by) := ⟨rfl, rfl, rfl, by decide +kernel, rfl, by decide +kernel, by decide +kernel⟩
abbrev s_law : Stmt := top 62
theorem sc_law : FnScope ["_law_script", "_law_layout", "_law_node", "_law_kind", "_law_size", "_law_blocks", "_law_far", "_law_words", "_law_disk", "_law_block", "_law_row", "_law_batch", "_law_used", "_law_told_here", "_law_kept", "_law_k", "_law_cell", "_law_again", "_law_due"] ["_law_script"] (defScope s_law) := ⟨rfl, rfl, rfl, by decide +kernel, rfl, by decide +kernel, by decide +kernel⟩
structure Ad where
 cKeepError : Addr
 cBadRow : Addr
 cNoBlock : Addr
 cStopped : Addr
 cBadDisk : Addr
 cNoRoom : Addr
 cNoNode : Addr
 cTooLong : Addr
 cOutOfPlace : Addr
 cDisk : Addr
 cLayout : Addr
 cBatch : Addr
 fLayout_init : Addr
 fDisk_init : Addr
 fBatch_init : Addr
 f_blocks : Addr
 f_refuse_no_block : Addr
 f_use_up_one : Addr
 f_write : Addr
 f_most_node : Addr
 f_read : Addr
 f_Batch_read : Addr
 f_Batch_write : Addr
structure Txt (K : PySem.W.Frag) (mg : Str → Option Value) (a : Ad) : Prop where
 isinstance : mg "isinstance" = none
 int : mg "int" = none
 bool : mg "bool" = none
 list : mg "list" = none
 tuple : mg "tuple" = none
 len : mg "len" = none
 all : mg "all" = none
 range : mg "range" = none
 ValueError : mg "ValueError" = none
 sorted : mg "sorted" = none
 enumerate : mg "enumerate" = none
 min : mg "min" = none
 max : mg "max" = none
 cROW_WORDS : ∃ t, mg "ROW_WORDS" = some (.int 16 t)
 cMOST_WORD : ∃ t, mg "MOST_WORD" = some (.int 999999999 t)
 cNODE_WORDS : ∃ t, mg "NODE_WORDS" = some (.int 8 t)
 cSIZE_AT : ∃ t, mg "SIZE_AT" = some (.int 2 t)
 cPLACES_AT : ∃ t, mg "PLACES_AT" = some (.int 3 t)
 cFAR_AT : ∃ t, mg "FAR_AT" = some (.int 7 t)
 cNEAR_BLOCKS : ∃ t, mg "NEAR_BLOCKS" = some (.int 4 t)
 cLEAST_BLOCKS : ∃ t, mg "LEAST_BLOCKS" = some (.int 24 t)
 cMOST_BLOCKS : ∃ t, mg "MOST_BLOCKS" = some (.int 96 t)
 cMAPS_AT : ∃ t, mg "MAPS_AT" = some (.int 17 t)
 cMOST_TABLES : ∃ t, mg "MOST_TABLES" = some (.int 8 t)
 mKeepError : mg "KeepError" = some (.ref a.cKeepError)
 mBadRow : mg "BadRow" = some (.ref a.cBadRow)
 mNoBlock : mg "NoBlock" = some (.ref a.cNoBlock)
 mStopped : mg "Stopped" = some (.ref a.cStopped)
 mBadDisk : mg "BadDisk" = some (.ref a.cBadDisk)
 mNoRoom : mg "NoRoom" = some (.ref a.cNoRoom)
 mNoNode : mg "NoNode" = some (.ref a.cNoNode)
 mTooLong : mg "TooLong" = some (.ref a.cTooLong)
 mOutOfPlace : mg "OutOfPlace" = some (.ref a.cOutOfPlace)
 mDisk : mg "Disk" = some (.ref a.cDisk)
 mLayout : mg "Layout" = some (.ref a.cLayout)
 mBatch : mg "Batch" = some (.ref a.cBatch)
 xBadRow : PySem.W.excIn K a.cBadRow veMro "ValueError.__new__" = true
 xNoBlock : PySem.W.excIn K a.cNoBlock veMro "ValueError.__new__" = true
 xStopped : PySem.W.excIn K a.cStopped veMro "ValueError.__new__" = true
 xBadDisk : PySem.W.excIn K a.cBadDisk veMro "ValueError.__new__" = true
 xNoRoom : PySem.W.excIn K a.cNoRoom veMro "ValueError.__new__" = true
 xNoNode : PySem.W.excIn K a.cNoNode veMro "ValueError.__new__" = true
 xOutOfPlace : PySem.W.excIn K a.cOutOfPlace veMro "ValueError.__new__" = true
 eOutOfPlace : ExcK K a.cOutOfPlace
 eBadRow : ExcK K a.cBadRow
 kKeepError : CatK K a.cKeepError
 sBadRow_KeepError : PySem.W.mroIn K a.cBadRow (.ref a.cKeepError) = some true
 sNoBlock_KeepError : PySem.W.mroIn K a.cNoBlock (.ref a.cKeepError) = some true
 sStopped_KeepError : PySem.W.mroIn K a.cStopped (.ref a.cKeepError) = some true
 sBadDisk_KeepError : PySem.W.mroIn K a.cBadDisk (.ref a.cKeepError) = some true
 sNoRoom_KeepError : PySem.W.mroIn K a.cNoRoom (.ref a.cKeepError) = some true
 sNoNode_KeepError : PySem.W.mroIn K a.cNoNode (.ref a.cKeepError) = some true
 sOutOfPlace_KeepError : PySem.W.mroIn K a.cOutOfPlace (.ref a.cKeepError) = some true
 qOutOfPlace_OutOfPlace : PySem.W.kitOne K (.ref a.cOutOfPlace) (.ref a.cOutOfPlace) = some true
 qOutOfPlace_BadRow : PySem.W.kitOne K (.ref a.cOutOfPlace) (.ref a.cBadRow) = some false
 qOutOfPlace_NoBlock : PySem.W.kitOne K (.ref a.cOutOfPlace) (.ref a.cNoBlock) = some false
 qOutOfPlace_NoNode : PySem.W.kitOne K (.ref a.cOutOfPlace) (.ref a.cNoNode) = some false
 qOutOfPlace_TooLong : PySem.W.kitOne K (.ref a.cOutOfPlace) (.ref a.cTooLong) = some false
 qOutOfPlace_ValueError : PySem.W.kitOne K (.ref a.cOutOfPlace) (.type "ValueError") = some true
 qBadRow_OutOfPlace : PySem.W.kitOne K (.ref a.cBadRow) (.ref a.cOutOfPlace) = some false
 qBadRow_BadRow : PySem.W.kitOne K (.ref a.cBadRow) (.ref a.cBadRow) = some true
 qBadRow_NoBlock : PySem.W.kitOne K (.ref a.cBadRow) (.ref a.cNoBlock) = some false
 qBadRow_NoNode : PySem.W.kitOne K (.ref a.cBadRow) (.ref a.cNoNode) = some false
 qBadRow_TooLong : PySem.W.kitOne K (.ref a.cBadRow) (.ref a.cTooLong) = some false
 qBadRow_ValueError : PySem.W.kitOne K (.ref a.cBadRow) (.type "ValueError") = some true
 clDisk : Cls K a.cDisk
 n_kept_rows : NoAttr K a.cDisk "kept_rows"
 n_writes_done : NoAttr K a.cDisk "writes_done"
 n_writes_left : NoAttr K a.cDisk "writes_left"
 mkDisk : Mk K a.cDisk a.fDisk_init
 m_blocks : Meth K a.cDisk "blocks" a.f_blocks
 m_refuse_no_block : Meth K a.cDisk "refuse_no_block" a.f_refuse_no_block
 m_use_up_one : Meth K a.cDisk "use_up_one" a.f_use_up_one
 m_write : Meth K a.cDisk "write" a.f_write
 m_read : Meth K a.cDisk "read" a.f_read
 clLayout : Cls K a.cLayout
 n_many : NoAttr K a.cLayout "many"
 n_tables : NoAttr K a.cLayout "tables"
 n_maps_at : NoAttr K a.cLayout "maps_at"
 n_nodes_at : NoAttr K a.cLayout "nodes_at"
 n_data_at : NoAttr K a.cLayout "data_at"
 mkLayout : Mk K a.cLayout a.fLayout_init
 m_most_node : Meth K a.cLayout "most_node" a.f_most_node
 clBatch : Cls K a.cBatch
 n_disk : NoAttr K a.cBatch "disk"
 n_new_rows : NoAttr K a.cBatch "new_rows"
 mkBatch : Mk K a.cBatch a.fBatch_init
 m_Batch_read : Meth K a.cBatch "read" a.f_Batch_read
 m_Batch_write : Meth K a.cBatch "write" a.f_Batch_write
def Df (P : Program) (w : World) (K : PySem.W.Frag) (mg : Str → Option Value) (base : Heap) (CX : CXT) (n : Nat) (x : Str) (ps : List Str) (sp : Sp) : Prop :=
 ∃ f fd, FnOk P w K mg base CX n f fd ps sp ∧ Binds K fd ps [] ∧ PySem.W.keepIn K (.ref f) = true ∧ mg x = some (.ref f)
def Mf (P : Program) (w : World) (K : PySem.W.Frag) (mg : Str → Option Value) (base : Heap) (CX : CXT) (n : Nat) (f : Addr) (ps : List Str) (sp : Sp) : Prop :=
 ∃ fd, FnOk P w K mg base CX n f fd ps sp ∧ Binds K fd ps []
end K11
end
section
set_option Elab.async false
set_option linter.all false
set_option maxRecDepth 100000
set_option maxHeartbeats 4000000
namespace K11
open PySem L2 BK
theorem ex8 {A0 A1 A2 A3 A4 A5 A6 A7 : Type} {p : A0 → A1 → A2 → A3 → A4 → A5 → A6 → A7 → Prop} (x0 : A0) (x1 : A1) (x2 : A2) (x3 : A3) (x4 : A4) (x5 : A5) (x6 : A6) (x7 : A7) (h : p x0 x1 x2 x3 x4 x5 x6 x7) : ∃ x0 x1 x2 x3 x4 x5 x6 x7, p x0 x1 x2 x3 x4 x5 x6 x7 := ⟨x0, x1, x2, x3, x4, x5, x6, x7, h⟩
theorem ex10 {A0 A1 A2 A3 A4 A5 A6 A7 A8 A9 : Type} {p : A0 → A1 → A2 → A3 → A4 → A5 → A6 → A7 → A8 → A9 → Prop} (x0 : A0) (x1 : A1) (x2 : A2) (x3 : A3) (x4 : A4) (x5 : A5) (x6 : A6) (x7 : A7) (x8 : A8) (x9 : A9) (h : p x0 x1 x2 x3 x4 x5 x6 x7 x8 x9) : ∃ x0 x1 x2 x3 x4 x5 x6 x7 x8 x9, p x0 x1 x2 x3 x4 x5 x6 x7 x8 x9 := ⟨x0, x1, x2, x3, x4, x5, x6, x7, x8, x9, h⟩
theorem ex11 {A0 A1 A2 A3 A4 A5 A6 A7 A8 A9 A10 : Type} {p : A0 → A1 → A2 → A3 → A4 → A5 → A6 → A7 → A8 → A9 → A10 → Prop} (x0 : A0) (x1 : A1) (x2 : A2) (x3 : A3) (x4 : A4) (x5 : A5) (x6 : A6) (x7 : A7) (x8 : A8) (x9 : A9) (x10 : A10) (h : p x0 x1 x2 x3 x4 x5 x6 x7 x8 x9 x10) : ∃ x0 x1 x2 x3 x4 x5 x6 x7 x8 x9 x10, p x0 x1 x2 x3 x4 x5 x6 x7 x8 x9 x10 := ⟨x0, x1, x2, x3, x4, x5, x6, x7, x8, x9, x10, h⟩
theorem ex14 {A0 A1 A2 A3 A4 A5 A6 A7 A8 A9 A10 A11 A12 A13 : Type} {p : A0 → A1 → A2 → A3 → A4 → A5 → A6 → A7 → A8 → A9 → A10 → A11 → A12 → A13 → Prop} (x0 : A0) (x1 : A1) (x2 : A2) (x3 : A3) (x4 : A4) (x5 : A5) (x6 : A6) (x7 : A7) (x8 : A8) (x9 : A9) (x10 : A10) (x11 : A11) (x12 : A12) (x13 : A13) (h : p x0 x1 x2 x3 x4 x5 x6 x7 x8 x9 x10 x11 x12 x13) : ∃ x0 x1 x2 x3 x4 x5 x6 x7 x8 x9 x10 x11 x12 x13, p x0 x1 x2 x3 x4 x5 x6 x7 x8 x9 x10 x11 x12 x13 := ⟨x0, x1, x2, x3, x4, x5, x6, x7, x8, x9, x10, x11, x12, x13, h⟩
theorem ex16 {A0 A1 A2 A3 A4 A5 A6 A7 A8 A9 A10 A11 A12 A13 A14 A15 : Type} {p : A0 → A1 → A2 → A3 → A4 → A5 → A6 → A7 → A8 → A9 → A10 → A11 → A12 → A13 → A14 → A15 → Prop} (x0 : A0) (x1 : A1) (x2 : A2) (x3 : A3) (x4 : A4) (x5 : A5) (x6 : A6) (x7 : A7) (x8 : A8) (x9 : A9) (x10 : A10) (x11 : A11) (x12 : A12) (x13 : A13) (x14 : A14) (x15 : A15) (h : p x0 x1 x2 x3 x4 x5 x6 x7 x8 x9 x10 x11 x12 x13 x14 x15) : ∃ x0 x1 x2 x3 x4 x5 x6 x7 x8 x9 x10 x11 x12 x13 x14 x15, p x0 x1 x2 x3 x4 x5 x6 x7 x8 x9 x10 x11 x12 x13 x14 x15 := ⟨x0, x1, x2, x3, x4, x5, x6, x7, x8, x9, x10, x11, x12, x13, x14, x15, h⟩
theorem ex17 {A0 A1 A2 A3 A4 A5 A6 A7 A8 A9 A10 A11 A12 A13 A14 A15 A16 : Type} {p : A0 → A1 → A2 → A3 → A4 → A5 → A6 → A7 → A8 → A9 → A10 → A11 → A12 → A13 → A14 → A15 → A16 → Prop} (x0 : A0) (x1 : A1) (x2 : A2) (x3 : A3) (x4 : A4) (x5 : A5) (x6 : A6) (x7 : A7) (x8 : A8) (x9 : A9) (x10 : A10) (x11 : A11) (x12 : A12) (x13 : A13) (x14 : A14) (x15 : A15) (x16 : A16) (h : p x0 x1 x2 x3 x4 x5 x6 x7 x8 x9 x10 x11 x12 x13 x14 x15 x16) : ∃ x0 x1 x2 x3 x4 x5 x6 x7 x8 x9 x10 x11 x12 x13 x14 x15 x16, p x0 x1 x2 x3 x4 x5 x6 x7 x8 x9 x10 x11 x12 x13 x14 x15 x16 := ⟨x0, x1, x2, x3, x4, x5, x6, x7, x8, x9, x10, x11, x12, x13, x14, x15, x16, h⟩
theorem ex18 {A0 A1 A2 A3 A4 A5 A6 A7 A8 A9 A10 A11 A12 A13 A14 A15 A16 A17 : Type} {p : A0 → A1 → A2 → A3 → A4 → A5 → A6 → A7 → A8 → A9 → A10 → A11 → A12 → A13 → A14 → A15 → A16 → A17 → Prop} (x0 : A0) (x1 : A1) (x2 : A2) (x3 : A3) (x4 : A4) (x5 : A5) (x6 : A6) (x7 : A7) (x8 : A8) (x9 : A9) (x10 : A10) (x11 : A11) (x12 : A12) (x13 : A13) (x14 : A14) (x15 : A15) (x16 : A16) (x17 : A17) (h : p x0 x1 x2 x3 x4 x5 x6 x7 x8 x9 x10 x11 x12 x13 x14 x15 x16 x17) : ∃ x0 x1 x2 x3 x4 x5 x6 x7 x8 x9 x10 x11 x12 x13 x14 x15 x16 x17, p x0 x1 x2 x3 x4 x5 x6 x7 x8 x9 x10 x11 x12 x13 x14 x15 x16 x17 := ⟨x0, x1, x2, x3, x4, x5, x6, x7, x8, x9, x10, x11, x12, x13, x14, x15, x16, x17, h⟩
section
variable {P : Program} {w : World} {K : PySem.W.Frag} {mg : Str → Option Value} {base : Heap} {f : Addr} {fd : FuncData} {a : Ad}
def spWhole (K : PySem.W.Frag) (_ : Ad) : Sp := fun vs H Q _ => ∃ v lo hi, vs = [v, .int lo, .int hi] ∧ Kd K H v ∧ Q (.bl (wholeV v lo hi)) H
theorem ok_is_whole (F : Fun K "is_whole" "is_whole" s_is_whole f fd) (T : Txt K mg a)  : FnOk P w K mg base CX0 1 f fd ["thing", "least", "most"] (spWhole K a) := by
 have nd := sc_is_whole.nd
 refine F.ok sc_is_whole (fun vs H Q E h => ?_) (fun cdv A outer s H vs Q E hr h => ?_)
 ·obtain ⟨v, lo, hi, rfl, _⟩ := h
  rfl
 obtain ⟨v, lo, hi, rfl, ⟨t, ty, e1, e2, _⟩, q⟩ := h
 refine ⟨_, (pss_one (ps_ret (pe_and (pe_callB (call_isinstK (K := K) (T := "int") rfl) rfl T.isinstance bt_isinstance (pa_cons (pv 0) (pa_cons (pe_bltn (v := .ty "int") rfl T.int bt_int rfl) pa_nil))) (pe_and (pe_not (pe_callB (call_isinstK (K := K) (T := "bool") rfl) rfl T.isinstance bt_isinstance (pa_cons (pv 0) (pa_cons (pe_bltn (v := .ty "bool") rfl T.bool bt_bool rfl) pa_nil)))) (pe_one (pe_chain op_le op_le (pv 1) (pv 0) (pv 2))))))), ?_⟩
 refine ⟨_, rfl, _, t, _, rfl, ty, e1, _, rfl, ?_⟩
 cases v with
 | int i =>
  refine iteT ⟨_, rfl, _, t, _, rfl, ty, e2, _, rfl, _, rfl, iteT ?_⟩
  refine ⟨_, rfl, _, rfl, _, _, rfl, rfl, _, rfl, ?_⟩
  refine ite2 (fun c => ?_) (fun c => ?_)
  ·refine ⟨_, rfl, _, _, rfl, rfl, ?_⟩
   have c' : decide (lo ≤ i) = true := c
   have : wholeV (.int i) lo hi = decide (i ≤ hi) := by show (decide (lo ≤ i) && decide (i ≤ hi)) = _; rw [c', Bool.true_and]
   rw [this] at q
   exact q
  ·have c' : decide (lo ≤ i) = false := Bool.eq_false_iff.mpr c
   have : wholeV (.int i) lo hi = false := by show (decide (lo ≤ i) && decide (i ≤ hi)) = _; rw [c', Bool.false_and]
   rw [this] at q
   exact q
 | bl b => exact iteT ⟨_, rfl, _, t, _, rfl, ty, e2, _, rfl, _, rfl, iteF q⟩
 | _ => exact iteF q
def spWord (K : PySem.W.Frag) (_ : Ad) : Sp := fun vs H Q _ => ∃ v, vs = [v] ∧ Kd K H v ∧ Q (.bl (goodV v)) H
theorem ok_is_word (F : Fun K "is_word" "is_word" s_is_word f fd) (T : Txt K mg a) (D_is_whole : Df P w K mg base CX0 1 "is_whole" ["thing", "least", "most"] (spWhole K a)) : FnOk P w K mg base CX0 2 f fd ["thing"] (spWord K a) := by
 obtain ⟨_, _, Gis_whole, bis_whole, kis_whole, mis_whole⟩ := D_is_whole
 have nd := sc_is_word.nd
 refine F.ok sc_is_word (fun vs H Q E h => ?_) (fun cdv A outer s H vs Q E hr h => ?_)
 ·obtain ⟨v, rfl, _⟩ := h
  rfl
 obtain ⟨v, rfl, kd, q⟩ := h
 refine ⟨_, (pss_one (ps_ret (pe_call Gis_whole (hr.mono (by decide)) rfl mis_whole kis_whole bis_whole .nil pass0 (pa_cons (pv 0) (pa_cons pe_int (pa_cons (pe_glob (v := .int 999999999) rfl T.cMOST_WORD.choose_spec ⟨_, rfl⟩) pa_nil)))))), ?_⟩
 exact ⟨_, rfl, v, 0, 999999999, rfl, kd, q⟩
def spAre (K : PySem.W.Frag) (_ : Ad) : Sp := fun vs H Q _ => ∃ v, vs = [v] ∧ Kd K H v ∧ ((isL H v = false ∧ Q (.bl false) H) ∨ ∃ a xs, v = .ref a ∧ H a = some (.lst xs) ∧ xs.length ≤ 1000 ∧ (∀ x ∈ xs, Kd K H x) ∧ ∀ H', Same H H' → Q (.bl (xs.all goodV)) H')
theorem ok_are_words (F : Fun K "are_words" "are_words" s_are_words f fd) (T : Txt K mg a) (D_is_word : Df P w K mg base CX0 2 "is_word" ["thing"] (spWord K a)) : FnOk P w K mg base CX0 3 f fd ["thing"] (spAre K a) := by
 obtain ⟨_, _, Gis_word, bis_word, kis_word, mis_word⟩ := D_is_word
 have nd := sc_are_words.nd
 refine F.ok sc_are_words (fun vs H Q E h => ?_) (fun cdv A outer s H vs Q E hr h => ?_)
 ·obtain ⟨v, rfl, _⟩ := h
  rfl
 obtain ⟨v, rfl, ⟨t, ty, e1, e2, e3⟩, ha⟩ := h
 refine ⟨_, (pss_one (ps_ret (pe_and (pe_callB (call_isinstK (K := K) (T := "list") rfl) rfl T.isinstance bt_isinstance (pa_cons (pv 0) (pa_cons (pe_bltn (v := .ty "list") rfl T.list bt_list rfl) pa_nil))) (pe_one (pe_callB (call_allK (K := K) rfl rfl) rfl T.all bt_all (pa_cons (pe_lc (cl := []) (fj := []) (by exact ⟨rfl, by decide +kernel, rfl, by decide +kernel, rfl, fun _ h => (by cases h), by decide +kernel, fun _ h => (by cases h), by decide +kernel⟩) rfl (pi_listK (K := K) rfl (pv 0)) (fun _ _ _ => pf_nil) (fun _ _ _ => (pe_call Gis_word (hr.mono (by decide)) rfl mis_word kis_word bis_word .nil pass0 (pa_cons (pv 0) pa_nil)))) pa_nil)))))), ?_⟩
 refine ⟨_, rfl, _, t, _, rfl, ty, e3, _, rfl, ?_⟩
 rcases ha with ⟨hl, q⟩ | ⟨p, xs, rfl, ha, hz, hk, q⟩
 ·exact iteF' hl q
 ·have hl : isL H (.ref p) = true := by show isLH (H _) = _; rw [ha]; rfl
  refine iteT' hl ⟨_, rfl, p, rfl, ⟨xs, SqL.of ha⟩, lc_test (sp := spWord K a) (g := goodV) (fun x H' Qf kd hq => ⟨x, rfl, kd, hq⟩) ha hz hk fun acc H' h1 h2 h3 => ?_⟩
  refine ⟨acc, xs.map goodV, rfl, SqL.of h3, ?_⟩
  rw [all_good]
  exact q H' h2
def RowA (K : PySem.W.Frag) (H : Hp) (v : V) (b : Bool) : Prop := Kd K H v ∧ ((isL H v = false ∧ b = false) ∨ ∃ a xs, v = .ref a ∧ H a = some (.lst xs) ∧ xs.length ≤ 1000 ∧ (∀ x ∈ xs, Kd K H x) ∧ b = (decide (xs.length = 16) && xs.all goodV))
def spIsRow (K : PySem.W.Frag) (_ : Ad) : Sp := fun vs H Q _ => ∃ v b, vs = [v] ∧ RowA K H v b ∧ ∀ H', Same H H' → Q (.bl b) H'
theorem ok_is_row (F : Fun K "is_row" "is_row" s_is_row f fd) (T : Txt K mg a) (D_are_words : Df P w K mg base CX0 3 "are_words" ["thing"] (spAre K a)) : FnOk P w K mg base CX0 4 f fd ["thing"] (spIsRow K a) := by
 obtain ⟨_, _, Gare_words, bare_words, kare_words, mare_words⟩ := D_are_words
 have nd := sc_is_row.nd
 refine F.ok sc_is_row (fun vs H Q E h => ?_) (fun cdv A outer s H vs Q E hr h => ?_)
 ·obtain ⟨v, b, rfl, _⟩ := h
  rfl
 obtain ⟨v, b, rfl, ⟨kd, ha⟩, q⟩ := h
 refine ⟨_, (pss_one (ps_ret (pe_and (pe_call Gare_words (hr.mono (by decide)) rfl mare_words kare_words bare_words .nil pass0 (pa_cons (pv 0) pa_nil)) (pe_one (pe_cmpR op_eq (pe_callB (call_lenK (K := K) rfl) rfl T.len bt_len (pa_cons (pv 0) pa_nil)) (pe_glob (v := .int 16) rfl T.cROW_WORDS.choose_spec ⟨_, rfl⟩) (nomark _)))))), ?_⟩
 rcases ha with ⟨hl, rfl⟩ | ⟨p, xs, rfl, ha, hz, hk, rfl⟩
 ·exact ⟨_, rfl, _, rfl, kd, .inl ⟨hl, _, rfl, iteF (q _ (Same.refl _))⟩⟩
 ·refine ⟨_, rfl, _, rfl, kd, .inr ⟨p, xs, rfl, ha, hz, hk, fun H' s' => ⟨_, rfl, ?_⟩⟩⟩
  have qq := q H' s'
  refine ite2 (fun c => ?_) (fun c => ?_)
  ·refine ⟨_, rfl, p, xs, rfl, .inl (SqL.of (s' _ _ ha)), rfl, ?_⟩
   rw [dec_V, show decide ((xs.length : Int) = 16) = decide (xs.length = 16) from decide_eq_decide.mpr (by omega)]
   have c' : xs.all goodV = true := c
   rw [c', Bool.and_true] at qq
   exact qq
  ·have c' : xs.all goodV = false := Bool.eq_false_iff.mpr c
   rw [c', Bool.and_false] at qq
   exact qq
def spEmpty (_ : PySem.W.Frag) (_ : Ad) : Sp := fun vs H Q _ => vs = [] ∧ ∀ p H', H p = none → Same H H' → H' p = some (.lst ((List.replicate 16 (0 : Int)).map V.int)) → Q (.ref p) H'
theorem ok_empty_row (F : Fun K "empty_row" "empty_row" s_empty_row f fd) (T : Txt K mg a)  : FnOk P w K mg base CX0 1 f fd [] (spEmpty K a) := by
 have nd := sc_empty_row.nd
 refine F.ok sc_empty_row (fun vs H Q E h => ?_) (fun cdv A outer s H vs Q E hr h => ?_)
 ·obtain ⟨rfl, _⟩ := h
  rfl
 obtain ⟨rfl, q⟩ := h
 refine ⟨_, (pss_one (ps_ret (pe_op op_rep (pe_lst (pa_cons pe_int pa_nil)) (pe_glob (v := .int 16) rfl T.cROW_WORDS.choose_spec ⟨_, rfl⟩)))), ?_⟩
 refine ⟨(by show 1 ≤ sizeLine; decide), fun p hp => ?_⟩
 refine ⟨p, 16, [.int 0], rfl, rfl, upd_same, by decide, by decide, (by show 1 * 16 ≤ sizeLine; decide), fun r hr' => ?_⟩
 have hrH : H r = none := (same_new hp (.lst [.int 0])).free hr'
 exact q r _ hrH ((same_new hp _).trans (same_new hr' _)) upd_same
def spChanged (_ : PySem.W.Frag) (_ : Ad) : Sp := fun vs H Q _ => ∃ (r wd : Addr) (xs ys : List V) (k : Nat), vs = [.ref r, .int k, .ref wd] ∧ H r = some (.lst xs) ∧ H wd = some (.lst ys) ∧ xs.length ≤ 300 ∧ ys.length ≤ 300 ∧ ∀ p H', H p = none → Same H H' → H' p = some (.lst (xs.take k ++ ys ++ xs.drop (k + ys.length))) → Q (.ref p) H'
theorem ok_changed (F : Fun K "changed" "changed" s_changed f fd) (T : Txt K mg a)  : FnOk P w K mg base CX0 1 f fd ["row", "at", "words"] (spChanged K a) := by
 have nd := sc_changed.nd
 refine F.ok sc_changed (fun vs H Q E h => ?_) (fun cdv A outer s H vs Q E hr h => ?_)
 ·obtain ⟨r, wd, xs, ys, k, rfl, _⟩ := h
  rfl
 obtain ⟨r, wd, xs, ys, k, rfl, hr0, hw, z1, z2, q⟩ := h
 refine ⟨_, (pss_one (ps_ret (pe_op op_cat (pe_op op_cat (pe_slice (sl_listK (K := K) rfl) (pv 0) po_none (po_some (pv 1))) (pv 2)) (pe_slice (sl_listK (K := K) rfl) (pv 0) (po_some (pe_op op_add (pv 1) (pe_callB (call_lenK (K := K) rfl) rfl T.len bt_len (pa_cons (pv 2) pa_nil)))) po_none)))), ?_⟩
 refine ⟨_, rfl, _, rfl, _, rfl, r, xs, rfl, SqL.of hr0, fun p1 n1 => ?_⟩
 rw [cut_to]
 have s1 := same_new n1 (.lst (xs.take k))
 refine ⟨_, rfl, p1, wd, _, _, rfl, rfl, upd_same, s1 _ _ hw, small (by rw [List.length_take]; omega), fun p2 n2 => ?_⟩
 have s2 := s1.trans (same_new n2 (.lst (xs.take k ++ ys)))
 refine ⟨_, rfl, _, rfl, _, rfl, wd, ys, rfl, .inl (SqL.of (s2 _ _ hw)), _, _, rfl, rfl, _, rfl, r, xs, rfl, SqL.of (s2 _ _ hr0), fun p3 n3 => ?_⟩
 dsimp only
 rw [show (k : Int) + (ys.length : Int) = ((k + ys.length : Nat) : Int) by omega, cut_from]
 have s3 := s2.trans (same_new n3 (.lst (xs.drop (k + ys.length))))
 refine ⟨p2, p3, _, _, rfl, rfl, same_new n3 _ _ _ upd_same, upd_same, small (by rw [List.length_append, List.length_take, List.length_drop]; omega), fun p4 n4 => ?_⟩
 exact q p4 _ (s3.free n4) (s3.trans (same_new n4 _)) upd_same
end
end K11
end
section
set_option Elab.async false
set_option linter.all false
set_option maxRecDepth 100000
set_option maxHeartbeats 4000000
namespace K11
open PySem L2 BK
section
variable {P : Program} {w : World} {K : PySem.W.Frag} {mg : Str → Option Value} {base : Heap} {f : Addr} {fd : FuncData} {a : Ad}
def spInit (K : PySem.W.Frag) (a : Ad) : Sp := fun vs H Q E => ∃ (x dx : Addr) (v : V), vs = [.ref x, v] ∧ H x = some (.ins a.cDisk dx []) ∧ Kd K H v ∧
 ((∃ m : Nat, v = .int m ∧ 24 ≤ m ∧ m ≤ 96 ∧ ∀ kr H', H kr = none → Chg [x] H H' → DiskAt a.cDisk H' x kr (List.replicate m (List.replicate 16 0)) 0 none → (∀ u, H u ≠ none → NoRowAt H' kr u) → Q .non H') ∨ (wholeV v 24 96 = false ∧ E (.ref a.cBadDisk) none H))
theorem rows_of {H : Hp} {vs : List V} {n : Nat} {acc : Addr} (hl : vs.length = n) (g : Nat → List Int) (h : ∀ i v, vs[i]? = some v → ∃ r, v = .ref r ∧ r ≠ acc ∧ H r = some (.lst ((g i).map V.int))) : ∃ rs : List Addr, vs = rs.map V.ref ∧ acc ∉ rs ∧ RowsAt H rs ((List.range n).map g) := by
 refine ⟨vs.map fun v => match v with | .ref r => r | _ => 0, ?_, ?_, by simp [hl], fun i r row h1 h2 => ?_⟩
 ·rw [List.map_map]
  conv => lhs; rw [← List.map_id vs]
  refine List.map_congr_left fun v hv => ?_
  obtain ⟨i, hi, e⟩ := List.mem_iff_getElem.mp hv
  obtain ⟨r, e1, _⟩ := h i v (by rw [← e]; exact List.getElem?_eq_getElem hi)
  subst e1; rfl
 ·intro hm
  obtain ⟨v, hv, e⟩ := List.mem_map.mp hm
  obtain ⟨i, hi, e'⟩ := List.mem_iff_getElem.mp hv
  obtain ⟨r, e1, e2, _⟩ := h i v (by rw [← e']; exact List.getElem?_eq_getElem hi)
  subst e1; exact e2 e
 ·rw [List.getElem?_map] at h1 h2
  cases q : vs[i]? with
  | none => rw [q] at h1; cases h1
  | some v =>
   obtain ⟨r', e1, _, e3⟩ := h i v q
   rw [q] at h1
   subst e1
   cases h1
   have hi : i < n := by rw [← hl]; exact (List.getElem?_eq_some_iff.mp q).1
   rw [List.getElem?_range hi] at h2
   cases h2
   exact e3
theorem good_zero : GoodRow (List.replicate 16 0) := ⟨by simp, fun x hx => by rw [List.eq_of_mem_replicate hx]; decide⟩
theorem map_const (n : Nat) (r : List Int) : (List.range n).map (fun _ => r) = List.replicate n r := by
 rw [List.map_const']; simp
theorem ok_Disk___init__ (F : Fun K "__init__" "Disk.__init__" s_Disk___init__ f fd) (T : Txt K mg a) (D_is_whole : Df P w K mg base CX0 1 "is_whole" ["thing", "least", "most"] (spWhole K a)) (D_empty_row : Df P w K mg base CX0 1 "empty_row" [] (spEmpty K a)) : FnOk P w K mg base (CXE P w) 2 f fd ["self", "many"] (spInit K a) := by
 obtain ⟨_, _, Gis_whole, bis_whole, kis_whole, mis_whole⟩ := D_is_whole
 obtain ⟨_, _, Gempty_row, bempty_row, kempty_row, mempty_row⟩ := D_empty_row
 have nd := sc_Disk___init__.nd
 refine F.okE sc_Disk___init__ (fun vs H Q E h => ?_) (fun cdv A outer s H vs Q E hr hA h => ?_)
 ·obtain ⟨x, dx, v, rfl, _⟩ := h
  rfl
 obtain ⟨x, dx, v, rfl, hx, kd, hq⟩ := h
 refine ⟨_, (pss_cons (ps_if (pt_not (pt_val (pe_call Gis_whole (hr.mono (by decide)) rfl mis_whole kis_whole bis_whole .nil pass0 (pa_cons (pv 1) (pa_cons (pe_glob (v := .int 24) rfl T.cLEAST_BLOCKS.choose_spec ⟨_, rfl⟩) (pa_cons (pe_glob (v := .int 96) rfl T.cMOST_BLOCKS.choose_spec ⟨_, rfl⟩) pa_nil)))))) (pss_one (ps_raise (out_fn (fun _ _ _ h => h)) rfl hA rfl T.mBadDisk T.xBadDisk (pa_cons pe_str pa_nil))) pss_nil)
  (pss_cons (ps_fld (pv 0) (pe_lc (cl := []) (fj := []) (by exact ⟨rfl, by decide +kernel, rfl, by decide +kernel, rfl, fun _ h => (by cases h), by decide +kernel, fun _ h => (by cases h), by decide +kernel⟩) rfl (pi_range1 rfl T.range (pa_cons (pv 1) pa_nil)) (fun _ _ _ => pf_nil) (fun _ _ _ => (pe_call0 Gempty_row (hr.mono (by decide)) rfl mempty_row kempty_row bempty_row .nil pass0))) rfl)
  (pss_cons (ps_fld (pv 0) pe_int rfl)
  (pss_one (ps_fld (pv 0) pe_non rfl))))), ?_⟩
 refine ⟨_, rfl, v, 24, 96, rfl, kd, _, rfl, ?_⟩
 rcases hq with ⟨m, rfl, h1, h2, q⟩ | ⟨hw, q⟩
 ·have hw : wholeV (.int (m : Int)) 24 96 = true := by show (decide ((24 : Int) ≤ m) && decide ((m : Int) ≤ 96)) = true; rw [decide_eq_true (by omega), decide_eq_true (by omega)]; rfl
  refine iteF' (by rw [hw]; rfl) ?_
  refine ⟨_, rfl, _, rfl, by omega, by omega, ?_⟩
  rw [show ((m : Int)).toNat = m by omega]
  refine lc_vals (n := m) (by omega) (fun acc H5 i v => ∃ r, v = .ref r ∧ r ≠ acc ∧ H5 r = some (.lst ((List.replicate 16 (0 : Int)).map V.int)) ∧ H r = none) ?_ ?_ ?_
  ·rintro acc H5 H6 i v k ⟨r, e1, e2, e3, e4⟩
   exact ⟨r, e1, e2, k _ _ e2 e3, e4⟩
  ·intro acc i H' Qf hi h0 s1 ha k
   exact ⟨rfl, fun p H3 np s3 hp => k _ _ s3 ⟨p, rfl, fun z => ha (by rw [← z]; exact np), hp, s1.free np⟩⟩
  ·intro acc vs H' h0 s1 hacc hl hg
   obtain ⟨rs, rfl, nm, hR⟩ := rows_of hl (fun _ => List.replicate 16 0) fun i v e => (let ⟨r, a1, a2, a3, _⟩ := hg i v e; ⟨r, a1, a2, a3⟩)
   have hfr : ∀ r ∈ rs, H r = none := fun r hr => by
    obtain ⟨i, hi, e⟩ := List.mem_iff_getElem.mp hr
    obtain ⟨r', a1, _, _, a4⟩ := hg i (.ref r) (by rw [List.getElem?_map, List.getElem?_eq_getElem hi, e]; rfl)
    cases a1; exact a4
   rw [map_const] at hR
   have hx' := s1 _ _ hx
   have nx : x ≠ acc := ne_of hx' hacc (fun z => by cases z)
   refine ⟨_, rfl, x, a.cDisk, dx, _, rfl, hx', T.clDisk, T.n_kept_rows, by decide, ?_⟩
   refine ⟨_, rfl, x, a.cDisk, dx, _, rfl, upd_same, T.clDisk, T.n_writes_done, (by show 1 < 1000; decide), ?_⟩
   rw [upd_upd]
   refine ⟨_, rfl, x, a.cDisk, dx, _, rfl, upd_same, T.clDisk, T.n_writes_left, (by show 2 < 1000; decide), ?_⟩
   rw [upd_upd]
   have c : Chg [x] H (upd H' x (.ins a.cDisk dx [("kept_rows", .ref acc), ("writes_done", .int 0), ("writes_left", .non)])) := (Chg.of s1).upd (by simp) _
   refine q acc _ h0 c ⟨⟨dx, rs, upd_same, by rw [upd_ne (Ne.symm nx)]; exact hacc, hR.1, fun i r row e1 e2 => ?_⟩, by simp; omega, by simp; omega, fun row hrow => by rw [List.eq_of_mem_replicate hrow]; exact good_zero⟩ (fun u hu rs' hrs' hm => ?_)
   case refine_2 =>
    rw [upd_ne (Ne.symm nx), hacc] at hrs'
    have er := refs_inj (by injection hrs' with z; injection z)
    subst er
    exact hu (hfr u hm)
   have hr := hR.2 i r row e1 e2
   rw [upd_ne (ne_of hr hx' (fun z => by cases z))]
   exact hr
 ·exact iteT' (by rw [hw]; rfl) ⟨(by show 1 ≤ 1000; decide), q⟩
def spBlocks (_ : PySem.W.Frag) (a : Ad) : Sp := fun vs H Q _ => ∃ (d kr : Addr) (R : List (List Int)) (n : Int) (l : Option Int), vs = [.ref d] ∧ DiskAt a.cDisk H d kr R n l ∧ Q (.int R.length) H
theorem ok_Disk_blocks (F : Fun K "blocks" "Disk.blocks" s_Disk_blocks f fd) (T : Txt K mg a)  : FnOk P w K mg base (CXE P w) 1 f fd ["self"] (spBlocks K a) := by
 have nd := sc_Disk_blocks.nd
 refine F.okE sc_Disk_blocks (fun vs H Q E h => ?_) (fun cdv A outer s H vs Q E hr hA h => ?_)
 ·obtain ⟨d, kr, R, n, l, rfl, _⟩ := h
  rfl
 obtain ⟨d, kr, R, n, l, rfl, D, q⟩ := h
 obtain ⟨dx, rs, h1, h2, h3⟩ := D.ex
 refine ⟨_, (pss_one (ps_ret (pe_callB (call_lenK (K := K) rfl) rfl T.len bt_len (pa_cons (pe_fldK (K := K) rfl (pv 0) rfl) pa_nil)))), ?_⟩
 refine ⟨_, rfl, d, a.cDisk, dx, _, _, rfl, h1, T.clDisk, T.n_kept_rows, rfl, kr, _, rfl, .inl (SqL.of h2), ?_⟩
 rw [List.length_map, h3.1]
 exact q
def spRefuse (K : PySem.W.Frag) (a : Ad) : Sp := fun vs H Q E => ∃ (d kr : Addr) (R : List (List Int)) (n : Int) (l : Option Int) (v : V), vs = [.ref d, v] ∧ DiskAt a.cDisk H d kr R n l ∧ Kd K H v ∧
 if wholeV v 0 ((R.length : Int) - 1) = true then Q .non H else E (.ref a.cNoBlock) none H
theorem ok_Disk_refuse_no_block (F : Fun K "refuse_no_block" "Disk.refuse_no_block" s_Disk_refuse_no_block f fd) (T : Txt K mg a) (D_is_whole : Df P w K mg base CX0 1 "is_whole" ["thing", "least", "most"] (spWhole K a)) (M_Disk_blocks : Mf P w K mg base (CXE P w) 1 a.f_blocks ["self"] (spBlocks K a)) : FnOk P w K mg base (CXE P w) 2 f fd ["self", "block"] (spRefuse K a) := by
 obtain ⟨_, _, Gis_whole, bis_whole, kis_whole, mis_whole⟩ := D_is_whole
 obtain ⟨_, G_blocks, b_blocks⟩ := M_Disk_blocks
 have nd := sc_Disk_refuse_no_block.nd
 refine F.okE sc_Disk_refuse_no_block (fun vs H Q E h => ?_) (fun cdv A outer s H vs Q E hr hA h => ?_)
 ·obtain ⟨d, kr, R, n, l, v, rfl, _⟩ := h
  rfl
 obtain ⟨d, kr, R, n, l, v, rfl, D, kd, q⟩ := h
 obtain ⟨dx, h1⟩ := D.at
 refine ⟨_, (pss_one (ps_if (pt_not (pt_val (pe_call Gis_whole (hr.mono (by decide)) rfl mis_whole kis_whole bis_whole .nil pass0 (pa_cons (pv 1) (pa_cons pe_int (pa_cons (pe_op op_sub (pe_meth0 (pv 0) T.clDisk T.m_blocks G_blocks (hr.mono (by decide)) b_blocks .nil (passes_fn (fun _ _ _ h => h)) (hcm := (.inr hA))) pe_int) pa_nil)))))) (pss_one (ps_raise (out_fn (fun _ _ _ h => h)) rfl hA rfl T.mNoBlock T.xNoBlock (pa_cons pe_str pa_nil))) pss_nil)), ?_⟩
 refine ⟨_, rfl, _, rfl, d, dx, _, rfl, h1, rfl, d, kr, R, n, l, rfl, D, _, _, rfl, rfl, v, 0, _, rfl, kd, _, rfl, ?_⟩
 by_cases hw : wholeV v 0 ((R.length : Int) - 1) = true
 ·rw [if_pos hw] at q
  exact iteF' (by rw [hw]; rfl) q
 ·rw [if_neg hw] at q
  exact iteT' (by rw [Bool.eq_false_iff.mpr hw]; rfl) ⟨(by show 1 ≤ 1000; decide), q⟩
def spRead (K : PySem.W.Frag) (a : Ad) : Sp := fun vs H Q E => ∃ (d kr : Addr) (R : List (List Int)) (n : Int) (l : Option Int) (v : V), vs = [.ref d, v] ∧ DiskAt a.cDisk H d kr R n l ∧ Kd K H v ∧
 ((∃ (b : Nat) (row : List Int), v = .int b ∧ R[b]? = some row ∧ ∀ p H', H p = none → Same H H' → H' p = some (.lst (row.map V.int)) → Q (.ref p) H') ∨ (wholeV v 0 ((R.length : Int) - 1) = false ∧ E (.ref a.cNoBlock) none H))
theorem whole_of {b m : Nat} (h : b < m) : wholeV (.int (b : Int)) 0 ((m : Int) - 1) = true := by
 show (decide ((0 : Int) ≤ b) && decide ((b : Int) ≤ (m : Int) - 1)) = true
 rw [decide_eq_true (by omega), decide_eq_true (by omega)]; rfl
theorem ok_Disk_read (F : Fun K "read" "Disk.read" s_Disk_read f fd) (T : Txt K mg a) (M_Disk_refuse_no_block : Mf P w K mg base (CXE P w) 2 a.f_refuse_no_block ["self", "block"] (spRefuse K a)) : FnOk P w K mg base (CXE P w) 3 f fd ["self", "block"] (spRead K a) := by
 obtain ⟨_, G_refuse_no_block, b_refuse_no_block⟩ := M_Disk_refuse_no_block
 have nd := sc_Disk_read.nd
 refine F.okE sc_Disk_read (fun vs H Q E h => ?_) (fun cdv A outer s H vs Q E hr hA h => ?_)
 ·obtain ⟨d, kr, R, n, l, v, rfl, _⟩ := h
  rfl
 obtain ⟨d, kr, R, n, l, v, rfl, D, kd, hq⟩ := h
 obtain ⟨dx, rs, h1, h2, h3⟩ := D.ex
 refine ⟨_, (pss_cons (ps_expr (pe_meth (pv 0) T.clDisk T.m_refuse_no_block G_refuse_no_block (hr.mono (by decide)) b_refuse_no_block .nil (passes_fn (fun _ _ _ h => h)) (pa_cons (pv 1) pa_nil) (hcm := (.inr hA))))
  (pss_one (ps_ret (pe_callTy (call_listK (K := K) rfl) rfl T.list bt_list (pa_cons (pe_ix (ix_listK (K := K) rfl) (pe_fldK (K := K) rfl (pv 0) rfl) (pv 1) (fun _ _ => rfl)) pa_nil))))), ?_⟩
 refine ⟨_, rfl, d, dx, _, rfl, h1, rfl, _, rfl, d, kr, R, n, l, v, rfl, D, kd, ?_⟩
 rcases hq with ⟨b, row, rfl, hb, q⟩ | ⟨hw, q⟩
 ·have hb' : b < R.length := (List.getElem?_eq_some_iff.mp hb).1
  refine iteT' (whole_of hb') ?_
  obtain ⟨r, e1, e2⟩ := h3.get hb'
  rw [show R[b] = row by rw [List.getElem?_eq_getElem hb'] at hb; exact Option.some.inj hb] at e2
  have e3 : atI (rs.map V.ref) (b : Int) = some (.ref r) := atI_nat (by rw [List.getElem?_map, e1]; rfl)
  refine ⟨_, rfl, d, a.cDisk, dx, _, _, rfl, h1, T.clDisk, T.n_kept_rows, rfl, _, rfl, kr, _, _, .ref r, rfl, rfl, SqL.of h2, e3, r, _, rfl, .inl (SqL.of e2), fun p np => ?_⟩
  exact q p _ np (same_new np _) upd_same
 ·exact iteF' hw q
def spUseUp (_ : PySem.W.Frag) (a : Ad) : Sp := fun vs H Q E => ∃ (d kr : Addr) (R : List (List Int)) (n : Int) (l : Option Int), vs = [.ref d] ∧ DiskAt a.cDisk H d kr R n l ∧
 match l with
 | none => Q .non H
 | some k => (k < 1 → E (.ref a.cStopped) none H) ∧ (¬ k < 1 → ∀ H', Chg [d] H H' → DiskAt a.cDisk H' d kr R n (some (k - 1)) → Q .non H')
theorem ok_Disk_use_up_one (F : Fun K "use_up_one" "Disk.use_up_one" s_Disk_use_up_one f fd) (T : Txt K mg a)  : FnOk P w K mg base (CXE P w) 1 f fd ["self"] (spUseUp K a) := by
 have nd := sc_Disk_use_up_one.nd
 refine F.okE sc_Disk_use_up_one (fun vs H Q E h => ?_) (fun cdv A outer s H vs Q E hr hA h => ?_)
 ·obtain ⟨d, kr, R, n, l, rfl, _⟩ := h
  rfl
 obtain ⟨d, kr, R, n, l, rfl, D, q⟩ := h
 obtain ⟨dx, h1⟩ := D.at
 refine ⟨_, (pss_cons (ps_if (pt_cmpR op_isN (pe_fldK (K := K) rfl (pv 0) rfl) pe_non (nomark _)) (pss_one ps_retN) pss_nil)
  (pss_cons (ps_if (pt_cmpR op_lt (pe_fldK (K := K) rfl (pv 0) rfl) pe_int (nomark _)) (pss_one (ps_raise (out_fn (fun _ _ _ h => h)) rfl hA rfl T.mStopped T.xStopped (pa_cons pe_str pa_nil))) pss_nil)
  (pss_one (ps_fld (pv 0) (pe_op op_sub (pe_fldK (K := K) rfl (pv 0) rfl) pe_int) rfl)))), ?_⟩
 cases l with
 | none => exact ⟨_, rfl, d, a.cDisk, dx, _, _, rfl, h1, T.clDisk, T.n_writes_left, rfl, rfl, _, rfl, iteT' (by rfl) q⟩
 | some k =>
  refine ⟨_, rfl, d, a.cDisk, dx, _, _, rfl, h1, T.clDisk, T.n_writes_left, rfl, rfl, _, rfl, iteF' (by rfl) ?_⟩
  refine ⟨_, rfl, d, a.cDisk, dx, _, _, rfl, h1, T.clDisk, T.n_writes_left, rfl, _, _, rfl, rfl, _, rfl, ?_⟩
  refine ite2 (fun c => ⟨(by show 1 ≤ 1000; decide), q.1 (of_decide_eq_true c)⟩) (fun c => ?_)
  refine ⟨_, rfl, d, a.cDisk, dx, _, _, rfl, h1, T.clDisk, T.n_writes_left, rfl, _, _, rfl, rfl, _, rfl, d, a.cDisk, dx, _, rfl, h1, T.clDisk, T.n_writes_left, (by show 3 < 1000; decide), ?_⟩
  exact q.2 (of_decide_eq_false (Bool.eq_false_iff.mpr c)) _ ((Chg.of (Same.refl _)).upd (by simp) _) (D.put (n' := n) (l' := some (k - 1)) h1)
def spWrite0 (K : PySem.W.Frag) (a : Ad) : Sp := fun vs H Q E => ∃ (d kr : Addr) (R : List (List Int)) (n : Int) (l : Option Int) (v r : V) (ok : Bool), vs = [.ref d, v, r] ∧ DiskAt a.cDisk H d kr R n l ∧ Kd K H v ∧ RowA K H r ok ∧
  ((wholeV v 0 ((R.length : Int) - 1) = false ∧ E (.ref a.cNoBlock) none H) ∨
   (wholeV v 0 ((R.length : Int) - 1) = true ∧ ok = false ∧ ∀ H', Same H H' → E (.ref a.cBadRow) none H') ∨
   (wholeV v 0 ((R.length : Int) - 1) = true ∧ ok = true ∧ (∃ k, l = some k ∧ k < 1) ∧ ∀ H', Same H H' → E (.ref a.cStopped) none H') ∨
   (∃ (b : Nat) (p : Addr) (row : List Int), v = .int b ∧ b < R.length ∧ r = .ref p ∧ H p = some (.lst (row.map V.int)) ∧ GoodRow row ∧ (∀ k, l = some k → ¬ k < 1) ∧
     ∀ H', Chg [d, kr] H H' → DiskAt a.cDisk H' d kr (R.set b row) (n + 1) (l.map (· - 1)) → (∀ u, H u ≠ none → NoRowAt H kr u → NoRowAt H' kr u) → Q .non H'))
@[irreducible] def spWrite (K : PySem.W.Frag) (a : Ad) : Sp := spWrite0 K a
theorem rowA_good {H : Hp} {p : Addr} {row : List Int} (hp : H p = some (.lst (row.map V.int))) (g : GoodRow row) : RowA K H (.ref p) true := by
 refine ⟨.lst hp, .inr ⟨p, _, rfl, hp, by rw [List.length_map, g.1]; decide, fun x hx => ?_, ?_⟩⟩
 ·obtain ⟨i, _, rfl⟩ := List.mem_map.mp hx
  exact .int i
 ·rw [List.length_map, g.1, good_ints row g.2]; rfl
theorem ok_Disk_write (F : Fun K "write" "Disk.write" s_Disk_write f fd) (T : Txt K mg a) (M_Disk_refuse_no_block : Mf P w K mg base (CXE P w) 2 a.f_refuse_no_block ["self", "block"] (spRefuse K a)) (M_Disk_use_up_one : Mf P w K mg base (CXE P w) 1 a.f_use_up_one ["self"] (spUseUp K a)) (D_is_row : Df P w K mg base CX0 4 "is_row" ["thing"] (spIsRow K a)) : FnOk P w K mg base (CXE P w) 5 f fd ["self", "block", "row"] (spWrite K a) := by
 obtain ⟨_, G_refuse_no_block, b_refuse_no_block⟩ := M_Disk_refuse_no_block
 obtain ⟨_, G_use_up_one, b_use_up_one⟩ := M_Disk_use_up_one
 obtain ⟨_, _, Gis_row, bis_row, kis_row, mis_row⟩ := D_is_row
 have nd := sc_Disk_write.nd
 refine F.okE sc_Disk_write (fun vs H Q E h => ?_) (fun cdv A outer s H vs Q E hr hA h => ?_)
 ·unfold spWrite at h
  obtain ⟨d, kr, R, n, l, v, r, ok, rfl, _⟩ := h
  rfl
 unfold spWrite at h
 obtain ⟨d, kr, R, n, l, v, r, ok, rfl, D, kd, rA, hq⟩ := h
 obtain ⟨dx, h1⟩ := D.at
 refine ⟨_, (pss_cons (ps_expr (pe_meth (pv 0) T.clDisk T.m_refuse_no_block G_refuse_no_block (hr.mono (by decide)) b_refuse_no_block .nil (passes_fn (fun _ _ _ h => h)) (pa_cons (pv 1) pa_nil) (hcm := (.inr hA))))
  (pss_cons (ps_if (pt_not (pt_val (pe_call Gis_row (hr.mono (by decide)) rfl mis_row kis_row bis_row .nil pass0 (pa_cons (pv 2) pa_nil)))) (pss_one (ps_raise (out_fn (fun _ _ _ h => h)) rfl hA rfl T.mBadRow T.xBadRow (pa_cons pe_str pa_nil))) pss_nil)
  (pss_cons (ps_expr (pe_meth0 (pv 0) T.clDisk T.m_use_up_one G_use_up_one (hr.mono (by decide)) b_use_up_one .nil (passes_fn (fun _ _ _ h => h)) (hcm := (.inr hA))))
  (pss_cons (ps_asg (pe_callTy (call_listK (K := K) rfl) rfl T.list bt_list (pa_cons (pv 2) pa_nil)) (pg_sub (pe_fldK (K := K) rfl (pv 0) rfl) (pv 1) set_list))
  (pss_one (ps_fld (pv 0) (pe_op op_add (pe_fldK (K := K) rfl (pv 0) rfl) pe_int) rfl)))))), ?_⟩
 refine ⟨_, rfl, d, dx, _, rfl, h1, rfl, _, rfl, d, kr, R, n, l, v, rfl, D, kd, ?_⟩
 rcases hq with ⟨hw, q⟩ | ⟨hw, rfl, q⟩ | ⟨hw, rfl, ⟨k, rfl, hk⟩, q⟩ | ⟨b, p, row, rfl, hb, rfl, hp, g, hl, q⟩
 ·exact iteF' hw q
 ·refine iteT' hw ⟨_, rfl, r, false, rfl, rA, fun H1 s1 => ⟨_, rfl, iteT' (by rfl) ⟨(by show 1 ≤ 1000; decide), q H1 s1⟩⟩⟩
 ·refine iteT' hw ⟨_, rfl, r, true, rfl, rA, fun H1 s1 => ⟨_, rfl, iteF' (by rfl) ?_⟩⟩
  exact ⟨_, rfl, d, dx, _, rfl, s1 _ _ h1, rfl, d, kr, R, n, some k, rfl, D.same s1, fun _ => q H1 s1, fun z => absurd hk z⟩
 ·refine iteT' (whole_of hb) ⟨_, rfl, _, ok, rfl, rA, fun H1 s1 => ?_⟩
  have hok : ok = true := by
   obtain ⟨_, h⟩ := rA
   rcases h with ⟨hL, _⟩ | ⟨p', xs, e1, e2, _, _, e5⟩
   ·exfalso
    have : isL H (.ref p) = true := by show isLH (H _) = _; rw [hp]; rfl
    rw [this] at hL; cases hL
   ·cases e1
    rw [hp] at e2
    cases e2
    rw [e5, List.length_map, g.1, good_ints row g.2]; rfl
  subst hok
  refine ⟨_, rfl, iteF' (by rfl) ?_⟩
  have D1 := D.same s1
  have fin : ∀ H2 l', Chg [d] H1 H2 → DiskAt a.cDisk H2 d kr R n l' → l' = l.map (· - 1) → tSeq (tAsg (tCB (fun xs H Q => ∃ p ys, xs = [.ref p] ∧ (SqL K H p ys ∨ SqT K H p ys) ∧ ∀ l, H l = none → Q (.ref l) (upd H l (.lst ys))) (tCons (tVar 2) tNil)) (gSub (tFld K (tVar 0) "kept_rows") (tVar 1) rSetL)) (sFld K (tVar 0) (tOp (rI0 fun i j => .int (i + j)) (tFld K (tVar 0) "writes_done") (tC (.int 1))) "writes_done") { nx := fun _ H' => Q .non H', rt := Q } (start ["self", "block", "row"] [.ref d, .int b, .ref p]) H2 := by
   rintro H2 l' c2 D2 rfl
   have hp2 : H2 p = some (.lst (row.map V.int)) := c2 _ _ (s1 _ _ hp) (by
    simp only [List.mem_singleton]
    exact ne_of hp h1 (fun z => by cases z))
   obtain ⟨dx2, rs, g1, g2, g3⟩ := D2.ex
   refine ⟨_, rfl, p, _, rfl, .inl (SqL.of hp2), fun q1 nq => ?_⟩
   have s3 := same_new nq (.lst (row.map V.int))
   have g1' := s3 _ _ g1
   have g2' := s3 _ _ g2
   have nkd : kr ≠ d := ne_of g2 g1 (fun z => by cases z)
   refine ⟨_, rfl, d, a.cDisk, dx2, _, _, rfl, g1', T.clDisk, T.n_kept_rows, rfl, _, rfl, kr, _, _, b, rfl, rfl, g2', ?_, ?_⟩
   ·rw [List.length_map, g3.1]; unfold ixN; rw [if_pos (by omega), if_pos (by omega)]; simp
   ·rw [show (rs.map V.ref).set b (.ref q1) = (rs.set b q1).map V.ref by rw [List.map_set]]
    have g1'' : (upd (upd H2 q1 (.lst (row.map V.int))) kr (.lst ((rs.set b q1).map V.ref))) d = some (.ins a.cDisk dx2 [("kept_rows", .ref kr), ("writes_done", .int n), ("writes_left", lv (l.map (· - 1)))]) := by rw [upd_ne (Ne.symm nkd)]; exact g1'
    refine ⟨_, rfl, d, a.cDisk, dx2, _, _, rfl, g1'', T.clDisk, T.n_writes_done, rfl, _, _, rfl, rfl, _, rfl, d, a.cDisk, dx2, _, rfl, g1'', T.clDisk, T.n_writes_done, (by show 3 < 1000; decide), ?_⟩
    have cA : Chg [d, kr] H (upd (upd (upd H2 q1 (.lst (row.map V.int))) kr (.lst ((rs.set b q1).map V.ref))) d (.ins a.cDisk dx2 [("kept_rows", .ref kr), ("writes_done", .int (n + 1)), ("writes_left", lv (l.map (· - 1)))])) :=
     (((((Chg.of s1).trans (c2.mono (by simp))).new nq _)).upd (by simp) _).upd (by simp) _
    refine q _ cA ⟨⟨dx2, rs.set b q1, upd_same, ?_, ?_⟩, by rw [List.length_set]; exact D.lo, by rw [List.length_set]; exact D.hi, fun x hx => ?_⟩ (fun u hu nu rs' hrs' hm => ?_)
    ·rw [upd_ne nkd, upd_same]
    ·have nq1 : q1 ≠ kr := Ne.symm (ne_of_none g2 nq)
     have nq2 : q1 ≠ d := Ne.symm (ne_of_none g1 nq)
     refine RowsAt.set (row := row) ⟨g3.1, fun i r x e1 e2 => ?_⟩ b ?_
     ·have hr := g3.2 i r x e1 e2
      have gx := D.good x (List.mem_of_getElem? e2)
      rw [upd_ne (ne_of hr g1 (fun z => by cases z)), upd_ne (ne_of hr g2 (fun z => ref_ne_row gx.1 z.symm))]
      exact s3 _ _ hr
     ·rw [upd_ne nq2, upd_ne nq1, upd_same]
    ·rcases List.mem_or_eq_of_mem_set hx with z | z
     ·exact D.good x z
     ·rw [z]; exact g
    ·rw [upd_ne nkd, upd_same] at hrs'
     have er : rs.set b q1 = rs' := refs_inj (by injection hrs' with z; injection z)
     subst er
     rcases List.mem_or_eq_of_mem_set hm with z | z
     ·have nu2 : NoRowAt H2 kr u := (nu.chg D (Chg.of s1 (S := [])) (by simp)).chg D1 c2 (by simp only [List.mem_singleton]; exact nkd)
      exact nu2 rs g2 z
     ·subst z
      cases hu' : H u with
      | none => exact hu hu'
      | some o =>
       by_cases hud : u = d
       ·subst hud; rw [g1] at nq; cases nq
       ·have := c2 _ _ (s1 _ _ hu') (by simp only [List.mem_singleton]; exact hud)
        rw [this] at nq; cases nq
  refine ⟨_, rfl, d, dx, _, rfl, s1 _ _ h1, rfl, d, kr, R, n, l, rfl, D1, ?_⟩
  cases l with
  | none => exact fin H1 none (Chg.of (Same.refl _)) D1 rfl
  | some k => exact ⟨fun z => absurd z (hl k rfl), fun _ H2 c2 D2 => fin H2 (some (k - 1)) c2 D2 rfl⟩
end
end K11
end
section
set_option Elab.async false
set_option linter.all false
set_option maxRecDepth 100000
set_option maxHeartbeats 4000000
namespace K11
open PySem L2 BK
section
variable {P : Program} {w : World} {K : PySem.W.Frag} {mg : Str → Option Value} {base : Heap} {f : Addr} {fd : FuncData} {a : Ad}
def nodesAt (m : Int) : Int := 17 + (m + 16 - 1) / 16
def dataAt (m t : Int) : Int := nodesAt m + t
def Good (m t : Int) : Prop := 24 ≤ m ∧ m ≤ 96 ∧ 1 ≤ t ∧ t ≤ 8 ∧ dataAt m t < m
def LayAt (C : Addr) (H : Hp) (x : Addr) (m t : Int) : Prop := ∃ dx, H x = some (.ins C dx [("many", .int m), ("tables", .int t), ("maps_at", .int 17), ("nodes_at", .int (nodesAt m)), ("data_at", .int (dataAt m t))])
theorem LayAt.chg {C x : Addr} {H H' : Hp} {m t : Int} {S : List Addr} (h : LayAt C H x m t) (c : Chg S H H') (n : x ∉ S) : LayAt C H' x m t := let ⟨dx, e⟩ := h; ⟨dx, c _ _ e n⟩
theorem LayAt.same {C x : Addr} {H H' : Hp} {m t : Int} (h : LayAt C H x m t) (s : Same H H') : LayAt C H' x m t := let ⟨dx, e⟩ := h; ⟨dx, s _ _ e⟩
def spLInit (K : PySem.W.Frag) (a : Ad) : Sp := fun vs H Q E => ∃ (x dx : Addr) (v u : V), vs = [.ref x, v, u] ∧ H x = some (.ins a.cLayout dx []) ∧ Kd K H v ∧ Kd K H u ∧
  (((wholeV v 24 96 && wholeV u 1 8) = false ∧ E (.ref a.cBadDisk) none H) ∨
   (∃ m t : Int, v = .int m ∧ u = .int t ∧ 24 ≤ m ∧ m ≤ 96 ∧ 1 ≤ t ∧ t ≤ 8 ∧ (m ≤ dataAt m t → ∀ H', Chg [x] H H' → E (.ref a.cNoRoom) none H') ∧ (dataAt m t < m → ∀ H', Chg [x] H H' → LayAt a.cLayout H' x m t → Q .non H')))
theorem whole_in {i lo hi : Int} (h1 : lo ≤ i) (h2 : i ≤ hi) : wholeV (.int i) lo hi = true := by
 show (decide (lo ≤ i) && decide (i ≤ hi)) = true
 rw [decide_eq_true h1, decide_eq_true h2]; rfl
theorem ok_Layout___init__ (F : Fun K "__init__" "Layout.__init__" s_Layout___init__ f fd) (T : Txt K mg a) (D_is_whole : Df P w K mg base CX0 1 "is_whole" ["thing", "least", "most"] (spWhole K a)) : FnOk P w K mg base (CXE P w) 2 f fd ["self", "many", "tables"] (spLInit K a) := by
 obtain ⟨_, _, Gis_whole, bis_whole, kis_whole, mis_whole⟩ := D_is_whole
 have nd := sc_Layout___init__.nd
 refine F.okE sc_Layout___init__ (fun vs H Q E h => ?_) (fun cdv A outer s H vs Q E hr hA h => ?_)
 ·obtain ⟨x, dx, v, u, rfl, _⟩ := h
  rfl
 obtain ⟨x, dx, v, u, rfl, hx, kv, ku, hq⟩ := h
 refine ⟨_, (pss_cons (ps_if (pt_not (pt_val (pe_call Gis_whole (hr.mono (by decide)) rfl mis_whole kis_whole bis_whole .nil pass0 (pa_cons (pv 1) (pa_cons (pe_glob (v := .int 24) rfl T.cLEAST_BLOCKS.choose_spec ⟨_, rfl⟩) (pa_cons (pe_glob (v := .int 96) rfl T.cMOST_BLOCKS.choose_spec ⟨_, rfl⟩) pa_nil)))))) (pss_one (ps_raise (out_fn (fun _ _ _ h => h)) rfl hA rfl T.mBadDisk T.xBadDisk (pa_cons pe_str pa_nil))) pss_nil)
  (pss_cons (ps_if (pt_not (pt_val (pe_call Gis_whole (hr.mono (by decide)) rfl mis_whole kis_whole bis_whole .nil pass0 (pa_cons (pv 2) (pa_cons pe_int (pa_cons (pe_glob (v := .int 8) rfl T.cMOST_TABLES.choose_spec ⟨_, rfl⟩) pa_nil)))))) (pss_one (ps_raise (out_fn (fun _ _ _ h => h)) rfl hA rfl T.mBadDisk T.xBadDisk (pa_cons pe_str pa_nil))) pss_nil)
  (pss_cons (ps_fld (pv 0) (pv 1) rfl)
  (pss_cons (ps_fld (pv 0) (pv 2) rfl)
  (pss_cons (ps_fld (pv 0) (pe_glob (v := .int 17) rfl T.cMAPS_AT.choose_spec ⟨_, rfl⟩) rfl)
  (pss_cons (ps_fld (pv 0) (pe_op op_add (pe_glob (v := .int 17) rfl T.cMAPS_AT.choose_spec ⟨_, rfl⟩) (pe_op op_fdiv (pe_op op_sub (pe_op op_add (pv 1) (pe_glob (v := .int 16) rfl T.cROW_WORDS.choose_spec ⟨_, rfl⟩)) pe_int) (pe_glob (v := .int 16) rfl T.cROW_WORDS.choose_spec ⟨_, rfl⟩))) rfl)
  (pss_cons (ps_fld (pv 0) (pe_op op_add (pe_fldK (K := K) rfl (pv 0) rfl) (pv 2)) rfl)
  (pss_one (ps_if (pt_cmpR op_ge (pe_fldK (K := K) rfl (pv 0) rfl) (pv 1) (nomark _)) (pss_one (ps_raise (out_fn (fun _ _ _ h => h)) rfl hA rfl T.mNoRoom T.xNoRoom (pa_cons pe_str pa_nil))) pss_nil))))))))), ?_⟩
 refine ⟨_, rfl, v, 24, 96, rfl, kv, _, rfl, ?_⟩
 rcases hq with ⟨hw, q⟩ | ⟨m, t, rfl, rfl, h1, h2, h3, h4, q1, q2⟩
 ·by_cases hv : wholeV v 24 96 = true
  ·refine iteF' (by rw [hv]; rfl) ⟨_, rfl, u, 1, 8, rfl, ku, _, rfl, ?_⟩
   rw [hv, Bool.true_and] at hw
   exact iteT' (by rw [hw]; rfl) ⟨(by show 1 ≤ 1000; decide), q⟩
  ·exact iteT' (by rw [Bool.eq_false_iff.mpr hv]; rfl) ⟨(by show 1 ≤ 1000; decide), q⟩
 ·refine iteF' (by rw [whole_in h1 h2]; rfl) ⟨_, rfl, _, 1, 8, rfl, ku, _, rfl, iteF' (by rw [whole_in h3 h4]; rfl) ?_⟩
  refine ⟨_, rfl, _, rfl, x, a.cLayout, dx, _, rfl, hx, T.clLayout, T.n_many, by decide, ?_⟩
  refine ⟨_, rfl, _, rfl, x, a.cLayout, dx, _, rfl, upd_same, T.clLayout, T.n_tables, (by show 1 < 1000; decide), ?_⟩
  rw [upd_upd]
  refine ⟨_, rfl, x, a.cLayout, dx, _, rfl, upd_same, T.clLayout, T.n_maps_at, (by show 2 < 1000; decide), ?_⟩
  rw [upd_upd]
  refine ⟨_, rfl, _, _, rfl, rfl, _, _, rfl, rfl, _, _, rfl, rfl, ⟨by decide, by decide⟩, _, _, rfl, rfl, _, rfl, x, a.cLayout, dx, _, rfl, upd_same, T.clLayout, T.n_nodes_at, (by show 3 < 1000; decide), ?_⟩
  rw [upd_upd]
  refine ⟨_, rfl, x, a.cLayout, dx, _, _, rfl, upd_same, T.clLayout, T.n_nodes_at, rfl, _, rfl, _, _, rfl, rfl, _, rfl, x, a.cLayout, dx, _, rfl, upd_same, T.clLayout, T.n_data_at, (by show 4 < 1000; decide), ?_⟩
  rw [upd_upd]
  refine ⟨_, rfl, x, a.cLayout, dx, _, _, rfl, upd_same, T.clLayout, T.n_data_at, rfl, _, rfl, _, _, rfl, rfl, _, rfl, ?_⟩
  have c := (Chg.of (Same.refl H) (S := [x])).upd (a := x) (by simp) (.ins a.cLayout dx [("many", .int m), ("tables", .int t), ("maps_at", .int 17), ("nodes_at", .int (nodesAt m)), ("data_at", .int (dataAt m t))])
  by_cases hd : m ≤ dataAt m t
  ·exact iteT' (decide_eq_true hd) ⟨(by show 1 ≤ 1000; decide), q1 hd _ c⟩
  ·exact iteF' (decide_eq_false hd) (q2 (by omega) _ c ⟨dx, upd_same⟩)
def spMost (_ : PySem.W.Frag) (a : Ad) : Sp := fun vs H Q _ => ∃ (x : Addr) (m t : Int), vs = [.ref x] ∧ LayAt a.cLayout H x m t ∧ Q (.int (2 * t - 1)) H
theorem ok_Layout_most_node (F : Fun K "most_node" "Layout.most_node" s_Layout_most_node f fd) (T : Txt K mg a)  : FnOk P w K mg base CX0 1 f fd ["self"] (spMost K a) := by
 have nd := sc_Layout_most_node.nd
 refine F.ok sc_Layout_most_node (fun vs H Q E h => ?_) (fun cdv A outer s H vs Q E hr h => ?_)
 ·obtain ⟨x, m, t, rfl, _⟩ := h
  rfl
 obtain ⟨x, m, t, rfl, ⟨dx, hx⟩, q⟩ := h
 refine ⟨_, (pss_one (ps_ret (pe_op op_sub (pe_op op_mul pe_int (pe_fldK (K := K) rfl (pv 0) rfl)) pe_int))), ?_⟩
 exact ⟨_, rfl, x, a.cLayout, dx, _, _, rfl, hx, T.clLayout, T.n_tables, rfl, _, _, rfl, rfl, .inl ⟨by decide, by decide⟩, _, _, rfl, rfl, q⟩
end
end K11
end
section
set_option Elab.async false
set_option linter.all false
set_option maxRecDepth 100000
set_option maxHeartbeats 4000000
namespace K11
open PySem L2 BK
section
variable {P : Program} {w : World} {K : PySem.W.Frag} {mg : Str → Option Value} {base : Heap} {f : Addr} {fd : FuncData} {a : Ad}
def zeros : List Int := List.replicate 16 0
def spHome (K : PySem.W.Frag) (a : Ad) : Sp := fun vs H Q _ => ∃ (d kr : Addr) (S : DS) (v : V), vs = [.ref d, v] ∧ DkAt a.cDisk H d kr S ∧ Kd K H v ∧ Q (.bl (wholeV v 17 ((S.R.length : Int) - 1))) H
theorem ok_is_home (F : Fun K "is_home" "is_home" s_is_home f fd) (T : Txt K mg a) (D_is_whole : Df P w K mg base CX0 1 "is_whole" ["thing", "least", "most"] (spWhole K a)) (M_Disk_blocks : Mf P w K mg base (CXE P w) 1 a.f_blocks ["self"] (spBlocks K a)) : FnOk P w K mg base (CXE P w) 2 f fd ["disk", "block"] (spHome K a) := by
 obtain ⟨_, _, Gis_whole, bis_whole, kis_whole, mis_whole⟩ := D_is_whole
 obtain ⟨_, G_blocks, b_blocks⟩ := M_Disk_blocks
 have nd := sc_is_home.nd
 refine F.okE sc_is_home (fun vs H Q E h => ?_) (fun cdv A outer s H vs Q E hr hA h => ?_)
 ·obtain ⟨d, kr, S, v, rfl, _⟩ := h
  rfl
 obtain ⟨d, kr, S, v, rfl, D, kd, q⟩ := h
 obtain ⟨dx, h1⟩ := D.at
 refine ⟨_, (pss_one (ps_ret (pe_call Gis_whole (hr.mono (by decide)) rfl mis_whole kis_whole bis_whole .nil pass0 (pa_cons (pv 1) (pa_cons (pe_glob (v := .int 17) rfl T.cMAPS_AT.choose_spec ⟨_, rfl⟩) (pa_cons (pe_op op_sub (pe_meth0 (pv 0) T.clDisk T.m_blocks G_blocks (hr.mono (by decide)) b_blocks .nil (passes_fn (fun _ _ _ h => h)) (hcm := (.inr hA))) pe_int) pa_nil)))))), ?_⟩
 exact ⟨_, rfl, _, rfl, d, dx, _, rfl, h1, rfl, d, kr, S.R, S.n, S.l, rfl, D, _, _, rfl, rfl, v, 17, _, rfl, kd, q⟩
theorem whole_int {v : V} {lo hi : Int} (h : wholeV v lo hi = true) : ∃ i, v = .int i ∧ lo ≤ i ∧ i ≤ hi := by
 cases v with
 | int i =>
  have h' : (decide (lo ≤ i) && decide (i ≤ hi)) = true := h
  rw [Bool.and_eq_true, decide_eq_true_eq, decide_eq_true_eq] at h'
  exact ⟨i, rfl, h'.1, h'.2⟩
 | _ => cases h
theorem write_one {H : Hp} {d kr p : Addr} {S : DS} {b : Nat} {row : List Int} {Q : VK} {E : XK} (D : DkAt a.cDisk H d kr S) (hb : b < S.R.length) (hp : H p = some (.lst (row.map V.int))) (g : GoodRow row)
  (hs : S.stop = true → ∀ H', Same H H' → E (.ref a.cStopped) none H')
  (hn : ¬ S.stop = true → ∀ H', Chg [d, kr] H H' → DkAt a.cDisk H' d kr (S.put (b, row)) → (∀ u, H u ≠ none → NoRowAt H kr u → NoRowAt H' kr u) → Q .non H') :
  spWrite K a [.ref d, .int b, .ref p] H Q E := by
 unfold spWrite
 refine ⟨d, kr, S.R, S.n, S.l, .int b, .ref p, true, rfl, D, .int _, rowA_good hp g, ?_⟩
 by_cases h : S.stop = true
 ·exact .inr (.inr (.inl ⟨whole_of hb, rfl, stop_iff h, hs h⟩))
 ·exact .inr (.inr (.inr ⟨b, p, row, rfl, hb, rfl, hp, g, stop_not h, hn h⟩))
theorem put_len (S : DS) (x : Nat × List Int) : (S.put x).R.length = S.R.length := List.length_set
end
end K11
end
section
set_option Elab.async false
set_option linter.all false
set_option maxRecDepth 100000
set_option maxHeartbeats 4000000
namespace K11
open PySem L2 BK
section
variable {P : Program} {w : World} {K : PySem.W.Frag} {mg : Str → Option Value} {base : Heap} {f : Addr} {fd : FuncData} {a : Ad}
def spBInit (K : PySem.W.Frag) (a : Ad) : Sp := fun vs H Q _ => ∃ (x dx d : Addr), vs = [.ref x, .ref d] ∧ H x = some (.ins a.cBatch dx []) ∧ ∀ nr H', H nr = none → Chg [x] H H' → (∀ (m : Int) (ρ : Int → List Int), Bat a.cBatch H' x d nr m [] ρ) → Q .non H'
theorem ok_Batch___init__ (F : Fun K "__init__" "Batch.__init__" s_Batch___init__ f fd) (T : Txt K mg a)  : FnOk P w K mg base (CXE P w) 1 f fd ["self", "disk"] (spBInit K a) := by
 have nd := sc_Batch___init__.nd
 refine F.okE sc_Batch___init__ (fun vs H Q E h => ?_) (fun cdv A outer s H vs Q E hr hA h => ?_)
 ·obtain ⟨x, dx, d, rfl, _⟩ := h
  rfl
 obtain ⟨x, dx, d, rfl, hx, q⟩ := h
 refine ⟨_, (pss_cons (ps_fld (pv 0) (pv 1) rfl)
  (pss_one (ps_fld (pv 0) pe_dict0 rfl))), ?_⟩
 refine ⟨_, rfl, _, rfl, x, a.cBatch, dx, _, rfl, hx, T.clBatch, T.n_disk, (by show 0 < 1000; decide), fun nr nnr => ?_⟩
 have hx1 := same_new nnr (.dK []) _ _ (upd_same (H := H) (a := x) (o := .ins a.cBatch dx [("disk", .ref d)]))
 refine ⟨_, rfl, x, a.cBatch, dx, _, rfl, hx1, T.clBatch, T.n_new_rows, (by show 1 < 1000; decide), ?_⟩
 have nxn : nr ≠ x := Ne.symm (ne_of_none (upd_same (H := H) (a := x) (o := .ins a.cBatch dx [("disk", .ref d)])) nnr)
 have nH : H nr = none := by rw [upd_ne nxn] at nnr; exact nnr
 refine q nr _ nH (((Chg.of (Same.refl _)).upd (by simp) _).new nnr _ |>.upd (by simp) _) fun m ρ => ⟨⟨dx, upd_same⟩, homes_nil ?_⟩
 rw [upd_ne nxn, upd_same]
def seen (R : List (List Int)) (ks : List Int) (ρ : Int → List Int) : V → Option (List Int)
 | .int i => if i ∈ ks then some (ρ i) else if 0 ≤ i then R[i.toNat]? else none
 | _ => none
def spBRead (K : PySem.W.Frag) (a : Ad) : Sp := fun vs H Q E => ∃ (b d kr nr : Addr) (S : DS) (ks : List Int) (ρ : Int → List Int) (v : V), vs = [.ref b, v] ∧ Bat a.cBatch H b d nr S.R.length ks ρ ∧ DkAt a.cDisk H d kr S ∧ Kd K H v ∧
 ((∃ row, seen S.R ks ρ v = some row ∧ ∀ p H', H p = none → Same H H' → H' p = some (.lst (row.map V.int)) → Q (.ref p) H') ∨ (seen S.R ks ρ v = none ∧ E (.ref a.cNoBlock) none H))
theorem ok_Batch_read (F : Fun K "read" "Batch.read" s_Batch_read f fd) (T : Txt K mg a) (M_Disk_read : Mf P w K mg base (CXE P w) 3 a.f_read ["self", "block"] (spRead K a)) (D_is_home : Df P w K mg base (CXE P w) 2 "is_home" ["disk", "block"] (spHome K a)) : FnOk P w K mg base (CXE P w) 4 f fd ["self", "block"] (spBRead K a) := by
 obtain ⟨_, G_read, b_read⟩ := M_Disk_read
 obtain ⟨_, _, Gis_home, bis_home, kis_home, mis_home⟩ := D_is_home
 have nd := sc_Batch_read.nd
 refine F.okE sc_Batch_read (fun vs H Q E h => ?_) (fun cdv A outer s H vs Q E hr hA h => ?_)
 ·obtain ⟨b, d, kr, nr, S, ks, ρ, v, rfl, _⟩ := h
  rfl
 obtain ⟨b, d, kr, nr, S, ks, ρ, v, rfl, B, D, kd, hq⟩ := h
 obtain ⟨bx, hb⟩ := B.ex
 obtain ⟨dx, hd⟩ := D.at
 refine ⟨_, (pss_cons (ps_if (PW.pt (pw_and (pt_val (pe_call Gis_home (hr.mono (by decide)) rfl mis_home kis_home bis_home .nil (passes_fn (fun _ _ _ h => h)) (pa_cons (pe_fldK (K := K) rfl (pv 0) rfl) (pa_cons (pv 1) pa_nil)) (hcm := (.inr hA)))) (pw_and1 (pt_cmp (pc_din (hu_of hr) (pv 1) (pe_fldK (K := K) rfl (pv 0) rfl)))))) (pss_one (ps_ret (pe_callTy (call_listK (K := K) rfl) rfl T.list bt_list (pa_cons (pe_dget (hu_of hr) (pe_fldK (K := K) rfl (pv 0) rfl) (pv 1) (fun _ _ => rfl)) pa_nil)))) pss_nil)
  (pss_one (ps_ret (pe_meth (pe_fldK (K := K) rfl (pv 0) rfl) T.clDisk T.m_read G_read (hr.mono (by decide)) b_read .nil (passes_fn (fun _ _ _ h => h)) (pa_cons (pv 1) pa_nil) (hcm := (.inr hA)))))), ?_⟩
 have cls := T.clBatch
 refine ⟨_, rfl, b, a.cBatch, bx, _, _, rfl, hb, cls, T.n_disk, rfl, _, rfl, d, kr, S, v, rfl, D, kd, _, rfl, ?_⟩
 have fin : (∀ k, v = .int k → k ∉ ks) → tRet (tMeth a.cDisk "read" (spRead K a) [] E (tFld K (tVar 0) "disk") (tCons (tVar 1) tNil)) { nx := fun _ H' => Q .non H', rt := Q } (start ["self", "block"] [.ref b, v]) H := by
  intro hk
  refine ⟨_, rfl, b, a.cBatch, bx, _, _, rfl, hb, cls, T.n_disk, rfl, d, dx, _, rfl, hd, rfl, _, rfl, d, kr, S.R, S.n, S.l, v, rfl, D, kd, ?_⟩
  cases hv : wholeV v 0 ((S.R.length : Int) - 1) with
  | true =>
   obtain ⟨n, rfl, hn⟩ := whole_get hv
   have es : seen S.R ks ρ (.int n) = some S.R[n] := by
    show (if (n : Int) ∈ ks then some (ρ n) else if (0 : Int) ≤ n then S.R[(n : Int).toNat]? else none) = _
    rw [if_neg (hk n rfl), if_pos (by omega), show (n : Int).toNat = n by omega, List.getElem?_eq_getElem hn]
   rcases hq with ⟨row, e, q⟩ | ⟨e, _⟩
   ·rw [es] at e; cases e
    exact .inl ⟨n, _, rfl, List.getElem?_eq_getElem hn, q⟩
   ·rw [es] at e; cases e
  | false =>
   have es : seen S.R ks ρ v = none := by
    cases v with
    | int i =>
     have hv' : (decide ((0 : Int) ≤ i) && decide (i ≤ (S.R.length : Int) - 1)) = false := hv
     show (if i ∈ ks then some (ρ i) else if (0 : Int) ≤ i then S.R[i.toNat]? else none) = none
     rw [if_neg (hk i rfl)]
     split
     ·rename_i h0
      rw [decide_eq_true h0, Bool.true_and] at hv'
      have := of_decide_eq_false hv'
      exact List.getElem?_eq_none (by omega)
     ·rfl
    | _ => rfl
   rcases hq with ⟨row, e, _⟩ | ⟨_, q⟩
   ·rw [es] at e; cases e
   ·exact .inr ⟨rfl, q⟩
 by_cases hw : wholeV v 17 ((S.R.length : Int) - 1) = true
 ·obtain ⟨k, rfl, h1, h2⟩ := whole_int hw
  refine iteT' hw ?_
  by_cases hk : k ∈ ks
  ·obtain ⟨r, g, hr0⟩ := B.ho.get hk
   refine ⟨_, rfl, _, rfl, b, a.cBatch, bx, _, _, rfl, hb, cls, T.n_new_rows, rfl, nr, _, rfl, g, _, rfl, iteT' (by rfl) ?_⟩
   refine ⟨_, rfl, b, a.cBatch, bx, _, _, rfl, hb, cls, T.n_new_rows, rfl, _, rfl, nr, _, rfl, g, r, _, rfl, .inl (SqL.of hr0), fun p np => ?_⟩
   have es : seen S.R ks ρ (.int k) = some (ρ k) := if_pos hk
   rcases hq with ⟨row, e, q⟩ | ⟨e, _⟩
   ·rw [es] at e; cases e
    exact q p _ np (same_new np _) upd_same
   ·rw [es] at e; cases e
  ·refine ⟨_, rfl, _, rfl, b, a.cBatch, bx, _, _, rfl, hb, cls, T.n_new_rows, rfl, nr, _, rfl, B.ho.getN hk, _, rfl, iteF' (by rfl) ?_⟩
   exact fin fun j e => by cases e; exact hk
 ·refine iteF' (Bool.eq_false_iff.mpr hw) ?_
  refine iteF (fin fun k e hk => ?_)
  subst e
  obtain ⟨z1, z2⟩ := B.ho.inn k hk
  exact hw (by show (decide ((17 : Int) ≤ k) && decide (k ≤ (S.R.length : Int) - 1)) = true; rw [decide_eq_true z1, decide_eq_true z2]; rfl)
def spBWrite (K : PySem.W.Frag) (a : Ad) : Sp := fun vs H Q E => ∃ (b d kr nr : Addr) (S : DS) (ks : List Int) (ρ : Int → List Int) (v r : V) (ok : Bool), vs = [.ref b, v, r] ∧ Bat a.cBatch H b d nr S.R.length ks ρ ∧ DkAt a.cDisk H d kr S ∧ Kd K H v ∧ RowA K H r ok ∧ ks.length < 900 ∧
  ((wholeV v 17 ((S.R.length : Int) - 1) = false ∧ E (.ref a.cNoBlock) none H) ∨
   (wholeV v 17 ((S.R.length : Int) - 1) = true ∧ ok = false ∧ ∀ H', Same H H' → E (.ref a.cBadRow) none H') ∨
   (∃ (k : Int) (p : Addr) (row : List Int), v = .int k ∧ 17 ≤ k ∧ k ≤ (S.R.length : Int) - 1 ∧ r = .ref p ∧ H p = some (.lst (row.map V.int)) ∧ GoodRow row ∧
     ∀ H', Chg [nr] H H' → Bat a.cBatch H' b d nr S.R.length (insK ks k) (fun j => if j = k then row else ρ j) → DkAt a.cDisk H' d kr S → (∀ u, H u ≠ none → OffD H nr u → OffD H' nr u) → Q .non H'))
theorem ok_Batch_write (F : Fun K "write" "Batch.write" s_Batch_write f fd) (T : Txt K mg a) (D_is_home : Df P w K mg base (CXE P w) 2 "is_home" ["disk", "block"] (spHome K a)) (D_is_row : Df P w K mg base CX0 4 "is_row" ["thing"] (spIsRow K a)) : FnOk P w K mg base (CXE P w) 5 f fd ["self", "block", "row"] (spBWrite K a) := by
 obtain ⟨_, _, Gis_home, bis_home, kis_home, mis_home⟩ := D_is_home
 obtain ⟨_, _, Gis_row, bis_row, kis_row, mis_row⟩ := D_is_row
 have nd := sc_Batch_write.nd
 refine F.okE sc_Batch_write (fun vs H Q E h => ?_) (fun cdv A outer s H vs Q E hr hA h => ?_)
 ·obtain ⟨b, d, kr, nr, S, ks, ρ, v, r, ok, rfl, _⟩ := h
  rfl
 obtain ⟨b, d, kr, nr, S, ks, ρ, v, r, ok, rfl, B, D, kd, rA, hz, hq⟩ := h
 obtain ⟨bx, hb⟩ := B.ex
 refine ⟨_, (pss_cons (ps_if (pt_not (pt_val (pe_call Gis_home (hr.mono (by decide)) rfl mis_home kis_home bis_home .nil (passes_fn (fun _ _ _ h => h)) (pa_cons (pe_fldK (K := K) rfl (pv 0) rfl) (pa_cons (pv 1) pa_nil)) (hcm := (.inr hA))))) (pss_one (ps_raise (out_fn (fun _ _ _ h => h)) rfl hA rfl T.mNoBlock T.xNoBlock (pa_cons pe_str pa_nil))) pss_nil)
  (pss_cons (ps_if (pt_not (pt_val (pe_call Gis_row (hr.mono (by decide)) rfl mis_row kis_row bis_row .nil pass0 (pa_cons (pv 2) pa_nil)))) (pss_one (ps_raise (out_fn (fun _ _ _ h => h)) rfl hA rfl T.mBadRow T.xBadRow (pa_cons pe_str pa_nil))) pss_nil)
  (pss_one (ps_dput (hu_of hr) (pe_fldK (K := K) rfl (pv 0) rfl) (pv 1) (pe_callTy (call_listK (K := K) rfl) rfl T.list bt_list (pa_cons (pv 2) pa_nil)) rfl)))), ?_⟩
 refine ⟨_, rfl, b, a.cBatch, bx, _, _, rfl, hb, T.clBatch, T.n_disk, rfl, _, rfl, d, kr, S, v, rfl, D, kd, _, rfl, ?_⟩
 rcases hq with ⟨hw, q⟩ | ⟨hw, rfl, q⟩ | ⟨k, p, row, rfl, h1, h2, rfl, hp, g, q⟩
 ·exact iteT' (by rw [hw]; rfl) ⟨(by show 1 ≤ 1000; decide), q⟩
 ·refine iteF' (by rw [hw]; rfl) ⟨_, rfl, r, false, rfl, rA, fun H1 s1 => ⟨_, rfl, iteT' (by rfl) ⟨(by show 1 ≤ 1000; decide), q H1 s1⟩⟩⟩
 ·have hw : wholeV (.int k) 17 ((S.R.length : Int) - 1) = true := by show (decide ((17 : Int) ≤ k) && decide (k ≤ (S.R.length : Int) - 1)) = true; rw [decide_eq_true h1, decide_eq_true h2]; rfl
  refine iteF' (by rw [hw]; rfl) ⟨_, rfl, .ref p, true, rfl, rowA_good hp g, fun H1 s1 => ⟨_, rfl, iteF' (by rfl) ?_⟩⟩
  refine ⟨_, rfl, p, _, rfl, .inl (SqL.of (s1 _ _ hp)), fun r1 n1 => ?_⟩
  have s2 := s1.trans (same_new n1 (.lst (row.map V.int)))
  have B2 := B.same s2
  obtain ⟨H3, dp, c3, Ho3, of3⟩ := B2.ho.put2 hz h1 h2 (r := r1) (row := row) upd_same g
  refine ⟨_, rfl, b, a.cBatch, bx, _, _, rfl, s2 _ _ hb, T.clBatch, T.n_new_rows, rfl, _, rfl, nr, H3, rfl, dp, ?_⟩
  obtain ⟨kvs, en⟩ := B2.ho.at
  have c : Chg [nr] H H3 := (Chg.of s2).trans c3
  have nbn : b ∉ [nr] := by simp only [List.mem_singleton]; exact ne_of (s2 _ _ hb) en (fun z => by cases z)
  refine q H3 c ⟨⟨bx, c3 _ _ (s2 _ _ hb) nbn⟩, Ho3⟩ (disk_dict (D.same s2) ⟨kvs, en⟩ c3) fun u hu ou => of3 u (ou.same B.ho s2) fun z => ?_
  subst z
  exact hu (s1.free n1)
end
end K11
end
section
set_option Elab.async false
set_option linter.all false
set_option maxRecDepth 100000
set_option maxHeartbeats 4000000
namespace K11
open PySem L2 BK
section
variable {K : PySem.W.Frag} {a : Ad}
theorem seen_at {R : List (List Int)} {ks : List Int} {ρ : Int → List Int} {n : Nat} (hn : n < R.length) : seen R ks ρ (.int n) = some (if (n : Int) ∈ ks then ρ n else R[n]) := by
 show (if (n : Int) ∈ ks then some (ρ n) else if (0 : Int) ≤ n then R[(n : Int).toNat]? else none) = _
 by_cases h : (n : Int) ∈ ks
 ·rw [if_pos h, if_pos h]
 ·rw [if_neg h, if_neg h, if_pos (by omega), show (n : Int).toNat = n by omega, List.getElem?_eq_getElem hn]
structure Mp (a : Ad) (H : Hp) (b d kr nr y : Addr) (S : DS) (ks : List Int) (ρ : Int → List Int) (m t : Int) : Prop where
 bat : Bat a.cBatch H b d nr S.R.length ks ρ
 dk : DkAt a.cDisk H d kr S
 lay : LayAt a.cLayout H y m t
 good : Good m t
 len : (S.R.length : Int) = m
 few : ks.length < 800
theorem Mp.same {H H' : Hp} {b d kr nr y : Addr} {S : DS} {ks : List Int} {ρ : Int → List Int} {m t : Int} (x : Mp a H b d kr nr y S ks ρ m t) (s : Same H H') : Mp a H' b d kr nr y S ks ρ m t := ⟨x.bat.same s, x.dk.same s, x.lay.same s, x.good, x.len, x.few⟩
theorem Mp.at {H : Hp} {b d kr nr y : Addr} {S : DS} {ks : List Int} {ρ : Int → List Int} {m t : Int} (x : Mp a H b d kr nr y S ks ρ m t) {j : Nat} (hj : j < S.R.length) : ∃ row, seen S.R ks ρ (.int j) = some row ∧ GoodRow row := by
 have es := seen_at (ks := ks) (ρ := ρ) hj
 refine ⟨_, es, ?_⟩
 split
 ·rename_i h; exact x.bat.ho.good _ h
 ·exact x.dk.good _ (List.getElem_mem hj)
def Ofs (nr : Addr) (H H' : Hp) : Prop := ∀ u, H u ≠ none → OffD H nr u → OffD H' nr u ∧ H' u ≠ none
theorem Ofs.refl {nr : Addr} {H : Hp} : Ofs nr H H := fun _ h o => ⟨o, h⟩
theorem Ofs.trans {nr : Addr} {H H1 H2 : Hp} (x : Ofs nr H H1) (y : Ofs nr H1 H2) : Ofs nr H H2 := fun u h o => let ⟨o1, h1⟩ := x u h o; y u h1 o1
theorem some_same {H H' : Hp} {u : Addr} (s : Same H H') (h : H u ≠ none) : H' u ≠ none := by
 cases e : H u with
 | none => exact absurd e h
 | some o => rw [s _ _ e]; simp
theorem Mp.ofs {H H' : Hp} {b d kr nr y : Addr} {S : DS} {ks : List Int} {ρ : Int → List Int} {m t : Int} (x : Mp a H b d kr nr y S ks ρ m t) (s : Same H H') : Ofs nr H H' := fun u h o => ⟨o.same x.bat.ho s, some_same s h⟩
theorem ofs_of {H H' : Hp} {b d nr : Addr} {C : Addr} {m : Int} {ks : List Int} {ρ : Int → List Int} (c : Chg [nr] H H') (B : Bat C H' b d nr m ks ρ) (of : ∀ u, H u ≠ none → OffD H nr u → OffD H' nr u) : Ofs nr H H' := fun u h o => ⟨of u h o, by
 by_cases e : u = nr
 ·obtain ⟨kvs, z⟩ := B.ho.at
  rw [e, z]; simp
 ·cases q : H u with
  | none => exact absurd q h
  | some o' => rw [c _ _ q (by simpa using e)]; simp⟩
end
end K11
end
section
set_option Elab.async false
set_option linter.all false
set_option maxRecDepth 100000
set_option maxHeartbeats 4000000
namespace K11
open PySem L2 BK
section
variable {P : Program} {w : World} {K : PySem.W.Frag} {mg : Str → Option Value} {base : Heap} {f : Addr} {fd : FuncData} {a : Ad}
def nAt (m : Int) (n : Nat) : Nat := (nodesAt m).toNat + n / 2
def nodeW (R : List (List Int)) (ks : List Int) (ρ : Int → List Int) (m : Int) (n : Nat) : List Int := (((seen R ks ρ (.int (nAt m n))).getD []).drop (n % 2 * 8)).take 8
theorem nAt_eq {m t : Int} (g : Good m t) (n : Nat) : (nAt m n : Int) = nodesAt m + (n : Int) * 8 / 16 := by
 obtain ⟨g1, g2, _⟩ := g
 unfold nAt nodesAt
 omega
theorem nAt_lt {m t : Int} (g : Good m t) {n : Nat} (hn : (n : Int) ≤ 2 * t - 1) : 17 ≤ nAt m n ∧ (nAt m n : Int) < dataAt m t ∧ (nAt m n : Int) < m ∧ (nodesAt m ≤ (nAt m n : Int)) := by
 obtain ⟨g1, g2, g3, g4, g5⟩ := g
 unfold nAt
 unfold dataAt nodesAt at *
 omega
theorem Mp.node {H : Hp} {b d kr nr y : Addr} {S : DS} {ks : List Int} {ρ : Int → List Int} {m t : Int} (x : Mp a H b d kr nr y S ks ρ m t) {n : Nat} (hn : (n : Int) ≤ 2 * t - 1) : ∃ row, seen S.R ks ρ (.int (nAt m n)) = some row ∧ GoodRow row ∧ nodeW S.R ks ρ m n = (row.drop (n % 2 * 8)).take 8 ∧ nAt m n < S.R.length := by
 have h := nAt_lt x.good hn
 have hl := x.len
 obtain ⟨row, es, gr⟩ := x.at (j := nAt m n) (by omega)
 exact ⟨row, es, gr, by unfold nodeW; rw [es]; rfl, by omega⟩
def spRefuseN (K : PySem.W.Frag) (a : Ad) : Sp := fun vs H Q E => ∃ (y : Addr) (m t : Int) (v : V), vs = [.ref y, v] ∧ LayAt a.cLayout H y m t ∧ Kd K H v ∧ ((wholeV v 1 (2 * t - 1) = false ∧ E (.ref a.cNoNode) none H) ∨ (wholeV v 1 (2 * t - 1) = true ∧ Q .non H))
theorem ok_refuse_no_node (F : Fun K "refuse_no_node" "refuse_no_node" s_refuse_no_node f fd) (T : Txt K mg a) (D_is_whole : Df P w K mg base CX0 1 "is_whole" ["thing", "least", "most"] (spWhole K a)) (M_Layout_most_node : Mf P w K mg base CX0 1 a.f_most_node ["self"] (spMost K a)) : FnOk P w K mg base (CXE P w) 2 f fd ["layout", "node"] (spRefuseN K a) := by
 obtain ⟨_, _, Gis_whole, bis_whole, kis_whole, mis_whole⟩ := D_is_whole
 obtain ⟨_, G_most_node, b_most_node⟩ := M_Layout_most_node
 have nd := sc_refuse_no_node.nd
 refine F.okE sc_refuse_no_node (fun vs H Q E h => ?_) (fun cdv A outer s H vs Q E hr hA h => ?_)
 ·obtain ⟨y, m, t, v, rfl, _⟩ := h
  rfl
 obtain ⟨y, m, t, v, rfl, L, kd, hq⟩ := h
 obtain ⟨yx, hy⟩ := id L
 refine ⟨_, (pss_one (ps_if (pt_not (pt_val (pe_call Gis_whole (hr.mono (by decide)) rfl mis_whole kis_whole bis_whole .nil pass0 (pa_cons (pv 1) (pa_cons pe_int (pa_cons (pe_meth0 (pv 0) T.clLayout T.m_most_node G_most_node (hr.mono (by decide)) b_most_node .nil pass0) pa_nil)))))) (pss_one (ps_raise (out_fn (fun _ _ _ h => h)) rfl hA rfl T.mNoNode T.xNoNode (pa_cons pe_str pa_nil))) pss_nil)), ?_⟩
 refine ⟨_, rfl, _, rfl, y, yx, _, rfl, hy, rfl, y, m, t, rfl, L, v, 1, _, rfl, kd, _, rfl, ?_⟩
 rcases hq with ⟨hw, q⟩ | ⟨hw, q⟩
 ·exact iteT' (by rw [hw]; rfl) ⟨(by show 1 ≤ 1000; decide), q⟩
 ·exact iteF' (by rw [hw]; rfl) q
def spBlockOf (_ : PySem.W.Frag) (a : Ad) : Sp := fun vs H Q _ => ∃ (y : Addr) (m t : Int) (n : Nat), vs = [.ref y, .int n] ∧ LayAt a.cLayout H y m t ∧ Good m t ∧ Q (.int (nAt m n)) H
theorem ok_block_of (F : Fun K "block_of" "block_of" s_block_of f fd) (T : Txt K mg a)  : FnOk P w K mg base CX0 1 f fd ["layout", "node"] (spBlockOf K a) := by
 have nd := sc_block_of.nd
 refine F.ok sc_block_of (fun vs H Q E h => ?_) (fun cdv A outer s H vs Q E hr h => ?_)
 ·obtain ⟨y, m, t, n, rfl, _⟩ := h
  rfl
 obtain ⟨y, m, t, n, rfl, ⟨yx, hy⟩, g, q⟩ := h
 refine ⟨_, (pss_one (ps_ret (pe_op op_add (pe_fldK (K := K) rfl (pv 0) rfl) (pe_op op_fdiv (pe_op op_mul (pv 1) (pe_glob (v := .int 8) rfl T.cNODE_WORDS.choose_spec ⟨_, rfl⟩)) (pe_glob (v := .int 16) rfl T.cROW_WORDS.choose_spec ⟨_, rfl⟩))))), ?_⟩
 rw [nAt_eq g] at q
 exact ⟨_, rfl, y, a.cLayout, yx, _, _, rfl, hy, T.clLayout, T.n_nodes_at, rfl, _, rfl, _, _, rfl, rfl, .inr ⟨by decide, by decide⟩, _, _, rfl, rfl, ⟨by decide, by decide⟩, _, _, rfl, rfl, q⟩
def spFirst (_ : PySem.W.Frag) (_ : Ad) : Sp := fun vs H Q _ => ∃ (n : Nat), vs = [.int n] ∧ Q (.int ((n % 2 * 8 : Nat) : Int)) H
theorem ok_first_word_of (F : Fun K "first_word_of" "first_word_of" s_first_word_of f fd) (T : Txt K mg a)  : FnOk P w K mg base CX0 1 f fd ["node"] (spFirst K a) := by
 have nd := sc_first_word_of.nd
 refine F.ok sc_first_word_of (fun vs H Q E h => ?_) (fun cdv A outer s H vs Q E hr h => ?_)
 ·obtain ⟨n, rfl, _⟩ := h
  rfl
 obtain ⟨n, rfl, q⟩ := h
 refine ⟨_, (pss_one (ps_ret (pe_op op_mod (pe_op op_mul (pv 0) (pe_glob (v := .int 8) rfl T.cNODE_WORDS.choose_spec ⟨_, rfl⟩)) (pe_glob (v := .int 16) rfl T.cROW_WORDS.choose_spec ⟨_, rfl⟩)))), ?_⟩
 rw [show ((n % 2 * 8 : Nat) : Int) = (n : Int) * 8 % 16 by omega] at q
 exact ⟨_, rfl, _, _, rfl, rfl, .inr ⟨by decide, by decide⟩, _, _, rfl, rfl, (by show (0 : Int) < 16; decide), q⟩
def spNodeOf (K : PySem.W.Frag) (a : Ad) : Sp := fun vs H Q E => ∃ (b d kr nr y : Addr) (S : DS) (ks : List Int) (ρ : Int → List Int) (m t : Int) (v : V), vs = [.ref b, .ref y, v] ∧ Mp a H b d kr nr y S ks ρ m t ∧ Kd K H v ∧
  ((wholeV v 1 (2 * t - 1) = false ∧ E (.ref a.cNoNode) none H) ∨
   (∃ n : Nat, v = .int n ∧ 1 ≤ n ∧ (n : Int) ≤ 2 * t - 1 ∧ ∀ p H', H p = none → Same H H' → H' p = some (.lst ((nodeW S.R ks ρ m n).map V.int)) → Q (.ref p) H'))
theorem cut_mid (xs : List V) (i j : Nat) (h : i + j ≤ xs.length) : cutV xs (some (i : Int)) (some ((i + j : Nat) : Int)) = (xs.drop i).take j := by
 unfold cutV
 rw [HT.sIx_nat, HT.sIx_nat, Nat.min_eq_left (by omega), Nat.min_eq_left (by omega), show i + j - i = j by omega]
theorem ok_node_of (F : Fun K "node_of" "node_of" s_node_of f fd) (T : Txt K mg a) (D_refuse_no_node : Df P w K mg base (CXE P w) 2 "refuse_no_node" ["layout", "node"] (spRefuseN K a)) (D_first_word_of : Df P w K mg base CX0 1 "first_word_of" ["node"] (spFirst K a)) (M_Batch_read : Mf P w K mg base (CXE P w) 4 a.f_Batch_read ["self", "block"] (spBRead K a)) (D_block_of : Df P w K mg base CX0 1 "block_of" ["layout", "node"] (spBlockOf K a)) : FnOk P w K mg base (CXE P w) 5 f fd ["batch", "layout", "node"] (spNodeOf K a) := by
 obtain ⟨_, _, Grefuse_no_node, brefuse_no_node, krefuse_no_node, mrefuse_no_node⟩ := D_refuse_no_node
 obtain ⟨_, _, Gfirst_word_of, bfirst_word_of, kfirst_word_of, mfirst_word_of⟩ := D_first_word_of
 obtain ⟨_, G_Batch_read, b_Batch_read⟩ := M_Batch_read
 obtain ⟨_, _, Gblock_of, bblock_of, kblock_of, mblock_of⟩ := D_block_of
 have nd := sc_node_of.nd
 refine F.okE sc_node_of (fun vs H Q E h => ?_) (fun cdv A outer s H vs Q E hr hA h => ?_)
 ·obtain ⟨b, d, kr, nr, y, S, ks, ρ, m, t, v, rfl, _⟩ := h
  rfl
 obtain ⟨b, d, kr, nr, y, S, ks, ρ, m, t, v, rfl, X, kd, hq⟩ := h
 refine ⟨_, (pss_cons (ps_expr (pe_call Grefuse_no_node (hr.mono (by decide)) rfl mrefuse_no_node krefuse_no_node brefuse_no_node .nil (passes_fn (fun _ _ _ h => h)) (pa_cons (pv 1) (pa_cons (pv 2) pa_nil)) (hcm := (.inr hA))))
  (pss_cons (ps_set (i := 3) nd rfl (by first | exact Or.inl rfl | exact Or.inr rfl) (pe_call Gfirst_word_of (hr.mono (by decide)) rfl mfirst_word_of kfirst_word_of bfirst_word_of .nil pass0 (pa_cons (pv 2) pa_nil)))
  (pss_one (ps_ret (pe_slice (sl_listK (K := K) rfl) (pe_meth (pv 0) T.clBatch T.m_Batch_read G_Batch_read (hr.mono (by decide)) b_Batch_read .nil (passes_fn (fun _ _ _ h => h)) (pa_cons (pe_call Gblock_of (hr.mono (by decide)) rfl mblock_of kblock_of bblock_of .nil pass0 (pa_cons (pv 1) (pa_cons (pv 2) pa_nil))) pa_nil) (hcm := (.inr hA))) (po_some (pv 3)) (po_some (pe_op op_add (pv 3) (pe_glob (v := .int 8) rfl T.cNODE_WORDS.choose_spec ⟨_, rfl⟩)))))))), ?_⟩
 rcases hq with ⟨hw, q⟩ | ⟨n, rfl, h1, h2, q⟩
 ·exact ⟨_, rfl, _, rfl, y, m, t, v, rfl, X.lay, kd, .inl ⟨hw, q⟩⟩
 ·obtain ⟨row, es, gr, en, hlt⟩ := X.node h2
  obtain ⟨bx, hb⟩ := X.bat.ex
  refine ⟨_, rfl, _, rfl, y, m, t, _, rfl, X.lay, .int _, .inr ⟨whole_in (by omega) h2, ?_⟩⟩
  refine ⟨_, rfl, n, rfl, ?_⟩
  refine ⟨_, rfl, b, bx, _, rfl, hb, rfl, _, rfl, _, rfl, y, m, t, n, rfl, X.lay, X.good, ex8 b d kr nr S ks ρ _ ⟨rfl, X.bat, X.dk, .int _, .inl ⟨row, es, fun p H1 np s1 hp => ?_⟩⟩⟩
  refine ⟨_, rfl, _, rfl, _, rfl, _, _, rfl, rfl, _, rfl, p, _, rfl, SqL.of hp, fun p2 n2 => ?_⟩
  rw [show ((n % 2 * 8 : Nat) : Int) + 8 = ((n % 2 * 8 + 8 : Nat) : Int) by omega, cut_mid _ _ _ (by rw [List.length_map, gr.1]; omega), ← List.map_drop, ← List.map_take, ← en]
  exact q p2 _ (s1.free n2) (s1.trans (same_new n2 _)) upd_same
theorem seen_put {R : List (List Int)} {ks : List Int} {ρ' : Int → List Int} {k : Int} : seen R (insK ks k) ρ' (.int k) = some (ρ' k) := by
 show (if k ∈ insK ks k then some (ρ' k) else _) = _
 rw [if_pos (insK_mem.mpr (.inr rfl))]
theorem flat_1 (n : Nat) (x : Int) : (List.replicate n [V.int x]).flatten = (List.replicate n x).map V.int := by
 induction n with
 | zero => rfl
 | succ n ih => rw [List.replicate_succ, List.flatten_cons, ih, List.replicate_succ]; rfl
end
end K11
end
section
set_option Elab.async false
set_option linter.all false
set_option maxRecDepth 100000
set_option maxHeartbeats 4000000
namespace K11
open PySem L2 BK
section
variable {P : Program} {w : World} {K : PySem.W.Frag} {mg : Str → Option Value} {base : Heap} {f : Addr} {fd : FuncData} {a : Ad}
theorem chg_same' {T : List Addr} {H H1 H2 : Hp} (s : Same H H1) (c : Chg T H1 H2) (n : ∀ p ∈ T, H p = none) : Same H H2 := fun b o e => c b o (s b o e) fun z => by rw [n b z] at e; cases e
def spCount (_ : PySem.W.Frag) (_ : Ad) : Sp := fun vs H Q _ => ∃ (sz : Nat), vs = [.int sz] ∧ Q (.int (((sz + 15) / 16 : Nat) : Int)) H
theorem ok_count_of_blocks (F : Fun K "count_of_blocks" "count_of_blocks" s_count_of_blocks f fd) (T : Txt K mg a)  : FnOk P w K mg base CX0 1 f fd ["size"] (spCount K a) := by
 have nd := sc_count_of_blocks.nd
 refine F.ok sc_count_of_blocks (fun vs H Q E h => ?_) (fun cdv A outer s H vs Q E hr h => ?_)
 ·obtain ⟨sz, rfl, _⟩ := h
  rfl
 obtain ⟨sz, rfl, q⟩ := h
 refine ⟨_, (pss_one (ps_ret (pe_op op_fdiv (pe_op op_sub (pe_op op_add (pv 0) (pe_glob (v := .int 16) rfl T.cROW_WORDS.choose_spec ⟨_, rfl⟩)) pe_int) (pe_glob (v := .int 16) rfl T.cROW_WORDS.choose_spec ⟨_, rfl⟩)))), ?_⟩
 rw [show (((sz + 15) / 16 : Nat) : Int) = ((sz : Int) + 16 - 1) / 16 by omega] at q
 exact ⟨_, rfl, _, _, rfl, rfl, _, _, rfl, rfl, _, _, rfl, rfl, ⟨by decide, by decide⟩, q⟩
structure Span (R : List (List Int)) (ks : List Int) (ρ : Int → List Int) (m t : Int) (n sz : Nat) (B : List Int) (fr : Int) : Prop where
 n1 : 1 ≤ n
 n2 : (n : Int) ≤ 2 * t - 1
 ex : ∃ kind links a1 a2 a3 a4 : Int, nodeW R ks ρ m n = [kind, links, (sz : Int), a1, a2, a3, a4, fr] ∧ [a1, a2, a3, a4].take B.length = B.take 4
 len : B.length = (sz + 15) / 16
 few : sz ≤ 320
 far : 4 < B.length → ∃ row, seen R ks ρ (.int fr) = some row ∧ row.take (B.length - 4) = B.drop 4
def spBlocksOf (_ : PySem.W.Frag) (a : Ad) : Sp := fun vs H Q _ => ∃ (b d kr nr y : Addr) (S : DS) (ks : List Int) (ρ : Int → List Int) (m t : Int) (n sz : Nat) (B : List Int) (fr : Int), vs = [.ref b, .ref y, .int n] ∧ Mp a H b d kr nr y S ks ρ m t ∧ Span S.R ks ρ m t n sz B fr ∧
 ∀ p H', H p = none → Same H H' → H' p = some (.lst (B.map V.int)) → Q (.ref p) H'
theorem ok_blocks_of (F : Fun K "blocks_of" "blocks_of" s_blocks_of f fd) (T : Txt K mg a) (D_node_of : Df P w K mg base (CXE P w) 5 "node_of" ["batch", "layout", "node"] (spNodeOf K a)) (D_count_of_blocks : Df P w K mg base CX0 1 "count_of_blocks" ["size"] (spCount K a)) (M_Batch_read : Mf P w K mg base (CXE P w) 4 a.f_Batch_read ["self", "block"] (spBRead K a)) : FnOk P w K mg base (CXE P w) 6 f fd ["batch", "layout", "node"] (spBlocksOf K a) := by
 obtain ⟨_, _, Gnode_of, bnode_of, knode_of, mnode_of⟩ := D_node_of
 obtain ⟨_, _, Gcount_of_blocks, bcount_of_blocks, kcount_of_blocks, mcount_of_blocks⟩ := D_count_of_blocks
 obtain ⟨_, G_Batch_read, b_Batch_read⟩ := M_Batch_read
 have nd := sc_blocks_of.nd
 refine F.okE sc_blocks_of (fun vs H Q E h => ?_) (fun cdv A outer s H vs Q E hr hA h => ?_)
 ·obtain ⟨b, d, kr, nr, y, S, ks, ρ, m, t, n, sz, B, fr, rfl, _⟩ := h
  rfl
 obtain ⟨b, d, kr, nr, y, S, ks, ρ, m, t, n, sz, B, fr, rfl, X, G, q⟩ := h
 obtain ⟨kind, links, a1, a2, a3, a4, en, ht⟩ := G.ex
 have hlen := G.len
 have few := G.few
 refine ⟨_, (pss_cons (ps_set (i := 3) nd rfl (by first | exact Or.inl rfl | exact Or.inr rfl) (pe_call Gnode_of (hr.mono (by decide)) rfl mnode_of knode_of bnode_of .nil (passes_fn (fun _ _ _ h => h)) (pa_cons (pv 0) (pa_cons (pv 1) (pa_cons (pv 2) pa_nil))) (hcm := (.inr hA))))
  (pss_cons (ps_set (i := 4) nd rfl (by first | exact Or.inl rfl | exact Or.inr rfl) (pe_call Gcount_of_blocks (hr.mono (by decide)) rfl mcount_of_blocks kcount_of_blocks bcount_of_blocks .nil pass0 (pa_cons (pe_ix (ix_listK (K := K) rfl) (pv 3) (pe_glob (v := .int 2) rfl T.cSIZE_AT.choose_spec ⟨_, rfl⟩) (fun _ _ => rfl)) pa_nil)))
  (pss_cons (ps_set (i := 5) nd rfl (by first | exact Or.inl rfl | exact Or.inr rfl) (pe_slice (sl_listK (K := K) rfl) (pv 3) (po_some (pe_glob (v := .int 3) rfl T.cPLACES_AT.choose_spec ⟨_, rfl⟩)) (po_some (pe_glob (v := .int 7) rfl T.cFAR_AT.choose_spec ⟨_, rfl⟩))))
  (pss_cons (ps_if (pt_cmpR op_le (pv 4) (pe_glob (v := .int 4) rfl T.cNEAR_BLOCKS.choose_spec ⟨_, rfl⟩) (nomark _)) (pss_one (ps_ret (pe_slice (sl_listK (K := K) rfl) (pv 5) po_none (po_some (pv 4))))) pss_nil)
  (pss_one (ps_ret (pe_op op_cat (pv 5) (pe_slice (sl_listK (K := K) rfl) (pe_meth (pv 0) T.clBatch T.m_Batch_read G_Batch_read (hr.mono (by decide)) b_Batch_read .nil (passes_fn (fun _ _ _ h => h)) (pa_cons (pe_ix (ix_listK (K := K) rfl) (pv 3) (pe_glob (v := .int 7) rfl T.cFAR_AT.choose_spec ⟨_, rfl⟩) (fun _ _ => rfl)) pa_nil) (hcm := (.inr hA))) po_none (po_some (pe_op op_sub (pv 4) (pe_glob (v := .int 4) rfl T.cNEAR_BLOCKS.choose_spec ⟨_, rfl⟩))))))))))), ?_⟩
 refine ⟨_, rfl, _, rfl, _, rfl, ex11 b d kr nr y S ks ρ m t _ ⟨rfl, X, .int _, .inr ⟨n, rfl, G.n1, G.n2, fun p H1 np s1 hp => ?_⟩⟩⟩
 rw [en] at hp
 refine ⟨_, rfl, p, _, 2, _, rfl, rfl, SqL.of hp, rfl, sz, rfl, ?_⟩
 rw [← hlen]
 refine ⟨_, rfl, _, rfl, _, rfl, p, _, rfl, SqL.of hp, fun p2 n2 => ?_⟩
 have w2 := same_new n2 (.lst ([a1, a2, a3, a4].map V.int))
 have hp2 := upd_same (H := H1) (a := p2) (o := .lst ([a1, a2, a3, a4].map V.int))
 show tSeq _ _ _ _ (upd H1 p2 (.lst ([a1, a2, a3, a4].map V.int)))
 have s2 := s1.trans w2
 have hpp := w2 _ _ hp
 generalize upd H1 p2 (.lst ([a1, a2, a3, a4].map V.int)) = H2 at w2 hp2 s2 hpp ⊢
 refine ⟨_, rfl, _, _, rfl, rfl, _, rfl, ?_⟩
 by_cases h4 : (B.length : Int) ≤ 4
 ·refine iteT' (decide_eq_true h4) ?_
  refine ⟨_, rfl, _, rfl, _, rfl, p2, _, rfl, SqL.of hp2, fun p3 n3 => ?_⟩
  rw [cut_to, ← List.map_take, ht, List.take_of_length_le (by omega)]
  exact q p3 _ (s2.free n3) (s2.trans (same_new n3 _)) upd_same
 ·refine iteF' (decide_eq_false h4) ?_
  obtain ⟨row, er, hrow⟩ := G.far (by omega)
  have X2 := X.same s2
  obtain ⟨bx, hb⟩ := X2.bat.ex
  refine ⟨_, rfl, _, rfl, b, bx, _, rfl, hb, rfl, _, rfl, p, _, 7, _, rfl, rfl, SqL.of hpp, rfl, ex8 b d kr nr S ks ρ _ ⟨rfl, X2.bat, X2.dk, .int _, .inl ⟨row, er, fun p3 H3 np3 s3 hp3 => ?_⟩⟩⟩
  refine ⟨_, rfl, _, _, rfl, rfl, _, rfl, p3, _, rfl, SqL.of hp3, fun p4 n4 => ?_⟩
  dsimp (config := { proj := false, iota := false, eta := false, zeta := false }) only
  rw [show (B.length : Int) - 4 = ((B.length - 4 : Nat) : Int) by omega, cut_to, ← List.map_take, hrow]
  have w4 := same_new n4 (.lst ((B.drop 4).map V.int))
  refine ⟨p2, p4, _, _, rfl, rfl, (s3.trans w4) _ _ hp2, upd_same, small (by simp only [List.length_map, List.length_drop]; simp; omega), fun p5 n5 => ?_⟩
  have e4 : [a1, a2, a3, a4] = B.take 4 := by
   rw [← ht, List.take_of_length_le (by simp; omega)]
  rw [← List.map_append, e4, List.take_append_drop]
  have sA := s2.trans (s3.trans w4)
  exact q p5 _ (sA.free n5) (sA.trans (same_new n5 _)) upd_same
def usedL (B : List Int) (fr : Int) : List Int := if B.length ≤ 4 then B else B.take 4 ++ [fr] ++ B.drop 4
def spUsedBy (_ : PySem.W.Frag) (a : Ad) : Sp := fun vs H Q _ => ∃ (b d kr nr y : Addr) (S : DS) (ks : List Int) (ρ : Int → List Int) (m t : Int) (n sz : Nat) (B : List Int) (fr : Int), vs = [.ref b, .ref y, .int n] ∧ Mp a H b d kr nr y S ks ρ m t ∧ Span S.R ks ρ m t n sz B fr ∧
 ∀ p H', H p = none → Same H H' → H' p = some (.lst ((usedL B fr).map V.int)) → Q (.ref p) H'
theorem ok_used_by (F : Fun K "used_by" "used_by" s_used_by f fd) (T : Txt K mg a) (D_blocks_of : Df P w K mg base (CXE P w) 6 "blocks_of" ["batch", "layout", "node"] (spBlocksOf K a)) (D_node_of : Df P w K mg base (CXE P w) 5 "node_of" ["batch", "layout", "node"] (spNodeOf K a)) : FnOk P w K mg base (CXE P w) 7 f fd ["batch", "layout", "node"] (spUsedBy K a) := by
 obtain ⟨_, _, Gblocks_of, bblocks_of, kblocks_of, mblocks_of⟩ := D_blocks_of
 obtain ⟨_, _, Gnode_of, bnode_of, knode_of, mnode_of⟩ := D_node_of
 have nd := sc_used_by.nd
 refine F.okE sc_used_by (fun vs H Q E h => ?_) (fun cdv A outer s H vs Q E hr hA h => ?_)
 ·obtain ⟨b, d, kr, nr, y, S, ks, ρ, m, t, n, sz, B, fr, rfl, _⟩ := h
  rfl
 obtain ⟨b, d, kr, nr, y, S, ks, ρ, m, t, n, sz, B, fr, rfl, X, G, q⟩ := h
 obtain ⟨kind, links, a1, a2, a3, a4, en, ht⟩ := G.ex
 have hlen := G.len
 have few := G.few
 refine ⟨_, (pss_cons (ps_set (i := 3) nd rfl (by first | exact Or.inl rfl | exact Or.inr rfl) (pe_call Gblocks_of (hr.mono (by decide)) rfl mblocks_of kblocks_of bblocks_of .nil (passes_fn (fun _ _ _ h => h)) (pa_cons (pv 0) (pa_cons (pv 1) (pa_cons (pv 2) pa_nil))) (hcm := (.inr hA))))
  (pss_cons (ps_if (pt_cmpR op_le (pe_callB (call_lenK (K := K) rfl) rfl T.len bt_len (pa_cons (pv 3) pa_nil)) (pe_glob (v := .int 4) rfl T.cNEAR_BLOCKS.choose_spec ⟨_, rfl⟩) (nomark _)) (pss_one (ps_ret (pv 3))) pss_nil)
  (pss_cons (ps_set (i := 4) nd rfl (by first | exact Or.inl rfl | exact Or.inr rfl) (pe_ix (ix_listK (K := K) rfl) (pe_call Gnode_of (hr.mono (by decide)) rfl mnode_of knode_of bnode_of .nil (passes_fn (fun _ _ _ h => h)) (pa_cons (pv 0) (pa_cons (pv 1) (pa_cons (pv 2) pa_nil))) (hcm := (.inr hA))) (pe_glob (v := .int 7) rfl T.cFAR_AT.choose_spec ⟨_, rfl⟩) (fun _ _ => rfl)))
  (pss_one (ps_ret (pe_op op_cat (pe_op op_cat (pe_slice (sl_listK (K := K) rfl) (pv 3) po_none (po_some (pe_glob (v := .int 4) rfl T.cNEAR_BLOCKS.choose_spec ⟨_, rfl⟩))) (pe_lst (pa_cons (pv 4) pa_nil))) (pe_slice (sl_listK (K := K) rfl) (pv 3) (po_some (pe_glob (v := .int 4) rfl T.cNEAR_BLOCKS.choose_spec ⟨_, rfl⟩)) po_none))))))), ?_⟩
 refine ⟨_, rfl, _, rfl, _, rfl, ex14 b d kr nr y S ks ρ m t n sz B fr ⟨rfl, X, G, fun p H1 np s1 hp => ?_⟩⟩
 refine ⟨_, rfl, p, _, rfl, .inl (SqL.of hp), _, _, rfl, rfl, _, rfl, ?_⟩
 rw [List.length_map]
 by_cases h4 : (B.length : Int) ≤ 4
 ·refine iteT' (decide_eq_true h4) ⟨_, rfl, q p H1 np s1 ?_⟩
  unfold usedL
  rw [if_pos (by omega)]; exact hp
 ·refine iteF' (decide_eq_false h4) ?_
  have X1 := X.same s1
  refine ⟨_, rfl, _, rfl, _, rfl, ex11 b d kr nr y S ks ρ m t _ ⟨rfl, X1, .int _, .inr ⟨n, rfl, G.n1, G.n2, fun p2 H2 np2 s2 hp2 => ?_⟩⟩⟩
  rw [en] at hp2
  refine ⟨p2, _, 7, _, rfl, rfl, SqL.of hp2, rfl, ?_⟩
  have hpp := s2 _ _ hp
  refine ⟨_, rfl, _, rfl, p, _, rfl, SqL.of hpp, fun x1 m1 => ?_⟩
  rw [show cutV (B.map V.int) none (some (4 : Int)) = (B.take 4).map V.int by rw [show (4 : Int) = ((4 : Nat) : Int) from rfl, cut_to, List.map_take]]
  have u1 := same_new m1 (.lst ((B.take 4).map V.int))
  refine ⟨_, rfl, (by show 1 ≤ sizeLine; decide), fun x2 m2 => ?_⟩
  have u2 := u1.trans (same_new m2 (.lst [.int fr]))
  refine ⟨x1, x2, _, _, rfl, rfl, same_new m2 _ _ _ upd_same, upd_same, small (by simp; omega), fun x3 m3 => ?_⟩
  have u3 := u2.trans (same_new m3 (.lst ((B.take 4).map V.int ++ [.int fr])))
  refine ⟨_, rfl, _, rfl, p, _, rfl, SqL.of (u3 _ _ hpp), fun x4 m4 => ?_⟩
  rw [show cutV (B.map V.int) (some (4 : Int)) none = (B.drop 4).map V.int by rw [show (4 : Int) = ((4 : Nat) : Int) from rfl, cut_from, List.map_drop]]
  have u4 := u3.trans (same_new m4 (.lst ((B.drop 4).map V.int)))
  refine ⟨x3, x4, _, _, rfl, rfl, same_new m4 _ _ _ upd_same, upd_same, small (by simp; omega), fun x5 m5 => ?_⟩
  have sA := (s1.trans s2).trans u4
  refine q x5 _ (sA.free m5) (sA.trans (same_new m5 _)) ?_
  unfold usedL
  rw [upd_same, if_neg (by omega), List.map_append, List.map_append]; rfl
def spRefuseO (_ : PySem.W.Frag) (a : Ad) : Sp := fun vs H Q E => ∃ (b d kr nr y : Addr) (S : DS) (ks : List Int) (ρ : Int → List Int) (m t : Int) (n sz : Nat) (B : List Int) (fr bg c : Int), vs = [.ref b, .ref y, .int n, .int bg, .int c] ∧ Mp a H b d kr nr y S ks ρ m t ∧ Span S.R ks ρ m t n sz B fr ∧
 (((bg < 0 ∨ c < 0 ∨ (sz : Int) < bg + c) ∧ ∀ H', Same H H' → E (.ref a.cOutOfPlace) none H') ∨ (0 ≤ bg ∧ 0 ≤ c ∧ bg + c ≤ (sz : Int) ∧ ∀ H', Same H H' → Q .non H'))
theorem ok_refuse_out_of_place (F : Fun K "refuse_out_of_place" "refuse_out_of_place" s_refuse_out_of_place f fd) (T : Txt K mg a) (D_node_of : Df P w K mg base (CXE P w) 5 "node_of" ["batch", "layout", "node"] (spNodeOf K a)) : FnOk P w K mg base (CXE P w) 6 f fd ["batch", "layout", "node", "begin", "count"] (spRefuseO K a) := by
 obtain ⟨_, _, Gnode_of, bnode_of, knode_of, mnode_of⟩ := D_node_of
 have nd := sc_refuse_out_of_place.nd
 refine F.okE sc_refuse_out_of_place (fun vs H Q E h => ?_) (fun cdv A outer s H vs Q E hr hA h => ?_)
 ·obtain ⟨b, d, kr, nr, y, S, ks, ρ, m, t, n, sz, B, fr, bg, c, rfl, _⟩ := h
  rfl
 obtain ⟨b, d, kr, nr, y, S, ks, ρ, m, t, n, sz, B, fr, bg, c, rfl, X, G, hq⟩ := h
 obtain ⟨kind, links, a1, a2, a3, a4, en, ht⟩ := G.ex
 refine ⟨_, (pss_cons (ps_set (i := 5) nd rfl (by first | exact Or.inl rfl | exact Or.inr rfl) (pe_ix (ix_listK (K := K) rfl) (pe_call Gnode_of (hr.mono (by decide)) rfl mnode_of knode_of bnode_of .nil (passes_fn (fun _ _ _ h => h)) (pa_cons (pv 0) (pa_cons (pv 1) (pa_cons (pv 2) pa_nil))) (hcm := (.inr hA))) (pe_glob (v := .int 2) rfl T.cSIZE_AT.choose_spec ⟨_, rfl⟩) (fun _ _ => rfl)))
  (pss_one (ps_if (PW.pt (pw_or (pt_cmpR op_lt (pv 3) pe_int (nomark _)) (pw_or (pt_cmpR op_lt (pv 4) pe_int (nomark _)) (pw_or1 (pt_cmpR op_gt (pe_op op_add (pv 3) (pv 4)) (pv 5) (nomark _)))))) (pss_one (ps_raise (out_fn (fun _ _ _ h => h)) rfl hA rfl T.mOutOfPlace T.xOutOfPlace (pa_cons pe_str pa_nil))) pss_nil))), ?_⟩
 refine ⟨_, rfl, _, rfl, _, rfl, ex11 b d kr nr y S ks ρ m t _ ⟨rfl, X, .int _, .inr ⟨n, rfl, G.n1, G.n2, fun p H1 np s1 hp => ?_⟩⟩⟩
 rw [en] at hp
 refine ⟨p, _, 2, _, rfl, rfl, SqL.of hp, rfl, ?_⟩
 have bad : (bg < 0 ∨ c < 0 ∨ (sz : Int) < bg + c) → E (.ref a.cOutOfPlace) none H1 := fun hb => by
  rcases hq with ⟨_, q⟩ | ⟨h1, h2, h3, _⟩
  ·exact q H1 s1
  ·omega
 refine ⟨_, rfl, _, _, rfl, rfl, _, rfl, ?_⟩
 by_cases h0 : bg < 0
 ·exact iteT' (decide_eq_true h0) (iteT' (by rfl) ⟨(by show 1 ≤ 1000; decide), bad (.inl h0)⟩)
 refine iteF' (decide_eq_false h0) ⟨_, rfl, _, _, rfl, rfl, _, rfl, ?_⟩
 by_cases h1 : c < 0
 ·exact iteT' (decide_eq_true h1) (iteT' (by rfl) ⟨(by show 1 ≤ 1000; decide), bad (.inr (.inl h1))⟩)
 refine iteF' (decide_eq_false h1) ⟨_, rfl, _, rfl, _, _, rfl, rfl, _, rfl, _, _, rfl, rfl, _, rfl, ?_⟩
 by_cases h2 : (sz : Int) < bg + c
 ·exact iteT' (decide_eq_true h2) ⟨(by show 1 ≤ 1000; decide), bad (.inr (.inr h2))⟩
 refine iteF' (decide_eq_false h2) ?_
 rcases hq with ⟨h, _⟩ | ⟨_, _, _, q⟩
 ·omega
 ·exact q H1 s1
def partsL (at' e : Nat) : List (Nat × Nat) := if h : at' < e then (at', min (16 - at' % 16) (e - at')) :: partsL (at' + min (16 - at' % 16) (e - at')) e else []
termination_by e - at'
decreasing_by omega
theorem parts_go {at' e : Nat} (h : at' < e) : partsL at' e = (at', min (16 - at' % 16) (e - at')) :: partsL (at' + min (16 - at' % 16) (e - at')) e := by
 rw [partsL, dif_pos h]
theorem parts_end {at' e : Nat} (h : ¬ at' < e) : partsL at' e = [] := by rw [partsL, dif_neg h]
def PartsAt (H : Hp) (ts : List Addr) (L : List (Nat × Nat)) : Prop := ts.length = L.length ∧ ∀ (i : Nat) (t : Addr) (x : Nat × Nat), ts[i]? = some t → L[i]? = some x → H t = some (.tup [.int x.1, .int x.2])
def spParts (_ : PySem.W.Frag) (_ : Ad) : Sp := fun vs H Q _ => ∃ (bg c : Nat), vs = [.int bg, .int c] ∧ c ≤ 900 ∧ ∀ p ts H', H p = none → Same H H' → H' p = some (.lst (ts.map V.ref)) → PartsAt H' ts (partsL bg (bg + c)) → Q (.ref p) H'
theorem ok_parts (F : Fun K "parts" "parts" s_parts f fd) (T : Txt K mg a)  : FnOk P w K mg base (CXE P w) 1 f fd ["begin", "count"] (spParts K a) := by
 have nd := sc_parts.nd
 refine F.okE sc_parts (fun vs H Q E h => ?_) (fun cdv A outer s H vs Q E hr hA h => ?_)
 ·obtain ⟨bg, c, rfl, _⟩ := h
  rfl
 obtain ⟨bg, c, rfl, hc, q⟩ := h
 refine ⟨_, (pss_cons (ps_set (i := 2) nd rfl (by first | exact Or.inl rfl | exact Or.inr rfl) (pe_op op_add (pv 0) (pv 1)))
  (pss_cons (ps_set (i := 3) nd rfl (by first | exact Or.inl rfl | exact Or.inr rfl) (pe_lst pa_nil))
  (pss_cons (ps_set (i := 4) nd rfl (by first | exact Or.inl rfl | exact Or.inr rfl) (pv 0))
  (pss_cons (ps_while PassesOwn.leaving (pt_cmpR op_lt (pv 4) (pv 2) (nomark _)) (pss_cons (ps_set (i := 5) nd rfl (by first | exact Or.inl rfl | exact Or.inr rfl) (pe_callB (call_min2 hA) rfl T.min bt_min (pa_cons (pe_op op_sub (pe_glob (v := .int 16) rfl T.cROW_WORDS.choose_spec ⟨_, rfl⟩) (pe_op op_mod (pv 4) (pe_glob (v := .int 16) rfl T.cROW_WORDS.choose_spec ⟨_, rfl⟩))) (pa_cons (pe_op op_sub (pv 2) (pv 4)) pa_nil))))
  (pss_cons (ps_expr (pe_bmK (K := K) rfl PySem.F.plainAttrs_list PySem.F.slot_list_append PySem.F.type_list_append mt_append (pv 3) (pa_cons (pe_tup (pa_cons (pv 4) (pa_cons (pv 5) pa_nil))) pa_nil)))
  (pss_one (ps_set (i := 4) nd rfl (by first | exact Or.inl rfl | exact Or.inr rfl) (pe_op op_add (pv 4) (pv 5)))))))
  (pss_one (ps_ret (pv 3))))))), ?_⟩
 refine ⟨_, rfl, _, rfl, _, _, rfl, rfl, ?_⟩
 dsimp (config := { proj := false, iota := false, eta := false, zeta := false }) only
 rw [show (bg : Int) + (c : Int) = ((bg + c : Nat) : Int) by omega]
 refine ⟨(by show 0 ≤ sizeLine; decide), fun cu ncu => ⟨_, rfl, ?_⟩⟩
 refine ⟨fun k σ' H' => ∃ (at' : Nat) (ts : List Addr) (L : List (Nat × Nat)) (o5 : Option V), k = bg + c - at' ∧ σ' = [some (.int bg), some (.int c), some (.int ((bg + c : Nat) : Int)), some (.ref cu), some (.int at'), o5] ∧ Same H H' ∧ H' cu = some (.lst (ts.map V.ref)) ∧ PartsAt H' ts L ∧ L ++ partsL at' (bg + c) = partsL bg (bg + c) ∧ L.length + bg ≤ at' ∧ at' ≤ bg + c ∧ ∀ t ∈ ts, t ≠ cu,
  ⟨_, bg, [], [], none, rfl, rfl, same_new ncu _, upd_same, ⟨rfl, fun i t x e1 _ => by simp at e1⟩, rfl, by simp, by omega, fun t ht => (by cases ht)⟩, ?_⟩
 rintro k σ' H1 ⟨at', ts, L, o5, rfl, rfl, s1, hcu, hP, hL, hl, hae, hn⟩
 refine ⟨_, rfl, _, rfl, _, _, rfl, rfl, _, rfl, ?_⟩
 by_cases h : at' < bg + c
 ·refine iteT' (decide_eq_true (by omega)) ⟨_, fun σ' H' h => h, ?_⟩
  obtain ⟨st, est⟩ : ∃ st : Nat, min (16 - at' % 16) (bg + c - at') = st := ⟨_, rfl⟩
  refine ⟨_, rfl, _, _, rfl, rfl, (by show (0 : Int) < 16; decide), _, _, rfl, rfl, _, rfl, _, rfl, _, _, rfl, rfl, _, _, rfl, ?_⟩
  dsimp (config := { proj := false, iota := false, eta := false, zeta := false }) only
  rw [show (if ((bg + c : Nat) : Int) - (at' : Int) < 16 - (at' : Int) % 16 then ((bg + c : Nat) : Int) - (at' : Int) else 16 - (at' : Int) % 16) = (st : Int) by split <;> omega]
  refine ⟨_, rfl, .inl ⟨rfl, _, SqL.of hcu⟩, _, rfl, _, rfl, (by show 2 ≤ sizeLine; decide), fun tp ntp => ?_⟩
  have w2 := same_new ntp (.tup [.int at', .int st])
  have ntc : tp ≠ cu := Ne.symm (ne_of_none hcu ntp)
  refine ⟨cu, _, _, rfl, rfl, w2 _ _ hcu, small1000 (by rw [List.length_map, hP.1]; omega), ?_⟩
  have ets : ts.map V.ref ++ [V.ref tp] = (ts ++ [tp]).map V.ref := by simp
  rw [ets]
  refine ⟨_, rfl, _, rfl, _, _, rfl, rfl, ?_⟩
  dsimp (config := { proj := false, iota := false, eta := false, zeta := false }) only
  rw [show (at' : Int) + (st : Int) = ((at' + st : Nat) : Int) by omega]
  refine ⟨_, ?_, at' + st, ts ++ [tp], L ++ [(at', st)], _, rfl, rfl, chg_same' (s1.trans w2) ((Chg.of (Same.refl _) (S := [cu])).upd (by simp) _) (by simp [ncu]), upd_same, ?_, ?_, by rw [List.length_append]; simp; omega, by omega, fun t ht => ?_⟩
  ·omega
  ·refine ⟨by simp [hP.1], fun i t x e1 e2 => ?_⟩
   have hl := hP.1
   by_cases hi : i < ts.length
   ·rw [List.getElem?_append_left hi] at e1
    rw [List.getElem?_append_left (by omega)] at e2
    rw [upd_ne (hn t (List.mem_of_getElem? e1))]
    exact w2 _ _ (hP.2 i t x e1 e2)
   ·rw [List.getElem?_append_right (by omega)] at e1
    rw [List.getElem?_append_right (by omega), ← hl] at e2
    rcases Nat.lt_or_ge (i - ts.length) 1 with z | z
    ·rw [show i - ts.length = 0 by omega] at e1 e2
     cases e1; cases e2
     rw [upd_ne ntc, upd_same]
    ·rw [List.getElem?_eq_none (by simpa using z)] at e1; cases e1
  ·rw [parts_go h, est] at hL
   rw [List.append_assoc]; exact hL
  ·rcases List.mem_append.mp ht with z | z
   ·exact hn t z
   ·rw [List.mem_singleton.mp z]; exact ntc
 ·refine iteF' (decide_eq_false (by omega)) ⟨_, rfl, ?_⟩
  rw [parts_end h, List.append_nil] at hL
  rw [hL] at hP
  exact q cu ts H1 ncu s1 hcu hP
end
end K11
end
section
set_option Elab.async false
set_option linter.all false
set_option maxRecDepth 100000
set_option maxHeartbeats 4000000
namespace K11
open PySem L2 BK
section
variable {P : Program} {w : World} {K : PySem.W.Frag} {mg : Str → Option Value} {base : Heap} {f : Addr} {fd : FuncData} {a : Ad}
def wAt (R : List (List Int)) (ks : List Int) (ρ : Int → List Int) (B : List Int) (i : Nat) : Int := ((seen R ks ρ (.int (B.getD (i / 16) 0))).getD []).getD (i % 16) 0
def wordsW (R : List (List Int)) (ks : List Int) (ρ : Int → List Int) (B : List Int) (g k : Nat) : List Int := (List.range k).map fun i => wAt R ks ρ B (g + i)
theorem int_nat {x m : Int} (h0 : 0 ≤ x) (h1 : x < m) {l : Nat} (hl : (l : Int) = m) : ∃ j : Nat, x = (j : Int) ∧ j < l := ⟨x.toNat, by omega, by omega⟩
theorem Mp.blk {H : Hp} {b d kr nr y : Addr} {S : DS} {ks : List Int} {ρ : Int → List Int} {m t : Int} (X : Mp a H b d kr nr y S ks ρ m t) {B : List Int} (hB : ∀ x ∈ B, 0 ≤ x ∧ x < m) {i : Nat} (hi : i < 16 * B.length) : ∃ row, B[i / 16]? = some (B.getD (i / 16) 0) ∧ seen S.R ks ρ (.int (B.getD (i / 16) 0)) = some row ∧ GoodRow row ∧ B.getD (i / 16) 0 ∈ B := by
 have h : i / 16 < B.length := by omega
 have e : B.getD (i / 16) 0 = B[i / 16] := by rw [List.getD_eq_getElem?_getD, List.getElem?_eq_getElem h]; rfl
 obtain ⟨h1, h2⟩ := hB _ (List.getElem_mem h)
 obtain ⟨j, ej, hj⟩ := int_nat h1 h2 X.len
 obtain ⟨row, es, gr⟩ := X.at hj
 rw [e, ej]
 exact ⟨row, by rw [List.getElem?_eq_getElem h, ej], es, gr, by rw [← ej]; exact List.getElem_mem h⟩
theorem wordsW_row {R : List (List Int)} {ks : List Int} {ρ : Int → List Int} {B : List Int} {at' st : Nat} {row : List Int} (es : seen R ks ρ (.int (B.getD (at' / 16) 0)) = some row) (gr : row.length = 16) (hs : at' % 16 + st ≤ 16) : (row.drop (at' % 16)).take st = wordsW R ks ρ B at' st := by
 unfold wordsW
 apply List.ext_getElem?
 intro i
 rw [List.getElem?_take, List.getElem?_map]
 by_cases hi : i < st
 ·rw [if_pos hi, List.getElem?_range hi, List.getElem?_drop]
  show _ = some (wAt R ks ρ B (at' + i))
  unfold wAt
  rw [show (at' + i) / 16 = at' / 16 by omega, es, show (at' + i) % 16 = at' % 16 + i by omega]
  show _ = some (row.getD (at' % 16 + i) 0)
  rw [List.getD_eq_getElem?_getD, List.getElem?_eq_getElem (by omega)]; rfl
 ·rw [if_neg hi, List.getElem?_eq_none (by simpa using hi)]; rfl
theorem wordsW_app {R : List (List Int)} {ks : List Int} {ρ : Int → List Int} {B : List Int} {g k st : Nat} : wordsW R ks ρ B g k ++ wordsW R ks ρ B (g + k) st = wordsW R ks ρ B g (k + st) := by
 unfold wordsW
 rw [List.range_add, List.map_append, List.map_map]
 congr 1
 refine List.map_congr_left fun i _ => ?_
 show _ = wAt R ks ρ B (g + (k + i))
 rw [Nat.add_assoc]
theorem wordsW_len {R : List (List Int)} {ks : List Int} {ρ : Int → List Int} {B : List Int} {g k : Nat} : (wordsW R ks ρ B g k).length = k := by unfold wordsW; simp
theorem parts_len : ∀ (k at' e : Nat), e - at' ≤ k → (partsL at' e).length ≤ e - at'
 | 0, at', e, h => by rw [parts_end (by omega)]; simp
 | k + 1, at', e, h => by
  by_cases hl : at' < e
  ·rw [parts_go hl, List.length_cons]
   have := parts_len k (at' + min (16 - at' % 16) (e - at')) e (by omega)
   omega
  ·rw [parts_end hl]; simp
theorem parts_step {L : List (Nat × Nat)} {at' e i : Nat} (hd : L.drop i = partsL at' e) {x : Nat × Nat} (hx : L[i]? = some x) : at' < e ∧ x = (at', min (16 - at' % 16) (e - at')) ∧ L.drop (i + 1) = partsL (at' + min (16 - at' % 16) (e - at')) e := by
 obtain ⟨hi, ex⟩ := List.getElem?_eq_some_iff.mp hx
 have hc : L.drop i = L[i] :: L.drop (i + 1) := List.drop_eq_getElem_cons hi
 rw [hc] at hd
 by_cases hl : at' < e
 ·rw [parts_go hl] at hd
  injection hd with h1 h2
  exact ⟨hl, by rw [← ex, h1], h2⟩
 ·rw [parts_end hl] at hd; cases hd
def spWordsOf (_ : PySem.W.Frag) (a : Ad) : Sp := fun vs H Q E => ∃ (b d kr nr y : Addr) (S : DS) (ks : List Int) (ρ : Int → List Int) (m t : Int) (n sz : Nat) (B : List Int) (fr bg c : Int), vs = [.ref b, .ref y, .int n, .int bg, .int c] ∧ Mp a H b d kr nr y S ks ρ m t ∧ Span S.R ks ρ m t n sz B fr ∧ (∀ x ∈ B, 0 ≤ x ∧ x < m) ∧
  (((bg < 0 ∨ c < 0 ∨ (sz : Int) < bg + c) ∧ ∀ H', Same H H' → E (.ref a.cOutOfPlace) none H') ∨
   (∃ g k : Nat, bg = g ∧ c = k ∧ g + k ≤ sz ∧ ∀ p H', H p = none → Same H H' → H' p = some (.lst ((wordsW S.R ks ρ B g k).map V.int)) → Q (.ref p) H'))
theorem ok_words_of (F : Fun K "words_of" "words_of" s_words_of f fd) (T : Txt K mg a) (D_refuse_out_of_place : Df P w K mg base (CXE P w) 6 "refuse_out_of_place" ["batch", "layout", "node", "begin", "count"] (spRefuseO K a)) (D_blocks_of : Df P w K mg base (CXE P w) 6 "blocks_of" ["batch", "layout", "node"] (spBlocksOf K a)) (D_parts : Df P w K mg base (CXE P w) 1 "parts" ["begin", "count"] (spParts K a)) (M_Batch_read : Mf P w K mg base (CXE P w) 4 a.f_Batch_read ["self", "block"] (spBRead K a)) : FnOk P w K mg base (CXE P w) 7 f fd ["batch", "layout", "node", "begin", "count"] (spWordsOf K a) := by
 obtain ⟨_, _, Grefuse_out_of_place, brefuse_out_of_place, krefuse_out_of_place, mrefuse_out_of_place⟩ := D_refuse_out_of_place
 obtain ⟨_, _, Gblocks_of, bblocks_of, kblocks_of, mblocks_of⟩ := D_blocks_of
 obtain ⟨_, _, Gparts, bparts, kparts, mparts⟩ := D_parts
 obtain ⟨_, G_Batch_read, b_Batch_read⟩ := M_Batch_read
 have nd := sc_words_of.nd
 refine F.okE sc_words_of (fun vs H Q E h => ?_) (fun cdv A outer s H vs Q E hr hA h => ?_)
 ·obtain ⟨b, d, kr, nr, y, S, ks, ρ, m, t, n, sz, B, fr, bg, c, rfl, _⟩ := h
  rfl
 obtain ⟨b, d, kr, nr, y, S, ks, ρ, m, t, n, sz, B, fr, bg, c, rfl, X, G, hB, hq⟩ := h
 refine ⟨_, (pss_cons (ps_expr (pe_call Grefuse_out_of_place (hr.mono (by decide)) rfl mrefuse_out_of_place krefuse_out_of_place brefuse_out_of_place .nil (passes_fn (fun _ _ _ h => h)) (pa_cons (pv 0) (pa_cons (pv 1) (pa_cons (pv 2) (pa_cons (pv 3) (pa_cons (pv 4) pa_nil))))) (hcm := (.inr hA))))
  (pss_cons (ps_set (i := 5) nd rfl (by first | exact Or.inl rfl | exact Or.inr rfl) (pe_call Gblocks_of (hr.mono (by decide)) rfl mblocks_of kblocks_of bblocks_of .nil (passes_fn (fun _ _ _ h => h)) (pa_cons (pv 0) (pa_cons (pv 1) (pa_cons (pv 2) pa_nil))) (hcm := (.inr hA))))
  (pss_cons (ps_set (i := 6) nd rfl (by first | exact Or.inl rfl | exact Or.inr rfl) (pe_lst pa_nil))
  (pss_cons (ps_for PassesOwn.leaving rfl (pi_listK (K := K) rfl (pe_call Gparts (hr.mono (by decide)) rfl mparts kparts bparts .nil (passes_fn (fun _ _ _ h => h)) (pa_cons (pv 3) (pa_cons (pv 4) pa_nil)) (hcm := (.inr hA)))) (pg_tup hA (pgs_cons (pg_name (i := 7) nd rfl (by first | exact Or.inl rfl | exact Or.inr rfl)) (pgs_cons (pg_name (i := 8) nd rfl (by first | exact Or.inl rfl | exact Or.inr rfl)) pgs_nil))) (pss_cons (ps_set (i := 9) nd rfl (by first | exact Or.inl rfl | exact Or.inr rfl) (pe_op op_mod (pv 7) (pe_glob (v := .int 16) rfl T.cROW_WORDS.choose_spec ⟨_, rfl⟩)))
  (pss_one (ps_expr (pe_bmK (K := K) rfl PySem.F.plainAttrs_list PySem.F.slot_list_extend PySem.F.type_list_extend mt_extend (pv 6) (pa_cons (pe_slice (sl_listK (K := K) rfl) (pe_meth (pv 0) T.clBatch T.m_Batch_read G_Batch_read (hr.mono (by decide)) b_Batch_read .nil (passes_fn (fun _ _ _ h => h)) (pa_cons (pe_ix (ix_listK (K := K) rfl) (pv 5) (pe_op op_fdiv (pv 7) (pe_glob (v := .int 16) rfl T.cROW_WORDS.choose_spec ⟨_, rfl⟩)) (fun _ _ => rfl)) pa_nil) (hcm := (.inr hA))) (po_some (pv 9)) (po_some (pe_op op_add (pv 9) (pv 8)))) pa_nil))))))
  (pss_one (ps_ret (pv 6))))))), ?_⟩
 have hlen := G.len
 have few := G.few
 rcases hq with ⟨hb, q⟩ | ⟨g, k, rfl, rfl, hgk, q⟩
 ·exact ⟨_, rfl, _, rfl, _, rfl, _, rfl, _, rfl, ex16 b d kr nr y S ks ρ m t n sz B fr bg c ⟨rfl, X, G, .inl ⟨hb, q⟩⟩⟩
 refine ⟨_, rfl, _, rfl, _, rfl, _, rfl, _, rfl, ex16 b d kr nr y S ks ρ m t n sz B fr _ _ ⟨rfl, X, G, .inr ⟨by omega, by omega, by omega, fun H1 s1 => ?_⟩⟩⟩
 refine ⟨_, rfl, _, rfl, _, rfl, ex14 b d kr nr y S ks ρ m t n sz B fr ⟨rfl, X.same s1, G, fun p H2 np s2 hp => ?_⟩⟩
 refine ⟨(by show 0 ≤ sizeLine; decide), fun wd nwd => ?_⟩
 have w3 := same_new nwd (.lst [])
 have hwd := upd_same (H := H2) (a := wd) (o := .lst [])
 have s3 := (s1.trans s2).trans w3
 have hp3 := w3 _ _ hp
 have npw : p ≠ wd := ne_of_none hp nwd
 have nwH : H wd = none := (s1.trans s2).free nwd
 generalize upd H2 wd (.lst []) = H3 at w3 hwd s3 hp3 ⊢
 refine ⟨_, rfl, _, rfl, g, k, rfl, by omega, fun ps ts H4 nps s4 hps hP => ?_⟩
 have hwd4 := s4 _ _ hwd
 have nsw : ps ≠ wd := Ne.symm (ne_of_none hwd nps)
 have s5 := s3.trans s4
 refine ⟨ps, rfl, ⟨_, SqL.of hps⟩, for_list (xs := ts.map V.ref) (fun i σ' H' => ∃ (at' : Nat) (o7 o8 o9 : Option V), σ' = [some (.ref b), some (.ref y), some (.int n), some (.int g), some (.int k), some (.ref p), some (.ref wd), o7, o8, o9] ∧ Chg [wd] H4 H' ∧ (partsL g (g + k)).drop i = partsL at' (g + k) ∧ g ≤ at' ∧ at' ≤ g + k ∧ H' wd = some (.lst ((wordsW S.R ks ρ B g (at' - g)).map V.int)))
  ⟨g, _, _, _, rfl, Chg.of (Same.refl _), rfl, Nat.le_refl _, by omega, by rw [hwd4, Nat.sub_self]; rfl⟩ (fun i σ' H' _ ⟨_, _, _, _, _, c', _⟩ => SqL.of (c' _ _ hps (by simp only [List.mem_singleton]; exact nsw))) ?_ ?_⟩
 ·rintro i v σ' H5 hv ⟨at', o7, o8, o9, rfl, c5, hd, h1, h2, hw⟩
  obtain ⟨hi, ev⟩ := List.getElem?_eq_some_iff.mp hv
  rw [List.length_map] at hi
  rw [List.getElem_map] at ev
  subst ev
  have hi' : i < (partsL g (g + k)).length := by rw [← hP.1]; exact hi
  obtain ⟨hlt, ex, hd'⟩ := parts_step hd (List.getElem?_eq_getElem hi')
  have ht := hP.2 i _ _ (List.getElem?_eq_getElem hi) (List.getElem?_eq_getElem hi')
  rw [ex] at ht
  generalize hst : min (16 - at' % 16) (g + k - at') = st at ht hd'
  have sm : Same H H5 := chg_same' s5 c5 (by simp [nwH])
  have X5 := X.same sm
  obtain ⟨bx, hb⟩ := X5.bat.ex
  obtain ⟨row, eB, es, gr, _⟩ := X.blk hB (i := at') (by omega)
  have hat : atI (B.map V.int) ((at' : Int) / 16) = some (.int (B.getD (at' / 16) 0)) := by
   rw [show (at' : Int) / 16 = ((at' / 16 : Nat) : Int) by omega]
   exact atI_nat (by rw [List.getElem?_map, eB]; rfl)
  have hp5 : H5 p = some (.lst (B.map V.int)) := c5 _ _ (s4 _ _ hp3) (by simp only [List.mem_singleton]; exact npw)
  refine ⟨_, _, rfl, SqT.of (c5 _ _ ht (by simp only [List.mem_singleton]; exact ne_of ht hwd4 (fun z => by cases z))), rfl, _, _, rfl, _, _, rfl, rfl, ?_⟩
  refine ⟨_, rfl, _, _, rfl, rfl, (by show (0 : Int) < 16; decide), ?_⟩
  dsimp (config := { proj := false, iota := false, eta := false, zeta := false }) only
  rw [show (at' : Int) % 16 = ((at' % 16 : Nat) : Int) by omega]
  refine ⟨_, rfl, .inl ⟨rfl, _, SqL.of hw⟩, _, rfl, b, bx, _, rfl, hb, rfl, _, rfl, _, rfl, _, _, rfl, rfl, ⟨by decide, by decide⟩, p, _, _, _, rfl, rfl, SqL.of hp5, hat, ex8 b d kr nr S ks ρ _ ⟨rfl, X5.bat, X5.dk, .int _, .inl ⟨row, es, fun p6 H6 np6 s6 hp6 => ?_⟩⟩⟩
  refine ⟨_, rfl, _, rfl, _, rfl, _, rfl, _, _, rfl, rfl, _, rfl, p6, _, rfl, SqL.of hp6, fun p7 n7 => ?_⟩
  dsimp (config := { proj := false, iota := false, eta := false, zeta := false }) only
  rw [show ((at' % 16 : Nat) : Int) + (st : Int) = ((at' % 16 + st : Nat) : Int) by omega, cut_mid _ _ _ (by rw [List.length_map, gr.1]; omega), ← List.map_drop, ← List.map_take, wordsW_row es gr.1 (by omega)]
  have w7 := same_new n7 (.lst ((wordsW S.R ks ρ B at' st).map V.int))
  refine ⟨wd, p7, _, _, rfl, rfl, (s6.trans w7) _ _ hw, upd_same, small (by rw [List.length_map, List.length_map, wordsW_len, wordsW_len]; omega), ?_⟩
  refine ⟨at' + st, _, _, _, rfl, (c5.trans (Chg.of (s6.trans w7))).upd (by simp) _, hd', by omega, by omega, ?_⟩
  rw [upd_same, ← List.map_append, show at' + st - g = at' - g + st by omega, ← wordsW_app, show g + (at' - g) = at' by omega]
 ·rintro σ' H5 ⟨at', o7, o8, o9, rfl, c5, hd, h1, h2, hw⟩
  have hL : (partsL g (g + k)).drop (ts.map V.ref).length = [] := List.drop_eq_nil_of_le (by rw [List.length_map, hP.1]; exact Nat.le_refl _)
  rw [hL] at hd
  have he : at' = g + k := by
   by_cases hl : at' < g + k
   ·rw [parts_go hl] at hd; cases hd
   ·omega
  rw [he, show g + k - g = k by omega] at hw
  exact ⟨_, rfl, q wd H5 nwH (chg_same' s5 c5 (by simp [nwH])) hw⟩
def WdsA (K : PySem.W.Frag) (H : Hp) (v : V) (ok : Bool) (k : Nat) : Prop := Kd K H v ∧ ((isL H v = false ∧ ok = false ∧ k = 0) ∨ ∃ p xs, v = .ref p ∧ H p = some (.lst xs) ∧ xs.length ≤ 1000 ∧ (∀ x ∈ xs, Kd K H x) ∧ ok = xs.all goodV ∧ k = xs.length)
theorem WdsA.same {H H' : Hp} {v : V} {b : Bool} {k : Nat} (h : WdsA K H v b k) (s : Same H H') : WdsA K H' v b k := by
 obtain ⟨kd, h⟩ := h
 refine ⟨kd.same s, ?_⟩
 rcases h with ⟨h1, h2⟩ | ⟨p, xs, h1, h2, h3, h4, h5⟩
 ·obtain ⟨t, ty, _⟩ := kd
  exact .inl ⟨by rw [isL_same s ty]; exact h1, h2⟩
 ·exact .inr ⟨p, xs, h1, s _ _ h2, h3, fun x hx => (h4 x hx).same s, h5⟩
def spPutWords (K : PySem.W.Frag) (a : Ad) : Sp := fun vs H Q E => ∃ (b d kr nr y : Addr) (S : DS) (ks : List Int) (ρ : Int → List Int) (m t : Int) (n sz : Nat) (B : List Int) (fr bg : Int) (v : V) (ok : Bool) (k : Nat), vs = [.ref b, .ref y, .int n, .int bg, v] ∧ Mp a H b d kr nr y S ks ρ m t ∧ Span S.R ks ρ m t n sz B fr ∧ WdsA K H v ok k ∧
  (((bg < 0 ∨ (sz : Int) < bg + k) ∧ ∀ H', Same H H' → E (.ref a.cOutOfPlace) none H') ∨
   (0 ≤ bg ∧ bg + k ≤ (sz : Int) ∧ ok = false ∧ ∀ H', Same H H' → E (.ref a.cBadRow) none H') ∨
   (∃ (g : Nat) (p : Addr) (ws : List Int), bg = g ∧ v = .ref p ∧ H p = some (.lst (ws.map V.int)) ∧ (∀ z ∈ ws, 0 ≤ z ∧ z ≤ 999999999) ∧ g + ws.length ≤ sz ∧ B.Nodup ∧ (∀ x ∈ B, 17 ≤ x ∧ x < m) ∧ ks.length < 400 ∧
     ∀ ks' ρ' H', Chg [nr] H H' → Ofs nr H H' → Mp a H' b d kr nr y S ks' ρ' m t → (∀ j : Int, j ∉ B → seen S.R ks' ρ' (.int j) = seen S.R ks ρ (.int j)) → (∀ i, i < 16 * B.length → wAt S.R ks' ρ' B i = if g ≤ i ∧ i < g + ws.length then ws.getD (i - g) 0 else wAt S.R ks ρ B i) → (∀ x ∈ ks', x ∈ ks ∨ x ∈ B) → Q .non H'))
theorem seen_of {R : List (List Int)} {ks : List Int} {ρ ρ' : Int → List Int} {k j : Int} (h : j ≠ k) (e : ρ' j = ρ j) : seen R (insK ks k) ρ' (.int j) = seen R ks ρ (.int j) := by
 show (if j ∈ insK ks k then some (ρ' j) else _) = (if j ∈ ks then some (ρ j) else _)
 by_cases hk : j ∈ ks
 ·rw [if_pos (insK_mem.mpr (.inl hk)), if_pos hk, e]
 ·rw [if_neg (fun z => (insK_mem.mp z).elim hk h), if_neg hk]
theorem ok_put_words (F : Fun K "put_words" "put_words" s_put_words f fd) (T : Txt K mg a) (D_refuse_out_of_place : Df P w K mg base (CXE P w) 6 "refuse_out_of_place" ["batch", "layout", "node", "begin", "count"] (spRefuseO K a)) (D_blocks_of : Df P w K mg base (CXE P w) 6 "blocks_of" ["batch", "layout", "node"] (spBlocksOf K a)) (D_parts : Df P w K mg base (CXE P w) 1 "parts" ["begin", "count"] (spParts K a)) (D_are_words : Df P w K mg base CX0 3 "are_words" ["thing"] (spAre K a)) (M_Batch_write : Mf P w K mg base (CXE P w) 5 a.f_Batch_write ["self", "block", "row"] (spBWrite K a)) (D_changed : Df P w K mg base CX0 1 "changed" ["row", "at", "words"] (spChanged K a)) (M_Batch_read : Mf P w K mg base (CXE P w) 4 a.f_Batch_read ["self", "block"] (spBRead K a)) : FnOk P w K mg base (CXE P w) 7 f fd ["batch", "layout", "node", "begin", "words"] (spPutWords K a) := by
 obtain ⟨_, _, Grefuse_out_of_place, brefuse_out_of_place, krefuse_out_of_place, mrefuse_out_of_place⟩ := D_refuse_out_of_place
 obtain ⟨_, _, Gblocks_of, bblocks_of, kblocks_of, mblocks_of⟩ := D_blocks_of
 obtain ⟨_, _, Gparts, bparts, kparts, mparts⟩ := D_parts
 obtain ⟨_, _, Gare_words, bare_words, kare_words, mare_words⟩ := D_are_words
 obtain ⟨_, G_Batch_write, b_Batch_write⟩ := M_Batch_write
 obtain ⟨_, _, Gchanged, bchanged, kchanged, mchanged⟩ := D_changed
 obtain ⟨_, G_Batch_read, b_Batch_read⟩ := M_Batch_read
 have nd := sc_put_words.nd
 refine F.okE sc_put_words (fun vs H Q E h => ?_) (fun cdv A outer s H vs Q E hr hA h => ?_)
 ·obtain ⟨b, d, kr, nr, y, S, ks, ρ, m, t, n, sz, B, fr, bg, v, ok, k, rfl, _⟩ := h
  rfl
 obtain ⟨b, d, kr, nr, y, S, ks, ρ, m, t, n, sz, B, fr, bg, v, ok, k, rfl, X, G, wA, hq⟩ := h
 refine ⟨_, (pss_cons (ps_set (i := 5) nd rfl (by first | exact Or.inl rfl | exact Or.inr rfl) (pe_ifExp (pt_val (pe_callB (call_isinstK (K := K) (T := "list") rfl) rfl T.isinstance bt_isinstance (pa_cons (pv 4) (pa_cons (pe_bltn (v := .ty "list") rfl T.list bt_list rfl) pa_nil)))) (pe_callB (call_lenK (K := K) rfl) rfl T.len bt_len (pa_cons (pv 4) pa_nil)) pe_int))
  (pss_cons (ps_expr (pe_call Grefuse_out_of_place (hr.mono (by decide)) rfl mrefuse_out_of_place krefuse_out_of_place brefuse_out_of_place .nil (passes_fn (fun _ _ _ h => h)) (pa_cons (pv 0) (pa_cons (pv 1) (pa_cons (pv 2) (pa_cons (pv 3) (pa_cons (pv 5) pa_nil))))) (hcm := (.inr hA))))
  (pss_cons (ps_if (pt_not (pt_val (pe_call Gare_words (hr.mono (by decide)) rfl mare_words kare_words bare_words .nil pass0 (pa_cons (pv 4) pa_nil)))) (pss_one (ps_raise (out_fn (fun _ _ _ h => h)) rfl hA rfl T.mBadRow T.xBadRow (pa_cons pe_str pa_nil))) pss_nil)
  (pss_cons (ps_set (i := 6) nd rfl (by first | exact Or.inl rfl | exact Or.inr rfl) (pe_call Gblocks_of (hr.mono (by decide)) rfl mblocks_of kblocks_of bblocks_of .nil (passes_fn (fun _ _ _ h => h)) (pa_cons (pv 0) (pa_cons (pv 1) (pa_cons (pv 2) pa_nil))) (hcm := (.inr hA))))
  (pss_one (ps_for PassesOwn.leaving rfl (pi_listK (K := K) rfl (pe_call Gparts (hr.mono (by decide)) rfl mparts kparts bparts .nil (passes_fn (fun _ _ _ h => h)) (pa_cons (pv 3) (pa_cons (pv 5) pa_nil)) (hcm := (.inr hA)))) (pg_tup hA (pgs_cons (pg_name (i := 7) nd rfl (by first | exact Or.inl rfl | exact Or.inr rfl)) (pgs_cons (pg_name (i := 8) nd rfl (by first | exact Or.inl rfl | exact Or.inr rfl)) pgs_nil))) (pss_cons (ps_set (i := 9) nd rfl (by first | exact Or.inl rfl | exact Or.inr rfl) (pe_ix (ix_listK (K := K) rfl) (pv 6) (pe_op op_fdiv (pv 7) (pe_glob (v := .int 16) rfl T.cROW_WORDS.choose_spec ⟨_, rfl⟩)) (fun _ _ => rfl)))
  (pss_cons (ps_set (i := 10) nd rfl (by first | exact Or.inl rfl | exact Or.inr rfl) (pe_slice (sl_listK (K := K) rfl) (pv 4) (po_some (pe_op op_sub (pv 7) (pv 3))) (po_some (pe_op op_add (pe_op op_sub (pv 7) (pv 3)) (pv 8)))))
  (pss_one (ps_expr (pe_meth (pv 0) T.clBatch T.m_Batch_write G_Batch_write (hr.mono (by decide)) b_Batch_write .nil (passes_fn (fun _ _ _ h => h)) (pa_cons (pv 9) (pa_cons (pe_call Gchanged (hr.mono (by decide)) rfl mchanged kchanged bchanged .nil pass0 (pa_cons (pe_meth (pv 0) T.clBatch T.m_Batch_read G_Batch_read (hr.mono (by decide)) b_Batch_read .nil (passes_fn (fun _ _ _ h => h)) (pa_cons (pv 9) pa_nil) (hcm := (.inr hA))) (pa_cons (pe_op op_mod (pv 7) (pe_glob (v := .int 16) rfl T.cROW_WORDS.choose_spec ⟨_, rfl⟩)) (pa_cons (pv 10) pa_nil)))) pa_nil)) (hcm := (.inr hA))))))))))))), ?_⟩
 have hlen := G.len
 have few := G.few
 obtain ⟨⟨t0, ty, _, _, e3⟩, hAl⟩ := id wA
 refine ⟨_, rfl, _, t0, _, rfl, ty, e3, _, rfl, ?_⟩
 generalize hTL : tSeq (tDrop (tCall (spRefuseO K a) _ _ _)) _ = TL
 have main : TL { nx := fun _ H' => Q .non H', rt := Q } [some (.ref b), some (.ref y), some (.int n), some (.int bg), some v, some (.int k), none, none, none, none, none] H := by
  rw [← hTL]
  have kd := wA.1
  rcases hq with ⟨hb, q⟩ | ⟨h0, h1, hok, q⟩ | ⟨g, p, ws, rfl, rfl, hp, hws, hgs, nd, hB, hks, q⟩
  ·exact ⟨_, rfl, _, rfl, _, rfl, _, rfl, _, rfl, ex16 b d kr nr y S ks ρ m t n sz B fr bg k ⟨rfl, X, G, .inl ⟨by omega, q⟩⟩⟩
  ·refine ⟨_, rfl, _, rfl, _, rfl, _, rfl, _, rfl, ex16 b d kr nr y S ks ρ m t n sz B fr bg k ⟨rfl, X, G, .inr ⟨h0, by omega, h1, fun H1 s1 => ?_⟩⟩⟩
   have hAl1 := (wA.same s1).2
   rcases hAl1 with ⟨hL, _⟩ | ⟨p, xs, rfl, hp, hz, hk, eok, _⟩
   ·exact ⟨_, rfl, v, rfl, kd.same s1, .inl ⟨hL, _, rfl, iteT' (by rfl) ⟨(by show 1 ≤ 1000; decide), q H1 s1⟩⟩⟩
   ·refine ⟨_, rfl, _, rfl, kd.same s1, .inr ⟨p, xs, rfl, hp, hz, hk, fun H2 s2 => ⟨_, rfl, iteT' (by rw [← eok, hok]; rfl) ⟨(by show 1 ≤ 1000; decide), q H2 (s1.trans s2)⟩⟩⟩⟩
  have ek : k = ws.length := by
   rcases hAl with ⟨hL, _⟩ | ⟨p', xs, e, hp', _, _, _, ek⟩
   ·rw [show isL H (.ref p) = true by show isLH (H p) = _; rw [hp]; rfl] at hL; cases hL
   ·cases e; rw [hp] at hp'; cases hp'; rw [ek, List.length_map]
  subst ek
  refine ⟨_, rfl, _, rfl, _, rfl, _, rfl, _, rfl, ex16 b d kr nr y S ks ρ m t n sz B fr _ _ ⟨rfl, X, G, .inr ⟨by omega, by omega, by omega, fun H1 s1 => ?_⟩⟩⟩
  refine ⟨_, rfl, _, rfl, .lst (s1 _ _ hp), .inr ⟨p, _, rfl, s1 _ _ hp, by rw [List.length_map]; omega, fun x hx => (by obtain ⟨i, _, rfl⟩ := List.mem_map.mp hx; exact .int i), fun H2 s2 => ⟨_, rfl, iteF' (by rw [good_ints ws hws]; rfl) ?_⟩⟩⟩
  have s12 := s1.trans s2
  refine ⟨_, rfl, _, rfl, _, rfl, ex14 b d kr nr y S ks ρ m t n sz B fr ⟨rfl, X.same s12, G, fun bp H3 nbp s3 hbp => ?_⟩⟩
  refine ⟨_, rfl, _, rfl, g, ws.length, rfl, by omega, fun ps ts H4 nps s4 hps hP => ?_⟩
  have s5 := (s12.trans s3).trans s4
  have X4 := X.same s5
  obtain ⟨kvs, en⟩ := X4.bat.ho.at
  have lst : ∀ {H' : Hp} {u : Addr} {o : HO}, Chg [nr] H4 H' → H4 u = some o → (∀ kvs, o ≠ .dK kvs) → H' u = some o := fun c hu no => c _ _ hu (by simp only [List.mem_singleton]; exact ne_of hu en (no _))
  have hB0 : ∀ x ∈ B, 0 ≤ x ∧ x < m := fun x hx => by have := hB x hx; omega
  have pl := parts_len _ g (g + ws.length) (Nat.le_refl _)
  refine ⟨ps, rfl, ⟨_, SqL.of hps⟩, for_list (xs := ts.map V.ref) (fun i σ' H' => ∃ (at' : Nat) (ks' : List Int) (ρ' : Int → List Int) (o7 o8 o9 o10 : Option V), σ' = [some (.ref b), some (.ref y), some (.int n), some (.int g), some (.ref p), some (.int ws.length), some (.ref bp), o7, o8, o9, o10] ∧ Chg [nr] H4 H' ∧ Ofs nr H4 H' ∧ Mp a H' b d kr nr y S ks' ρ' m t ∧ ks'.length ≤ ks.length + i ∧ (partsL g (g + ws.length)).drop i = partsL at' (g + ws.length) ∧ g ≤ at' ∧ at' ≤ g + ws.length ∧ (∀ j : Int, j ∉ B → seen S.R ks' ρ' (.int j) = seen S.R ks ρ (.int j)) ∧ (∀ i, i < 16 * B.length → wAt S.R ks' ρ' B i = if g ≤ i ∧ i < at' then ws.getD (i - g) 0 else wAt S.R ks ρ B i) ∧ ∀ x ∈ ks', x ∈ ks ∨ x ∈ B)
   ⟨g, ks, ρ, _, _, _, _, rfl, Chg.of (Same.refl _), Ofs.refl, X4, Nat.le_refl _, rfl, Nat.le_refl _, by omega, fun j _ => rfl, fun i _ => by rw [if_neg (by omega)], fun x hx => .inl hx⟩ (fun i σ' H' _ ⟨_, _, _, _, _, _, _, _, c', _⟩ => SqL.of (lst c' hps fun _ z => by cases z)) ?_ ?_⟩
  ·rintro i v σ' H5 hv ⟨at', ks', ρ', o7, o8, o9, o10, rfl, c5, of5, X5, hl5, hd, h1, h2, hoff, hon, hsub⟩
   obtain ⟨hi, ev⟩ := List.getElem?_eq_some_iff.mp hv
   rw [List.length_map] at hi
   rw [List.getElem_map] at ev
   subst ev
   have hi' : i < (partsL g (g + ws.length)).length := by rw [← hP.1]; exact hi
   obtain ⟨hlt, ex, hd'⟩ := parts_step hd (List.getElem?_eq_getElem hi')
   have ht := hP.2 i _ _ (List.getElem?_eq_getElem hi) (List.getElem?_eq_getElem hi')
   rw [ex] at ht
   generalize hst : min (16 - at' % 16) (g + ws.length - at') = st at ht hd'
   obtain ⟨row, eB, es, gr, hmem⟩ := X5.blk hB0 (i := at') (by omega)
   have hat : atI (B.map V.int) ((at' : Int) / 16) = some (.int (B.getD (at' / 16) 0)) := by
    rw [show (at' : Int) / 16 = ((at' / 16 : Nat) : Int) by omega]
    exact atI_nat (by rw [List.getElem?_map, eB]; rfl)
   have hbp5 := lst c5 (s4 _ _ hbp) fun _ z => by cases z
   have hp5 := lst c5 (s5 _ _ hp) fun _ z => by cases z
   obtain ⟨bx, hb⟩ := X5.bat.ex
   refine ⟨_, _, rfl, SqT.of (lst c5 ht fun _ z => by cases z), rfl, _, _, rfl, _, _, rfl, rfl, ?_⟩
   refine ⟨_, rfl, _, rfl, _, _, rfl, rfl, ⟨by decide, by decide⟩, bp, _, _, _, rfl, rfl, SqL.of hbp5, hat, ?_⟩
   have hBd : 17 ≤ B.getD (at' / 16) 0 ∧ B.getD (at' / 16) 0 < m := hB _ hmem
   refine ⟨_, rfl, _, rfl, _, rfl, _, _, rfl, rfl, _, rfl, _, rfl, _, rfl, _, _, rfl, rfl, _, rfl, _, _, rfl, rfl, _, rfl, p, _, rfl, SqL.of hp5, fun p6 n6 => ?_⟩
   dsimp (config := { proj := false, iota := false, eta := false, zeta := false }) only
   rw [show (at' : Int) - (g : Int) = ((at' - g : Nat) : Int) by omega, show ((at' - g : Nat) : Int) + (st : Int) = ((at' - g + st : Nat) : Int) by omega, cut_mid _ _ _ (by rw [List.length_map]; omega), ← List.map_drop, ← List.map_take]
   have gp : ∀ z ∈ (ws.drop (at' - g)).take st, 0 ≤ z ∧ z ≤ 999999999 := fun z hz => hws z (List.mem_of_mem_drop (List.mem_of_mem_take hz))
   have lp : ((ws.drop (at' - g)).take st).length = st := by rw [List.length_take, List.length_drop]; omega
   have hpart : ∀ i, i < st → ((ws.drop (at' - g)).take st)[i]? = some (ws.getD (at' - g + i) 0) := fun i hi => by
    rw [List.getElem?_take, if_pos hi, List.getElem?_drop, List.getD_eq_getElem?_getD, List.getElem?_eq_getElem (by omega)]; rfl
   have w6 := same_new n6 (.lst (((ws.drop (at' - g)).take st).map V.int))
   have hp6 := upd_same (H := H5) (a := p6) (o := .lst (((ws.drop (at' - g)).take st).map V.int))
   generalize upd H5 p6 (.lst (((ws.drop (at' - g)).take st).map V.int)) = H6 at w6 hp6 ⊢
   generalize (ws.drop (at' - g)).take st = part at hp6 gp lp hpart
   have X6 := X5.same w6
   refine ⟨_, rfl, b, bx, _, rfl, w6 _ _ hb, rfl, _, rfl, _, rfl, b, bx, _, rfl, w6 _ _ hb, rfl, _, rfl, ex8 b d kr nr S ks' ρ' _ ⟨rfl, X6.bat, X6.dk, .int _, .inl ⟨row, es, fun p7 H7 np7 s7 hp7 => ?_⟩⟩⟩
   refine ⟨_, rfl, _, _, rfl, rfl, (by show (0 : Int) < 16; decide), _, rfl, ?_⟩
   dsimp (config := { proj := false, iota := false, eta := false, zeta := false }) only
   rw [show (at' : Int) % 16 = ((at' % 16 : Nat) : Int) by omega]
   refine ⟨p7, p6, _, _, at' % 16, rfl, hp7, s7 _ _ hp6, by rw [List.length_map, gr.1]; decide, by rw [List.length_map, lp]; omega, fun p8 H8 np8 s8 hp8 => ?_⟩
   rw [List.length_map, lp, ← List.map_take, ← List.map_drop, ← List.map_append, ← List.map_append] at hp8
   have gs : GoodRow (row.take (at' % 16) ++ part ++ row.drop (at' % 16 + st)) := by
    refine ⟨by simp only [List.length_append, List.length_take, List.length_drop, gr.1, lp]; omega, fun z hz => ?_⟩
    rcases List.mem_append.mp hz with h | h
    ·rcases List.mem_append.mp h with h | h
     ·exact gr.2 z (List.mem_of_mem_take h)
     ·exact gp z h
    ·exact gr.2 z (List.mem_of_mem_drop h)
   have hrow : ∀ i, i < 16 → (row.take (at' % 16) ++ part ++ row.drop (at' % 16 + st)).getD i 0 = if at' % 16 ≤ i ∧ i < at' % 16 + st then ws.getD (at' - g + (i - at' % 16)) 0 else row.getD i 0 := fun i hi => by
    have lt : (row.take (at' % 16)).length = at' % 16 := by rw [List.length_take, gr.1]; omega
    rw [List.getD_eq_getElem?_getD]
    by_cases hA : i < at' % 16
    ·rw [if_neg (by omega), List.append_assoc, List.getElem?_append_left (by omega), List.getElem?_take, if_pos hA, List.getD_eq_getElem?_getD]
    ·by_cases hC : i < at' % 16 + st
     ·rw [if_pos ⟨by omega, hC⟩, List.getElem?_append_left (by rw [List.length_append, lt, lp]; exact hC), List.getElem?_append_right (by omega), lt, hpart _ (by omega)]; rfl
     ·rw [if_neg (by omega), List.getElem?_append_right (by rw [List.length_append, lt, lp]; omega), List.length_append, lt, lp, List.getElem?_drop, show at' % 16 + st + (i - (at' % 16 + st)) = i by omega, List.getD_eq_getElem?_getD]
   generalize row.take (at' % 16) ++ part ++ row.drop (at' % 16 + st) = row' at hp8 gs hrow
   have s68 := w6.trans (s7.trans s8)
   have X8 := X5.same s68
   have hlm := X.len
   refine (ex10 b d kr nr S ks' ρ' _ _ true ⟨rfl, X8.bat, X8.dk, .int _, rowA_good hp8 gs, by omega, .inr (.inr ⟨B.getD (at' / 16) 0, p8, row', rfl, hBd.1, by omega, rfl, hp8, gs, fun H9 c9 B9 D9 of9 => ?_⟩)⟩)
   have ll := insK_len (ks := ks') (k := B.getD (at' / 16) 0)
   have M9 : Mp a H9 b d kr nr y S (insK ks' (B.getD (at' / 16) 0)) (fun j => if j = B.getD (at' / 16) 0 then row' else ρ' j) m t := by
    obtain ⟨kv8, en8⟩ := X8.bat.ho.at
    refine ⟨B9, D9, X8.lay.chg c9 ?_, X.good, X.len, by omega⟩
    obtain ⟨yx8, hy8⟩ := X8.lay
    simp only [List.mem_singleton]; exact ne_of hy8 en8 (fun z => by cases z)
   refine ⟨at' + st, _, _, _, _, _, _, rfl, (c5.trans (Chg.of s68)).trans c9, (of5.trans (X5.ofs s68)).trans (ofs_of c9 B9 of9), M9, by omega, hd', by omega, by omega, fun j hj => ?_, fun i' hi'' => ?_, fun x hx => ?_⟩
   ·have hne : j ≠ B.getD (at' / 16) 0 := fun z => hj (by rw [z]; exact hmem)
    rw [seen_of hne (if_neg hne)]
    exact hoff j hj
   ·by_cases hbl : i' / 16 = at' / 16
    ·have e1 : wAt S.R (insK ks' (B.getD (at' / 16) 0)) (fun j => if j = B.getD (at' / 16) 0 then row' else ρ' j) B i' = row'.getD (i' % 16) 0 := by
      unfold wAt
      rw [hbl, seen_put, if_pos rfl]; rfl
     have e2 : wAt S.R ks' ρ' B i' = row.getD (i' % 16) 0 := by
      unfold wAt
      rw [hbl, es]; rfl
     have e3 := hon i' hi''
     rw [e2] at e3
     rw [e1, hrow _ (by omega)]
     by_cases hin : at' % 16 ≤ i' % 16 ∧ i' % 16 < at' % 16 + st
     ·rw [if_pos hin, if_pos (by omega), show at' - g + (i' % 16 - at' % 16) = i' - g by omega]
     ·rw [if_neg hin, e3]
      by_cases hq : g ≤ i' ∧ i' < at'
      ·rw [if_pos hq, if_pos (by omega)]
      ·rw [if_neg hq, if_neg (by omega)]
    ·have hne : B.getD (i' / 16) 0 ≠ B.getD (at' / 16) 0 := fun z => hbl (by
      have h1' : i' / 16 < B.length := by omega
      have h2' : at' / 16 < B.length := by omega
      rw [List.getD_eq_getElem?_getD, List.getD_eq_getElem?_getD, List.getElem?_eq_getElem h1', List.getElem?_eq_getElem h2'] at z
      have z' : B[i' / 16] = B[at' / 16] := z
      rcases Nat.lt_trichotomy (i' / 16) (at' / 16) with q | q | q
      ·exact absurd z' ((List.pairwise_iff_getElem.mp nd) _ _ h1' h2' q)
      ·exact q
      ·exact absurd z'.symm ((List.pairwise_iff_getElem.mp nd) _ _ h2' h1' q))
     have e1 : wAt S.R (insK ks' (B.getD (at' / 16) 0)) (fun j => if j = B.getD (at' / 16) 0 then row' else ρ' j) B i' = wAt S.R ks' ρ' B i' := by
      unfold wAt
      rw [seen_of hne (if_neg hne)]
     rw [e1, hon i' hi'']
     by_cases hq : g ≤ i' ∧ i' < at'
     ·rw [if_pos hq, if_pos (by omega)]
     ·rw [if_neg hq, if_neg (by omega)]
   ·rcases insK_mem.mp hx with z | z
    ·exact hsub x z
    ·rw [z]; exact .inr hmem
  ·rintro σ' H5 ⟨at', ks', ρ', o7, o8, o9, o10, rfl, c5, of5, X5, hl5, hd, h1, h2, hoff, hon, hsub⟩
   have hL : (partsL g (g + ws.length)).drop (ts.map V.ref).length = [] := List.drop_eq_nil_of_le (by rw [List.length_map, hP.1]; exact Nat.le_refl _)
   rw [hL] at hd
   have he : at' = g + ws.length := by
    by_cases hl : at' < g + ws.length
    ·rw [parts_go hl] at hd; cases hd
    ·omega
   subst he
   exact q ks' ρ' H5 ((Chg.of s5).trans c5) ((X.ofs s5).trans of5) X5 hoff hon hsub
 rcases hAl with ⟨hL, _, rfl⟩ | ⟨p, xs, rfl, hp, _, _, _, rfl⟩
 ·exact iteF' hL main
 ·exact iteT' (by show isLH (H p) = true; rw [hp]; rfl) ⟨_, rfl, p, xs, rfl, .inl (SqL.of hp), main⟩
end
end K11
end
section
set_option Elab.async false
set_option linter.all false
set_option maxRecDepth 100000
set_option maxHeartbeats 4000000
namespace K11
open PySem L2 BK
section
variable {P : Program} {w : World} {K : PySem.W.Frag} {mg : Str → Option Value} {base : Heap} {f : Addr} {fd : FuncData} {a : Ad}
def cell (ns : List Int) (k : Int) : Int := ns.getD k.toNat 0
def spCell (K : PySem.W.Frag) (_ : Ad) : Sp := fun vs H Q _ => ∃ (p : Addr) (ns : List Int) (k : Int), vs = [.ref p, .int k] ∧ SqL K H p (ns.map V.int) ∧ 0 ≤ k ∧ Q (.int (cell ns k)) H
theorem ok__law_cell_at (F : Fun K "_law_cell_at" "_law_cell_at" s__law_cell_at f fd) (T : Txt K mg a)  : FnOk P w K mg base CX0 1 f fd ["_law_script", "_law_k"] (spCell K a) := by
 have nd := sc__law_cell_at.nd
 refine F.ok sc__law_cell_at (fun vs H Q E h => ?_) (fun cdv A outer s H vs Q E hr h => ?_)
 ·obtain ⟨p, ns, k, rfl, _⟩ := h
  rfl
 obtain ⟨p, ns, k, rfl, hS, h0, q⟩ := h
 refine ⟨_, (pss_cons (ps_if (pt_cmpR op_lt (pv 1) (pe_callB (call_lenK (K := K) rfl) rfl T.len bt_len (pa_cons (pv 0) pa_nil)) (nomark _)) (pss_one (ps_ret (pe_ix (ix_listK (K := K) rfl) (pv 0) (pv 1) (fun _ _ => rfl)))) pss_nil)
  (pss_one (ps_ret pe_int))), ?_⟩
 refine ⟨_, rfl, _, rfl, p, _, rfl, .inl hS, _, _, rfl, rfl, _, rfl, ?_⟩
 refine ite2 (fun c => ?_) (fun c => ?_)
 ·have c' : k < (((ns.map V.int).length : Nat) : Int) := of_decide_eq_true c
  rw [List.length_map] at c'
  have hk : k.toNat < ns.length := by omega
  have e : atI (ns.map V.int) ((k.toNat : Nat) : Int) = some (.int ns[k.toNat]) := atI_nat (by rw [List.getElem?_map, List.getElem?_eq_getElem hk]; rfl)
  rw [show ((k.toNat : Nat) : Int) = k by omega] at e
  refine ⟨_, rfl, _, rfl, p, _, k, _, rfl, rfl, hS, e, ?_⟩
  rw [show ns[k.toNat] = cell ns k by unfold cell; rw [List.getD_eq_getElem?_getD, List.getElem?_eq_getElem hk]; rfl]
  exact q
 ·have c' : ¬ k < (((ns.map V.int).length : Nat) : Int) := of_decide_eq_false (Bool.eq_false_iff.mpr c)
  rw [List.length_map] at c'
  rw [show cell ns k = 0 by unfold cell; rw [List.getD_eq_getElem?_getD, List.getElem?_eq_none (by omega)]; rfl] at q
  exact q
theorem kd_list {H : Hp} {p : Addr} {xs : List V} (h : H p = some (.lst xs)) : ∃ t, TyOf K H (.ref p) t ∧ PySem.W.kitOne K t (.type "list") = some true := by
 obtain ⟨t, ty, _, _, e3⟩ := Kd.lst (K := K) h
 rw [show isL H (.ref p) = true by show isLH (H p) = _; rw [h]; rfl] at e3
 exact ⟨t, ty, e3⟩
theorem kd_ints {H : Hp} (R : List Int) : ∀ x ∈ R.map V.int, Kd K H x := fun x hx => by obtain ⟨i, _, rfl⟩ := List.mem_map.mp hx; exact .int i
def intV : V → Bool
 | .int _ => true
 | _ => false
def spWholeL (K : PySem.W.Frag) (_ : Ad) : Sp := fun vs H Q _ => ∃ v, vs = [v] ∧ Kd K H v ∧ Q (.bl (intV v)) H
theorem ok__law_whole (F : Fun K "_law_whole" "_law_whole" s__law_whole f fd) (T : Txt K mg a)  : FnOk P w K mg base CX0 1 f fd ["_law_found"] (spWholeL K a) := by
 have nd := sc__law_whole.nd
 refine F.ok sc__law_whole (fun vs H Q E h => ?_) (fun cdv A outer s H vs Q E hr h => ?_)
 ·obtain ⟨v, rfl, _⟩ := h
  rfl
 obtain ⟨v, rfl, ⟨t, ty, e1, e2, _⟩, q⟩ := h
 refine ⟨_, (pss_one (ps_ret (pe_and (pe_callB (call_isinstK (K := K) (T := "int") rfl) rfl T.isinstance bt_isinstance (pa_cons (pv 0) (pa_cons (pe_bltn (v := .ty "int") rfl T.int bt_int rfl) pa_nil))) (pe_one (pe_not (pe_callB (call_isinstK (K := K) (T := "bool") rfl) rfl T.isinstance bt_isinstance (pa_cons (pv 0) (pa_cons (pe_bltn (v := .ty "bool") rfl T.bool bt_bool rfl) pa_nil)))))))), ?_⟩
 refine ⟨_, rfl, _, t, _, rfl, ty, e1, _, rfl, ?_⟩
 cases v with
 | int i => exact iteT ⟨_, rfl, _, t, _, rfl, ty, e2, _, rfl, q⟩
 | bl b => exact iteT ⟨_, rfl, _, t, _, rfl, ty, e2, _, rfl, q⟩
 | _ => exact iteF q
def spNumbers (_ : PySem.W.Frag) (_ : Ad) : Sp := fun vs H Q _ => ∃ (p d : Addr) (R : List Int), vs = [.ref p, .ref d] ∧ H p = some (.lst (R.map V.int)) ∧ H d = some (.lst (R.map V.int)) ∧ R.length ≤ 900 ∧ ∀ H', Same H H' → Q (.bl true) H'
theorem ok__law_numbers (F : Fun K "_law_numbers" "_law_numbers" s__law_numbers f fd) (T : Txt K mg a) (D__law_whole : Df P w K mg base CX0 1 "_law_whole" ["_law_found"] (spWholeL K a)) : FnOk P w K mg base (CXE P w) 2 f fd ["_law_found", "_law_due"] (spNumbers K a) := by
 obtain ⟨_, _, Gl_whole, bl_whole, kl_whole, ml_whole⟩ := D__law_whole
 have nd := sc__law_numbers.nd
 refine F.okE sc__law_numbers (fun vs H Q E h => ?_) (fun cdv A outer s H vs Q E hr hA h => ?_)
 ·obtain ⟨p, d, R, rfl, _⟩ := h
  rfl
 obtain ⟨p, d, R, rfl, hp, hd, hz, q⟩ := h
 refine ⟨_, (pss_cons (ps_if (PW.pt (pw_or (pt_not (pt_val (pe_callB (call_isinstK (K := K) (T := "list") rfl) rfl T.isinstance bt_isinstance (pa_cons (pv 0) (pa_cons (pe_bltn (v := .ty "list") rfl T.list bt_list rfl) pa_nil))))) (pw_or1 (pt_cmpR op_ne (pe_callB (call_lenK (K := K) rfl) rfl T.len bt_len (pa_cons (pv 0) pa_nil)) (pe_callB (call_lenK (K := K) rfl) rfl T.len bt_len (pa_cons (pv 1) pa_nil)) (nomark _))))) (pss_one (ps_ret pe_bl)) pss_nil)
  (pss_one (ps_ret (pe_and (pe_cmpR (op_eqDK (K := K) rfl hr.units) (pe_lc (cl := []) (fj := []) (by exact ⟨rfl, by decide +kernel, rfl, by decide +kernel, rfl, fun _ h => (by cases h), by decide +kernel, fun _ h => (by cases h), by decide +kernel⟩) rfl (pi_listK (K := K) rfl (pv 0)) (fun _ _ _ => (pf_one (pt_not (pt_val (pe_call Gl_whole (hr.mono (by decide)) rfl ml_whole kl_whole bl_whole .nil pass0 (pa_cons (pv 0) pa_nil)))))) (fun _ _ _ => (pv 0))) (pe_lst pa_nil) (nomark _)) (pe_one (pe_cmpR (op_eqDK (K := K) rfl hr.units) (pv 0) (pv 1) (nomark _))))))), ?_⟩
 obtain ⟨t0, ty0, ki0⟩ := kd_list (K := K) hp
 refine ⟨_, rfl, _, t0, true, rfl, ty0, ki0, _, rfl, iteF' (by rfl) ?_⟩
 refine ⟨_, rfl, p, _, rfl, .inl (SqL.of hp), _, rfl, d, _, rfl, .inl (SqL.of hd), rfl, _, rfl, iteF' (by simp) ?_⟩
 refine ⟨_, rfl, p, rfl, ⟨_, SqL.of hp⟩, lc_listN (xs := R.map V.int) hp (fun j v H3 Qb hv s3 k => ?_) fun acc H3 nacc s3 hacc => ?_⟩
 ·obtain ⟨x, _, rfl⟩ := List.mem_map.mp (List.mem_of_getElem? hv)
  exact ⟨_, rfl, _, rfl, .int _, _, rfl, k⟩
 refine ⟨(by show 0 ≤ sizeLine; decide), fun em nem => ?_⟩
 have w1 := same_new nem (.lst [])
 refine ⟨.list [], .list [], .lst (SqL.of (w1 _ _ hacc)) .nil, .lst (SqL.of upd_same) .nil, rfl, rfl, _, rfl, iteT' (by rfl) ?_⟩
 have s4 := s3.trans w1
 refine ⟨_, rfl, _, rfl, .list (R.map PyData.int), .list (R.map PyData.int), .lst (SqL.of (s4 _ _ hp)) (dvs_ints R), .lst (SqL.of (s4 _ _ hd)) (dvs_ints R), PySem.W.ke_shaped_ints R, PySem.W.ke_shaped_ints R, ?_⟩
 rw [eqv_same (PySem.W.ke_shaped_ints R)]
 exact q _ s4
def drawnL (c : Int) (k : Nat) : List Int := (List.range k).map fun i : Nat => (c / ((i : Int) + 1) + 7919 * (i : Int) * (1 + c % 5)) * 48271 % (10 : Int) ^ (9 : Int).toNat
theorem drawn_good {c : Int} {k : Nat} : ∀ x ∈ drawnL c k, 0 ≤ x ∧ x ≤ 999999999 := fun x hx => by
 unfold drawnL at hx
 obtain ⟨i, _, rfl⟩ := List.mem_map.mp hx
 have e9 : (10 : Int) ^ (9 : Int).toNat = 1000000000 := by decide
 rw [e9]
 have h1 := Int.emod_nonneg ((c / ((i : Int) + 1) + 7919 * (i : Int) * (1 + c % 5)) * 48271) (show (1000000000 : Int) ≠ 0 by decide)
 have h2 := Int.emod_lt_of_pos ((c / ((i : Int) + 1) + 7919 * (i : Int) * (1 + c % 5)) * 48271) (show (0 : Int) < 1000000000 by decide)
 exact ⟨h1, by omega⟩
theorem drawn_len {c : Int} {k : Nat} : (drawnL c k).length = k := by unfold drawnL; simp
def spDrawn (_ : PySem.W.Frag) (_ : Ad) : Sp := fun vs H Q _ => ∃ (c : Int) (k : Nat), vs = [.int c, .int k] ∧ k ≤ 900 ∧ ∀ p H', H p = none → Same H H' → H' p = some (.lst ((drawnL c k).map V.int)) → Q (.ref p) H'
theorem ok__law_drawn (F : Fun K "_law_drawn" "_law_drawn" s__law_drawn f fd) (T : Txt K mg a)  : FnOk P w K mg base (CXE P w) 1 f fd ["_law_cell", "_law_many"] (spDrawn K a) := by
 have nd := sc__law_drawn.nd
 refine F.okE sc__law_drawn (fun vs H Q E h => ?_) (fun cdv A outer s H vs Q E hr hA h => ?_)
 ·obtain ⟨c, k, rfl, _⟩ := h
  rfl
 obtain ⟨c, k, rfl, hk, q⟩ := h
 refine ⟨_, (pss_one (ps_ret (pe_lc (cl := [("_law_cell", s.heap.objs.size + 1)]) (fj := [("_law_cell", 0)]) (by exact LcOk.of ["_law_cell"] rfl (by decide +kernel) rfl (by decide +kernel) rfl (fun p h => (by rw [List.mem_singleton.mp h]; rfl)) rfl (by decide +kernel) (fun p h => (by rw [List.mem_singleton.mp h]; exact ⟨rfl, rfl, .inl rfl⟩)) (by decide +kernel)) rfl (pi_range1 rfl T.range (pa_cons (pv 1) pa_nil)) (fun _ _ _ => pf_nil) (fun _ _ _ => (pe_op op_mod (pe_op op_mul (pe_op op_add (pe_op op_fdiv (pv 1) (pe_op op_add (pv 0) pe_int)) (pe_op op_mul (pe_op op_mul pe_int (pv 0)) (pe_op op_add pe_int (pe_op op_mod (pv 1) pe_int)))) pe_int) (pe_op op_pow pe_int pe_int)))))), ?_⟩
 refine ⟨_, rfl, _, rfl, by omega, by omega, ?_⟩
 rw [show (k : Int).toNat = k by omega]
 refine lc_ints (n := k) (by omega) (fun i : Nat => (c / ((i : Int) + 1) + 7919 * (i : Int) * (1 + c % 5)) * 48271 % (10 : Int) ^ (9 : Int).toNat) (fun i H2 Qf hi s2 k' => ?_) fun acc H2 na s2 hacc => q acc H2 na s2 hacc
 have hk' := k' H2 (Same.refl _)
 refine ⟨_, rfl, _, rfl, _, _, rfl, rfl, _, _, rfl, rfl, ⟨by show (0 : Int) < 0 + (i : Int) + 1; omega, by show (0 : Int) + (i : Int) + 1 < _; omega⟩, _, rfl, _, _, rfl, rfl, .inl ⟨by decide, by decide⟩, _, rfl, _, _, rfl, rfl, (by show (0 : Int) < 5; decide), _, _, rfl, rfl, _, _, rfl, rfl, .inr ⟨by show -(2 ^ 64) < 1 + c % 5; omega, by show 1 + c % 5 < 2 ^ 64; omega⟩, _, _, rfl, rfl, _, _, rfl, rfl, .inr ⟨by decide, by decide⟩, _, _, rfl, rfl, ⟨by decide, by decide, by decide⟩, _, _, rfl, rfl, (by show (0 : Int) < 10 ^ (9 : Int).toNat; decide), ?_⟩
 dsimp (config := { proj := false, iota := false, eta := false, zeta := false }) only
 rw [Int.zero_add]
 exact hk'
def spPart (_ : PySem.W.Frag) (_ : Ad) : Sp := fun vs H Q _ => ∃ (sz : Nat) (c : Int), vs = [.int sz, .int c] ∧ sz ≤ 320 ∧ ∀ (bg ct : Int) p H', H p = none → Same H H' → H' p = some (.tup [.int bg, .int ct]) → ct ≤ 400 → Q (.ref p) H'
theorem ok__law_part (F : Fun K "_law_part" "_law_part" s__law_part f fd) (T : Txt K mg a)  : FnOk P w K mg base (CXE P w) 1 f fd ["_law_size", "_law_cell"] (spPart K a) := by
 have nd := sc__law_part.nd
 refine F.okE sc__law_part (fun vs H Q E h => ?_) (fun cdv A outer s H vs Q E hr hA h => ?_)
 ·obtain ⟨sz, c, rfl, _⟩ := h
  rfl
 obtain ⟨sz, c, rfl, hz, q⟩ := h
 refine ⟨_, (pss_cons (ps_set (i := 2) nd rfl (by first | exact Or.inl rfl | exact Or.inr rfl) (pe_op op_mod (pe_op op_fdiv (pv 1) pe_int) (pe_op op_add (pv 0) pe_int)))
  (pss_cons (ps_set (i := 3) nd rfl (by first | exact Or.inl rfl | exact Or.inr rfl) (pe_op op_mod (pe_op op_fdiv (pv 1) pe_int) (pe_op op_add (pe_op op_sub (pv 0) (pv 2)) pe_int)))
  (pss_cons (ps_if (pt_cmpR op_gt (pe_op op_mod (pv 1) pe_int) pe_int (nomark _)) (pss_one (ps_set (i := 3) nd rfl (by first | exact Or.inl rfl | exact Or.inr rfl) (pe_callB (call_min2 hA) rfl T.min bt_min (pa_cons (pe_op op_sub (pv 0) (pv 2)) (pa_cons (pe_op op_mod (pe_op op_fdiv (pv 1) pe_int) pe_int) pa_nil))))) pss_nil)
  (pss_cons (ps_if (pt_cmpR op_eq (pe_op op_mod (pv 1) pe_int) pe_int (nomark _)) (pss_cons (ps_set (i := 4) nd rfl (by first | exact Or.inl rfl | exact Or.inr rfl) (pe_lst (pa_cons (pe_tup (pa_cons (pe_un un_neg pe_int) (pa_cons pe_int pa_nil))) (pa_cons (pe_tup (pa_cons (pv 2) (pa_cons (pe_op op_add (pe_op op_sub (pv 0) (pv 2)) pe_int) pa_nil))) (pa_cons (pe_tup (pa_cons (pe_op op_add (pv 0) pe_int) (pa_cons pe_int pa_nil))) pa_nil)))))
  (pss_cons (ps_set (i := 4) nd rfl (by first | exact Or.inl rfl | exact Or.inr rfl) (pe_op op_cat (pv 4) (pe_lst (pa_cons (pe_tup (pa_cons (pv 2) (pa_cons (pe_un un_neg pe_int) pa_nil))) (pa_cons (pe_tup (pa_cons (pe_op op_add (pv 0) (pe_op op_pow pe_int pe_int)) (pa_cons pe_int pa_nil))) pa_nil)))))
  (pss_one (ps_ret (pe_ix (ix_listK (K := K) rfl) (pv 4) (pe_op op_mod (pe_op op_fdiv (pv 1) pe_int) pe_int) (fun _ _ => rfl)))))) pss_nil)
  (pss_one (ps_ret (pe_tup (pa_cons (pv 2) (pa_cons (pv 3) pa_nil))))))))), ?_⟩
 obtain ⟨bg, eb, b0, b1⟩ : ∃ bg : Int, c / 16 % ((sz : Int) + 1) = bg ∧ 0 ≤ bg ∧ bg ≤ sz := ⟨_, rfl, Int.emod_nonneg _ (by omega), by have := Int.emod_lt_of_pos (c / 16) (show (0 : Int) < sz + 1 by omega); omega⟩
 refine ⟨_, rfl, _, _, rfl, rfl, ⟨by decide, by decide⟩, _, rfl, _, _, rfl, rfl, _, _, rfl, rfl, (by show (0 : Int) < (sz : Int) + 1; omega), ?_⟩
 dsimp (config := { proj := false, iota := false, eta := false, zeta := false }) only
 rw [eb]
 obtain ⟨ct, ec, c0, c1⟩ : ∃ ct : Int, c / 5200 % ((sz : Int) - bg + 1) = ct ∧ 0 ≤ ct ∧ ct ≤ sz := ⟨_, rfl, Int.emod_nonneg _ (by omega), by have := Int.emod_lt_of_pos (c / 5200) (show (0 : Int) < sz - bg + 1 by omega); omega⟩
 refine ⟨_, rfl, _, _, rfl, rfl, ⟨by decide, by decide⟩, _, rfl, _, rfl, _, _, rfl, rfl, _, _, rfl, rfl, _, _, rfl, rfl, (by show (0 : Int) < (sz : Int) - bg + 1; omega), ?_⟩
 dsimp (config := { proj := false, iota := false, eta := false, zeta := false }) only
 rw [ec]
 clear ec eb
 generalize hTL : tSeq (tIfS _ (tSeq (tAsg (tLst _) _) _) _) _ = TL
 have tail : ∀ ct : Int, ct ≤ 400 → TL { nx := fun _ H' => Q .non H', rt := Q } [some (.int sz), some (.int c), some (.int bg), some (.int ct), none] H := fun ct hct => by
  rw [← hTL]
  refine t_modeq (c := c) rfl (by decide) ?_
  by_cases h1 : c % 16 = 1
  ·refine iteT' (decide_eq_true h1) ?_
   refine ⟨_, rfl, (by show 2 ≤ sizeLine; decide), fun t1 m1 => ?_⟩
   have w1 := same_new m1 (.tup [.int (-1), .int 1])
   have e1 := upd_same (H := H) (a := t1) (o := .tup [.int (-1), .int 1])
   refine ⟨_, rfl, _, rfl, _, rfl, _, _, rfl, rfl, _, _, rfl, rfl, (by show 2 ≤ sizeLine; decide), fun t2 m2 => ?_⟩
   have w2 := same_new m2 (.tup [.int bg, .int ((sz : Int) - bg + 1)])
   have e2 := upd_same (H := upd H t1 (.tup [.int (-1), .int 1])) (a := t2) (o := .tup [.int bg, .int ((sz : Int) - bg + 1)])
   have s2 := w1.trans w2
   have e1 := w2 _ _ e1
   show tCons _ _ _ (upd (upd H t1 (.tup [.int (-1), .int 1])) t2 (.tup [.int bg, .int ((sz : Int) - bg + 1)])) _
   generalize upd (upd H t1 (.tup [.int (-1), .int 1])) t2 (.tup [.int bg, .int ((sz : Int) - bg + 1)]) = H2 at w2 e2 s2 e1 ⊢
   refine ⟨_, rfl, _, _, rfl, rfl, (by show 2 ≤ sizeLine; decide), fun t3 m3 => ?_⟩
   have w3 := same_new m3 (.tup [.int ((sz : Int) + 1), .int 0])
   have e3 := upd_same (H := H2) (a := t3) (o := .tup [.int ((sz : Int) + 1), .int 0])
   have s3 := s2.trans w3
   have e1 := w3 _ _ e1
   have e2 := w3 _ _ e2
   refine ⟨(by show 3 ≤ sizeLine; decide), fun l1 k1 => ?_⟩
   have w4 := same_new k1 (.lst [.ref t1, .ref t2, .ref t3])
   have e4 := upd_same (H := upd H2 t3 (.tup [.int ((sz : Int) + 1), .int 0])) (a := l1) (o := .lst [.ref t1, .ref t2, .ref t3])
   have s4 := s3.trans w4
   have e1 := w4 _ _ e1
   have e2 := w4 _ _ e2
   have e3 := w4 _ _ e3
   show tSeq _ _ _ _ (upd (upd H2 t3 (.tup [.int ((sz : Int) + 1), .int 0])) l1 (.lst [.ref t1, .ref t2, .ref t3]))
   generalize upd (upd H2 t3 (.tup [.int ((sz : Int) + 1), .int 0])) l1 (.lst [.ref t1, .ref t2, .ref t3]) = H4 at w4 e4 s4 e1 e2 e3 ⊢
   refine ⟨_, rfl, _, rfl, _, rfl, (by show 2 ≤ sizeLine; decide), fun t4 m4 => ?_⟩
   have w5 := same_new m4 (.tup [.int bg, .int (-1)])
   have e5 := upd_same (H := H4) (a := t4) (o := .tup [.int bg, .int (-1)])
   have s5 := s4.trans w5
   have e1 := w5 _ _ e1
   have e2 := w5 _ _ e2
   have e3 := w5 _ _ e3
   have e4 := w5 _ _ e4
   show tCons _ _ _ (upd H4 t4 (.tup [.int bg, .int (-1)])) _
   generalize upd H4 t4 (.tup [.int bg, .int (-1)]) = H5 at w5 e5 s5 e1 e2 e3 e4 ⊢
   refine ⟨_, rfl, _, _, rfl, rfl, ⟨by decide, by decide, by decide⟩, _, _, rfl, rfl, (by show 2 ≤ sizeLine; decide), fun t5 m5 => ?_⟩
   have w6 := same_new m5 (.tup [.int ((sz : Int) + (10 : Int) ^ (9 : Int).toNat), .int 2])
   have e6 := upd_same (H := H5) (a := t5) (o := .tup [.int ((sz : Int) + (10 : Int) ^ (9 : Int).toNat), .int 2])
   have s6 := s5.trans w6
   refine ⟨(by show 2 ≤ sizeLine; decide), fun l2 k2 => ?_⟩
   have w7 := same_new k2 (.lst [.ref t4, .ref t5])
   have s7 := s6.trans w7
   have w67 := w6.trans w7
   refine ⟨l1, l2, _, _, rfl, rfl, w67 _ _ e4, upd_same, (by show 3 + 2 ≤ sizeLine; decide), fun l3 k3 => ?_⟩
   have w8 := same_new k3 (.lst ([.ref t1, .ref t2, .ref t3] ++ [.ref t4, .ref t5]))
   have s8 := s7.trans w8
   have w68 := w67.trans w8
   have e1 := w68 _ _ e1
   have e2 := w68 _ _ e2
   have e3 := w68 _ _ e3
   have e5 := w68 _ _ e5
   have e6 := (w7.trans w8) _ _ e6
   have fr : ∀ {u : Addr} {Hx Hy : Hp}, Same H Hx → Hx u = none → H u = none := fun s e => s.free e
   have hv : ∃ (u : Addr) (x y : Int), atI [V.ref t1, V.ref t2, V.ref t3, V.ref t4, V.ref t5] (c / 16 % 5) = some (.ref u) ∧ H u = none ∧ (upd (upd (upd H5 t5 (.tup [.int ((sz : Int) + (10 : Int) ^ (9 : Int).toNat), .int 2])) l2 (.lst [.ref t4, .ref t5])) l3 (.lst ([.ref t1, .ref t2, .ref t3] ++ [.ref t4, .ref t5]))) u = some (.tup [.int x, .int y]) ∧ y ≤ 400 := by
    rcases (show c / 16 % 5 = 0 ∨ c / 16 % 5 = 1 ∨ c / 16 % 5 = 2 ∨ c / 16 % 5 = 3 ∨ c / 16 % 5 = 4 by omega) with z | z | z | z | z <;> rw [z]
    ·exact ⟨t1, _, _, rfl, m1, e1, by decide⟩
    ·exact ⟨t2, _, _, rfl, w1.free m2, e2, by omega⟩
    ·exact ⟨t3, _, _, rfl, s2.free m3, e3, by decide⟩
    ·exact ⟨t4, _, _, rfl, s4.free m4, e5, by decide⟩
    ·exact ⟨t5, _, _, rfl, s5.free m5, e6, by decide⟩
   obtain ⟨u, x, y, h2, h3, h4, h5⟩ := hv
   exact ⟨_, rfl, _, rfl, _, _, rfl, rfl, ⟨by decide, by decide⟩, _, _, rfl, rfl, (by show (0 : Int) < 5; decide), l3, _, _, _, rfl, rfl, SqL.of upd_same, h2, q _ _ u _ h3 s8 h4 h5⟩
  ·refine iteF' (decide_eq_false h1) ?_
   exact ⟨_, rfl, _, rfl, (by show 2 ≤ sizeLine; decide), fun tp ntp => q _ _ tp _ ntp (same_new ntp _) upd_same hct⟩
 refine ⟨_, rfl, _, _, rfl, rfl, (by show (0 : Int) < 16; decide), _, _, rfl, rfl, _, rfl, ?_⟩
 by_cases h7 : 7 < c % 16
 ·refine iteT' (decide_eq_true h7) ?_
  refine ⟨_, rfl, _, rfl, _, _, rfl, rfl, _, rfl, _, _, rfl, rfl, ⟨by decide, by decide⟩, _, _, rfl, rfl, (by show (0 : Int) < 34; decide), _, _, rfl, ?_⟩
  refine tail _ ?_
  split <;> omega
 ·exact iteF' (decide_eq_false h7) (tail _ (by omega))
end
end K11
end
section
set_option Elab.async false
set_option linter.all false
set_option maxRecDepth 100000
set_option maxHeartbeats 4000000
namespace K11
open PySem L2 BK
section
variable {P : Program} {w : World} {K : PySem.W.Frag} {mg : Str → Option Value} {base : Heap} {f : Addr} {fd : FuncData} {a : Ad}
theorem refs_of : ∀ (vs : List V), (∀ v ∈ vs, ∃ r, v = .ref r) → ∃ rs : List Addr, vs = rs.map V.ref
 | [], _ => ⟨[], rfl⟩
 | v :: vs, h => by
  obtain ⟨rs, e⟩ := refs_of vs fun u hu => h u (List.mem_cons_of_mem _ hu)
  obtain ⟨r, e2⟩ := h v (List.mem_cons_self ..)
  exact ⟨r :: rs, by rw [e, e2]; rfl⟩
theorem rows_same {H H' : Hp} {rs : List Addr} {R : List (List Int)} (h : RowsAt H rs R) (s : Same H H') : RowsAt H' rs R := h.chg (S := []) (Chg.of s) (by simp)
def snd2 (H : Hp) (r : Addr) : Int := match H r with
 | some (.tup [_, .int j]) => j
 | _ => 0
def dataL (m t : Int) : List Int := (List.range (m - dataAt m t).toNat).map fun i : Nat => dataAt m t + (i : Int)
def spOrder (_ : PySem.W.Frag) (a : Ad) : Sp := fun vs H Q _ => ∃ (y : Addr) (m t c : Int), vs = [.ref y, .int c] ∧ LayAt a.cLayout H y m t ∧ Good m t ∧ ∀ p (O : List Int) H', H p = none → Same H H' → H' p = some (.lst (O.map V.int)) → O.Perm (dataL m t) → Q (.ref p) H'
theorem ok__law_order (F : Fun K "_law_order" "_law_order" s__law_order f fd) (T : Txt K mg a)  : FnOk P w K mg base (CXE P w) 1 f fd ["_law_layout", "_law_cell"] (spOrder K a) := by
 have nd := sc__law_order.nd
 refine F.okE sc__law_order (fun vs H Q E h => ?_) (fun cdv A outer s H vs Q E hr hA h => ?_)
 ·obtain ⟨y, m, t, c, rfl, _⟩ := h
  rfl
 obtain ⟨y, m, t, c, rfl, L, g, q⟩ := h
 obtain ⟨yx, hy⟩ := id L
 obtain ⟨g1, g2, g3, g4, g5⟩ := id g
 have hd24 : 20 ≤ dataAt m t := by unfold dataAt nodesAt; omega
 refine ⟨_, (pss_cons (ps_set (i := 2) nd rfl (by first | exact Or.inl rfl | exact Or.inr rfl) (pe_op op_add pe_int (pe_op op_mod (pv 1) (pe_op op_pow pe_int pe_int))))
  (pss_cons (ps_setLc (j := 3) (cl := [("_law_step", s.heap.objs.size + 1)]) (fj := [("_law_step", 2)]) (by exact LcOk.of ["_law_step"] rfl (by decide +kernel) rfl (by decide +kernel) rfl (fun p h => (by rw [List.mem_singleton.mp h]; rfl)) rfl (by decide +kernel) (fun p h => (by rw [List.mem_singleton.mp h]; exact ⟨rfl, rfl, .inl rfl⟩)) (by decide +kernel)) rfl nd rfl (by first | exact Or.inl rfl | exact Or.inr rfl) (pi_range2 rfl T.range (pa_cons (pe_fldK (K := K) rfl (pv 0) rfl) (pa_cons (pe_fldK (K := K) rfl (pv 0) rfl) pa_nil))) (fun _ _ _ => pf_nil) (fun _ _ _ => (pe_tup (pa_cons (pe_op op_mod (pe_op op_mul (pv 0) (pv 1)) pe_int) (pa_cons (pv 0) pa_nil)))))
  (pss_one (ps_ret (pe_lc (cl := []) (fj := []) (by exact ⟨rfl, by decide +kernel, rfl, by decide +kernel, rfl, fun _ h => (by cases h), by decide +kernel, fun _ h => (by cases h), by decide +kernel⟩) rfl (pi_listK (K := K) rfl (pe_callB L2.call_sortP rfl T.sorted bt_sorted (pa_cons (pv 3) pa_nil))) (fun _ _ _ => pf_nil) (fun _ _ _ => (pe_ix (ix_tupK (K := K) rfl) (pv 0) pe_int (fun _ _ => rfl)))))))), ?_⟩
 refine ⟨_, rfl, _, _, rfl, rfl, ⟨by decide, by decide, by decide⟩, _, _, rfl, rfl, (by show (0 : Int) < 10 ^ (6 : Int).toNat; decide), _, _, rfl, rfl, ?_⟩
 dsimp (config := { proj := false, iota := false, eta := false, zeta := false }) only
 refine ⟨_, rfl, y, a.cLayout, yx, _, _, rfl, hy, T.clLayout, T.n_data_at, rfl, _, rfl, y, a.cLayout, yx, _, _, rfl, hy, T.clLayout, T.n_many, rfl, _, _, rfl, ⟨by omega, by omega, by omega, by omega⟩, ?_⟩
 refine lc_step (n := (m - dataAt m t).toNat) (by omega) (fun i => .int (dataAt m t + (i : Int))) (fun i H h => h) (fun H => Nat.le_refl _) (fun i H x H' h => h) (fun acc H' i v => ∃ (r : Addr) (k : Int), v = .ref r ∧ r ≠ acc ∧ H' r = some (.tup [.int k, .int (dataAt m t + (i : Int))])) ?_ ?_ ?_
 ·rintro acc H H' i v k ⟨r, z, e1, e2, e3⟩
  exact ⟨r, z, e1, e2, k _ _ e2 e3⟩
 ·intro acc i H5 Qf hi h0 s5 ha k
  refine ⟨_, rfl, _, rfl, _, _, rfl, rfl, .inl ⟨by show -(2 ^ 64) < dataAt m t + (i : Int); omega, by show dataAt m t + (i : Int) < 2 ^ 64; omega⟩, _, _, rfl, rfl, (by show (0 : Int) < 65537; decide), _, rfl, (by show 2 ≤ sizeLine; decide), fun tp ntp => ?_⟩
  exact k _ _ (same_new ntp _) ⟨tp, _, rfl, fun z => ha (by rw [← z]; exact ntp), upd_same⟩
 intro rk vs H1 nrk s1 hrk hlv hg
 obtain ⟨rs, rfl⟩ := refs_of vs fun v hv => by
  obtain ⟨i, hi⟩ := List.getElem?_of_mem hv
  obtain ⟨r, _, e, _⟩ := hg i v hi
  exact ⟨r, e⟩
 rw [List.length_map] at hlv
 have hT : ∀ (i : Nat) (hi : i < rs.length), ∃ k : Int, H1 rs[i] = some (.tup [.int k, .int (dataAt m t + (i : Int))]) := fun i hi => by
  obtain ⟨r, k, e1, _, e3⟩ := hg i (.ref rs[i]) (by rw [List.getElem?_map, List.getElem?_eq_getElem hi]; rfl)
  cases e1
  exact ⟨k, e3⟩
 have hmap : rs.map (snd2 H1) = dataL m t := by
  unfold dataL
  apply List.ext_getElem (by simp [hlv])
  intro i h1 h2
  rw [List.length_map] at h1
  obtain ⟨k, e⟩ := hT i h1
  rw [List.getElem_map, List.getElem_map, List.getElem_range]
  unfold snd2; rw [e]
 have hall : ∀ r ∈ rs, ∃ k j : Int, H1 r = some (.tup [.int k, .int j]) ∧ 0 ≤ j ∧ j < 1000 := fun r hr => by
  obtain ⟨i, hi, e⟩ := List.mem_iff_getElem.mp hr
  obtain ⟨k, e2⟩ := hT i hi
  rw [e] at e2
  exact ⟨k, _, e2, by omega, by omega⟩
 refine ⟨_, rfl, rk, rs, rfl, hrk, hall, fun l rs' nl hp => ?_⟩
 have w2 := same_new nl (.lst (rs'.map V.ref))
 refine ⟨l, rfl, ⟨_, SqL.of upd_same⟩, lc_valsL (xs := rs'.map V.ref) (by rw [List.length_map, hp.length_eq]; omega) upd_same (fun acc H' i v => v = .int (snd2 H1 (rs'.getD i 0))) ?_ ?_ ?_⟩
 ·rintro acc H H' i v k e
  exact e
 ·intro acc i v H7 Qf hx h0 s7 ha k
  obtain ⟨hi, ev⟩ := List.getElem?_eq_some_iff.mp hx
  rw [List.length_map] at hi
  rw [List.getElem_map] at ev
  subst ev
  obtain ⟨z, j, e, _⟩ := hall _ (hp.mem_iff.mp (List.getElem_mem hi))
  refine ⟨_, rfl, rs'[i], _, 1, .int j, rfl, rfl, SqT.of (s7 _ _ (w2 _ _ e)), rfl, k _ _ (Same.refl _) ?_⟩
  rw [List.getD_eq_getElem?_getD, List.getElem?_eq_getElem hi]
  unfold snd2; rw [show (some rs'[i]).getD 0 = rs'[i] from rfl, e]
 intro acc vs H8 nacc s8 hacc hl8 hg8
 rw [List.length_map] at hl8
 have ev : vs = (rs'.map (snd2 H1)).map V.int := by
  apply List.ext_getElem?
  intro i
  by_cases hi : i < rs'.length
  ·have hi8 : i < vs.length := by omega
   rw [List.getElem?_eq_getElem hi8, hg8 i _ (List.getElem?_eq_getElem hi8), List.getElem?_map, List.getElem?_map, List.getElem?_eq_getElem hi, List.getD_eq_getElem?_getD, List.getElem?_eq_getElem hi]; rfl
  ·rw [List.getElem?_eq_none (by omega), List.getElem?_eq_none (by simp; omega)]
 rw [ev] at hacc
 have sA := s1.trans w2
 exact q acc _ _ (sA.free nacc) (sA.trans s8) hacc (by rw [← hmap]; exact hp.map _)
structure Laid (m t : Int) (sz : Nat) (B : List Int) (fr : Int) : Prop where
 len : B.length = (sz + 15) / 16
 few : sz ≤ 320
 nd : B.Nodup
 inn : ∀ z ∈ B, dataAt m t ≤ z ∧ z < m
 far : 4 < B.length → dataAt m t ≤ fr ∧ fr < m ∧ fr ∉ B
 near : B.length ≤ 4 → fr = 0
theorem data_mem {m t z : Int} : z ∈ dataL m t ↔ dataAt m t ≤ z ∧ z < m := by
 unfold dataL
 rw [List.mem_map]
 constructor
 ·rintro ⟨i, hi, rfl⟩
  rw [List.mem_range] at hi
  omega
 ·rintro ⟨h1, h2⟩
  exact ⟨(z - dataAt m t).toNat, List.mem_range.mpr (by omega), by omega⟩
theorem data_nodup {m t : Int} : (dataL m t).Nodup := by
 unfold dataL
 exact List.Pairwise.map _ (fun a b h z => h (by omega)) List.nodup_range
def spLaid (K : PySem.W.Frag) (a : Ad) : Sp := fun vs H Q _ => ∃ (y sc : Addr) (m t : Int) (ns : List Int), vs = [.ref y, .ref sc] ∧ LayAt a.cLayout H y m t ∧ Good m t ∧ SqL K H sc (ns.map V.int) ∧
 ∀ tp bl (sz : Nat) (B : List Int) (fr : Int) H', H bl = none → Same H H' → H' tp = some (.tup [.int sz, .ref bl, .int fr]) → H' bl = some (.lst (B.map V.int)) → Laid m t sz B fr → Q (.ref tp) H'
theorem ok__law_laid (F : Fun K "_law_laid" "_law_laid" s__law_laid f fd) (T : Txt K mg a) (D__law_cell_at : Df P w K mg base CX0 1 "_law_cell_at" ["_law_script", "_law_k"] (spCell K a)) (D__law_order : Df P w K mg base (CXE P w) 1 "_law_order" ["_law_layout", "_law_cell"] (spOrder K a)) : FnOk P w K mg base (CXE P w) 2 f fd ["_law_layout", "_law_script"] (spLaid K a) := by
 obtain ⟨_, _, Gl_cell_at, bl_cell_at, kl_cell_at, ml_cell_at⟩ := D__law_cell_at
 obtain ⟨_, _, Gl_order, bl_order, kl_order, ml_order⟩ := D__law_order
 have nd := sc__law_laid.nd
 refine F.okE sc__law_laid (fun vs H Q E h => ?_) (fun cdv A outer s H vs Q E hr hA h => ?_)
 ·obtain ⟨y, sc, m, t, ns, rfl, _⟩ := h
  rfl
 obtain ⟨y, sc, m, t, ns, rfl, L, g, hS, q⟩ := h
 obtain ⟨g1, g2, g3, g4, g5⟩ := id g
 refine ⟨_, (pss_cons (ps_set (i := 2) nd rfl (by first | exact Or.inl rfl | exact Or.inr rfl) (pe_call Gl_cell_at (hr.mono (by decide)) rfl ml_cell_at kl_cell_at bl_cell_at .nil pass0 (pa_cons (pv 1) (pa_cons pe_int pa_nil))))
  (pss_cons (ps_set (i := 3) nd rfl (by first | exact Or.inl rfl | exact Or.inr rfl) (pe_call Gl_order (hr.mono (by decide)) rfl ml_order kl_order bl_order .nil (passes_fn (fun _ _ _ h => h)) (pa_cons (pv 0) (pa_cons (pe_call Gl_cell_at (hr.mono (by decide)) rfl ml_cell_at kl_cell_at bl_cell_at .nil pass0 (pa_cons (pv 1) (pa_cons pe_int pa_nil))) pa_nil)) (hcm := (.inr hA))))
  (pss_cons (ps_set (i := 4) nd rfl (by first | exact Or.inl rfl | exact Or.inr rfl) (pe_callB (call_lenK (K := K) rfl) rfl T.len bt_len (pa_cons (pv 3) pa_nil)))
  (pss_cons (ps_if (pt_cmpR op_gt (pv 4) pe_int (nomark _)) (pss_one (ps_set (i := 4) nd rfl (by first | exact Or.inl rfl | exact Or.inr rfl) (pe_callB (call_min2 hA) rfl T.min bt_min (pa_cons pe_int (pa_cons (pe_op op_sub (pv 4) pe_int) pa_nil))))) pss_nil)
  (pss_cons (ps_set (i := 5) nd rfl (by first | exact Or.inl rfl | exact Or.inr rfl) (pe_op op_mod (pv 2) (pe_op op_add (pe_op op_mul pe_int (pv 4)) pe_int)))
  (pss_cons (ps_set (i := 6) nd rfl (by first | exact Or.inl rfl | exact Or.inr rfl) (pe_op op_fdiv (pe_op op_add (pv 5) pe_int) pe_int))
  (pss_cons (ps_set (i := 7) nd rfl (by first | exact Or.inl rfl | exact Or.inr rfl) pe_int)
  (pss_cons (ps_if (pt_cmpR op_gt (pv 6) pe_int (nomark _)) (pss_one (ps_set (i := 7) nd rfl (by first | exact Or.inl rfl | exact Or.inr rfl) (pe_ix (ix_listK (K := K) rfl) (pv 3) (pe_un un_neg pe_int) (fun _ _ => rfl)))) pss_nil)
  (pss_one (ps_ret (pe_tup (pa_cons (pv 5) (pa_cons (pe_slice (sl_listK (K := K) rfl) (pv 3) po_none (po_some (pv 6))) (pa_cons (pv 7) pa_nil)))))))))))))), ?_⟩
 refine ⟨_, rfl, sc, ns, 2, rfl, hS, by decide, ?_⟩
 refine ⟨_, rfl, _, rfl, sc, ns, 3, rfl, hS, by decide, y, m, t, _, rfl, L, g, fun op O H1 nop s1 hop hO => ?_⟩
 have hlO : (O.length : Int) = m - dataAt m t := by rw [hO.length_eq]; unfold dataL; simp; omega
 have hmO : ∀ z ∈ O, dataAt m t ≤ z ∧ z < m := fun z hz => data_mem.mp (hO.mem_iff.mp hz)
 have ndO : O.Nodup := hO.nodup_iff.mpr data_nodup
 refine ⟨_, rfl, op, _, rfl, .inl (SqL.of hop), ?_⟩
 rw [List.length_map]
 generalize hTL : tSeq (tAsg (tOp _ (tVar 2) _) _) _ = TL
 have tail : ∀ mo : Nat, mo ≤ 20 → mo ≤ O.length → (4 < mo → mo + 1 ≤ O.length) → TL { nx := fun _ H' => Q .non H', rt := Q } [some (.ref y), some (.ref sc), some (.int (cell ns 2)), some (.ref op), some (.int mo), none, none, none] H1 := fun mo h20 hmo h5 => by
  rw [← hTL]
  obtain ⟨sz, es, hs⟩ : ∃ sz : Nat, cell ns 2 % (16 * (mo : Int) + 1) = (sz : Int) ∧ sz ≤ 16 * mo := by
   have h1 := Int.emod_nonneg (cell ns 2) (show 16 * (mo : Int) + 1 ≠ 0 by omega)
   have h2 := Int.emod_lt_of_pos (cell ns 2) (show 0 < 16 * (mo : Int) + 1 by omega)
   exact ⟨(cell ns 2 % (16 * (mo : Int) + 1)).toNat, by omega, by omega⟩
  refine ⟨_, rfl, _, rfl, _, _, rfl, rfl, .inl ⟨by decide, by decide⟩, _, _, rfl, rfl, _, _, rfl, rfl, (by show 0 < 16 * (mo : Int) + 1; omega), ?_⟩
  dsimp (config := { proj := false, iota := false, eta := false, zeta := false }) only
  rw [es]
  refine ⟨_, rfl, _, _, rfl, rfl, _, _, rfl, rfl, ⟨by decide, by decide⟩, ?_⟩
  dsimp (config := { proj := false, iota := false, eta := false, zeta := false }) only
  rw [show ((sz : Int) + 15) / 16 = (((sz + 15) / 16 : Nat) : Int) by omega]
  obtain ⟨mb, emb⟩ : ∃ mb : Nat, (sz + 15) / 16 = mb := ⟨_, rfl⟩
  rw [emb]
  have hmb : mb ≤ mo := by omega
  have ht : (O.take mb).length = mb := by rw [List.length_take]; omega
  have fin : ∀ fr : Int, (4 < mb → dataAt m t ≤ fr ∧ fr < m ∧ fr ∉ O.take mb) → (mb ≤ 4 → fr = 0) → Laid m t sz (O.take mb) fr := fun fr h1 h2 => ⟨by omega, by omega, ndO.sublist (List.take_sublist _ _), fun z hz => hmO z (List.mem_of_mem_take hz), by rw [ht]; exact h1, by rw [ht]; exact h2⟩
  generalize hT2 : tRet (tTup _) = T2
  have out : ∀ fr : Int, Laid m t sz (O.take mb) fr → T2 { nx := fun _ H' => Q .non H', rt := Q } [some (.ref y), some (.ref sc), some (.int (cell ns 2)), some (.ref op), some (.int mo), some (.int sz), some (.int mb), some (.int fr)] H1 := fun fr L => by
   rw [← hT2]
   refine ⟨_, rfl, _, rfl, _, rfl, _, rfl, op, _, rfl, SqL.of hop, fun p3 n3 => ?_⟩
   rw [cut_to, ← List.map_take]
   have w3 := same_new n3 (.lst ((O.take mb).map V.int))
   refine ⟨_, rfl, (by show 3 ≤ sizeLine; decide), fun tp ntp => ?_⟩
   have w4 := same_new ntp (.tup [.int sz, .ref p3, .int fr])
   exact q tp p3 sz _ fr _ (s1.free n3) ((s1.trans w3).trans w4) upd_same (w4 _ _ upd_same) L
  refine ⟨_, rfl, _, _, rfl, rfl, _, rfl, ?_⟩
  by_cases h4 : (4 : Int) < mb
  ·refine iteT' (decide_eq_true h4) ?_
   have hne : O ≠ [] := fun z => by rw [z] at hmo; simp at hmo; omega
   have hlast : atI (O.map V.int) (-1) = some (.int (O.getLast hne)) := by
    conv => lhs; rw [← List.dropLast_concat_getLast hne, List.map_append]
    exact atI_last _ _
   refine ⟨_, rfl, _, rfl, op, _, _, _, rfl, rfl, SqL.of hop, hlast, ?_⟩
   have hl := hmO _ (List.getLast_mem hne)
   refine out _ (fin _ (fun _ => ⟨hl.1, hl.2, fun z => ?_⟩) (fun z => by omega))
   obtain ⟨i, hi, e⟩ := List.mem_iff_getElem.mp z
   rw [List.getElem_take, List.getLast_eq_getElem] at e
   rw [List.length_take] at hi
   have := (List.pairwise_iff_getElem.mp ndO) i (O.length - 1) (by omega) (by omega) (by omega)
   exact this e
  ·refine iteF' (decide_eq_false h4) ?_
   exact out _ (fin _ (fun z => absurd z (by omega)) fun _ => rfl)
 refine ⟨_, rfl, _, _, rfl, rfl, _, rfl, ?_⟩
 by_cases h4 : (4 : Int) < O.length
 ·refine iteT' (decide_eq_true h4) ?_
  refine ⟨_, rfl, _, _, rfl, rfl, _, _, rfl, ?_⟩
  dsimp (config := { proj := false, iota := false, eta := false, zeta := false }) only
  rw [show (if (O.length : Int) - 1 < 20 then (O.length : Int) - 1 else 20) = ((min 20 (O.length - 1) : Nat) : Int) by split <;> omega]
  exact tail _ (by omega) (by omega) (by omega)
 ·exact iteF' (decide_eq_false h4) (tail _ (by omega) (by omega) (by omega))
end
end K11
end
section
set_option Elab.async false
set_option linter.all false
set_option maxRecDepth 100000
set_option maxHeartbeats 4000000
namespace K11
open PySem L2 BK
section
variable {P : Program} {w : World} {K : PySem.W.Frag} {mg : Str → Option Value} {base : Heap} {f : Addr} {fd : FuncData} {a : Ad}
def padL (ws : List Int) (nb : Nat) : List Int := ws ++ List.replicate (16 * nb - ws.length) 0
def blkRow (ws : List Int) (nb k : Nat) : List Int := ((padL ws nb).drop (16 * k)).take 16
def nearL (B : List Int) : List Int := B.take 4 ++ List.replicate (4 - (B.take 4).length) 0
def eightL (kind : Int) (sz : Nat) (B : List Int) (fr : Int) : List Int := [kind, 1, (sz : Int)] ++ nearL B ++ [fr]
def farRow (B : List Int) : List Int := B.drop 4 ++ List.replicate (20 - B.length) 0
def nodeRow (n : Nat) (kind : Int) (sz : Nat) (B : List Int) (fr : Int) : List Int := zeros.take (8 * (n % 2)) ++ eightL kind sz B fr ++ zeros.drop (8 * (n % 2) + 8)
def rowB (ws B : List Int) (k i : Nat) : List Int := if (i : Int) ∈ B.take k then blkRow ws B.length (B.idxOf (i : Int)) else zeros
def rowF (ws B : List Int) (fr : Int) (i : Nat) : List Int := if 4 < B.length ∧ (i : Int) = fr then farRow B else rowB ws B B.length i
def rowQ (m : Int) (n : Nat) (kind : Int) (ws B : List Int) (fr : Int) (i : Nat) : List Int := if i = nAt m n then nodeRow n kind ws.length B fr else rowF ws B fr i
theorem map_set (n k : Nat) (f : Nat → List Int) (x : List Int) : ((List.range n).map f).set k x = (List.range n).map fun i => if i = k then x else f i := by
 apply List.ext_getElem?
 intro i
 rw [List.getElem?_set]
 simp only [List.getElem?_map, List.length_map, List.length_range]
 by_cases hi : i < n
 ·rw [List.getElem?_range hi]
  by_cases e : k = i
  ·subst e
   rw [if_pos rfl, if_pos hi]
   simp
  ·rw [if_neg e]
   simp [Ne.symm e]
 ·have en : (List.range n)[i]? = none := List.getElem?_eq_none (by simpa using hi)
  rw [en]
  by_cases e : k = i
  ·subst e
   rw [if_pos rfl, if_neg hi]; rfl
  ·rw [if_neg e]; rfl
theorem map_at (n k : Nat) (f : Nat → List Int) (h : k < n) : ((List.range n).map f)[k]? = some (f k) := by rw [List.getElem?_map, List.getElem?_range h]; rfl
theorem rowB_step {ws B : List Int} {k : Nat} (hk : k < B.length) (nd : B.Nodup) (h0 : ∀ z ∈ B, 0 ≤ z) : (fun i => if i = (B[k]).toNat then blkRow ws B.length k else rowB ws B k i) = rowB ws B (k + 1) := by
 funext i
 have hb := h0 _ (List.getElem_mem hk)
 have et : B.take (k + 1) = B.take k ++ [B[k]] := by rw [List.take_add_one, List.getElem?_eq_getElem hk]; rfl
 unfold rowB
 rw [et]
 by_cases e : i = (B[k]).toNat
 ·have e' : (i : Int) = B[k] := by omega
  rw [if_pos e, if_pos (List.mem_append_right _ (List.mem_singleton.mpr e')), e', List.Nodup.idxOf_getElem nd]
 ·have e' : (i : Int) ≠ B[k] := by omega
  rw [if_neg e]
  by_cases hm : (i : Int) ∈ B.take k
  ·rw [if_pos hm, if_pos (List.mem_append_left _ hm)]
  ·rw [if_neg hm, if_neg (fun z => by
    rcases List.mem_append.mp z with z | z
    ·exact hm z
    ·exact e' (List.mem_singleton.mp z))]
theorem rowB_0 {ws B : List Int} : rowB ws B 0 = fun _ => zeros := by funext i; unfold rowB; simp
def GoodWs (ws : List Int) : Prop := ∀ z ∈ ws, 0 ≤ z ∧ z ≤ 999999999
theorem zeros_good : GoodRow zeros := good_zero
theorem blk_good {ws : List Int} {nb k : Nat} (g : GoodWs ws) (hk : k < nb) (hw : ws.length ≤ 16 * nb) : GoodRow (blkRow ws nb k) := by
 unfold blkRow padL
 refine ⟨by rw [List.length_take, List.length_drop, List.length_append, List.length_replicate]; omega, fun z hz => ?_⟩
 rcases List.mem_append.mp (List.mem_of_mem_drop (List.mem_of_mem_take hz)) with h | h
 ·exact g z h
 ·rw [List.eq_of_mem_replicate h]; decide
theorem far_good {m t : Int} {sz : Nat} {B : List Int} {fr : Int} (L : Laid m t sz B fr) (g : Good m t) (h4 : 4 < B.length) : GoodRow (farRow B) := by
 have h1 := L.len
 have h2 := L.few
 obtain ⟨g1, g2, g3, g4, g5⟩ := g
 unfold farRow
 refine ⟨by rw [List.length_append, List.length_drop, List.length_replicate]; omega, fun z hz => ?_⟩
 rcases List.mem_append.mp hz with h | h
 ·have := L.inn z (List.mem_of_mem_drop h)
  have hd : 0 ≤ dataAt m t := by unfold dataAt nodesAt; omega
  omega
 ·rw [List.eq_of_mem_replicate h]; decide
theorem node_good {m t : Int} {sz n : Nat} {B : List Int} {fr kind : Int} (L : Laid m t sz B fr) (g : Good m t) (k1 : 1 ≤ kind) (k2 : kind ≤ 2) : GoodRow (nodeRow n kind sz B fr) := by
 have h1 := L.len
 have h2 := L.few
 obtain ⟨g1, g2, g3, g4, g5⟩ := g
 have hd : 0 ≤ dataAt m t := by unfold dataAt nodesAt; omega
 have hf : 0 ≤ fr ∧ fr ≤ 96 := by
  by_cases h4 : 4 < B.length
  ·have := L.far h4; omega
  ·rw [L.near (by omega)]; decide
 have l8 : (eightL kind sz B fr).length = 8 := by
  unfold eightL nearL
  simp only [List.length_append, List.length_cons, List.length_nil, List.length_replicate, List.length_take]; omega
 refine ⟨?_, fun z hz => ?_⟩
 ·unfold nodeRow
  rw [List.length_append, List.length_append, l8, List.length_take, List.length_drop]
  unfold zeros
  rw [List.length_replicate]; omega
 ·unfold nodeRow at hz
  rcases List.mem_append.mp hz with h | h
  ·rcases List.mem_append.mp h with h | h
   ·exact zeros_good.2 z (List.mem_of_mem_take h)
   ·unfold eightL nearL at h
    rcases List.mem_append.mp h with h | h
    ·rcases List.mem_append.mp h with h | h
     ·simp only [List.mem_cons, List.not_mem_nil, or_false] at h
      omega
     ·rcases List.mem_append.mp h with h | h
      ·have := L.inn z (List.mem_of_mem_take h); omega
      ·rw [List.eq_of_mem_replicate h]; decide
    ·rw [List.mem_singleton.mp h]; omega
  ·exact zeros_good.2 z (List.mem_of_mem_drop h)
theorem rowQ_good {m t : Int} {n : Nat} {B ws : List Int} {fr kind : Int} (L : Laid m t ws.length B fr) (g : Good m t) (k1 : 1 ≤ kind) (k2 : kind ≤ 2) (gw : GoodWs ws) (i : Nat) : GoodRow (rowQ m n kind ws B fr i) := by
 unfold rowQ
 split
 ·exact node_good L g k1 k2
 ·unfold rowF
  split
  ·rename_i h; exact far_good L g h.1
  ·unfold rowB
   split
   ·rename_i h
    rw [List.take_length] at h
    exact blk_good gw (List.idxOf_lt_length_iff.mpr h) (by have := L.len; omega)
   ·exact zeros_good
def spRowsQ (_ : PySem.W.Frag) (a : Ad) : Sp := fun vs H Q _ => ∃ (y wl bl : Addr) (m t : Int) (n : Nat) (B ws : List Int) (fr kind : Int), vs = [.ref y, .ref wl, .ref bl, .int fr, .int n, .int kind] ∧ LayAt a.cLayout H y m t ∧ Good m t ∧ H wl = some (.lst (ws.map V.int)) ∧ H bl = some (.lst (B.map V.int)) ∧ Laid m t ws.length B fr ∧ (n : Int) ≤ 2 * t - 1 ∧
 ∀ rp rs H', H rp = none → Same H H' → H' rp = some (.lst (rs.map V.ref)) → RowsAt H' rs ((List.range m.toNat).map (rowQ m n kind ws B fr)) → Q (.ref rp) H'
theorem ok__law_rows (F : Fun K "_law_rows" "_law_rows" s__law_rows f fd) (T : Txt K mg a)  : FnOk P w K mg base (CXE P w) 1 f fd ["_law_layout", "_law_words", "_law_blocks", "_law_far", "_law_node", "_law_kind"] (spRowsQ K a) := by
 have nd := sc__law_rows.nd
 refine F.okE sc__law_rows (fun vs H Q E h => ?_) (fun cdv A outer s H vs Q E hr hA h => ?_)
 ·obtain ⟨y, wl, bl, m, t, n, B, ws, fr, kind, rfl, _⟩ := h
  rfl
 obtain ⟨y, wl, bl, m, t, n, B, ws, fr, kind, rfl, L, g, hw, hb, G, hn, q⟩ := h
 obtain ⟨yx, hy⟩ := id L
 obtain ⟨g1, g2, g3, g4, g5⟩ := id g
 have hd24 : 20 ≤ dataAt m t := by unfold dataAt nodesAt; omega
 have hl := G.len
 have few := G.few
 refine ⟨_, (pss_cons (ps_setLc (j := 6) (cl := []) (fj := []) (by exact ⟨rfl, by decide +kernel, rfl, by decide +kernel, rfl, fun _ h => (by cases h), by decide +kernel, fun _ h => (by cases h), by decide +kernel⟩) rfl nd rfl (by first | exact Or.inl rfl | exact Or.inr rfl) (pi_range1 rfl T.range (pa_cons (pe_fldK (K := K) rfl (pv 0) rfl) pa_nil)) (fun _ _ _ => pf_nil) (fun _ _ _ => (pe_op op_rep (pe_lst (pa_cons pe_int pa_nil)) pe_int)))
  (pss_cons (ps_set (i := 7) nd rfl (by first | exact Or.inl rfl | exact Or.inr rfl) (pe_op op_cat (pv 1) (pe_op op_rep (pe_lst (pa_cons pe_int pa_nil)) (pe_op op_sub (pe_op op_mul pe_int (pe_callB (call_lenK (K := K) rfl) rfl T.len bt_len (pa_cons (pv 2) pa_nil))) (pe_callB (call_lenK (K := K) rfl) rfl T.len bt_len (pa_cons (pv 1) pa_nil))))))
  (pss_cons (ps_for PassesOwn.leaving rfl (pi_range1 rfl T.range (pa_cons (pe_callB (call_lenK (K := K) rfl) rfl T.len bt_len (pa_cons (pv 2) pa_nil)) pa_nil)) (pg_name (i := 8) nd rfl (by first | exact Or.inl rfl | exact Or.inr rfl)) (pss_one (ps_asg (pe_slice (sl_listK (K := K) rfl) (pv 7) (po_some (pe_op op_mul pe_int (pv 8))) (po_some (pe_op op_add (pe_op op_mul pe_int (pv 8)) pe_int))) (pg_sub (pv 6) (pe_ix (ix_listK (K := K) rfl) (pv 2) (pv 8) (fun _ _ => rfl)) set_list))))
  (pss_cons (ps_if (pt_cmpR op_gt (pv 3) pe_int (nomark _)) (pss_one (ps_asg (pe_op op_cat (pe_slice (sl_listK (K := K) rfl) (pv 2) (po_some pe_int) po_none) (pe_op op_rep (pe_lst (pa_cons pe_int pa_nil)) (pe_op op_sub pe_int (pe_callB (call_lenK (K := K) rfl) rfl T.len bt_len (pa_cons (pv 2) pa_nil))))) (pg_sub (pv 6) (pv 3) set_list))) pss_nil)
  (pss_cons (ps_set (i := 9) nd rfl (by first | exact Or.inl rfl | exact Or.inr rfl) (pe_op op_cat (pe_slice (sl_listK (K := K) rfl) (pv 2) po_none (po_some pe_int)) (pe_op op_rep (pe_lst (pa_cons pe_int pa_nil)) (pe_op op_sub pe_int (pe_callB (call_lenK (K := K) rfl) rfl T.len bt_len (pa_cons (pe_slice (sl_listK (K := K) rfl) (pv 2) po_none (po_some pe_int)) pa_nil))))))
  (pss_cons (ps_set (i := 10) nd rfl (by first | exact Or.inl rfl | exact Or.inr rfl) (pe_op op_add (pe_fldK (K := K) rfl (pv 0) rfl) (pe_op op_fdiv (pv 4) pe_int)))
  (pss_cons (ps_set (i := 11) nd rfl (by first | exact Or.inl rfl | exact Or.inr rfl) (pe_op op_cat (pe_op op_cat (pe_lst (pa_cons (pv 5) (pa_cons pe_int (pa_cons (pe_callB (call_lenK (K := K) rfl) rfl T.len bt_len (pa_cons (pv 1) pa_nil)) pa_nil)))) (pv 9)) (pe_lst (pa_cons (pv 3) pa_nil))))
  (pss_cons (ps_set (i := 12) nd rfl (by first | exact Or.inl rfl | exact Or.inr rfl) (pe_op op_mul pe_int (pe_op op_mod (pv 4) pe_int)))
  (pss_cons (ps_asg (pe_op op_cat (pe_op op_cat (pe_slice (sl_listK (K := K) rfl) (pe_ix (ix_listK (K := K) rfl) (pv 6) (pv 10) (fun _ _ => rfl)) po_none (po_some (pv 12))) (pv 11)) (pe_slice (sl_listK (K := K) rfl) (pe_ix (ix_listK (K := K) rfl) (pv 6) (pv 10) (fun _ _ => rfl)) (po_some (pe_op op_add (pv 12) pe_int)) po_none)) (pg_sub (pv 6) (pv 10) set_list))
  (pss_one (ps_ret (pv 6)))))))))))), ?_⟩
 refine ⟨_, rfl, y, a.cLayout, yx, _, _, rfl, hy, T.clLayout, T.n_many, rfl, _, rfl, by omega, by omega, ?_⟩
 refine lc_vals (n := m.toNat) (by omega) (fun acc H' i v => ∃ r, v = .ref r ∧ r ≠ acc ∧ H' r = some (.lst (zeros.map V.int))) ?_ ?_ ?_
 ·rintro acc H H' i v k ⟨r, e1, e2, e3⟩
  exact ⟨r, e1, e2, k _ _ e2 e3⟩
 ·intro acc i H7 Qf hi h0 s7 ha k
  refine ⟨(by show 1 ≤ sizeLine; decide), fun l1 m1 => ⟨l1, 16, [.int 0], rfl, rfl, upd_same, by decide, by decide, (by show 1 * 16 ≤ sizeLine; decide), fun l2 m2 => ?_⟩⟩
  rw [show (16 : Int).toNat = 16 from rfl, flat_1]
  have u := same_new m1 (.lst [.int 0])
  exact k _ _ (u.trans (same_new m2 _)) ⟨l2, rfl, fun z => ha (by rw [← z]; exact u.free m2), upd_same⟩
 intro rp vs H1 nrp s1 hrp hlv hg
 obtain ⟨rs, rfl, nrs, hR⟩ := rows_of hlv (fun _ => zeros) hg
 rw [← rowB_0 (ws := ws) (B := B)] at hR
 clear hg hlv
 have hy1 := s1 _ _ hy
 have hw1 := s1 _ _ hw
 have hb1 := s1 _ _ hb
 obtain ⟨pd, epd⟩ : ∃ pd : Nat, 16 * B.length - ws.length = pd := ⟨_, rfl⟩
 refine ⟨_, rfl, (by show 1 ≤ sizeLine; decide), fun l1 m1 => ?_⟩
 have w1 := same_new m1 (.lst [.int 0])
 refine ⟨_, rfl, bl, _, rfl, .inl (SqL.of (w1 _ _ hb1)), _, _, rfl, rfl, .inl ⟨by decide, by decide⟩, _, rfl, wl, _, rfl, .inl (SqL.of (w1 _ _ hw1)), _, _, rfl, rfl, ?_⟩
 dsimp (config := { proj := false, iota := false, eta := false, zeta := false }) only
 rw [show (16 : Int) * (((B.map V.int).length : Nat) : Int) - (((ws.map V.int).length : Nat) : Int) = (pd : Int) by rw [List.length_map, List.length_map]; omega]
 refine ⟨l1, pd, [.int 0], rfl, rfl, upd_same, by omega, by omega, (by show 1 * (pd : Int).toNat ≤ sizeLine; exact small (n := 1 * (pd : Int).toNat) (by omega)), fun l2 m2 => ?_⟩
 rw [show (pd : Int).toNat = pd by omega, flat_1]
 have w2 := w1.trans (same_new m2 (.lst ((List.replicate pd (0 : Int)).map V.int)))
 refine ⟨wl, l2, _, _, rfl, rfl, w2 _ _ hw1, upd_same, small (by simp; omega), fun l3 m3 => ?_⟩
 rw [← List.map_append, ← epd]
 have w3 := w2.trans (same_new m3 (.lst ((padL ws B.length).map V.int)))
 have hpd := upd_same (H := upd (upd H1 l1 (.lst [.int 0])) l2 (.lst ((List.replicate pd (0 : Int)).map V.int))) (a := l3) (o := .lst ((padL ws B.length).map V.int))
 rw [← epd] at hpd w3
 show tSeq _ _ _ _ (upd (upd (upd H1 l1 (.lst [.int 0])) l2 (.lst ((List.replicate (16 * B.length - ws.length) (0 : Int)).map V.int))) l3 (.lst ((padL ws B.length).map V.int)))
 generalize upd (upd (upd H1 l1 (.lst [.int 0])) l2 (.lst ((List.replicate (16 * B.length - ws.length) (0 : Int)).map V.int))) l3 (.lst ((padL ws B.length).map V.int)) = H3 at w3 hpd ⊢
 have s3 := s1.trans w3
 have hrp3 := w3 _ _ hrp
 have hR3 := rows_same hR w3
 have hb3 := w3 _ _ hb1
 have hw3 := w3 _ _ hw1
 have hlp : (padL ws B.length).length = 16 * B.length := by unfold padL; rw [List.length_append, List.length_replicate]; omega
 have h0 : ∀ z ∈ B, 0 ≤ z := fun z hz => by have := G.inn z hz; omega
 have hrl : rs.length = m.toNat := by rw [hR.1]; simp
 have nlr : l3 ≠ rp := Ne.symm (ne_of_none (w2 _ _ hrp) m3)
 have nbr : bl ≠ rp := fun z => by rw [z, nrp] at hb; cases hb
 have nwr : wl ≠ rp := fun z => by rw [z, nrp] at hw; cases hw
 refine ⟨_, rfl, bl, _, rfl, .inl (SqL.of hb3), _, rfl, by rw [List.length_map]; omega, by rw [List.length_map]; omega, ?_⟩
 refine for_range (lo := 0) (n := (((B.map V.int).length : Nat) : Int).toNat) (fun i σ' H' => ∃ (rs : List Addr) (o8 : Option V), σ' = [some (.ref y), some (.ref wl), some (.ref bl), some (.int fr), some (.int n), some (.int kind), some (.ref rp), some (.ref l3), o8, none, none, none, none] ∧ Chg [rp] H3 H' ∧ H' rp = some (.lst (rs.map V.ref)) ∧ rp ∉ rs ∧ RowsAt H' rs ((List.range m.toNat).map (rowB ws B i)))
  ⟨rs, none, rfl, Chg.of (Same.refl _), hrp3, nrs, hR3⟩ ?_ ?_
 ·rintro i σ' H' hi ⟨rs, o8, rfl, c, hrp', nrs, hR⟩
  rw [List.length_map] at hi
  have hi' : i < B.length := by omega
  have off : ∀ {u : Addr} {o : HO}, H3 u = some o → u ≠ rp → H' u = some o := fun e n => c _ _ e (by simpa using n)
  have hbz := h0 _ (List.getElem_mem hi')
  have hbm := (G.inn _ (List.getElem_mem hi')).2
  rw [Int.zero_add]
  refine ⟨_, rfl, _, rfl, _, _, rfl, rfl, .inl ⟨by decide, by decide⟩, _, rfl, _, rfl, _, _, rfl, rfl, .inl ⟨by decide, by decide⟩, _, _, rfl, rfl, _, rfl, l3, _, rfl, SqL.of (off hpd nlr), fun p5 n5 => ?_⟩
  dsimp (config := { proj := false, iota := false, eta := false, zeta := false }) only
  rw [show (16 : Int) * (i : Int) = ((16 * i : Nat) : Int) by omega, show ((16 * i : Nat) : Int) + 16 = ((16 * i + 16 : Nat) : Int) by omega, cut_mid _ _ _ (by rw [List.length_map, hlp]; omega), ← List.map_drop, ← List.map_take]
  have w5 := same_new n5 (.lst ((blkRow ws B.length i).map V.int))
  have hat : atI (B.map V.int) (i : Int) = some (.int B[i]) := atI_nat (by rw [List.getElem?_map, List.getElem?_eq_getElem hi']; rfl)
  have hrl' : rs.length = m.toNat := by rw [hR.1]; simp
  have hix : ixN (rs.map V.ref).length B[i] = some (B[i]).toNat := by
   unfold ixN
   rw [if_pos hbz, if_pos (by rw [List.length_map, hrl']; omega)]
  refine ⟨_, rfl, _, rfl, _, rfl, bl, _, _, _, rfl, rfl, SqL.of (w5 _ _ (off hb3 nbr)), hat, rp, _, _, _, rfl, rfl, w5 _ _ hrp', hix, ?_⟩
  have n5r : p5 ≠ rp := Ne.symm (ne_of_none hrp' n5)
  refine ⟨rs.set (B[i]).toNat p5, _, rfl, (c.trans (Chg.of w5)).upd (by simp) _, by rw [upd_same, List.map_set], fun z => ?_, ?_⟩
  ·rcases List.mem_or_eq_of_mem_set z with z | z
   ·exact nrs z
   ·exact n5r z.symm
  ·have hR5 := (rows_same hR w5).set (B[i]).toNat (p := p5) (row := blkRow ws B.length i) upd_same
   rw [map_set, rowB_step hi' G.nd h0] at hR5
   refine hR5.chg (S := [rp]) ((Chg.of (Same.refl _) (S := [rp])).upd (by simp) _) fun r hr => ?_
   simp only [List.mem_singleton]
   intro e
   rcases List.mem_or_eq_of_mem_set hr with z | z
   ·exact nrs (by rw [← e]; exact z)
   ·exact n5r (by rw [← e]; exact z.symm)
 rintro σ' H4 ⟨rs4, o8, rfl, c4, hrp4, nrs4, hR4⟩
 rw [List.length_map, show ((B.length : Nat) : Int).toNat = B.length by omega] at hR4
 clear hrp3 hR3 hrl
 generalize hTL : tSeq (tAsg (tOp rCat (tSl _ (tVar 2) tNoPart _) _) _) _ = TL
 have tail : ∀ (rs5 : List Addr) (H5 : Hp), Chg [rp] H3 H5 → H5 rp = some (.lst (rs5.map V.ref)) → rp ∉ rs5 → RowsAt H5 rs5 ((List.range m.toNat).map (rowF ws B fr)) → TL { nx := fun _ H' => Q .non H', rt := Q } [some (.ref y), some (.ref wl), some (.ref bl), some (.int fr), some (.int n), some (.int kind), some (.ref rp), some (.ref l3), o8, none, none, none, none] H5 := by
  clear hR4 nrs4 hrp4 c4 rs4
  intro rs H5 c5 hrp5 nrs hR
  rw [← hTL]
  have off : ∀ {u : Addr} {o : HO}, H3 u = some o → u ≠ rp → H5 u = some o := fun e n => c5 _ _ e (by simpa using n)
  have hb5 := off hb3 nbr
  have hw5 := off hw3 nwr
  have hy5 := off (s3 _ _ hy) (fun z => by rw [z, nrp] at hy; cases hy)
  have hl4 : (B.take 4).length ≤ 4 := by rw [List.length_take]; omega
  refine ⟨_, rfl, _, rfl, bl, _, rfl, SqL.of hb5, fun x1 k1 => ?_⟩
  have ecut : cutV (B.map V.int) none (some (4 : Int)) = (B.take 4).map V.int := by rw [show (4 : Int) = ((4 : Nat) : Int) from rfl, cut_to, List.map_take]
  rw [ecut]
  have u1 := same_new k1 (.lst ((B.take 4).map V.int))
  refine ⟨(by show 1 ≤ sizeLine; decide), fun x2 k2 => ?_⟩
  have u2' := same_new k2 (.lst [.int 0])
  have u2 := u1.trans u2'
  refine ⟨_, rfl, _, rfl, bl, _, rfl, SqL.of (u2 _ _ hb5), fun x3 k3 => ?_⟩
  rw [ecut]
  have u3' := same_new k3 (.lst ((B.take 4).map V.int))
  refine ⟨x3, _, rfl, .inl (SqL.of upd_same), _, _, rfl, rfl, ?_⟩
  dsimp (config := { proj := false, iota := false, eta := false, zeta := false }) only
  rw [show (4 : Int) - ((((B.take 4).map V.int).length : Nat) : Int) = ((4 - (B.take 4).length : Nat) : Int) by rw [List.length_map]; omega]
  refine ⟨x2, _, [.int 0], rfl, rfl, u3' _ _ upd_same, by omega, by omega, (by show 1 * ((4 - (B.take 4).length : Nat) : Int).toNat ≤ sizeLine; exact small (n := 1 * ((4 - (B.take 4).length : Nat) : Int).toNat) (by omega)), fun x4 k4 => ?_⟩
  rw [Int.toNat_natCast, flat_1]
  have u4' := same_new k4 (.lst ((List.replicate (4 - (B.take 4).length) (0 : Int)).map V.int))
  have u24 := u2'.trans (u3'.trans u4')
  refine ⟨x1, x4, _, _, rfl, rfl, u24 _ _ upd_same, upd_same, small (by simp; omega), fun x5 k5 => ?_⟩
  rw [← List.map_append]
  have u5 := (u1.trans u24).trans (same_new k5 (.lst ((nearL B).map V.int)))
  have hx5 := upd_same (H := upd (upd (upd (upd H5 x1 (.lst ((B.take 4).map V.int))) x2 (.lst [.int 0])) x3 (.lst ((B.take 4).map V.int))) x4 (.lst ((List.replicate (4 - (B.take 4).length) (0 : Int)).map V.int))) (a := x5) (o := .lst ((nearL B).map V.int))
  show tSeq _ _ _ _ (upd (upd (upd (upd (upd H5 x1 (.lst ((B.take 4).map V.int))) x2 (.lst [.int 0])) x3 (.lst ((B.take 4).map V.int))) x4 (.lst ((List.replicate (4 - (B.take 4).length) (0 : Int)).map V.int))) x5 (.lst ((nearL B).map V.int)))
  generalize upd (upd (upd (upd (upd H5 x1 (.lst ((B.take 4).map V.int))) x2 (.lst [.int 0])) x3 (.lst ((B.take 4).map V.int))) x4 (.lst ((List.replicate (4 - (B.take 4).length) (0 : Int)).map V.int))) x5 (.lst ((nearL B).map V.int)) = H6 at u5 hx5 ⊢
  clear u24 u4' u3' u2 u2' u1 k1 k2 k3 k4 k5
  have hln : (nearL B).length = 4 := by unfold nearL; rw [List.length_append, List.length_replicate]; omega
  have nx5 : x5 ≠ rp := fun z => by rw [z, u5 _ _ hrp5] at hx5; cases rs with
   | nil => have := congrArg (fun o => match o with | some (HO.lst xs) => xs.length | _ => 0) hx5; simp [hln] at this
   | cons r rs => have := congrArg (fun o => match o with | some (HO.lst (V.ref _ :: _)) => true | _ => false) hx5; unfold nearL at this; cases B with
    | nil => simp at this
    | cons => simp at this
  refine ⟨_, rfl, y, a.cLayout, yx, _, _, rfl, u5 _ _ hy5, T.clLayout, T.n_nodes_at, rfl, _, rfl, _, _, rfl, rfl, ⟨by decide, by decide⟩, _, _, rfl, rfl, ?_⟩
  dsimp (config := { proj := false, iota := false, eta := false, zeta := false }) only
  have hnA := nAt_lt g hn
  rw [show nodesAt m + (n : Int) / 2 = (nAt m n : Int) by unfold nAt; unfold nodesAt; omega]
  refine ⟨_, rfl, _, rfl, wl, _, rfl, .inl (SqL.of (u5 _ _ hw5)), (by show 3 ≤ sizeLine; decide), fun z1 k1 => ?_⟩
  rw [List.length_map]
  have v1 := same_new k1 (.lst ([kind, 1, (ws.length : Int)].map V.int))
  refine ⟨_, rfl, z1, x5, _, _, rfl, rfl, upd_same, v1 _ _ hx5, small (by rw [List.length_map, hln]; show 3 + 4 ≤ 1000; decide), fun z2 k2 => ?_⟩
  have v2' := same_new k2 (.lst (([kind, 1, (ws.length : Int)] ++ nearL B).map V.int))
  rw [show [V.int kind, V.int 1, V.int (ws.length : Int)] ++ (nearL B).map V.int = ([kind, 1, (ws.length : Int)] ++ nearL B).map V.int by rw [List.map_append]; rfl]
  refine ⟨_, rfl, (by show 1 ≤ sizeLine; decide), fun z3 k3 => ?_⟩
  have v3' := same_new k3 (.lst [.int fr])
  refine ⟨z2, z3, _, _, rfl, rfl, v3' _ _ upd_same, upd_same, small (by rw [List.length_map, List.length_append, hln]; show 3 + 4 + 1 ≤ 1000; decide), fun z4 k4 => ?_⟩
  rw [show ([kind, 1, (ws.length : Int)] ++ nearL B).map V.int ++ [V.int fr] = (eightL kind ws.length B fr).map V.int by unfold eightL; simp]
  have v4 : Same H6 (upd (upd (upd (upd H6 z1 (.lst ([kind, 1, (ws.length : Int)].map V.int))) z2 (.lst (([kind, 1, (ws.length : Int)] ++ nearL B).map V.int))) z3 (.lst [.int fr])) z4 (.lst ((eightL kind ws.length B fr).map V.int))) := (v1.trans (v2'.trans v3')).trans (same_new k4 (.lst ((eightL kind ws.length B fr).map V.int)))
  have hz4 := upd_same (H := upd (upd (upd H6 z1 (.lst ([kind, 1, (ws.length : Int)].map V.int))) z2 (.lst (([kind, 1, (ws.length : Int)] ++ nearL B).map V.int))) z3 (.lst [.int fr])) (a := z4) (o := .lst ((eightL kind ws.length B fr).map V.int))
  show tSeq _ _ _ _ (upd (upd (upd (upd H6 z1 (.lst ([kind, 1, (ws.length : Int)].map V.int))) z2 (.lst (([kind, 1, (ws.length : Int)] ++ nearL B).map V.int))) z3 (.lst [.int fr])) z4 (.lst ((eightL kind ws.length B fr).map V.int)))
  generalize upd (upd (upd (upd H6 z1 (.lst ([kind, 1, (ws.length : Int)].map V.int))) z2 (.lst (([kind, 1, (ws.length : Int)] ++ nearL B).map V.int))) z3 (.lst [.int fr])) z4 (.lst ((eightL kind ws.length B fr).map V.int)) = H7 at v4 hz4 ⊢
  clear v1 v2' v3' k1 k2 k3 k4
  have l8 : (eightL kind ws.length B fr).length = 8 := by unfold eightL; rw [List.length_append, List.length_append, hln]; rfl
  refine ⟨_, rfl, _, _, rfl, rfl, (by show (0 : Int) < 2; decide), _, _, rfl, rfl, .inl ⟨by decide, by decide⟩, ?_⟩
  dsimp (config := { proj := false, iota := false, eta := false, zeta := false }) only
  obtain ⟨sd, esd, hsd⟩ : ∃ sd : Nat, 8 * (n % 2) = sd ∧ sd + 8 ≤ 16 := ⟨_, rfl, by omega⟩
  rw [show (8 : Int) * ((n : Int) % 2) = (sd : Int) by omega]
  have u7 := u5.trans v4
  have hrp7 := u7 _ _ hrp5
  have hR7 := rows_same hR u7
  have hrl' : rs.length = m.toNat := by rw [hR.1]; simp
  have hnm : nAt m n < rs.length := by omega
  have hat : atI (rs.map V.ref) (nAt m n : Int) = some (.ref rs[nAt m n]) := atI_nat (by rw [List.getElem?_map, List.getElem?_eq_getElem hnm]; rfl)
  have hzr : rowF ws B fr (nAt m n) = zeros := by
   unfold rowF rowB
   rw [List.take_length, if_neg (fun z => by have := G.far z.1; omega), if_neg (fun z => by have := G.inn _ z; omega)]
  have hr7 : H7 rs[nAt m n] = some (.lst (zeros.map V.int)) := by
   rw [← hzr]
   exact hR7.2 (nAt m n) _ _ (List.getElem?_eq_getElem hnm) (map_at _ _ _ (by omega))
  have hlz : zeros.length = 16 := by unfold zeros; simp
  refine ⟨_, rfl, _, rfl, rp, _, _, _, rfl, rfl, SqL.of hrp7, hat, _, rfl, _, rfl, rs[nAt m n], _, rfl, SqL.of hr7, fun c1 k1 => ?_⟩
  rw [cut_to, ← List.map_take]
  have v1 := same_new k1 (.lst ((zeros.take sd).map V.int))
  refine ⟨_, rfl, c1, z4, _, _, rfl, rfl, upd_same, v1 _ _ hz4, small (by rw [List.length_map, List.length_map, List.length_take, l8]; omega), fun c2 k2 => ?_⟩
  rw [← List.map_append]
  have v2' := same_new k2 (.lst ((zeros.take sd ++ eightL kind ws.length B fr).map V.int))
  have v2 := v1.trans v2'
  refine ⟨_, rfl, _, rfl, rp, _, _, _, rfl, rfl, SqL.of (v2 _ _ hrp7), hat, _, rfl, _, _, rfl, rfl, _, rfl, rs[nAt m n], _, rfl, SqL.of (v2 _ _ hr7), fun c3 k3 => ?_⟩
  dsimp (config := { proj := false, iota := false, eta := false, zeta := false }) only
  rw [show (sd : Int) + 8 = ((sd + 8 : Nat) : Int) by omega, cut_from, ← List.map_drop]
  have v3' := same_new k3 (.lst ((zeros.drop (sd + 8)).map V.int))
  refine ⟨c2, c3, _, _, rfl, rfl, v3' _ _ upd_same, upd_same, small (by rw [List.length_map, List.length_map, List.length_append, List.length_take, List.length_drop, l8]; omega), fun c4 k4 => ?_⟩
  rw [← List.map_append, ← esd]
  have v4 := (v2.trans v3').trans (same_new k4 (.lst ((nodeRow n kind ws.length B fr).map V.int)))
  have hix : ixN (rs.map V.ref).length (nAt m n : Int) = some (nAt m n) := by
   unfold ixN
   rw [if_pos (by omega), if_pos (by rw [List.length_map]; omega), Int.toNat_natCast]
  have n4r : c4 ≠ rp := Ne.symm (ne_of_none ((v2.trans v3') _ _ hrp7) k4)
  have hc4 : (upd (upd (upd (upd H7 c1 (.lst ((zeros.take sd).map V.int))) c2 (.lst ((zeros.take sd ++ eightL kind ws.length B fr).map V.int))) c3 (.lst ((zeros.drop (sd + 8)).map V.int))) c4 (.lst ((nodeRow n kind ws.length B fr).map V.int))) c4 = _ := upd_same
  rw [← esd] at hc4 v4
  refine ⟨_, rfl, _, rfl, rp, _, _, _, rfl, rfl, v4 _ _ hrp7, hix, ?_⟩
  refine ⟨_, rfl, q rp (rs.set (nAt m n) c4) _ nrp (chg_same' s3 ((c5.trans (Chg.of (u7.trans v4))).upd (by simp) _) (by simp [nrp])) (by rw [upd_same, List.map_set]) ?_⟩
  have hR8 := (rows_same hR7 v4).set (nAt m n) (p := c4) (row := nodeRow n kind ws.length B fr) hc4
  rw [map_set] at hR8
  refine RowsAt.chg (S := [rp]) hR8 ((Chg.of (Same.refl _) (S := [rp])).upd (by simp) _) fun r hr => ?_
  simp only [List.mem_singleton]
  intro e
  rcases List.mem_or_eq_of_mem_set hr with z | z
  ·exact nrs (by rw [← e]; exact z)
  ·exact n4r (by rw [← e]; exact z.symm)
 refine ⟨_, rfl, _, _, rfl, rfl, _, rfl, ?_⟩
 by_cases h4 : 4 < B.length
 ·obtain ⟨f1, f2, f3⟩ := G.far h4
  have off : ∀ {u : Addr} {o : HO}, H3 u = some o → u ≠ rp → H4 u = some o := fun e n => c4 _ _ e (by simpa using n)
  have hb4 := off hb3 nbr
  refine iteT' (decide_eq_true (by show (0 : Int) < fr; omega)) ?_
  refine ⟨_, rfl, _, rfl, bl, _, rfl, SqL.of hb4, fun x1 k1 => ?_⟩
  rw [show cutV (B.map V.int) (some (4 : Int)) none = (B.drop 4).map V.int by rw [show (4 : Int) = ((4 : Nat) : Int) from rfl, cut_from, List.map_drop]]
  have u1 := same_new k1 (.lst ((B.drop 4).map V.int))
  refine ⟨(by show 1 ≤ sizeLine; decide), fun x2 k2 => ?_⟩
  have u2 := u1.trans (same_new k2 (.lst [.int 0]))
  refine ⟨_, rfl, bl, _, rfl, .inl (SqL.of (u2 _ _ hb4)), _, _, rfl, rfl, ?_⟩
  dsimp (config := { proj := false, iota := false, eta := false, zeta := false }) only
  rw [show (20 : Int) - (((B.map V.int).length : Nat) : Int) = ((20 - B.length : Nat) : Int) by rw [List.length_map]; omega]
  refine ⟨x2, _, [.int 0], rfl, rfl, upd_same, by omega, by omega, (by show 1 * ((20 - B.length : Nat) : Int).toNat ≤ sizeLine; exact small (n := 1 * ((20 - B.length : Nat) : Int).toNat) (by omega)), fun x3 k3 => ?_⟩
  rw [Int.toNat_natCast, flat_1]
  have u23 := (same_new k2 (.lst [.int 0])).trans (same_new k3 (.lst ((List.replicate (20 - B.length) (0 : Int)).map V.int)))
  have u3 := u1.trans u23
  refine ⟨x1, x3, _, _, rfl, rfl, u23 _ _ upd_same, upd_same, small (by simp; omega), fun x4 k4 => ?_⟩
  rw [← List.map_append]
  have u4 := u3.trans (same_new k4 (.lst ((farRow B).map V.int)))
  have hx4 := upd_same (H := upd (upd (upd H4 x1 (.lst ((B.drop 4).map V.int))) x2 (.lst [.int 0])) x3 (.lst ((List.replicate (20 - B.length) (0 : Int)).map V.int))) (a := x4) (o := .lst ((farRow B).map V.int))
  have hrl' : rs4.length = m.toNat := by rw [hR4.1]; simp
  have hix : ixN (rs4.map V.ref).length fr = some fr.toNat := by
   unfold ixN
   rw [if_pos (by omega), if_pos (by rw [List.length_map, hrl']; omega)]
  refine ⟨_, rfl, _, rfl, rp, _, _, _, rfl, rfl, u4 _ _ hrp4, hix, ?_⟩
  have n4r : x4 ≠ rp := Ne.symm (ne_of_none (u3 _ _ hrp4) k4)
  refine tail (rs4.set fr.toNat x4) _ ((c4.trans (Chg.of u4)).upd (by simp) _) (by rw [upd_same, List.map_set]) (fun z => ?_) ?_
  ·rcases List.mem_or_eq_of_mem_set z with z | z
   ·exact nrs4 z
   ·exact n4r z.symm
  ·have hR5 := (rows_same hR4 u4).set fr.toNat (p := x4) (row := farRow B) hx4
   rw [map_set] at hR5
   have ef : (fun i => if i = fr.toNat then farRow B else rowB ws B B.length i) = rowF ws B fr := by
    funext i
    unfold rowF
    by_cases e : i = fr.toNat
    ·rw [if_pos e, if_pos ⟨h4, by omega⟩]
    ·rw [if_neg e, if_neg (fun z => e (by omega))]
   rw [ef] at hR5
   refine hR5.chg (S := [rp]) ((Chg.of (Same.refl _) (S := [rp])).upd (by simp) _) fun r hr => ?_
   simp only [List.mem_singleton]
   intro e
   rcases List.mem_or_eq_of_mem_set hr with z | z
   ·exact nrs4 (by rw [← e]; exact z)
   ·exact n4r (by rw [← e]; exact z.symm)
 ·have f0 := G.near (by omega)
  refine iteF' (decide_eq_false (by show ¬ (0 : Int) < fr; omega)) ?_
  refine tail rs4 _ c4 hrp4 nrs4 ?_
  have ef : rowB ws B B.length = rowF ws B fr := by
   funext i
   unfold rowF
   rw [if_neg (fun z => h4 z.1)]
  rw [← ef]; exact hR4
end
end K11
end
section
set_option Elab.async false
set_option linter.all false
set_option maxRecDepth 100000
set_option maxHeartbeats 4000000
namespace K11
open PySem L2 BK
section
variable {P : Program} {w : World} {K : PySem.W.Frag} {mg : Str → Option Value} {base : Heap} {f : Addr} {fd : FuncData} {a : Ad}
def Is2 (K : PySem.W.Frag) (a : Ad) (C : Addr) (j : Nat) : Prop := ExcK K C ∧ PySem.W.kitOne K (.ref C) (.ref a.cOutOfPlace) = some (decide (j = 0)) ∧ PySem.W.kitOne K (.ref C) (.ref a.cBadRow) = some (decide (j = 1)) ∧ PySem.W.kitOne K (.ref C) (.ref a.cNoBlock) = some false ∧ PySem.W.kitOne K (.ref C) (.ref a.cNoNode) = some false ∧ PySem.W.kitOne K (.ref C) (.ref a.cTooLong) = some false ∧ PySem.W.kitOne K (.ref C) (.type "ValueError") = some true ∧ j < 2
theorem is_place (T : Txt K mg a) : Is2 K a a.cOutOfPlace 0 := ⟨T.eOutOfPlace, T.qOutOfPlace_OutOfPlace, T.qOutOfPlace_BadRow, T.qOutOfPlace_NoBlock, T.qOutOfPlace_NoNode, T.qOutOfPlace_TooLong, T.qOutOfPlace_ValueError, by decide⟩
theorem is_row (T : Txt K mg a) : Is2 K a a.cBadRow 1 := ⟨T.eBadRow, T.qBadRow_OutOfPlace, T.qBadRow_BadRow, T.qBadRow_NoBlock, T.qBadRow_NoNode, T.qBadRow_TooLong, T.qBadRow_ValueError, by decide⟩
def kword (j : Nat) : Str := if j = 0 then "place" else "row"
def spRefused (K : PySem.W.Frag) (a : Ad) : Sp := fun vs H Q _ => ∃ (b d kr nr y : Addr) (S : DS) (ks : List Int) (ρ : Int → List Int) (m t : Int) (n sz : Nat) (B : List Int) (fr bg : Int) (v : V) (j : Nat), vs = [.ref b, .ref y, .int n, .int bg, v] ∧ Mp a H b d kr nr y S ks ρ m t ∧ Span S.R ks ρ m t n sz B fr ∧ (∀ x ∈ B, 0 ≤ x ∧ x < m) ∧ Kd K H v ∧
 ((∃ c : Int, v = .int c ∧ (bg < 0 ∨ c < 0 ∨ (sz : Int) < bg + c) ∧ j = 0) ∨ (isI v = false ∧ ∃ (ok : Bool) (k : Nat), WdsA K H v ok k ∧ (((bg < 0 ∨ (sz : Int) < bg + k) ∧ j = 0) ∨ (0 ≤ bg ∧ bg + k ≤ (sz : Int) ∧ ok = false ∧ j = 1)))) ∧ ∀ H', Same H H' → Q (.str (kword j)) H'
theorem ok__law_refused (F : Fun K "_law_refused" "_law_refused" s__law_refused f fd) (T : Txt K mg a) (D_words_of : Df P w K mg base (CXE P w) 7 "words_of" ["batch", "layout", "node", "begin", "count"] (spWordsOf K a)) (D_put_words : Df P w K mg base (CXE P w) 7 "put_words" ["batch", "layout", "node", "begin", "words"] (spPutWords K a)) : FnOk P w K mg base (CXE P w) 8 f fd ["_law_batch", "_law_layout", "_law_node", "_law_begin", "_law_thing"] (spRefused K a) := by
 obtain ⟨_, _, Gwords_of, bwords_of, kwords_of, mwords_of⟩ := D_words_of
 obtain ⟨_, _, Gput_words, bput_words, kput_words, mput_words⟩ := D_put_words
 have nd := sc__law_refused.nd
 refine F.okE sc__law_refused (fun vs H Q E h => ?_) (fun cdv A outer s H vs Q E hr hA h => ?_)
 ·obtain ⟨b, d, kr, nr, y, S, ks, ρ, m, t, n, sz, B, fr, bg, v, j, rfl, _⟩ := h
  rfl
 obtain ⟨b, d, kr, nr, y, S, ks, ρ, m, t, n, sz, B, fr, bg, v, j, rfl, X, G, hB, kd, hq, q⟩ := h
 refine ⟨_, (pss_cons (ps_try (i := 5) [] rfl rfl rfl rfl nd rfl rfl rfl T.mKeepError T.kKeepError (fun Ex pn fx xe hfx O => (pss_one (ps_if (PW.pt (pw_and (pt_val (pe_callB (call_isinstK (K := K) (T := "int") rfl) rfl T.isinstance bt_isinstance (pa_cons (pv 4) (pa_cons (pe_bltn (v := .ty "int") rfl T.int bt_int rfl) pa_nil)))) (pw_and1 (pt_not (pt_val (pe_callB (call_isinstK (K := K) (T := "bool") rfl) rfl T.isinstance bt_isinstance (pa_cons (pv 4) (pa_cons (pe_bltn (v := .ty "bool") rfl T.bool bt_bool rfl) pa_nil)))))))) (pss_one (ps_expr (pe_call Gwords_of (hr.mono (by decide)) rfl mwords_of kwords_of bwords_of .nil (passes_out O rfl rfl) (pa_cons (pv 0) (pa_cons (pv 1) (pa_cons (pv 2) (pa_cons (pv 3) (pa_cons (pv 4) pa_nil))))) (hcm := (.inr hA))))) (pss_one (ps_expr (pe_call Gput_words (hr.mono (by decide)) rfl mput_words kput_words bput_words .nil (passes_out O rfl rfl) (pa_cons (pv 0) (pa_cons (pv 1) (pa_cons (pv 2) (pa_cons (pv 3) (pa_cons (pv 4) pa_nil))))) (hcm := (.inr hA)))))))) (fun e c pn => (pss_cons (ps_set (i := 6) nd rfl (by first | exact Or.inl rfl | exact Or.inr rfl) (pe_lst (pa_cons (pe_callB (call_isinstCK (K := K) (C := a.cOutOfPlace) rfl) rfl T.isinstance bt_isinstance (pa_cons (pv 5) (pa_cons (pe_glob (v := .ref a.cOutOfPlace) rfl T.mOutOfPlace rfl) pa_nil))) (pa_cons (pe_callB (call_isinstCK (K := K) (C := a.cBadRow) rfl) rfl T.isinstance bt_isinstance (pa_cons (pv 5) (pa_cons (pe_glob (v := .ref a.cBadRow) rfl T.mBadRow rfl) pa_nil))) pa_nil))))
  (pss_cons (ps_set (i := 6) nd rfl (by first | exact Or.inl rfl | exact Or.inr rfl) (pe_op op_cat (pv 6) (pe_lst (pa_cons (pe_callB (call_isinstCK (K := K) (C := a.cNoBlock) rfl) rfl T.isinstance bt_isinstance (pa_cons (pv 5) (pa_cons (pe_glob (v := .ref a.cNoBlock) rfl T.mNoBlock rfl) pa_nil))) (pa_cons (pe_callB (call_isinstCK (K := K) (C := a.cNoNode) rfl) rfl T.isinstance bt_isinstance (pa_cons (pv 5) (pa_cons (pe_glob (v := .ref a.cNoNode) rfl T.mNoNode rfl) pa_nil))) pa_nil)))))
  (pss_cons (ps_if (PW.pt (pw_and (pt_val (pe_callB (call_isinstK (K := K) (T := "ValueError") rfl) rfl T.isinstance bt_isinstance (pa_cons (pv 5) (pa_cons (pe_bltn (v := .ty "ValueError") rfl T.ValueError bt_ValueError rfl) pa_nil)))) (pw_and (pt_cmpR op_eq (pe_bmK (K := K) rfl PySem.F.plainAttrs_list PySem.F.slot_list_count PySem.F.type_list_count mt_count (pv 6) (pa_cons pe_bl pa_nil)) pe_int (nomark _)) (pw_and1 (pt_not (pt_val (pe_callB (call_isinstCK (K := K) (C := a.cTooLong) rfl) rfl T.isinstance bt_isinstance (pa_cons (pv 5) (pa_cons (pe_glob (v := .ref a.cTooLong) rfl T.mTooLong rfl) pa_nil))))))))) (pss_one (ps_ret (pe_ix (ix_listK (K := K) rfl) (pe_lst (pa_cons pe_str (pa_cons pe_str (pa_cons pe_str (pa_cons pe_str pa_nil))))) (pe_bmK (K := K) rfl PySem.F.plainAttrs_list PySem.F.slot_list_index PySem.F.type_list_index mt_index (pv 6) (pa_cons pe_bl pa_nil)) (fun _ _ => rfl)))) pss_nil)
  (pss_one (ps_ret pe_str)))))))
  (pss_one (ps_ret pe_str))), ?_⟩
 generalize hTL : tSeq (tAsg (tLst _) (gName 6)) _ = TL
 have fin : ∀ (C : Addr) (H1 : Hp) (e : Addr) (D' : Ends), Is2 K a C j → Same H H1 → H1 e = none → (∀ v' H', Same H H' → v' = .str (kword j) → D'.rt v' H') → TL D' [some (.ref b), some (.ref y), some (.int n), some (.int bg), some v, some (.ref e), none] (upd H1 e (.exc (.ref C))) := by
  rintro C H1 e D' ⟨eC, k0, k1, k2, k3, k4, kV, hj⟩ s1 ne qq
  rw [← hTL]
  have he := upd_same (H := H1) (a := e) (o := .exc (.ref C))
  have s2 : Same H (upd H1 e (.exc (.ref C))) := s1.trans (same_new ne (.exc (.ref C)))
  generalize upd H1 e (.exc (.ref C)) = H2 at he s2 ⊢
  have ty : TyOf K H2 (.ref e) (.ref C) := .exc he eC
  refine ⟨_, rfl, _, .ref C, _, rfl, ty, k0, _, rfl, _, .ref C, _, rfl, ty, k1, (by show 2 ≤ sizeLine; decide), fun p np => ?_⟩
  have s3 := same_new np (.lst [.bl (decide (j = 0)), .bl (decide (j = 1))])
  have hp := upd_same (H := H2) (a := p) (o := .lst [.bl (decide (j = 0)), .bl (decide (j = 1))])
  have ty3 := tyof_same s3 ty
  generalize upd H2 p (.lst [.bl (decide (j = 0)), .bl (decide (j = 1))]) = H3 at s3 hp ty3 ⊢
  refine ⟨_, rfl, _, rfl, _, .ref C, _, rfl, ty3, k2, _, rfl, _, .ref C, _, rfl, ty3, k3, (by show 2 ≤ sizeLine; decide), fun p4 np4 => ?_⟩
  have s4 := same_new np4 (.lst [.bl false, .bl false])
  refine ⟨p, p4, _, _, rfl, rfl, s4 _ _ hp, upd_same, (by show 2 + 2 ≤ sizeLine; decide), fun p5 np5 => ?_⟩
  have s5 := s4.trans (same_new np5 (.lst ([.bl (decide (j = 0)), .bl (decide (j = 1))] ++ [.bl false, .bl false])))
  have hp5 : (upd (upd H3 p4 (.lst [.bl false, .bl false])) p5 (.lst ([.bl (decide (j = 0)), .bl (decide (j = 1))] ++ [.bl false, .bl false]))) p5 = some (.lst [.bl (decide (j = 0)), .bl (decide (j = 1)), .bl false, .bl false]) := upd_same
  have ty5 := tyof_same s5 ty3
  have s25 := s3.trans s5
  show tSeq _ _ _ _ (upd (upd H3 p4 (.lst [.bl false, .bl false])) p5 (.lst ([.bl (decide (j = 0)), .bl (decide (j = 1))] ++ [.bl false, .bl false])))
  generalize upd (upd H3 p4 (.lst [.bl false, .bl false])) p5 (.lst ([.bl (decide (j = 0)), .bl (decide (j = 1))] ++ [.bl false, .bl false])) = H5 at s5 hp5 ty5 s25 ⊢
  refine ⟨_, rfl, _, .ref C, true, rfl, ty5, kV, _, rfl, iteT' (by rfl) ?_⟩
  refine ⟨_, rfl, .inl ⟨rfl, _, SqL.of hp5⟩, p5, _, _, rfl, rfl, hp5, rfl, rfl, rfl, _, rfl, iteT' (by rcases (show j = 0 ∨ j = 1 by omega) with z | z <;> (subst z; rfl)) ?_⟩
  refine ⟨_, rfl, _, .ref C, false, rfl, ty5, k4, _, rfl, iteT' (by rfl) ?_⟩
  refine ⟨(by show 4 ≤ sizeLine; decide), fun p6 np6 => ?_⟩
  have w6 := same_new np6 (.lst [.str "place", .str "row", .str "block", .str "node"])
  refine ⟨_, rfl, .inl ⟨rfl, _, SqL.of (w6 _ _ hp5)⟩, p5, _, _, j, rfl, rfl, w6 _ _ hp5, rfl, rfl, ?_, ?_, p6, _, _, .str (kword j), rfl, rfl, SqL.of upd_same, ?_, qq _ _ ((s2.trans s25).trans w6) rfl⟩
  ·rcases (show j = 0 ∨ j = 1 by omega) with z | z <;> (subst z; exact ⟨_, rfl, rfl⟩)
  ·rcases (show j = 0 ∨ j = 1 by omega) with z | z <;> subst z
   ·intro i u hi; omega
   ·intro i u hi hu
    have : i = 0 := by omega
    subst this
    cases hu; rfl
  ·rcases (show j = 0 ∨ j = 1 by omega) with z | z <;> (subst z; rfl)
 have go : ∀ v' H', Same H H' → v' = V.str (kword j) → Q v' H' := fun v' H' s' e' => by rw [e']; exact q H' s'
 obtain ⟨t0, ty, e1, e2, e3⟩ := id kd
 rcases hq with ⟨c, rfl, hb, rfl⟩ | ⟨hv, ok, k, wA, hq⟩
 ·refine ⟨_, rfl, _, t0, _, rfl, ty, e1, _, rfl, iteT' (by rfl) ⟨_, rfl, _, t0, _, rfl, ty, e2, _, rfl, iteT' (by rfl) ?_⟩⟩
  exact ⟨_, rfl, _, rfl, _, rfl, _, rfl, _, rfl, ex16 b d kr nr y S ks ρ m t n sz B fr bg c ⟨rfl, X, G, hB, .inl ⟨hb, fun H1 s1 => ⟨⟨_, rfl, T.sOutOfPlace_KeepError⟩, fun e ne => fin _ _ _ _ (is_place T) s1 ne go⟩⟩⟩⟩
 ·refine ⟨_, rfl, _, t0, _, rfl, ty, e1, _, rfl, iteF' hv (iteF' (by rfl) ?_)⟩
  refine ⟨_, rfl, _, rfl, _, rfl, _, rfl, _, rfl, ex18 b d kr nr y S ks ρ m t n sz B fr bg v ok k ⟨rfl, X, G, wA, ?_⟩⟩
  rcases hq with ⟨h1, rfl⟩ | ⟨h0, h1, h2, rfl⟩
  ·exact .inl ⟨h1, fun H1 s1 => ⟨⟨_, rfl, T.sOutOfPlace_KeepError⟩, fun e ne => fin _ _ _ _ (is_place T) s1 ne go⟩⟩
  ·exact .inr (.inl ⟨h0, h1, h2, fun H1 s1 => ⟨⟨_, rfl, T.sBadRow_KeepError⟩, fun e ne => fin _ _ _ _ (is_row T) s1 ne go⟩⟩)
end
end K11
end
section
set_option Elab.async false
set_option linter.all false
set_option maxRecDepth 100000
set_option maxHeartbeats 4000000
namespace K11
open PySem L2 BK
section
variable {P : Program} {w : World} {K : PySem.W.Frag} {mg : Str → Option Value} {base : Heap} {f : Addr} {fd : FuncData} {a : Ad}
structure Nd (a : Ad) (H : Hp) (b d kr nr y wl : Addr) (S : DS) (ks : List Int) (ρ : Int → List Int) (m t : Int) (n : Nat) (B : List Int) (fr : Int) (ws : List Int) : Prop where
 mp : Mp a H b d kr nr y S ks ρ m t
 sp : Span S.R ks ρ m t n ws.length B fr
 inn : ∀ z ∈ B, 17 ≤ z ∧ z < m
 nd : B.Nodup
 ld : Laid m t ws.length B fr
 hw : H wl = some (.lst (ws.map V.int))
 eq : wordsW S.R ks ρ B 0 ws.length = ws
 off : OffD H nr wl
 nro : NoRowAt H kr wl
 wk : wl ≠ kr
 sub : ∀ x ∈ ks, x ∈ B
 gw : GoodWs ws
 pad : ∀ i, ws.length ≤ i → i < 16 * B.length → wAt S.R ks ρ B i = 0
theorem Nd.same {H H' : Hp} {b d kr nr y wl : Addr} {S : DS} {ks : List Int} {ρ : Int → List Int} {m t : Int} {n : Nat} {B : List Int} {fr : Int} {ws : List Int} (x : Nd a H b d kr nr y wl S ks ρ m t n B fr ws) (s : Same H H') : Nd a H' b d kr nr y wl S ks ρ m t n B fr ws := ⟨x.mp.same s, x.sp, x.inn, x.nd, x.ld, s _ _ x.hw, x.eq, x.off.same x.mp.bat.ho s, x.nro.chg x.mp.dk (Chg.of s (S := [])) (by simp), x.wk, x.sub, x.gw, x.pad⟩
theorem words_cut {R : List (List Int)} {ks : List Int} {ρ : Int → List Int} {B ws : List Int} {g k : Nat} (e : wordsW R ks ρ B 0 ws.length = ws) (h : g + k ≤ ws.length) : wordsW R ks ρ B g k = (ws.drop g).take k := by
 have e1 := e
 rw [show ws.length = g + (k + (ws.length - g - k)) by omega, ← wordsW_app, ← wordsW_app] at e1
 rw [← e1, Nat.zero_add, List.drop_append, List.drop_of_length_le (by rw [wordsW_len]; exact Nat.le_refl _), List.nil_append, wordsW_len, Nat.sub_self, List.drop_zero, List.take_append_of_le_length (by rw [wordsW_len]; exact Nat.le_refl _), List.take_of_length_le (by rw [wordsW_len]; exact Nat.le_refl _)]
def spTold (_ : PySem.W.Frag) (a : Ad) : Sp := fun vs H Q _ => ∃ (b d kr nr y wl : Addr) (S : DS) (ks : List Int) (ρ : Int → List Int) (m t : Int) (n : Nat) (B : List Int) (fr : Int) (ws : List Int) (c : Int), vs = [.ref b, .ref y, .int n, .ref wl, .int c] ∧ Nd a H b d kr nr y wl S ks ρ m t n B fr ws ∧ ∀ H', Same H H' → Q (.bl true) H'
theorem ok__law_told (F : Fun K "_law_told" "_law_told" s__law_told f fd) (T : Txt K mg a) (D__law_part : Df P w K mg base (CXE P w) 1 "_law_part" ["_law_size", "_law_cell"] (spPart K a)) (D_words_of : Df P w K mg base (CXE P w) 7 "words_of" ["batch", "layout", "node", "begin", "count"] (spWordsOf K a)) (D__law_numbers : Df P w K mg base (CXE P w) 2 "_law_numbers" ["_law_found", "_law_due"] (spNumbers K a)) (D__law_refused : Df P w K mg base (CXE P w) 8 "_law_refused" ["_law_batch", "_law_layout", "_law_node", "_law_begin", "_law_thing"] (spRefused K a)) : FnOk P w K mg base (CXE P w) 9 f fd ["_law_batch", "_law_layout", "_law_node", "_law_words", "_law_cell"] (spTold K a) := by
 obtain ⟨_, _, Gl_part, bl_part, kl_part, ml_part⟩ := D__law_part
 obtain ⟨_, _, Gwords_of, bwords_of, kwords_of, mwords_of⟩ := D_words_of
 obtain ⟨_, _, Gl_numbers, bl_numbers, kl_numbers, ml_numbers⟩ := D__law_numbers
 obtain ⟨_, _, Gl_refused, bl_refused, kl_refused, ml_refused⟩ := D__law_refused
 have nd := sc__law_told.nd
 refine F.okE sc__law_told (fun vs H Q E h => ?_) (fun cdv A outer s H vs Q E hr hA h => ?_)
 ·obtain ⟨b, d, kr, nr, y, wl, S, ks, ρ, m, t, n, B, fr, ws, c, rfl, _⟩ := h
  rfl
 obtain ⟨b, d, kr, nr, y, wl, S, ks, ρ, m, t, n, B, fr, ws, c, rfl, X, q⟩ := h
 have hB0 : ∀ x ∈ B, 0 ≤ x ∧ x < m := fun x hx => by have := X.inn x hx; omega
 have few := X.sp.few
 refine ⟨_, (pss_cons (ps_asg (pe_call Gl_part (hr.mono (by decide)) rfl ml_part kl_part bl_part .nil (passes_fn (fun _ _ _ h => h)) (pa_cons (pe_callB (call_lenK (K := K) rfl) rfl T.len bt_len (pa_cons (pv 3) pa_nil)) (pa_cons (pv 4) pa_nil)) (hcm := (.inr hA))) (pg_tup hA (pgs_cons (pg_name (i := 5) nd rfl (by first | exact Or.inl rfl | exact Or.inr rfl)) (pgs_cons (pg_name (i := 6) nd rfl (by first | exact Or.inl rfl | exact Or.inr rfl)) pgs_nil))))
  (pss_cons (ps_if (pt_not (pt_chain3 op_le op_le op_le pe_int (pv 5) (pe_op op_add (pv 5) (pv 6)) (pe_callB (call_lenK (K := K) rfl) rfl T.len bt_len (pa_cons (pv 3) pa_nil)))) (pss_one (ps_ret (pe_cmpR op_eq (pe_call Gl_refused (hr.mono (by decide)) rfl ml_refused kl_refused bl_refused .nil (passes_fn (fun _ _ _ h => h)) (pa_cons (pv 0) (pa_cons (pv 1) (pa_cons (pv 2) (pa_cons (pv 5) (pa_cons (pv 6) pa_nil))))) (hcm := (.inr hA))) pe_str (nomark _)))) pss_nil)
  (pss_cons (ps_set (i := 7) nd rfl (by first | exact Or.inl rfl | exact Or.inr rfl) (pe_call Gwords_of (hr.mono (by decide)) rfl mwords_of kwords_of bwords_of .nil (passes_fn (fun _ _ _ h => h)) (pa_cons (pv 0) (pa_cons (pv 1) (pa_cons (pv 2) (pa_cons (pv 5) (pa_cons (pv 6) pa_nil))))) (hcm := (.inr hA))))
  (pss_cons (ps_if (pt_not (pt_val (pe_call Gl_numbers (hr.mono (by decide)) rfl ml_numbers kl_numbers bl_numbers .nil (passes_fn (fun _ _ _ h => h)) (pa_cons (pv 7) (pa_cons (pe_slice (sl_listK (K := K) rfl) (pv 3) (po_some (pv 5)) (po_some (pe_op op_add (pv 5) (pv 6)))) pa_nil)) (hcm := (.inr hA))))) (pss_one (ps_ret pe_bl)) pss_nil)
  (pss_cons (ps_expr (pe_bmK (K := K) rfl PySem.F.plainAttrs_list PySem.F.slot_list_append PySem.F.type_list_append mt_append (pv 7) (pa_cons pe_int pa_nil)))
  (pss_one (ps_ret (pe_call Gl_numbers (hr.mono (by decide)) rfl ml_numbers kl_numbers bl_numbers .nil (passes_fn (fun _ _ _ h => h)) (pa_cons (pe_call Gwords_of (hr.mono (by decide)) rfl mwords_of kwords_of bwords_of .nil (passes_fn (fun _ _ _ h => h)) (pa_cons (pv 0) (pa_cons (pv 1) (pa_cons (pv 2) (pa_cons (pv 5) (pa_cons (pv 6) pa_nil))))) (hcm := (.inr hA))) (pa_cons (pe_slice (sl_listK (K := K) rfl) (pv 3) (po_some (pv 5)) (po_some (pe_op op_add (pv 5) (pv 6)))) pa_nil)) (hcm := (.inr hA)))))))))), ?_⟩
 refine ⟨_, rfl, wl, _, rfl, .inl (SqL.of X.hw), _, rfl, ws.length, c, (by rw [List.length_map]; rfl), few, fun bg ct tp H1 ntp s1 htp hct => ?_⟩
 refine ⟨_, _, rfl, SqT.of htp, rfl, _, _, rfl, _, _, rfl, rfl, ?_⟩
 have X1 := X.same s1
 generalize hTL : tRet (tOp rEq (tCall (spRefused K a) _ _ _) _) = TL
 have bad : (bg < 0 ∨ ct < 0 ∨ (ws.length : Int) < bg + ct) → ∀ D' : Ends, D'.rt = Q → TL D' [some (.ref b), some (.ref y), some (.int n), some (.ref wl), some (.int c), some (.int bg), some (.int ct), none] H1 := fun hb D' hD => by
  rw [← hTL]
  refine ⟨_, rfl, _, rfl, _, rfl, _, rfl, _, rfl, ex17 b d kr nr y S ks ρ m t n ws.length B fr bg (.int ct) 0 ⟨rfl, X1.mp, X1.sp, hB0, .int _, .inl ⟨ct, rfl, hb, rfl⟩, fun H2 s2 => ⟨rfl, ?_⟩⟩⟩
  rw [show decide (V.str (kword 0) = V.str "place") = true from decide_eq_true rfl]
  show D'.rt _ _
  rw [hD]
  exact q H2 (s1.trans s2)
 refine ⟨_, rfl, _, _, rfl, rfl, _, rfl, ?_⟩
 by_cases h0 : 0 ≤ bg
 case neg => exact iteF' (decide_eq_false h0) (iteT' (by rfl) (bad (by omega) _ rfl))
 refine iteT' (decide_eq_true h0) ⟨_, rfl, _, rfl, _, _, rfl, rfl, _, _, rfl, rfl, _, rfl, ?_⟩
 by_cases h1 : bg ≤ bg + ct
 case neg => exact iteF' (decide_eq_false h1) (iteT' (by rfl) (bad (by omega) _ rfl))
 refine iteT' (decide_eq_true h1) ⟨_, rfl, wl, _, rfl, .inl (SqL.of X1.hw), _, _, rfl, rfl, _, rfl, ?_⟩
 rw [List.length_map]
 by_cases h2 : bg + ct ≤ (ws.length : Int)
 case neg => exact iteT' (by rw [decide_eq_false h2]; rfl) (bad (by omega) _ rfl)
 refine iteF' (by rw [decide_eq_true h2]; rfl) ?_
 clear bad hTL
 obtain ⟨g, rfl⟩ : ∃ g : Nat, bg = g := ⟨bg.toNat, by omega⟩
 obtain ⟨k, rfl⟩ : ∃ k : Nat, ct = k := ⟨ct.toNat, by omega⟩
 have hgk : g + k ≤ ws.length := by omega
 refine ⟨_, rfl, _, rfl, _, rfl, _, rfl, _, rfl, ex16 b d kr nr y S ks ρ m t n ws.length B fr g k ⟨rfl, X1.mp, X1.sp, hB0, .inr ⟨g, k, rfl, rfl, hgk, fun p H2 np s2 hp => ?_⟩⟩⟩
 rw [words_cut X.eq hgk] at hp
 have X2 := X1.same s2
 have hlc : ((ws.drop g).take k).length = k := by rw [List.length_take, List.length_drop]; omega
 refine ⟨_, rfl, _, rfl, _, rfl, _, rfl, _, rfl, _, rfl, _, _, rfl, rfl, _, rfl, wl, _, rfl, SqL.of X2.hw, fun p3 n3 => ?_⟩
 dsimp (config := { proj := false, iota := false, eta := false, zeta := false }) only
 rw [show (g : Int) + (k : Int) = ((g + k : Nat) : Int) by omega, cut_mid _ _ _ (by rw [List.length_map]; omega), ← List.map_drop, ← List.map_take]
 have w3 := same_new n3 (.lst (((ws.drop g).take k).map V.int))
 refine ⟨p, p3, _, rfl, w3 _ _ hp, upd_same, by omega, fun H4 s4 => ⟨_, rfl, iteF' (by rfl) ?_⟩⟩
 have s24 := w3.trans s4
 have hp4 := s24 _ _ hp
 have s14 := s2.trans s24
 refine ⟨_, rfl, .inl ⟨rfl, _, SqL.of hp4⟩, p, _, _, rfl, rfl, hp4, small1000 (by rw [List.length_map, hlc]; omega), ?_⟩
 have s5 : Same H1 (upd H4 p (.lst (((ws.drop g).take k).map V.int ++ [.int 3]))) := chg_same' s14 ((Chg.of (Same.refl _) (S := [p])).upd (by simp) _) (by simp [np])
 generalize upd H4 p (.lst (((ws.drop g).take k).map V.int ++ [.int 3])) = H5 at s5 ⊢
 have X5 := X1.same s5
 refine ⟨_, rfl, _, rfl, _, rfl, _, rfl, _, rfl, ex16 b d kr nr y S ks ρ m t n ws.length B fr g k ⟨rfl, X5.mp, X5.sp, hB0, .inr ⟨g, k, rfl, rfl, hgk, fun p6 H6 np6 s6 hp6 => ?_⟩⟩⟩
 rw [words_cut X.eq hgk] at hp6
 have X6 := X5.same s6
 refine ⟨_, rfl, _, rfl, _, rfl, _, rfl, _, rfl, _, _, rfl, rfl, _, rfl, wl, _, rfl, SqL.of X6.hw, fun p7 n7 => ?_⟩
 dsimp (config := { proj := false, iota := false, eta := false, zeta := false }) only
 rw [show (g : Int) + (k : Int) = ((g + k : Nat) : Int) by omega, cut_mid _ _ _ (by rw [List.length_map]; omega), ← List.map_drop, ← List.map_take]
 have w7 := same_new n7 (.lst (((ws.drop g).take k).map V.int))
 exact ⟨p6, p7, _, rfl, w7 _ _ hp6, upd_same, by omega, fun H8 s8 => q H8 (s1.trans (s5.trans (s6.trans (w7.trans s8))))⟩
theorem nodup_le : ∀ (l B : List Int), l.Nodup → (∀ x ∈ l, x ∈ B) → l.length ≤ B.length
 | [], B, _, _ => by simp
 | x :: l, B, nd, h => by
  obtain ⟨h1, h2⟩ := List.nodup_cons.mp nd
  have hx := h x (List.mem_cons_self ..)
  have := nodup_le l (B.erase x) h2 fun y hy => (List.mem_erase_of_ne (fun e => h1 (by rw [← e]; exact hy))).mpr (h y (List.mem_cons_of_mem _ hy))
  rw [List.length_erase_of_mem hx] at this
  have hp : 0 < B.length := List.length_pos_of_mem hx
  rw [List.length_cons]; omega
theorem Nd.ks {H : Hp} {b d kr nr y wl : Addr} {S : DS} {ks : List Int} {ρ : Int → List Int} {m t : Int} {n : Nat} {B : List Int} {fr : Int} {ws : List Int} (x : Nd a H b d kr nr y wl S ks ρ m t n B fr ws) : ks.length ≤ 20 := by
 have h1 := nodup_le ks B x.mp.bat.ho.nd x.sub
 have h2 := x.sp.len
 have h3 := x.sp.few
 omega
theorem Mp.upd {H : Hp} {b d kr nr y : Addr} {S : DS} {ks : List Int} {ρ : Int → List Int} {m t : Int} (X : Mp a H b d kr nr y S ks ρ m t) {p : Addr} {xs : List V} (hp : H p = some (.lst xs)) (off : OffD H nr p) (nro : NoRowAt H kr p) (pk : p ≠ kr) (ys : List V) : Mp a (L2.upd H p (.lst ys)) b d kr nr y S ks ρ m t := by
 obtain ⟨bx, hb⟩ := X.bat.ex
 obtain ⟨kv, en⟩ := X.bat.ho.at
 obtain ⟨dx, hd⟩ := X.dk.at
 obtain ⟨yx, hy⟩ := X.lay
 have c : Chg [p] H (L2.upd H p (.lst ys)) := (Chg.of (Same.refl _) (S := [p])).upd (by simp) _
 exact ⟨X.bat.chg c (by simp only [List.mem_singleton]; exact ne_of hb hp (fun z => by cases z)) (by simp only [List.mem_singleton]; exact ne_of en hp (fun z => by cases z)) (fun u hu => by rw [List.mem_singleton.mp hu]; exact off), X.dk.offs c (by simp only [List.mem_singleton]; exact ne_of hd hp (fun z => by cases z)) (by simp only [List.mem_singleton]; exact Ne.symm pk) (fun u hu => by rw [List.mem_singleton.mp hu]; exact nro), X.lay.chg c (by simp only [List.mem_singleton]; exact ne_of hy hp (fun z => by cases z)), X.good, X.len, X.few⟩
def spPut (_ : PySem.W.Frag) (a : Ad) : Sp := fun vs H Q _ => ∃ (b d kr nr y wl : Addr) (S : DS) (ks : List Int) (ρ : Int → List Int) (m t : Int) (n : Nat) (B : List Int) (fr : Int) (ws : List Int) (c tn : Int), vs = [.ref b, .ref y, .int n, .ref wl, .int c, .int tn] ∧ Nd a H b d kr nr y wl S ks ρ m t n B fr ws ∧ ∀ ks' ρ' ws' H', Chg [nr, wl] H H' → Nd a H' b d kr nr y wl S ks' ρ' m t n B fr ws' → ws'.length = ws.length → Q (.bl true) H'
theorem ok__law_put (F : Fun K "_law_put" "_law_put" s__law_put f fd) (T : Txt K mg a) (D__law_part : Df P w K mg base (CXE P w) 1 "_law_part" ["_law_size", "_law_cell"] (spPart K a)) (D__law_drawn : Df P w K mg base (CXE P w) 1 "_law_drawn" ["_law_cell", "_law_many"] (spDrawn K a)) (D_put_words : Df P w K mg base (CXE P w) 7 "put_words" ["batch", "layout", "node", "begin", "words"] (spPutWords K a)) (D__law_refused : Df P w K mg base (CXE P w) 8 "_law_refused" ["_law_batch", "_law_layout", "_law_node", "_law_begin", "_law_thing"] (spRefused K a)) : FnOk P w K mg base (CXE P w) 9 f fd ["_law_batch", "_law_layout", "_law_node", "_law_words", "_law_cell", "_law_turn"] (spPut K a) := by
 obtain ⟨_, _, Gl_part, bl_part, kl_part, ml_part⟩ := D__law_part
 obtain ⟨_, _, Gl_drawn, bl_drawn, kl_drawn, ml_drawn⟩ := D__law_drawn
 obtain ⟨_, _, Gput_words, bput_words, kput_words, mput_words⟩ := D_put_words
 obtain ⟨_, _, Gl_refused, bl_refused, kl_refused, ml_refused⟩ := D__law_refused
 have nd := sc__law_put.nd
 refine F.okE sc__law_put (fun vs H Q E h => ?_) (fun cdv A outer s H vs Q E hr hA h => ?_)
 ·obtain ⟨b, d, kr, nr, y, wl, S, ks, ρ, m, t, n, B, fr, ws, c, tn, rfl, _⟩ := h
  rfl
 obtain ⟨b, d, kr, nr, y, wl, S, ks, ρ, m, t, n, B, fr, ws, c, tn, rfl, X, q⟩ := h
 have hB0 : ∀ x ∈ B, 0 ≤ x ∧ x < m := fun x hx => by have := X.inn x hx; omega
 have few := X.sp.few
 have stay : ∀ {H' : Hp}, Same H H' → Q (.bl true) H' := fun s => q ks ρ ws _ (Chg.of s) (X.same s) rfl
 refine ⟨_, (pss_cons (ps_asg (pe_call Gl_part (hr.mono (by decide)) rfl ml_part kl_part bl_part .nil (passes_fn (fun _ _ _ h => h)) (pa_cons (pe_callB (call_lenK (K := K) rfl) rfl T.len bt_len (pa_cons (pv 3) pa_nil)) (pa_cons (pv 4) pa_nil)) (hcm := (.inr hA))) (pg_tup hA (pgs_cons (pg_name (i := 6) nd rfl (by first | exact Or.inl rfl | exact Or.inr rfl)) (pgs_cons (pg_name (i := 7) nd rfl (by first | exact Or.inl rfl | exact Or.inr rfl)) pgs_nil))))
  (pss_cons (ps_set (i := 8) nd rfl (by first | exact Or.inl rfl | exact Or.inr rfl) (pe_call Gl_drawn (hr.mono (by decide)) rfl ml_drawn kl_drawn bl_drawn .nil (passes_fn (fun _ _ _ h => h)) (pa_cons (pe_op op_add (pv 4) (pv 5)) (pa_cons (pe_callB (call_max2 hA) rfl T.max bt_max (pa_cons pe_int (pa_cons (pv 7) pa_nil))) pa_nil)) (hcm := (.inr hA))))
  (pss_cons (ps_if (PW.pt (pw_or (pt_cmpR op_lt (pv 6) pe_int (nomark _)) (pw_or1 (pt_cmpR op_gt (pe_op op_add (pv 6) (pe_callB (call_lenK (K := K) rfl) rfl T.len bt_len (pa_cons (pv 8) pa_nil))) (pe_callB (call_lenK (K := K) rfl) rfl T.len bt_len (pa_cons (pv 3) pa_nil)) (nomark _))))) (pss_cons (ps_set (i := 9) nd rfl (by first | exact Or.inl rfl | exact Or.inr rfl) (pv 8))
  (pss_cons (ps_if (PW.pt (pw_or (pt_cmpR op_lt (pv 6) pe_int (nomark _)) (pw_or1 (pt_cmpR op_gt (pv 6) (pe_callB (call_lenK (K := K) rfl) rfl T.len bt_len (pa_cons (pv 3) pa_nil)) (nomark _))))) (pss_one (ps_set (i := 9) nd rfl (by first | exact Or.inl rfl | exact Or.inr rfl) (pe_ix (ix_listK (K := K) rfl) (pe_lst (pa_cons (pv 8) (pa_cons (pe_callTy (call_tupleK (K := K) rfl) rfl T.tuple bt_tuple (pa_cons (pv 8) pa_nil)) (pa_cons pe_non pa_nil)))) (pe_op op_mod (pe_op op_fdiv (pv 4) pe_int) pe_int) (fun _ _ => rfl)))) pss_nil)
  (pss_one (ps_ret (pe_cmpR op_eq (pe_call Gl_refused (hr.mono (by decide)) rfl ml_refused kl_refused bl_refused .nil (passes_fn (fun _ _ _ h => h)) (pa_cons (pv 0) (pa_cons (pv 1) (pa_cons (pv 2) (pa_cons (pv 6) (pa_cons (pv 9) pa_nil))))) (hcm := (.inr hA))) pe_str (nomark _)))))) pss_nil)
  (pss_cons (ps_if (pt_cmpR op_eq (pe_op op_mod (pv 4) pe_int) pe_int (nomark _)) (pss_cons (ps_set (i := 10) nd rfl (by first | exact Or.inl rfl | exact Or.inr rfl) (pe_op op_mod (pe_op op_fdiv (pv 4) pe_int) (pe_op op_add (pe_callB (call_lenK (K := K) rfl) rfl T.len bt_len (pa_cons (pv 8) pa_nil)) pe_int)))
  (pss_cons (ps_set (i := 9) nd rfl (by first | exact Or.inl rfl | exact Or.inr rfl) (pe_ix (ix_listK (K := K) rfl) (pe_lst (pa_cons (pe_op op_pow pe_int pe_int) (pa_cons (pe_un un_neg pe_int) (pa_cons pe_bl (pa_cons pe_str (pa_cons pe_non pa_nil)))))) (pe_op op_mod (pe_op op_fdiv (pv 4) pe_int) pe_int) (fun _ _ => rfl)))
  (pss_cons (ps_set (i := 11) nd rfl (by first | exact Or.inl rfl | exact Or.inr rfl) (pe_ix (ix_listK (K := K) rfl) (pe_lst (pa_cons (pe_op op_cat (pe_op op_cat (pe_slice (sl_listK (K := K) rfl) (pv 8) po_none (po_some (pv 10))) (pe_lst (pa_cons (pv 9) pa_nil))) (pe_slice (sl_listK (K := K) rfl) (pv 8) (po_some (pe_op op_add (pv 10) pe_int)) po_none)) (pa_cons (pe_callTy (call_tupleK (K := K) rfl) rfl T.tuple bt_tuple (pa_cons (pv 8) pa_nil)) (pa_cons pe_non pa_nil)))) (pe_op op_mod (pe_op op_fdiv (pv 4) pe_int) pe_int) (fun _ _ => rfl)))
  (pss_cons (ps_set (i := 12) nd rfl (by first | exact Or.inl rfl | exact Or.inr rfl) pe_str)
  (pss_cons (ps_if (PW.pt (pw_and (pt_val (pe_callB (call_isinstK (K := K) (T := "list") rfl) rfl T.isinstance bt_isinstance (pa_cons (pv 11) (pa_cons (pe_bltn (v := .ty "list") rfl T.list bt_list rfl) pa_nil)))) (pw_and1 (pt_cmpR op_gt (pe_op op_add (pv 6) (pe_callB (call_lenK (K := K) rfl) rfl T.len bt_len (pa_cons (pv 11) pa_nil))) (pe_callB (call_lenK (K := K) rfl) rfl T.len bt_len (pa_cons (pv 3) pa_nil)) (nomark _))))) (pss_one (ps_set (i := 12) nd rfl (by first | exact Or.inl rfl | exact Or.inr rfl) pe_str)) pss_nil)
  (pss_one (ps_ret (pe_cmpR op_eq (pe_call Gl_refused (hr.mono (by decide)) rfl ml_refused kl_refused bl_refused .nil (passes_fn (fun _ _ _ h => h)) (pa_cons (pv 0) (pa_cons (pv 1) (pa_cons (pv 2) (pa_cons (pv 6) (pa_cons (pv 11) pa_nil))))) (hcm := (.inr hA))) (pv 12) (nomark _))))))))) pss_nil)
  (pss_cons (ps_set (i := 13) nd rfl (by first | exact Or.inl rfl | exact Or.inr rfl) (pe_callTy (call_listK (K := K) rfl) rfl T.list bt_list (pa_cons (pv 8) pa_nil)))
  (pss_cons (ps_if (pt_cmpR op_notN (pe_call Gput_words (hr.mono (by decide)) rfl mput_words kput_words bput_words .nil (passes_fn (fun _ _ _ h => h)) (pa_cons (pv 0) (pa_cons (pv 1) (pa_cons (pv 2) (pa_cons (pv 6) (pa_cons (pv 13) pa_nil))))) (hcm := (.inr hA))) pe_non (nomark _)) (pss_one (ps_ret pe_bl)) pss_nil)
  (pss_cons (ps_expr (pe_bmK (K := K) rfl PySem.F.plainAttrs_list PySem.F.slot_list_append PySem.F.type_list_append mt_append (pv 13) (pa_cons pe_int pa_nil)))
  (pss_cons (ps_asg (pv 8) (pg_slice (pv 3) (po_some (pv 6)) (po_some (pe_op op_add (pv 6) (pe_callB (call_lenK (K := K) rfl) rfl T.len bt_len (pa_cons (pv 8) pa_nil))))))
  (pss_one (ps_ret pe_bl)))))))))), ?_⟩
 refine ⟨_, rfl, wl, _, rfl, .inl (SqL.of X.hw), _, rfl, ws.length, c, (by rw [List.length_map]; rfl), few, fun bg ct tp H1 ntp s1 htp hct => ?_⟩
 refine ⟨_, _, rfl, SqT.of htp, rfl, _, _, rfl, _, _, rfl, rfl, ?_⟩
 have X1 := X.same s1
 obtain ⟨k, ek, hk⟩ : ∃ k : Nat, (if (0 : Int) < ct then ct else 0) = (k : Int) ∧ k ≤ 400 := ⟨(if (0 : Int) < ct then ct else 0).toNat, by split <;> omega, by split <;> omega⟩
 refine ⟨_, rfl, _, rfl, _, _, rfl, rfl, _, rfl, _, _, rfl, ?_⟩
 dsimp (config := { proj := false, iota := false, eta := false, zeta := false }) only
 rw [ek]
 refine ⟨c + tn, k, rfl, by omega, fun fp H2 nfp s2 hfp => ?_⟩
 have hdl := drawn_len (c := c + tn) (k := k)
 have hdg := drawn_good (c := c + tn) (k := k)
 generalize drawnL (c + tn) k = dw at hfp hdl hdg
 have X2 := X1.same s2
 have s12 := s1.trans s2
 have nfH : H fp = none := s1.free nfp
 have wds : ∀ {H' : Hp}, H' fp = some (.lst (dw.map V.int)) → WdsA K H' (.ref fp) true k := fun h => ⟨.lst h, .inr ⟨fp, _, rfl, h, by rw [List.length_map]; omega, kd_ints _, (good_ints dw hdg).symm, by rw [List.length_map, hdl]⟩⟩
 generalize hTB : tSeq (tAsg (tVar 8) (gName 9)) _ = TB
 have out : (bg < 0 ∨ (ws.length : Int) < bg + k) → ∀ D' : Ends, D'.rt = Q → TB D' [some (.ref b), some (.ref y), some (.int n), some (.ref wl), some (.int c), some (.int tn), some (.int bg), some (.int ct), some (.ref fp), none, none, none, none, none] H2 := fun hb D' hD => by
  rw [← hTB]
  refine ⟨_, rfl, ?_⟩
  generalize hTE : tRet (tOp rEq (tCall (spRefused K a) _ _ _) _) = TE
  have fin : ∀ (v : V) (ok : Bool) (kk : Nat) (H3 : Hp), Same H2 H3 → isI v = false → WdsA K H3 v ok kk → (bg < 0 ∨ (ws.length : Int) < bg + kk) → TE D' [some (.ref b), some (.ref y), some (.int n), some (.ref wl), some (.int c), some (.int tn), some (.int bg), some (.int ct), some (.ref fp), some v, none, none, none, none] H3 := fun v ok kk H3 s3 hi wA hb => by
   rw [← hTE]
   have X3 := X2.same s3
   refine ⟨_, rfl, _, rfl, _, rfl, _, rfl, _, rfl, ex17 b d kr nr y S ks ρ m t n ws.length B fr bg v 0 ⟨rfl, X3.mp, X3.sp, hB0, wA.1, .inr ⟨hi, ok, kk, wA, .inl ⟨hb, rfl⟩⟩, fun H4 s4 => ⟨rfl, ?_⟩⟩⟩
   rw [show decide (V.str (kword 0) = V.str "place") = true from decide_eq_true rfl]
   show D'.rt _ _
   rw [hD]
   exact stay (s12.trans (s3.trans s4))
  generalize hTS : tAsg (tOp _ (tLst _) _) (gName 9) = TS'
  have some9 : (bg < 0 ∨ (ws.length : Int) < bg) → TS' { nx := TE D', rt := D'.rt, bk := D'.bk, ct := D'.ct } [some (.ref b), some (.ref y), some (.int n), some (.ref wl), some (.int c), some (.int tn), some (.int bg), some (.int ct), some (.ref fp), some (.ref fp), none, none, none, none] H2 := fun h0 => by
   rw [← hTS]
   refine ⟨_, rfl, _, rfl, fp, _, rfl, .inl ⟨SqL.of hfp, fun x1 k1 => ?_⟩⟩
   have u1 := same_new k1 (.tup (dw.map V.int))
   refine ⟨(by show 3 ≤ sizeLine; decide), fun l1 k2 => ?_⟩
   have u2' := same_new k2 (.lst [.ref fp, .ref x1, .non])
   have u2 := u1.trans u2'
   obtain ⟨v, kk, ok, hv, hi, wA, hb'⟩ : ∃ (v : V) (kk : Nat) (ok : Bool), atI [V.ref fp, V.ref x1, V.non] (c / 80 % 3) = some v ∧ isI v = false ∧ WdsA K (upd (upd H2 x1 (.tup (dw.map V.int))) l1 (.lst [.ref fp, .ref x1, .non])) v ok kk ∧ (bg < 0 ∨ (ws.length : Int) < bg + kk) := by
    rcases (show c / 80 % 3 = 0 ∨ c / 80 % 3 = 1 ∨ c / 80 % 3 = 2 by omega) with z | z | z <;> rw [z]
    ·exact ⟨_, k, true, rfl, rfl, wds (u2 _ _ hfp), hb⟩
    ·have e := u2' _ _ (upd_same (H := H2) (a := x1) (o := .tup (dw.map V.int)))
     exact ⟨_, 0, false, rfl, rfl, ⟨.tup e, .inl ⟨by show isLH _ = _; rw [e]; rfl, rfl, rfl⟩⟩, by omega⟩
    ·exact ⟨_, 0, false, rfl, rfl, ⟨.non, .inl ⟨rfl, rfl, rfl⟩⟩, by omega⟩
   exact ⟨_, rfl, _, _, rfl, rfl, ⟨by decide, by decide⟩, _, _, rfl, rfl, (by show (0 : Int) < 3; decide), l1, _, _, v, rfl, rfl, SqL.of upd_same, hv, fin v ok kk _ u2 hi wA hb'⟩
  refine ⟨_, rfl, _, _, rfl, rfl, _, rfl, ?_⟩
  by_cases h0 : bg < 0
  ·exact iteT' (decide_eq_true h0) (iteT' (by rfl) (some9 (.inl h0)))
  refine iteF' (decide_eq_false h0) ⟨_, rfl, _, rfl, wl, _, rfl, .inl (SqL.of X2.hw), _, _, rfl, rfl, _, rfl, ?_⟩
  rw [List.length_map]
  by_cases h1 : (ws.length : Int) < bg
  ·exact iteT' (decide_eq_true h1) (some9 (.inr h1))
  ·exact iteF' (decide_eq_false h1) (fin _ true k H2 (Same.refl _) rfl (wds hfp) hb)
 refine ⟨_, rfl, _, _, rfl, rfl, _, rfl, ?_⟩
 by_cases h0 : bg < 0
 ·exact iteT' (decide_eq_true h0) (iteT' (by rfl) (out (.inl h0) _ rfl))
 refine iteF' (decide_eq_false h0) ⟨_, rfl, _, rfl, fp, _, rfl, .inl (SqL.of hfp), _, _, rfl, rfl, _, rfl, wl, _, rfl, .inl (SqL.of X2.hw), _, _, rfl, rfl, _, rfl, ?_⟩
 rw [List.length_map, List.length_map, hdl]
 by_cases h1 : (ws.length : Int) < bg + k
 ·exact iteT' (decide_eq_true h1) (out (.inr h1) _ rfl)
 refine iteF' (decide_eq_false h1) ?_
 clear out hTB TB
 obtain ⟨g, rfl⟩ : ∃ g : Nat, bg = g := ⟨bg.toNat, by omega⟩
 have hgk : g + k ≤ ws.length := by omega
 refine t_modeq (c := c) rfl (by decide) ?_
 by_cases h2 : c % 16 = 2
 ·refine iteT' (decide_eq_true h2) ?_
  generalize hTE : tSeq (tAsg (tC (V.str "row")) (gName 12)) _ = TE
  have fin : ∀ (th : V) (at' : Nat) (v : V) (kk : Nat) (H3 : Hp), Same H2 H3 → isI v = false → WdsA K H3 v false kk → ∀ D' : Ends, D'.rt = Q → TE D' [some (.ref b), some (.ref y), some (.int n), some (.ref wl), some (.int c), some (.int tn), some (.int g), some (.int ct), some (.ref fp), some th, some (.int at'), some v, none, none] H3 := fun th at' v kk H3 s3 hi wA D' hD => by
   rw [← hTE]
   have X3 := X2.same s3
   obtain ⟨⟨t0, ty, e1, e2, e3⟩, hAl⟩ := id wA
   generalize hTR : tRet (tOp rEq (tCall (spRefused K a) _ _ _) _) = TR
   have ret : ∀ j : Nat, (((g : Int) < 0 ∨ (ws.length : Int) < g + kk) ∧ j = 0) ∨ (0 ≤ (g : Int) ∧ (g : Int) + kk ≤ (ws.length : Int) ∧ false = false ∧ j = 1) → TR D' [some (.ref b), some (.ref y), some (.int n), some (.ref wl), some (.int c), some (.int tn), some (.int g), some (.int ct), some (.ref fp), some th, some (.int at'), some v, some (.str (kword j)), none] H3 := fun j hj => by
    rw [← hTR]
    refine ⟨_, rfl, _, rfl, _, rfl, _, rfl, _, rfl, ex17 b d kr nr y S ks ρ m t n ws.length B fr g v j ⟨rfl, X3.mp, X3.sp, hB0, wA.1, .inr ⟨hi, false, kk, wA, hj⟩, fun H4 s4 => ⟨_, rfl, rfl, ?_⟩⟩⟩
    rw [show decide (V.str (kword j) = V.str (kword j)) = true from decide_eq_true rfl]
    show D'.rt _ _
    rw [hD]
    exact stay (s12.trans (s3.trans s4))
   refine ⟨_, rfl, _, t0, _, rfl, ty, e3, _, rfl, ?_⟩
   rcases hAl with ⟨hL, _, hk0⟩ | ⟨p, xs, rfl, hp, _, _, _, hk1⟩
   ·exact iteF' hL (iteF' (by rfl) (ret 1 (.inr ⟨by omega, by omega, rfl, rfl⟩)))
   ·refine iteT' (by show isLH (H3 p) = true; rw [hp]; rfl) ⟨_, rfl, _, rfl, p, _, rfl, .inl (SqL.of hp), _, _, rfl, rfl, _, rfl, wl, _, rfl, .inl (SqL.of X3.hw), _, _, rfl, rfl, _, rfl, ?_⟩
    rw [List.length_map, ← hk1]
    by_cases hq : (ws.length : Int) < (g : Int) + (kk : Int)
    ·exact iteT' (decide_eq_true hq) (ret 0 (.inl ⟨.inr hq, rfl⟩))
    ·exact iteF' (decide_eq_false hq) (ret 1 (.inr ⟨by omega, by omega, rfl, rfl⟩))
  obtain ⟨at', eat, hat'⟩ : ∃ at' : Nat, c / 7 % ((k : Int) + 1) = (at' : Int) ∧ at' ≤ k := by
   have h1 := Int.emod_nonneg (c / 7) (show (k : Int) + 1 ≠ 0 by omega)
   have h2 := Int.emod_lt_of_pos (c / 7) (show 0 < (k : Int) + 1 by omega)
   exact ⟨(c / 7 % ((k : Int) + 1)).toNat, by omega, by omega⟩
  refine ⟨_, rfl, _, _, rfl, rfl, ⟨by decide, by decide⟩, _, rfl, fp, _, rfl, .inl (SqL.of hfp), _, _, rfl, rfl, _, _, rfl, rfl, (by show (0 : Int) < (((dw.map V.int).length : Nat) : Int) + 1; omega), ?_⟩
  dsimp (config := { proj := false, iota := false, eta := false, zeta := false }) only
  rw [List.length_map, hdl, eat]
  refine ⟨_, _, rfl, rfl, ⟨by decide, by decide, by decide⟩, _, rfl, (by show 5 ≤ sizeLine; decide), fun l1 m1 => ?_⟩
  obtain ⟨th, hth, bth, kth⟩ : ∃ th, atI [V.int ((10 : Int) ^ (9 : Int).toNat), V.int (-1), V.bl true, V.str "1", V.non] (c / 16 % 5) = some th ∧ goodV th = false ∧ ∀ H : Hp, Kd K H th := by
   rcases (show c / 16 % 5 = 0 ∨ c / 16 % 5 = 1 ∨ c / 16 % 5 = 2 ∨ c / 16 % 5 = 3 ∨ c / 16 % 5 = 4 by omega) with z | z | z | z | z <;> rw [z]
   ·exact ⟨_, rfl, by decide, fun _ => .int _⟩
   ·exact ⟨_, rfl, by decide, fun _ => .int _⟩
   ·exact ⟨_, rfl, rfl, fun _ => .bl _⟩
   ·exact ⟨_, rfl, rfl, fun _ => .str _⟩
   ·exact ⟨_, rfl, rfl, fun _ => .non⟩
  have w1 := same_new m1 (.lst [V.int ((10 : Int) ^ (9 : Int).toNat), V.int (-1), V.bl true, V.str "1", V.non])
  refine ⟨_, rfl, _, _, rfl, rfl, ⟨by decide, by decide⟩, _, _, rfl, rfl, (by show (0 : Int) < 5; decide), l1, _, _, th, rfl, rfl, SqL.of upd_same, hth, ?_⟩
  show tSeq _ _ _ _ (upd H2 l1 (.lst [V.int ((10 : Int) ^ (9 : Int).toNat), V.int (-1), V.bl true, V.str "1", V.non]))
  generalize upd H2 l1 (.lst [V.int ((10 : Int) ^ (9 : Int).toNat), V.int (-1), V.bl true, V.str "1", V.non]) = H3 at w1 ⊢
  have hfp3 := w1 _ _ hfp
  refine ⟨_, rfl, _, rfl, _, rfl, fp, _, rfl, SqL.of hfp3, fun y1 k1 => ?_⟩
  rw [cut_to, ← List.map_take]
  have v1 := same_new k1 (.lst ((dw.take at').map V.int))
  refine ⟨_, rfl, (by show 1 ≤ sizeLine; decide), fun y2 k2 => ?_⟩
  have v2' := same_new k2 (.lst [th])
  have v2 := v1.trans v2'
  refine ⟨y1, y2, _, _, rfl, rfl, v2' _ _ upd_same, upd_same, small (by rw [List.length_map, List.length_take]; simp; omega), fun y3 k3 => ?_⟩
  have v3' := same_new k3 (.lst ((dw.take at').map V.int ++ [th]))
  have v3 := v2.trans v3'
  refine ⟨_, rfl, _, rfl, _, _, rfl, rfl, _, rfl, fp, _, rfl, SqL.of (v3 _ _ hfp3), fun y4 k4 => ?_⟩
  dsimp (config := { proj := false, iota := false, eta := false, zeta := false }) only
  rw [show (at' : Int) + 1 = ((at' + 1 : Nat) : Int) by omega, cut_from, ← List.map_drop]
  have v4' := same_new k4 (.lst ((dw.drop (at' + 1)).map V.int))
  have v4 := v3.trans v4'
  refine ⟨y3, y4, _, _, rfl, rfl, v4' _ _ upd_same, upd_same, small (by simp [hdl]; omega), fun y5 k5 => ?_⟩
  have v5' := same_new k5 (.lst ((dw.take at').map V.int ++ [th] ++ (dw.drop (at' + 1)).map V.int))
  have v5 := v4.trans v5'
  have hy5 := upd_same (H := upd (upd (upd (upd H3 y1 (.lst ((dw.take at').map V.int))) y2 (.lst [th])) y3 (.lst ((dw.take at').map V.int ++ [th]))) y4 (.lst ((dw.drop (at' + 1)).map V.int))) (a := y5) (o := .lst ((dw.take at').map V.int ++ [th] ++ (dw.drop (at' + 1)).map V.int))
  refine ⟨_, rfl, fp, _, rfl, .inl ⟨SqL.of (v5 _ _ hfp3), fun x1 k6 => ?_⟩⟩
  have v6' := same_new k6 (.tup (dw.map V.int))
  have v6 := v5.trans v6'
  refine ⟨(by show 3 ≤ sizeLine; decide), fun l2 k7 => ?_⟩
  have v7' := same_new k7 (.lst [.ref y5, .ref x1, .non])
  have v7 := v6.trans v7'
  have hy7 := (v6'.trans v7') _ _ hy5
  have hx7 := v7' _ _ upd_same
  obtain ⟨v, kk, hv, hi, wA⟩ : ∃ (v : V) (kk : Nat), atI [V.ref y5, V.ref x1, V.non] (c / 80 % 3) = some v ∧ isI v = false ∧ WdsA K (upd (upd (upd (upd (upd (upd (upd H3 y1 (.lst ((dw.take at').map V.int))) y2 (.lst [th])) y3 (.lst ((dw.take at').map V.int ++ [th]))) y4 (.lst ((dw.drop (at' + 1)).map V.int))) y5 (.lst ((dw.take at').map V.int ++ [th] ++ (dw.drop (at' + 1)).map V.int))) x1 (.tup (dw.map V.int))) l2 (.lst [.ref y5, .ref x1, .non])) v false kk := by
   rcases (show c / 80 % 3 = 0 ∨ c / 80 % 3 = 1 ∨ c / 80 % 3 = 2 by omega) with z | z | z <;> rw [z]
   ·refine ⟨_, _, rfl, rfl, ⟨.lst hy7, .inr ⟨y5, _, rfl, hy7, by simp [hdl]; omega, fun x hx => ?_, ?_, rfl⟩⟩⟩
    ·rcases List.mem_append.mp hx with z | z
     ·rcases List.mem_append.mp z with z | z
      ·exact kd_ints _ x z
      ·rw [List.mem_singleton.mp z]; exact kth _
     ·exact kd_ints _ x z
    ·rw [List.all_append, List.all_append]
     simp [bth]
   ·exact ⟨_, 0, rfl, rfl, ⟨.tup hx7, .inl ⟨by show isLH _ = _; rw [hx7]; rfl, rfl, rfl⟩⟩⟩
   ·exact ⟨_, 0, rfl, rfl, ⟨.non, .inl ⟨rfl, rfl, rfl⟩⟩⟩
  exact ⟨_, rfl, _, _, rfl, rfl, ⟨by decide, by decide⟩, _, _, rfl, rfl, (by show (0 : Int) < 3; decide), l2, _, _, v, rfl, rfl, SqL.of upd_same, hv, fin th at' v kk _ (w1.trans v7) hi wA _ rfl⟩
 refine iteF' (decide_eq_false h2) ?_
 refine ⟨_, rfl, fp, _, rfl, .inl (SqL.of hfp), fun hd nhd => ?_⟩
 have w3 := same_new nhd (.lst (dw.map V.int))
 have hhd := upd_same (H := H2) (a := hd) (o := .lst (dw.map V.int))
 have off2 : OffD H2 nr hd := X2.mp.bat.ho.new nhd
 have nro2 : NoRowAt H2 kr hd := X2.mp.dk.noRow nhd
 obtain ⟨_, _, _, ekr2, _⟩ := X2.mp.dk.ex
 have nhk : hd ≠ kr := Ne.symm (ne_of_none ekr2 nhd)
 have nhw : wl ≠ hd := ne_of_none X2.hw nhd
 have off3 := off2.same X2.mp.bat.ho w3
 have nro3 := nro2.chg X2.mp.dk (Chg.of w3 (S := [])) (by simp)
 show tSeq _ _ _ _ (upd H2 hd (.lst (dw.map V.int)))
 generalize upd H2 hd (.lst (dw.map V.int)) = H3 at w3 hhd off3 nro3 ⊢
 have X3 := X2.same w3
 have hfp3 := w3 _ _ hfp
 have hks := X.ks
 obtain ⟨kv3, en3⟩ := X3.mp.bat.ho.at
 have hd3 : WdsA K H3 (.ref hd) true k := ⟨.lst hhd, .inr ⟨hd, _, rfl, hhd, by rw [List.length_map]; omega, kd_ints _, (good_ints dw hdg).symm, by rw [List.length_map, hdl]⟩⟩
 refine ⟨_, rfl, _, rfl, _, rfl, _, rfl, _, rfl, ex18 b d kr nr y S ks ρ m t n ws.length B fr g (.ref hd) true k ⟨rfl, X3.mp, X3.sp, hd3, .inr (.inr ⟨g, hd, dw, rfl, rfl, hhd, hdg, by omega, X.nd, X.inn, by omega, fun ks' ρ' H4 c4 of4 M4 hoff hon hsub => ⟨rfl, _, rfl, iteF' (by rfl) ?_⟩⟩)⟩⟩
 have lst4 : ∀ {u : Addr} {xs : List V}, H3 u = some (.lst xs) → H4 u = some (.lst xs) := fun hu => c4 _ _ hu (by simp only [List.mem_singleton]; exact ne_of hu en3 (fun z => by cases z))
 have hhd4 := lst4 hhd
 have hfp4 := lst4 hfp3
 have hwl4 := lst4 X3.hw
 obtain ⟨_, _, _, ekr3, _⟩ := X3.mp.dk.ex
 have nkn : kr ∉ [nr] := by simp only [List.mem_singleton]; exact ne_of ekr3 en3 (fun z => by cases z)
 have off4 := (of4 hd (by rw [hhd]; simp) off3).1
 have nro4 := nro3.chg X3.mp.dk c4 nkn
 have offw4 := (of4 wl (by rw [X3.hw]; simp) X3.off).1
 have nrow4 := X3.nro.chg X3.mp.dk c4 nkn
 refine ⟨_, rfl, .inl ⟨rfl, _, SqL.of hhd4⟩, hd, _, _, rfl, rfl, hhd4, small1000 (by rw [List.length_map, hdl]; omega), ?_⟩
 have M5 := M4.upd hhd4 off4 nro4 nhk (dw.map V.int ++ [.int 1])
 have c5' : Chg [hd] H4 (L2.upd H4 hd (.lst (dw.map V.int ++ [.int 1]))) := (Chg.of (Same.refl _) (S := [hd])).upd (by simp) _
 have nkd : kr ∉ [hd] := by simp only [List.mem_singleton]; exact Ne.symm nhk
 have nnd : nr ∉ [hd] := by
  obtain ⟨kv4, en4⟩ := M4.bat.ho.at
  simp only [List.mem_singleton]; exact ne_of en4 hhd4 (fun z => by cases z)
 have offw5 := offw4.chg M4.bat.ho c5' nnd
 have nrow5 := nrow4.chg M4.dk c5' nkd
 have nfd : fp ≠ hd := ne_of_none hfp nhd
 have hwl5 := c5' _ _ hwl4 (by simp only [List.mem_singleton]; exact nhw)
 have hfp5 := c5' _ _ hfp4 (by simp only [List.mem_singleton]; exact nfd)
 have cH5 : Chg [nr] H (L2.upd H4 hd (.lst (dw.map V.int ++ [.int 1]))) := fun u o e hu => c5' _ _ (c4 _ _ (w3 _ _ (s12 _ _ e)) hu) (by
  simp only [List.mem_singleton]
  intro z
  rw [z, s12.free nhd] at e; cases e)
 generalize L2.upd H4 hd (.lst (dw.map V.int ++ [.int 1])) = H5 at M5 offw5 nrow5 hwl5 hfp5 cH5 ⊢
 have nwf : wl ≠ fp := fun z => by
  have := X.hw
  rw [z, nfH] at this; cases this
 refine ⟨_, rfl, _, rfl, _, rfl, _, rfl, _, rfl, _, rfl, fp, _, rfl, .inl (SqL.of hfp5), _, _, rfl, rfl, _, rfl, wl, fp, _, _, g, g + k, rfl, rfl, rfl, ?_, hwl5, hfp5, nwf, by omega, by rw [List.length_map]; omega, small (by rw [List.length_map, List.length_map]; omega), ?_⟩
 ·show some ((g : Int) + (((dw.map V.int).length : Nat) : Int)) = some ((g + k : Nat) : Int)
  rw [List.length_map, hdl]
  congr 1
 have em : (ws.map V.int).take g ++ dw.map V.int ++ (ws.map V.int).drop (g + k) = (ws.take g ++ dw ++ ws.drop (g + k)).map V.int := by
  rw [List.map_append, List.map_append, List.map_take, List.map_drop]
 rw [em]
 have hget : ∀ i, i < ws.length → (ws.take g ++ dw ++ ws.drop (g + k)).getD i 0 = if g ≤ i ∧ i < g + k then dw.getD (i - g) 0 else ws.getD i 0 := fun i hi => by
  have lt : (ws.take g).length = g := by rw [List.length_take]; omega
  rw [List.getD_eq_getElem?_getD]
  by_cases hA : i < g
  ·rw [if_neg (by omega), List.append_assoc, List.getElem?_append_left (by omega), List.getElem?_take, if_pos hA, List.getD_eq_getElem?_getD]
  ·by_cases hC : i < g + k
   ·rw [if_pos ⟨by omega, hC⟩, List.getElem?_append_left (by rw [List.length_append, lt, hdl]; exact hC), List.getElem?_append_right (by omega), lt, List.getD_eq_getElem?_getD]
   ·rw [if_neg (by omega), List.getElem?_append_right (by rw [List.length_append, lt, hdl]; omega), List.length_append, lt, hdl, List.getElem?_drop, show g + k + (i - (g + k)) = i by omega, List.getD_eq_getElem?_getD]
 have hl' : (ws.take g ++ dw ++ ws.drop (g + k)).length = ws.length := by
  rw [List.length_append, List.length_append, List.length_take, List.length_drop, hdl]; omega
 have gw' : GoodWs (ws.take g ++ dw ++ ws.drop (g + k)) := fun z hz => by
  rcases List.mem_append.mp hz with h | h
  ·rcases List.mem_append.mp h with h | h
   ·exact X.gw z (List.mem_of_mem_take h)
   ·exact hdg z h
  ·exact X.gw z (List.mem_of_mem_drop h)
 generalize ws.take g ++ dw ++ ws.drop (g + k) = ws' at hget hl' gw'
 have hold : ∀ i, i < ws.length → wAt S.R ks ρ B i = ws.getD i 0 := fun i hi => by
  have := X.eq
  have h1 : (wordsW S.R ks ρ B 0 ws.length).getD i 0 = wAt S.R ks ρ B i := by
   unfold wordsW
   rw [List.getD_eq_getElem?_getD, List.getElem?_map, List.getElem?_range hi]
   show wAt S.R ks ρ B (0 + i) = _
   rw [Nat.zero_add]
  rw [← h1, this]
 have hBl := X.ld.len
 have hnew : ∀ i, i < ws.length → wAt S.R ks' ρ' B i = ws'.getD i 0 := fun i hi => by
  rw [hon i (by omega), hget i hi, hdl]
  split
  ·rfl
  ·exact hold i hi
 have hnn := nAt_lt X.mp.good X.sp.n2
 have nod : ((nAt m n : Nat) : Int) ∉ B := fun z => by have := X.ld.inn _ z; omega
 refine q ks' ρ' ws' _ ((cH5.mono (S' := [nr, wl]) (by simp)).upd (by simp) _) ⟨M5.upd hwl5 offw5 nrow5 X.wk _, ?_, X.inn, X.nd, by rw [hl']; exact X.ld, upd_same, ?_, offw5.chg M5.bat.ho ((Chg.of (Same.refl _) (S := [wl])).upd (by simp) _) ?_, nrow5.chg M5.dk ((Chg.of (Same.refl _) (S := [wl])).upd (by simp) _) (by simp only [List.mem_singleton]; exact Ne.symm X.wk), X.wk, fun x hx => ?_, gw', fun i h1 h2 => ?_⟩ hl'
 ·rw [hl']
  refine ⟨X.sp.n1, X.sp.n2, ?_, X.sp.len, X.sp.few, fun h4 => ?_⟩
  ·rw [show nodeW S.R ks' ρ' m n = nodeW S.R ks ρ m n by unfold nodeW; rw [hoff _ nod]]
   exact X.sp.ex
  ·rw [hoff _ (X.ld.far h4).2.2]
   exact X.sp.far h4
 ·rw [hl']
  apply List.ext_getElem?
  intro i
  unfold wordsW
  rw [List.getElem?_map]
  by_cases hi : i < ws.length
  ·rw [List.getElem?_range hi]
   show some (wAt S.R ks' ρ' B (0 + i)) = _
   rw [Nat.zero_add, hnew i hi, List.getD_eq_getElem?_getD, List.getElem?_eq_getElem (by omega)]; rfl
  ·rw [List.getElem?_eq_none (by simpa using hi), List.getElem?_eq_none (by omega)]; rfl
 ·obtain ⟨kv5, en5⟩ := M5.bat.ho.at
  simp only [List.mem_singleton]; exact ne_of en5 hwl5 (fun z => by cases z)
 ·rcases hsub x hx with z | z
  ·exact X.sub x z
  ·exact z
 ·rw [hl'] at h1
  rw [hon i h2, if_neg (by omega)]
  exact X.pad i h1 h2
end
end K11
end
section
set_option Elab.async false
set_option linter.all false
set_option maxRecDepth 100000
set_option maxHeartbeats 4000000
namespace K11
open PySem L2 BK
section
variable {P : Program} {w : World} {K : PySem.W.Frag} {mg : Str → Option Value} {base : Heap} {f : Addr} {fd : FuncData} {a : Ad}
theorem rows_apps {H : Hp} {rs ps : List Addr} {R RR : List (List Int)} (h : RowsAt H rs R) (h' : RowsAt H ps RR) : RowsAt H (rs ++ ps) (R ++ RR) := by
 obtain ⟨h1, h2⟩ := h
 obtain ⟨h3, h4⟩ := h'
 refine ⟨by simp [h1, h3], fun i u z e1 e2 => ?_⟩
 by_cases hi : i < rs.length
 ·rw [List.getElem?_append_left hi] at e1
  rw [List.getElem?_append_left (by omega)] at e2
  exact h2 i u z e1 e2
 ·rw [List.getElem?_append_right (by omega)] at e1
  rw [List.getElem?_append_right (by omega), ← h1] at e2
  exact h4 _ u z e1 e2
theorem refs_not_row {rs : List Addr} {row : List Int} (h : row.length = 16) : (HO.lst (rs.map V.ref)) ≠ HO.lst (row.map V.int) := by
 intro z
 cases rs with
 | nil => cases row with
  | nil => simp at h
  | cons => cases z
 | cons => cases row with
  | nil => cases z
  | cons => cases z
theorem noRow_refs {H : Hp} {C d kr p : Addr} {S : DS} {rs : List Addr} (D : DkAt C H d kr S) (hp : H p = some (.lst (rs.map V.ref))) : NoRowAt H kr p := fun rs' hrs hm => by
 obtain ⟨dx', drs, e1, e2, e3⟩ := D.ex
 rw [e2] at hrs
 have er := refs_inj (by injection hrs with z; injection z)
 subst er
 obtain ⟨row', hr', er'⟩ := e3.all hm
 rw [hp] at er'
 exact refs_not_row (D.good _ hr').1 (Option.some.inj er')
structure Al (a : Ad) (H : Hp) (b d kr nr y wl bl ul tl cl sl : Addr) (hs qs : List Addr) (LL MM : List (List Int)) (cs : List Int) (S : DS) (ks : List Int) (ρ : Int → List Int) (m t : Int) (n : Nat) (B : List Int) (fr : Int) (ws : List Int) : Prop where
 nd : Nd a H b d kr nr y wl S ks ρ m t n B fr ws
 hb : H bl = some (.lst (B.map V.int))
 hu : H ul = some (.lst ((usedL B fr).map V.int))
 hl : H sl = some (.lst (cs.map V.int))
 hh : H tl = some (.lst (hs.map V.ref))
 hr : RowsAt H hs LL
 kh : H cl = some (.lst (qs.map V.ref))
 qr : RowsAt H qs MM
 n1 : tl ≠ kr
 n2 : cl ≠ kr
 n3 : tl ≠ cl
 t1 : tl ≠ wl
 t2 : cl ≠ wl
 t3 : tl ≠ bl
 t4 : cl ≠ bl
 t5 : tl ≠ ul
 t6 : cl ≠ ul
 s1 : sl ≠ tl
 s2 : sl ≠ cl
 s3 : sl ≠ wl
 w1 : bl ≠ wl
 w2 : ul ≠ wl
 o1 : ∀ r, r ∈ hs ∨ r ∈ qs → r ≠ tl ∧ r ≠ cl ∧ r ≠ wl
section
variable {H H' : Hp} {b d kr nr y wl bl ul tl cl sl : Addr} {hs qs ps : List Addr} {LL MM RR : List (List Int)} {cs : List Int} {S : DS} {ks ks' : List Int} {ρ ρ' : Int → List Int} {m t : Int} {n : Nat} {B : List Int} {fr : Int} {ws ws' : List Int}
theorem Al.same (x : Al a H b d kr nr y wl bl ul tl cl sl hs qs LL MM cs S ks ρ m t n B fr ws) (s : Same H H') : Al a H' b d kr nr y wl bl ul tl cl sl hs qs LL MM cs S ks ρ m t n B fr ws :=
 ⟨x.nd.same s, s _ _ x.hb, s _ _ x.hu, s _ _ x.hl, s _ _ x.hh, rows_same x.hr s, s _ _ x.kh, rows_same x.qr s, x.n1, x.n2, x.n3, x.t1, x.t2, x.t3, x.t4, x.t5, x.t6, x.s1, x.s2, x.s3, x.w1, x.w2, x.o1⟩
theorem Al.new (x : Al a H b d kr nr y wl bl ul tl cl sl hs qs LL MM cs S ks ρ m t n B fr ws) {r : Addr} (h : H r = none) : r ≠ tl ∧ r ≠ cl ∧ r ≠ wl := ⟨Ne.symm (ne_of_none x.hh h), Ne.symm (ne_of_none x.kh h), Ne.symm (ne_of_none x.nd.hw h)⟩
theorem Al.put (x : Al a H b d kr nr y wl bl ul tl cl sl hs qs LL MM cs S ks ρ m t n B fr ws) (c : Chg [nr, wl] H H') (N : Nd a H' b d kr nr y wl S ks' ρ' m t n B fr ws') : Al a H' b d kr nr y wl bl ul tl cl sl hs qs LL MM cs S ks' ρ' m t n B fr ws' := by
 obtain ⟨kv, en⟩ := x.nd.mp.bat.ho.at
 have off : ∀ {u : Addr} {xs : List V}, H u = some (.lst xs) → u ≠ wl → u ∉ [nr, wl] := fun hu nw => by
  simp only [List.mem_cons, List.not_mem_nil, or_false, not_or]
  exact ⟨ne_of hu en (fun z => by cases z), nw⟩
 have rw' : ∀ {hs : List Addr} {LL : List (List Int)}, RowsAt H hs LL → (∀ r ∈ hs, r ≠ wl) → RowsAt H' hs LL := fun h nw => h.chg c fun r hr => by
  obtain ⟨row, _, e⟩ := h.all hr
  exact off e (nw r hr)
 exact ⟨N, c _ _ x.hb (off x.hb x.w1), c _ _ x.hu (off x.hu x.w2), c _ _ x.hl (off x.hl x.s3), c _ _ x.hh (off x.hh x.t1), rw' x.hr (fun r hr => (x.o1 r (.inl hr)).2.2), c _ _ x.kh (off x.kh x.t2), rw' x.qr (fun r hr => (x.o1 r (.inr hr)).2.2), x.n1, x.n2, x.n3, x.t1, x.t2, x.t3, x.t4, x.t5, x.t6, x.s1, x.s2, x.s3, x.w1, x.w2, x.o1⟩
theorem Al.tell (x : Al a H b d kr nr y wl bl ul tl cl sl hs qs LL MM cs S ks ρ m t n B fr ws) (hp : RowsAt H ps RR) (np : ∀ r ∈ ps, r ≠ tl ∧ r ≠ cl ∧ r ≠ wl) : Al a (upd H tl (.lst ((hs ++ ps).map V.ref))) b d kr nr y wl bl ul tl cl sl (hs ++ ps) qs (LL ++ RR) MM cs S ks ρ m t n B fr ws := by
 have c : Chg [tl] H (upd H tl (.lst ((hs ++ ps).map V.ref))) := (Chg.of (Same.refl _) (S := [tl])).upd (by simp) _
 obtain ⟨kv, en⟩ := x.nd.mp.bat.ho.at
 have nn : nr ∉ [tl] := by simp only [List.mem_singleton]; exact ne_of en x.hh (fun z => by cases z)
 have nk : kr ∉ [tl] := by simp only [List.mem_singleton]; exact Ne.symm x.n1
 have M := x.nd.mp.upd x.hh (x.nd.mp.bat.ho.offo x.hh fun row h => refs_not_row h) (noRow_refs x.nd.mp.dk x.hh) x.n1 ((hs ++ ps).map V.ref)
 have off : ∀ {u : Addr} {o : HO}, H u = some o → u ≠ tl → upd H tl (.lst ((hs ++ ps).map V.ref)) u = some o := fun e nu => by rw [upd_ne nu]; exact e
 have rr : ∀ {hs' : List Addr} {LL : List (List Int)}, RowsAt H hs' LL → (∀ r ∈ hs', r ≠ tl) → RowsAt (upd H tl (.lst ((hs ++ ps).map V.ref))) hs' LL := fun h nw => h.chg c fun r hr => by simp only [List.mem_singleton]; exact nw r hr
 refine ⟨⟨M, x.nd.sp, x.nd.inn, x.nd.nd, x.nd.ld, off x.nd.hw (Ne.symm x.t1), x.nd.eq, x.nd.off.chg x.nd.mp.bat.ho c nn, x.nd.nro.chg x.nd.mp.dk c nk, x.nd.wk, x.nd.sub, x.nd.gw, x.nd.pad⟩, off x.hb (Ne.symm x.t3), off x.hu (Ne.symm x.t5), off x.hl x.s1, upd_same, rows_apps (rr x.hr fun r hr => (x.o1 r (.inl hr)).1) (rr hp fun r hr => (np r hr).1), off x.kh (Ne.symm x.n3), rr x.qr (fun r hr => (x.o1 r (.inr hr)).1), x.n1, x.n2, x.n3, x.t1, x.t2, x.t3, x.t4, x.t5, x.t6, x.s1, x.s2, x.s3, x.w1, x.w2, fun r hr => ?_⟩
 rcases hr with z | z
 ·rcases List.mem_append.mp z with z | z
  ·exact x.o1 r (.inl z)
  ·exact np r z
 ·exact x.o1 r (.inr z)
theorem Al.swap (x : Al a H b d kr nr y wl bl ul tl cl sl hs qs LL MM cs S ks ρ m t n B fr ws) : Al a H b d kr nr y wl bl ul cl tl sl qs hs MM LL cs S ks ρ m t n B fr ws :=
 ⟨x.nd, x.hb, x.hu, x.hl, x.kh, x.qr, x.hh, x.hr, x.n2, x.n1, Ne.symm x.n3, x.t2, x.t1, x.t4, x.t3, x.t6, x.t5, x.s2, x.s1, x.s3, x.w1, x.w2, fun r hr => let ⟨a, b, c⟩ := x.o1 r hr.symm; ⟨b, a, c⟩⟩
end
end
end K11
end
section
set_option Elab.async false
set_option linter.all false
set_option maxRecDepth 100000
set_option maxHeartbeats 4000000
namespace K11
open PySem L2 BK
section
variable {P : Program} {w : World} {K : PySem.W.Frag} {mg : Str → Option Value} {base : Heap} {f : Addr} {fd : FuncData} {a : Ad}
theorem refs_ne_ints {rs : List Addr} {row : List Int} (h : rs ≠ []) : (HO.lst (rs.map V.ref)) ≠ HO.lst (row.map V.int) := by
 intro z
 cases rs with
 | nil => exact h rfl
 | cons => cases row with
  | nil => cases z
  | cons => cases z
theorem offD_nil {H : Hp} {nr p : Addr} {m : Int} {ρ : Int → List Int} (h : Homes H nr m [] ρ) : OffD H nr p := fun kvs e k r hv z => by
 obtain ⟨j, hj, _⟩ := h.row e hv
 cases hj
theorem node_eight {n sz : Nat} {kind fr : Int} {B : List Int} (l8 : (eightL kind sz B fr).length = 8) : ((nodeRow n kind sz B fr).drop (n % 2 * 8)).take 8 = eightL kind sz B fr := by
 have lz : (zeros.take (8 * (n % 2))).length = n % 2 * 8 := by unfold zeros; rw [List.length_take, List.length_replicate]; omega
 unfold nodeRow
 rw [List.append_assoc, ← lz, List.drop_left, ← l8, List.take_left]
theorem near_ex (B : List Int) : ∃ a1 a2 a3 a4 : Int, nearL B = [a1, a2, a3, a4] ∧ [a1, a2, a3, a4].take B.length = B.take 4 := by
 match B with
 | [] => exact ⟨0, 0, 0, 0, rfl, rfl⟩
 | [x] => exact ⟨x, 0, 0, 0, rfl, rfl⟩
 | [x, y] => exact ⟨x, y, 0, 0, rfl, rfl⟩
 | [x, y, z] => exact ⟨x, y, z, 0, rfl, rfl⟩
 | x :: y :: z :: u :: r => exact ⟨x, y, z, u, by simp [nearL], by simp⟩
theorem eight_len {sz : Nat} {kind fr : Int} {B : List Int} : (eightL kind sz B fr).length = 8 := by
 obtain ⟨a1, a2, a3, a4, e, _⟩ := near_ex B
 unfold eightL; rw [e]; rfl
theorem blk_get {ws : List Int} {nb k r : Nat} (hr : r < 16) : (blkRow ws nb k).getD r 0 = (padL ws nb).getD (16 * k + r) 0 := by
 unfold blkRow
 rw [List.getD_eq_getElem?_getD, List.getElem?_take, if_pos hr, List.getElem?_drop, List.getD_eq_getElem?_getD]
theorem row_is {row ws : List Int} {nb k : Nat} (hl : row.length = 16) (hk : k < nb) (hw : ws.length ≤ 16 * nb) (h : ∀ r, r < 16 → row.getD r 0 = (padL ws nb).getD (16 * k + r) 0) : row = blkRow ws nb k := by
 have hb : (blkRow ws nb k).length = 16 := by
  unfold blkRow padL
  rw [List.length_take, List.length_drop, List.length_append, List.length_replicate]; omega
 apply List.ext_getElem (by omega)
 intro r h1 h2
 have e := h r (by omega)
 rw [← blk_get (by omega), List.getD_eq_getElem?_getD, List.getD_eq_getElem?_getD, List.getElem?_eq_getElem h1, List.getElem?_eq_getElem h2] at e
 exact e
theorem pad_get {ws : List Int} {nb i : Nat} : (padL ws nb).getD i 0 = if i < ws.length then ws.getD i 0 else 0 := by
 unfold padL
 rw [List.getD_eq_getElem?_getD]
 by_cases h : i < ws.length
 ·rw [if_pos h, List.getElem?_append_left h, List.getD_eq_getElem?_getD]
 ·rw [if_neg h, List.getElem?_append_right (by omega), List.getElem?_replicate]
  split <;> rfl
theorem rowQ_blk {m t : Int} {n : Nat} {kind fr : Int} {ws B : List Int} (g : Good m t) (hn : (n : Int) ≤ 2 * t - 1) (ld : Laid m t ws.length B fr) {k : Nat} (hk : k < B.length) : rowQ m n kind ws B fr (B[k]).toNat = blkRow ws B.length k := by
 have hi := ld.inn _ (List.getElem_mem hk)
 have hnn := nAt_lt g hn
 have h0 : ((B[k]).toNat : Int) = B[k] := by omega
 unfold rowQ
 rw [if_neg (by omega)]
 unfold rowF
 rw [if_neg (fun z => (ld.far z.1).2.2 (by rw [← z.2, h0]; exact List.getElem_mem hk))]
 unfold rowB
 rw [List.take_length, h0, if_pos (List.getElem_mem hk), List.Nodup.idxOf_getElem ld.nd]
theorem rowQ_off {m : Int} {n : Nat} {kind fr : Int} {ws ws' B : List Int} (hl : ws'.length = ws.length) {i : Nat} (hi : (i : Int) ∉ B) : rowQ m n kind ws B fr i = rowQ m n kind ws' B fr i := by
 unfold rowQ rowF rowB
 rw [hl, List.take_length, if_neg hi, if_neg hi]
def spLaw (K : PySem.W.Frag) : Sp := fun vs H Q _ => ∃ (p : Addr) (ns : List Int), vs = [.ref p] ∧ SqL K H p (ns.map V.int) ∧ ns.length ≤ 63 ∧ ∀ H', Q (.bl true) H'
abbrev spLawA (K : PySem.W.Frag) (_ : Ad) : Sp := spLaw K
theorem ok_law (F : Fun K "law" "law" s_law f fd) (T : Txt K mg a) (M_Layout___init__ : Mf P w K mg base (CXE P w) 2 a.fLayout_init ["self", "many", "tables"] (spLInit K a)) (D__law_laid : Df P w K mg base (CXE P w) 2 "_law_laid" ["_law_layout", "_law_script"] (spLaid K a)) (D__law_drawn : Df P w K mg base (CXE P w) 1 "_law_drawn" ["_law_cell", "_law_many"] (spDrawn K a)) (M_Disk___init__ : Mf P w K mg base (CXE P w) 2 a.fDisk_init ["self", "many"] (spInit K a)) (M_Batch___init__ : Mf P w K mg base (CXE P w) 1 a.fBatch_init ["self", "disk"] (spBInit K a)) (D__law_rows : Df P w K mg base (CXE P w) 1 "_law_rows" ["_law_layout", "_law_words", "_law_blocks", "_law_far", "_law_node", "_law_kind"] (spRowsQ K a)) (D__law_cell_at : Df P w K mg base CX0 1 "_law_cell_at" ["_law_script", "_law_k"] (spCell K a)) (M_Disk_write : Mf P w K mg base (CXE P w) 5 a.f_write ["self", "block", "row"] (spWrite K a)) (M_Layout_most_node : Mf P w K mg base CX0 1 a.f_most_node ["self"] (spMost K a)) (D__law_told : Df P w K mg base (CXE P w) 9 "_law_told" ["_law_batch", "_law_layout", "_law_node", "_law_words", "_law_cell"] (spTold K a)) (D__law_put : Df P w K mg base (CXE P w) 9 "_law_put" ["_law_batch", "_law_layout", "_law_node", "_law_words", "_law_cell", "_law_turn"] (spPut K a)) (D__law_numbers : Df P w K mg base (CXE P w) 2 "_law_numbers" ["_law_found", "_law_due"] (spNumbers K a)) (D_words_of : Df P w K mg base (CXE P w) 7 "words_of" ["batch", "layout", "node", "begin", "count"] (spWordsOf K a)) (M_Batch_read : Mf P w K mg base (CXE P w) 4 a.f_Batch_read ["self", "block"] (spBRead K a)) (D_blocks_of : Df P w K mg base (CXE P w) 6 "blocks_of" ["batch", "layout", "node"] (spBlocksOf K a)) (D_used_by : Df P w K mg base (CXE P w) 7 "used_by" ["batch", "layout", "node"] (spUsedBy K a)) : FnOk P w K mg base (CXE P w) 10 f fd ["_law_script"] (spLawA K a) := by
 obtain ⟨_, GLayout_init, bLayout_init⟩ := M_Layout___init__
 obtain ⟨_, _, Gl_laid, bl_laid, kl_laid, ml_laid⟩ := D__law_laid
 obtain ⟨_, _, Gl_drawn, bl_drawn, kl_drawn, ml_drawn⟩ := D__law_drawn
 obtain ⟨_, GDisk_init, bDisk_init⟩ := M_Disk___init__
 obtain ⟨_, GBatch_init, bBatch_init⟩ := M_Batch___init__
 obtain ⟨_, _, Gl_rows, bl_rows, kl_rows, ml_rows⟩ := D__law_rows
 obtain ⟨_, _, Gl_cell_at, bl_cell_at, kl_cell_at, ml_cell_at⟩ := D__law_cell_at
 obtain ⟨_, G_write, b_write⟩ := M_Disk_write
 obtain ⟨_, G_most_node, b_most_node⟩ := M_Layout_most_node
 obtain ⟨_, _, Gl_told, bl_told, kl_told, ml_told⟩ := D__law_told
 obtain ⟨_, _, Gl_put, bl_put, kl_put, ml_put⟩ := D__law_put
 obtain ⟨_, _, Gl_numbers, bl_numbers, kl_numbers, ml_numbers⟩ := D__law_numbers
 obtain ⟨_, _, Gwords_of, bwords_of, kwords_of, mwords_of⟩ := D_words_of
 obtain ⟨_, G_Batch_read, b_Batch_read⟩ := M_Batch_read
 obtain ⟨_, _, Gblocks_of, bblocks_of, kblocks_of, mblocks_of⟩ := D_blocks_of
 obtain ⟨_, _, Gused_by, bused_by, kused_by, mused_by⟩ := D_used_by
 have nd := sc_law.nd
 refine F.okE sc_law (fun vs H Q E h => ?_) (fun cdv A outer s H vs Q E hr hA h => ?_)
 ·obtain ⟨sc, ns, rfl, _⟩ := h
  rfl
 obtain ⟨sc, ns, rfl, hS, h63, q⟩ := h
 refine ⟨_, (pss_cons (ps_set (i := 1) nd rfl (by first | exact Or.inl rfl | exact Or.inr rfl) (pe_make T.mkLayout GLayout_init (hr.mono (by decide)) rfl T.mLayout bLayout_init .nil (passes_fn (fun _ _ _ h => h)) (pa_cons (pe_op op_add pe_int (pe_op op_mod (pe_call Gl_cell_at (hr.mono (by decide)) rfl ml_cell_at kl_cell_at bl_cell_at .nil pass0 (pa_cons (pv 0) (pa_cons pe_int pa_nil))) pe_int)) (pa_cons (pe_op op_add pe_int (pe_op op_mod (pe_call Gl_cell_at (hr.mono (by decide)) rfl ml_cell_at kl_cell_at bl_cell_at .nil pass0 (pa_cons (pv 0) (pa_cons pe_int pa_nil))) pe_int)) pa_nil)) (hcm := (.inr hA))))
  (pss_cons (ps_set (i := 2) nd rfl (by first | exact Or.inl rfl | exact Or.inr rfl) (pe_op op_add pe_int (pe_op op_mod (pe_op op_fdiv (pe_call Gl_cell_at (hr.mono (by decide)) rfl ml_cell_at kl_cell_at bl_cell_at .nil pass0 (pa_cons (pv 0) (pa_cons pe_int pa_nil))) pe_int) (pe_meth0 (pv 1) T.clLayout T.m_most_node G_most_node (hr.mono (by decide)) b_most_node .nil pass0))))
  (pss_cons (ps_set (i := 3) nd rfl (by first | exact Or.inl rfl | exact Or.inr rfl) (pe_op op_add pe_int (pe_op op_mod (pe_op op_fdiv (pe_call Gl_cell_at (hr.mono (by decide)) rfl ml_cell_at kl_cell_at bl_cell_at .nil pass0 (pa_cons (pv 0) (pa_cons pe_int pa_nil))) pe_int) pe_int)))
  (pss_cons (ps_asg (pe_call Gl_laid (hr.mono (by decide)) rfl ml_laid kl_laid bl_laid .nil (passes_fn (fun _ _ _ h => h)) (pa_cons (pv 1) (pa_cons (pv 0) pa_nil)) (hcm := (.inr hA))) (pg_tup hA (pgs_cons (pg_name (i := 4) nd rfl (by first | exact Or.inl rfl | exact Or.inr rfl)) (pgs_cons (pg_name (i := 5) nd rfl (by first | exact Or.inl rfl | exact Or.inr rfl)) (pgs_cons (pg_name (i := 6) nd rfl (by first | exact Or.inl rfl | exact Or.inr rfl)) pgs_nil)))))
  (pss_cons (ps_set (i := 7) nd rfl (by first | exact Or.inl rfl | exact Or.inr rfl) (pe_call Gl_drawn (hr.mono (by decide)) rfl ml_drawn kl_drawn bl_drawn .nil (passes_fn (fun _ _ _ h => h)) (pa_cons (pe_call Gl_cell_at (hr.mono (by decide)) rfl ml_cell_at kl_cell_at bl_cell_at .nil pass0 (pa_cons (pv 0) (pa_cons pe_int pa_nil))) (pa_cons (pv 4) pa_nil)) (hcm := (.inr hA))))
  (pss_cons (ps_set (i := 8) nd rfl (by first | exact Or.inl rfl | exact Or.inr rfl) (pe_make T.mkDisk GDisk_init (hr.mono (by decide)) rfl T.mDisk bDisk_init .nil (passes_fn (fun _ _ _ h => h)) (pa_cons (pe_fldK (K := K) rfl (pv 1) rfl) pa_nil) (hcm := (.inr hA))))
  (pss_cons (ps_for PassesOwn.leaving rfl (pi_enum rfl T.enumerate (pa_cons (pe_call Gl_rows (hr.mono (by decide)) rfl ml_rows kl_rows bl_rows .nil (passes_fn (fun _ _ _ h => h)) (pa_cons (pv 1) (pa_cons (pv 7) (pa_cons (pv 5) (pa_cons (pv 6) (pa_cons (pv 2) (pa_cons (pv 3) pa_nil)))))) (hcm := (.inr hA))) pa_nil)) (pg_tup hA (pgs_cons (pg_name (i := 9) nd rfl (by first | exact Or.inl rfl | exact Or.inr rfl)) (pgs_cons (pg_name (i := 10) nd rfl (by first | exact Or.inl rfl | exact Or.inr rfl)) pgs_nil))) (pss_one (ps_expr (pe_meth (pv 8) T.clDisk T.m_write G_write (hr.mono (by decide)) b_write .nil (passes_fn (fun _ _ _ h => h)) (pa_cons (pv 9) (pa_cons (pv 10) pa_nil)) (hcm := (.inr hA))))))
  (pss_cons (ps_set (i := 11) nd rfl (by first | exact Or.inl rfl | exact Or.inr rfl) (pe_make T.mkBatch GBatch_init (hr.mono (by decide)) rfl T.mBatch bBatch_init .nil (passes_fn (fun _ _ _ h => h)) (pa_cons (pv 8) pa_nil) (hcm := (.inr hA))))
  (pss_cons (ps_set (i := 12) nd rfl (by first | exact Or.inl rfl | exact Or.inr rfl) (pe_op op_cat (pe_op op_cat (pe_slice (sl_listK (K := K) rfl) (pv 5) po_none (po_some pe_int)) (pe_op op_rep (pe_lst (pa_cons (pv 6) pa_nil)) (pe_callTy call_int1 rfl T.int bt_int (pa_cons (pe_cmpR op_gt (pv 6) pe_int (nomark _)) pa_nil)))) (pe_slice (sl_listK (K := K) rfl) (pv 5) (po_some pe_int) po_none)))
  (pss_cons (ps_set (i := 13) nd rfl (by first | exact Or.inl rfl | exact Or.inr rfl) (pe_lst pa_nil))
  (pss_cons (ps_set (i := 14) nd rfl (by first | exact Or.inl rfl | exact Or.inr rfl) (pe_lst pa_nil))
  (pss_cons (ps_for PassesOwn.leaving rfl (pi_enum rfl T.enumerate (pa_cons (pe_slice (sl_listK (K := K) rfl) (pv 0) (po_some pe_int) (po_some pe_int)) pa_nil)) (pg_tup hA (pgs_cons (pg_name (i := 15) nd rfl (by first | exact Or.inl rfl | exact Or.inr rfl)) (pgs_cons (pg_name (i := 16) nd rfl (by first | exact Or.inl rfl | exact Or.inr rfl)) pgs_nil))) (pss_cons (ps_if (pt_not (pt_val (pe_call Gl_told (hr.mono (by decide)) rfl ml_told kl_told bl_told .nil (passes_fn (fun _ _ _ h => h)) (pa_cons (pv 11) (pa_cons (pv 1) (pa_cons (pv 2) (pa_cons (pv 7) (pa_cons (pv 16) pa_nil))))) (hcm := (.inr hA))))) (pss_one (ps_ret pe_bl)) pss_nil)
  (pss_cons (ps_if (pt_not (pt_val (pe_call Gl_put (hr.mono (by decide)) rfl ml_put kl_put bl_put .nil (passes_fn (fun _ _ _ h => h)) (pa_cons (pv 11) (pa_cons (pv 1) (pa_cons (pv 2) (pa_cons (pv 7) (pa_cons (pv 16) (pa_cons (pv 15) pa_nil)))))) (hcm := (.inr hA))))) (pss_one (ps_ret pe_bl)) pss_nil)
  (pss_cons (ps_for PassesOwn.leaving rfl (pi_listK (K := K) rfl (pe_lst (pa_cons (pv 16) (pa_cons (pe_op op_fdiv (pv 16) pe_int) pa_nil)))) (pg_name (i := 17) nd rfl (by first | exact Or.inl rfl | exact Or.inr rfl)) (pss_one (ps_if (pt_not (pt_val (pe_call Gl_told (hr.mono (by decide)) rfl ml_told kl_told bl_told .nil (passes_fn (fun _ _ _ h => h)) (pa_cons (pv 11) (pa_cons (pv 1) (pa_cons (pv 2) (pa_cons (pv 7) (pa_cons (pv 17) pa_nil))))) (hcm := (.inr hA))))) (pss_one (ps_ret pe_bl)) pss_nil)))
  (pss_cons (ps_if (pt_not (pt_val (pe_call Gl_numbers (hr.mono (by decide)) rfl ml_numbers kl_numbers bl_numbers .nil (passes_fn (fun _ _ _ h => h)) (pa_cons (pe_call Gblocks_of (hr.mono (by decide)) rfl mblocks_of kblocks_of bblocks_of .nil (passes_fn (fun _ _ _ h => h)) (pa_cons (pv 11) (pa_cons (pv 1) (pa_cons (pv 2) pa_nil))) (hcm := (.inr hA))) (pa_cons (pv 5) pa_nil)) (hcm := (.inr hA))))) (pss_one (ps_ret pe_bl)) pss_nil)
  (pss_cons (ps_if (pt_not (pt_val (pe_call Gl_numbers (hr.mono (by decide)) rfl ml_numbers kl_numbers bl_numbers .nil (passes_fn (fun _ _ _ h => h)) (pa_cons (pe_call Gused_by (hr.mono (by decide)) rfl mused_by kused_by bused_by .nil (passes_fn (fun _ _ _ h => h)) (pa_cons (pv 11) (pa_cons (pv 1) (pa_cons (pv 2) pa_nil))) (hcm := (.inr hA))) (pa_cons (pv 12) pa_nil)) (hcm := (.inr hA))))) (pss_one (ps_ret pe_bl)) pss_nil)
  (pss_cons (ps_expr (pe_bmK (K := K) rfl PySem.F.plainAttrs_list PySem.F.slot_list_append PySem.F.type_list_append mt_append (pv 13) (pa_cons (pe_call Gwords_of (hr.mono (by decide)) rfl mwords_of kwords_of bwords_of .nil (passes_fn (fun _ _ _ h => h)) (pa_cons (pv 11) (pa_cons (pv 1) (pa_cons (pv 2) (pa_cons pe_int (pa_cons (pv 4) pa_nil))))) (hcm := (.inr hA))) pa_nil)))
  (pss_cons (ps_expr (pe_bmK (K := K) rfl PySem.F.plainAttrs_list PySem.F.slot_list_append PySem.F.type_list_append mt_append (pv 13) (pa_cons (pe_call Gwords_of (hr.mono (by decide)) rfl mwords_of kwords_of bwords_of .nil (passes_fn (fun _ _ _ h => h)) (pa_cons (pv 11) (pa_cons (pv 1) (pa_cons (pv 2) (pa_cons (pe_op op_fdiv (pv 4) pe_int) (pa_cons (pe_op op_sub (pv 4) (pe_op op_fdiv (pv 4) pe_int)) pa_nil))))) (hcm := (.inr hA))) pa_nil)))
  (pss_cons (ps_expr (pe_bmK (K := K) rfl PySem.F.plainAttrs_list PySem.F.slot_list_extend PySem.F.type_list_extend mt_extend (pv 13) (pa_cons (pe_lst (pa_cons (pe_call Gblocks_of (hr.mono (by decide)) rfl mblocks_of kblocks_of bblocks_of .nil (passes_fn (fun _ _ _ h => h)) (pa_cons (pv 11) (pa_cons (pv 1) (pa_cons (pv 2) pa_nil))) (hcm := (.inr hA))) (pa_cons (pe_call Gused_by (hr.mono (by decide)) rfl mused_by kused_by bused_by .nil (passes_fn (fun _ _ _ h => h)) (pa_cons (pv 11) (pa_cons (pv 1) (pa_cons (pv 2) pa_nil))) (hcm := (.inr hA))) pa_nil))) pa_nil)))
  (pss_one (ps_expr (pe_bmK (K := K) rfl PySem.F.plainAttrs_list PySem.F.slot_list_extend PySem.F.type_list_extend mt_extend (pv 14) (pa_cons (pe_lst (pa_cons (pe_callTy (call_listK (K := K) rfl) rfl T.list bt_list (pa_cons (pv 7) pa_nil)) (pa_cons (pe_slice (sl_listK (K := K) rfl) (pv 7) (po_some (pe_op op_fdiv (pv 4) pe_int)) po_none) (pa_cons (pe_callTy (call_listK (K := K) rfl) rfl T.list bt_list (pa_cons (pv 5) pa_nil)) (pa_cons (pe_callTy (call_listK (K := K) rfl) rfl T.list bt_list (pa_cons (pv 12) pa_nil)) pa_nil))))) pa_nil)))))))))))))
  (pss_cons (ps_if (pt_cmpR (op_neDK (K := K) rfl hr.units) (pv 13) (pv 14) (nomark _)) (pss_one (ps_ret pe_bl)) pss_nil)
  (pss_cons (ps_set (i := 18) nd rfl (by first | exact Or.inl rfl | exact Or.inr rfl) (pe_call Gl_rows (hr.mono (by decide)) rfl ml_rows kl_rows bl_rows .nil (passes_fn (fun _ _ _ h => h)) (pa_cons (pv 1) (pa_cons (pv 7) (pa_cons (pv 5) (pa_cons (pv 6) (pa_cons (pv 2) (pa_cons (pv 3) pa_nil)))))) (hcm := (.inr hA))))
  (pss_one (ps_ret (pe_cmpR (op_eqDK (K := K) rfl hr.units) (pe_lc (cl := [("_law_batch", s.heap.objs.size + 1)]) (fj := [("_law_batch", 11)]) (by exact LcOk.of ["_law_batch"] rfl (by decide +kernel) rfl (by decide +kernel) rfl (fun p h => (by rw [List.mem_singleton.mp h]; rfl)) rfl (by decide +kernel) (fun p h => (by rw [List.mem_singleton.mp h]; exact ⟨rfl, rfl, .inl rfl⟩)) (by decide +kernel)) rfl (pi_range1 rfl T.range (pa_cons (pe_fldK (K := K) rfl (pv 1) rfl) pa_nil)) (fun _ _ _ => pf_nil) (fun _ _ _ => (pe_meth (pv 1) T.clBatch T.m_Batch_read G_Batch_read (hr.mono (by decide)) b_Batch_read .nil passesE0 (pa_cons (pv 0) pa_nil) (hcm := (.inr hA))))) (pv 18) (nomark _)))))))))))))))))), ?_⟩
 obtain ⟨m, em⟩ : ∃ m : Nat, 24 + cell ns 0 % 73 = (m : Int) := ⟨(24 + cell ns 0 % 73).toNat, by omega⟩
 have hm1 : 24 ≤ m := by omega
 have hm2 : m ≤ 96 := by omega
 obtain ⟨t, et, ht1, ht2⟩ : ∃ t : Int, 1 + cell ns 1 % 4 = t ∧ 1 ≤ t ∧ t ≤ 4 := ⟨_, rfl, by omega, by omega⟩
 refine ⟨_, rfl, sc, ns, 0, rfl, hS, by decide, _, _, rfl, rfl, (by show (0 : Int) < 73; decide), _, _, rfl, rfl, _, rfl, sc, ns, 1, rfl, hS, by decide, _, _, rfl, rfl, (by show (0 : Int) < 4; decide), _, _, rfl, rfl, fun y yx ny nyx ney => ?_⟩
 dsimp (config := { proj := false, iota := false, eta := false, zeta := false }) only
 rw [em, et]
 clear em et
 have hd : dataAt m t < m := by unfold dataAt nodesAt; omega
 have g : Good m t := ⟨by omega, by omega, ht1, by omega, hd⟩
 have hd24 : 20 ≤ dataAt m t := by unfold dataAt nodesAt; omega
 refine ⟨y, yx, _, _, rfl, upd_same, .int _, .int _, .inr ⟨m, t, rfl, rfl, by omega, by omega, ht1, by omega, fun z => absurd z (by omega), fun _ Hy cy L => ⟨rfl, ?_⟩⟩⟩
 have sy0 : Same H (upd (upd H yx (.own y)) y (.ins a.cLayout yx [])) := fun b o e => by
  rw [upd_ne (ne_of_none e ny), upd_ne (ne_of_none e nyx)]
  exact e
 have sy : Same H Hy := chg_same' sy0 cy (by simp [ny])
 obtain ⟨yx0, hy0⟩ := id L
 obtain ⟨n, en, hn1, hn2⟩ : ∃ n : Nat, 1 + cell ns 1 / 4 % (2 * t - 1) = (n : Int) ∧ 1 ≤ n ∧ (n : Int) ≤ 2 * t - 1 := by
  have h1 := Int.emod_nonneg (cell ns 1 / 4) (show 2 * t - 1 ≠ 0 by omega)
  have h2 := Int.emod_lt_of_pos (cell ns 1 / 4) (show 0 < 2 * t - 1 by omega)
  exact ⟨(1 + cell ns 1 / 4 % (2 * t - 1)).toNat, by omega, by omega, by omega⟩
 refine ⟨_, rfl, sc, ns, 1, rfl, sy.seq hS, by decide, _, _, rfl, rfl, ⟨by decide, by decide⟩, _, rfl, y, yx0, _, rfl, hy0, rfl, y, m, t, rfl, L, _, _, rfl, rfl, (by show (0 : Int) < 2 * t - 1; omega), _, _, rfl, rfl, ?_⟩
 dsimp (config := { proj := false, iota := false, eta := false, zeta := false }) only
 rw [en]
 clear en
 obtain ⟨kind, ek, hk1, hk2⟩ : ∃ kind : Int, 1 + cell ns 1 / 64 % 2 = kind ∧ 1 ≤ kind ∧ kind ≤ 2 := ⟨_, rfl, by omega, by omega⟩
 refine ⟨_, rfl, sc, ns, 1, rfl, sy.seq hS, by decide, _, _, rfl, rfl, ⟨by decide, by decide⟩, _, _, rfl, rfl, (by show (0 : Int) < 2; decide), _, _, rfl, rfl, ?_⟩
 dsimp (config := { proj := false, iota := false, eta := false, zeta := false }) only
 rw [ek]
 clear ek
 refine ⟨_, rfl, _, rfl, y, sc, m, t, ns, rfl, L, g, sy.seq hS, fun tp bl sz B fr H2 nbl s2 htp hbl ld => ⟨_, _, rfl, SqT.of htp, rfl, _, _, rfl, _, _, rfl, _, _, rfl, rfl, ?_⟩⟩
 clear htp tp
 have sy2 := sy.trans s2
 have few := ld.few
 refine ⟨_, rfl, sc, ns, 4, rfl, sy2.seq hS, by decide, _, rfl, _, sz, rfl, by omega, fun wl H3 nwl s3 hwl => ?_⟩
 have hdl := drawn_len (c := cell ns 4) (k := sz)
 have hdg := drawn_good (c := cell ns 4) (k := sz)
 generalize drawnL (cell ns 4) sz = ws at hwl hdl hdg
 subst hdl
 have hbl3 := s3 _ _ hbl
 have sy3 := sy2.trans s3
 have L3 := (L.same s2).same s3
 obtain ⟨yx3, hy3⟩ := id L3
 have nbw : bl ≠ wl := ne_of_none hbl nwl
 refine ⟨_, rfl, y, a.cLayout, yx3, _, _, rfl, hy3, T.clLayout, T.n_many, rfl, fun d dx nd' ndx nex => ⟨d, dx, _, rfl, upd_same, .int _, .inl ⟨m, rfl, by omega, by omega, fun kr H4 nkr c4 D4 NR4 => ⟨rfl, ?_⟩⟩⟩⟩
 have s30 : Same H3 (upd (upd H3 dx (.own d)) d (.ins a.cDisk dx [])) := fun b o e => by
  rw [upd_ne (ne_of_none e nd'), upd_ne (ne_of_none e ndx)]
  exact e
 have s4 : Same H3 H4 := chg_same' s30 c4 (by simp [nd'])
 have nkr3 : H3 kr = none := s30.free nkr
 have nrw4 : NoRowAt H4 kr wl := NR4 wl (by rw [s30 _ _ hwl]; simp)
 have wk : wl ≠ kr := ne_of_none hwl nkr3
 clear NR4
 have L4 := L3.same s4
 refine ⟨_, rfl, _, rfl, _, rfl, _, rfl, _, rfl, _, rfl, y, wl, bl, m, t, n, B, ws, fr, kind, rfl, L4, g, s4 _ _ hwl, s4 _ _ hbl3, ld, hn2, fun rp rs H5 nrp s5 hrp hR => ?_⟩
 have s35 := s4.trans s5
 have D5 := D4.same s5
 obtain ⟨_, krs, dd1, dd2, ddR⟩ := D4.ex
 have hkrs : krs ≠ [] := fun z => by have := ddR.1; rw [z] at this; simp at this; omega
 have npk : rp ≠ kr := fun z => by rw [z, dd2] at nrp; cases nrp
 have hlr : rs.length = m := by rw [hR.1]; simp
 have nrw5 := nrw4.chg D4 (Chg.of s5 (S := [])) (by simp)
 refine ⟨rp, rfl, ⟨_, SqL.of hrp⟩, for_enum (xs := rs.map V.ref) (fun i σ' H' => ∃ (S : DS) (o9 o10 : Option V), σ' = [some (.ref sc), some (.ref y), some (.int n), some (.int kind), some (.int ws.length), some (.ref bl), some (.int fr), some (.ref wl), some (.ref d), o9, o10, none, none, none, none, none, none, none, none] ∧ Chg [d, kr] H5 H' ∧ Same H3 H' ∧ DkAt a.cDisk H' d kr S ∧ S.R.length = m ∧ S.l = none ∧ NoRowAt H' kr wl ∧ ∀ j, j < i → S.R[j]? = some (rowQ m n kind ws B fr j))
  ⟨⟨List.replicate m (List.replicate 16 0), 0, none⟩, none, none, rfl, Chg.of (Same.refl _), s35, D5, by simp, rfl, nrw5, fun j hj => absurd hj (by omega)⟩ (fun i σ' H' _ ⟨_, _, _, _, c, _⟩ => SqL.of (c _ _ hrp (by
   simp only [List.mem_cons, List.not_mem_nil, or_false, not_or]
   exact ⟨ne_of hrp (s5 _ _ dd1) (fun z => by cases z), npk⟩))) ?_ ?_⟩
 ·rintro i v σ' H' tp hv ⟨S, o9, o10, rfl, c, sH, D, hSl, hl, nrw, hq⟩ ntp
  obtain ⟨hi, ev⟩ := List.getElem?_eq_some_iff.mp hv
  rw [List.length_map] at hi
  rw [List.getElem_map] at ev
  subst ev
  have er0 := hR.2 i _ _ (List.getElem?_eq_getElem hi) (map_at _ i _ (by omega))
  have gr := rowQ_good (n := n) (kind := kind) ld g hk1 hk2 hdg i
  have er := c _ _ er0 (by
   simp only [List.mem_cons, List.not_mem_nil, or_false, not_or]
   exact ⟨ne_of er0 (s5 _ _ dd1) (fun z => by cases z), fun z => by rw [z, s5 _ _ dd2] at er0; exact refs_ne_ints hkrs (Option.some.inj er0)⟩)
  have wT := same_new ntp (.tup [.int i, .ref rs[i]])
  refine ⟨_, _, rfl, SqT.of upd_same, rfl, _, _, rfl, _, _, rfl, rfl, ?_⟩
  have D1 := D.same wT
  have er2 := wT _ _ er
  have nrw1 := nrw.chg D (Chg.of wT (S := [])) (by simp)
  have hw1 := (sH.trans wT) _ _ hwl
  generalize upd H' tp (.tup [.int i, .ref rs[i]]) = H1 at wT D1 er2 nrw1 hw1 ⊢
  obtain ⟨dy, d1⟩ := D1.at
  refine ⟨_, rfl, d, dy, _, rfl, d1, rfl, _, rfl, _, rfl, ?_⟩
  have hns : ¬ S.stop = true := by unfold DS.stop; rw [hl]; decide
  refine write_one (b := i) D1 (by omega) er2 gr (fun z => absurd z hns) (fun _ H6 c6 D6 NR6 => ?_)
  refine ⟨S.put (i, rowQ m n kind ws B fr i), _, _, rfl, (c.trans (Chg.of wT)).trans c6, chg_same' (sH.trans wT) c6 (by simp [nd', nkr3]), D6, by rw [put_len]; exact hSl, by show S.l.map _ = none; rw [hl]; rfl, NR6 wl (by rw [hw1]; simp) nrw1, fun j hj => ?_⟩
  show (S.R.set i _)[j]? = _
  rw [List.getElem?_set]
  by_cases e : i = j
  ·rw [if_pos e, if_pos (by omega), e]
  ·rw [if_neg e]; exact hq j (by omega)
 rintro σ' H6 ⟨S, o9, o10, rfl, c6, s36, D6, hSl, hl, nrw6, hq⟩
 rw [List.length_map, hlr] at hq
 clear D5 D4 nrw4 nrw5 dd1 dd2 ddR hkrs npk hR hrp c6 s5 nrp hlr s35
 have L6 := L3.same s36
 have hbl6 := s36 _ _ hbl3
 have hwl6 := s36 _ _ hwl
 refine ⟨_, rfl, fun b bx nb nbx nebx => ⟨b, bx, d, rfl, upd_same, fun nr H7 nnr c7 B7 => ⟨rfl, ?_⟩⟩⟩
 have s7a : Same H6 (upd (upd H6 bx (.own b)) b (.ins a.cBatch bx [])) := fun u o e => by
  rw [upd_ne (ne_of_none e nb), upd_ne (ne_of_none e nbx)]
  exact e
 have s7 : Same H6 H7 := chg_same' s7a c7 (by simp [nb])
 have hlen : (S.R.length : Int) = (m : Int) := by omega
 have X7 : Mp a H7 b d kr nr y S [] (fun _ => []) m t := ⟨B7 _ _, D6.same s7, L6.same s7, g, hlen, by decide⟩
 have nrw7 := nrw6.chg D6 (Chg.of s7 (S := [])) (by simp)
 have hbl7 := s7 _ _ hbl6
 have hwl7 := s7 _ _ hwl6
 have sy7 := (sy3.trans s36).trans s7
 clear c7 s7a B7 D6 L6 nrw6
 have seen0 : ∀ j : Nat, j < m → seen S.R [] (fun _ => []) (.int j) = some (rowQ m n kind ws B fr j) := fun j hj => by
  rw [seen_at (by omega), if_neg (by simp)]
  have := hq j hj
  rw [List.getElem?_eq_getElem (by omega)] at this
  exact this
 have hnn := nAt_lt g hn2
 have hBl := ld.len
 have wat : ∀ i, i < 16 * B.length → wAt S.R [] (fun _ => []) B i = (padL ws B.length).getD i 0 := fun i hi => by
  have hk : i / 16 < B.length := by omega
  have eB : B.getD (i / 16) 0 = B[i / 16] := by rw [List.getD_eq_getElem?_getD, List.getElem?_eq_getElem hk]; rfl
  have hz := ld.inn _ (List.getElem_mem hk)
  have h0 : (((B[i / 16]).toNat : Nat) : Int) = B[i / 16] := by omega
  unfold wAt
  rw [eB, ← h0, seen0 _ (by omega), rowQ_blk g hn2 ld hk]
  show (blkRow ws B.length (i / 16)).getD (i % 16) 0 = _
  rw [blk_get (by omega), show 16 * (i / 16) + i % 16 = i by omega]
 have N7 : Nd a H7 b d kr nr y wl S [] (fun _ => []) m t n B fr ws := by
  refine ⟨X7, ⟨hn1, hn2, ?_, ld.len, ld.few, fun h4 => ?_⟩, fun z hz => by have := ld.inn z hz; omega, ld.nd, ld, hwl7, ?_, offD_nil X7.bat.ho, nrw7, wk, fun x hx => (by cases hx), hdg, fun i h1 h2 => ?_⟩
  ·obtain ⟨a1, a2, a3, a4, e, e2⟩ := near_ex B
   refine ⟨kind, 1, a1, a2, a3, a4, ?_, e2⟩
   have e3 : rowQ m n kind ws B fr (nAt m n) = nodeRow n kind ws.length B fr := by unfold rowQ; rw [if_pos rfl]
   unfold nodeW
   rw [seen0 _ (by omega), e3]
   show ((nodeRow n kind ws.length B fr).drop (n % 2 * 8)).take 8 = _
   rw [node_eight eight_len]
   unfold eightL
   rw [e]; rfl
  ·obtain ⟨f1, f2, f3⟩ := ld.far h4
   have h0 : ((fr.toNat : Nat) : Int) = fr := by omega
   refine ⟨_, by rw [← h0]; exact seen0 _ (by omega), ?_⟩
   have e3 : rowQ m n kind ws B fr fr.toNat = farRow B := by
    unfold rowQ
    rw [if_neg (by omega)]
    unfold rowF
    rw [if_pos ⟨h4, h0⟩]
   rw [e3]
   unfold farRow
   rw [List.take_append_of_le_length (by rw [List.length_drop]; exact Nat.le_refl _), List.take_of_length_le (by rw [List.length_drop]; exact Nat.le_refl _)]
  ·apply List.ext_getElem?
   intro i
   unfold wordsW
   rw [List.getElem?_map]
   by_cases hi : i < ws.length
   ·rw [List.getElem?_range hi]
    show some (wAt S.R [] (fun _ => []) B (0 + i)) = _
    rw [Nat.zero_add, wat i (by omega), pad_get, if_pos hi, List.getD_eq_getElem?_getD, List.getElem?_eq_getElem hi]; rfl
   ·rw [List.getElem?_eq_none (by simpa using hi), List.getElem?_eq_none (by omega)]; rfl
  ·rw [wat i h2, pad_get, if_neg (by omega)]
 clear seen0 hnn
 obtain ⟨kf, ekf, hkf, hus⟩ : ∃ kf : Nat, (if decide ((0 : Int) < fr) = true then (1 : Int) else 0) = (kf : Int) ∧ kf ≤ 1 ∧ B.take 4 ++ List.replicate kf fr ++ B.drop 4 = usedL B fr := by
  unfold usedL
  by_cases h4 : 4 < B.length
  ·have := ld.far h4
   refine ⟨1, by rw [decide_eq_true (by omega), if_pos rfl]; rfl, by omega, ?_⟩
   rw [if_neg (by omega)]; rfl
  ·refine ⟨0, by rw [ld.near (by omega)]; rfl, by omega, ?_⟩
   rw [if_pos (by omega), List.replicate_zero, List.append_nil, List.take_append_drop]
 have hB20 : B.length ≤ 20 := by omega
 refine ⟨_, rfl, _, rfl, bl, _, rfl, SqL.of hbl7, fun x1 k1 => ?_⟩
 rw [show cutV (B.map V.int) none (some (4 : Int)) = (B.take 4).map V.int by rw [show (4 : Int) = ((4 : Nat) : Int) from rfl, cut_to, List.map_take]]
 have u1 := same_new k1 (.lst ((B.take 4).map V.int))
 refine ⟨_, rfl, (by show 1 ≤ sizeLine; decide), fun x2 k2 => ?_⟩
 have u2' := same_new k2 (.lst [.int fr])
 refine ⟨_, rfl, _, _, rfl, rfl, .inr ⟨_, rfl, ?_⟩⟩
 rw [ekf]
 refine ⟨x2, kf, [.int fr], rfl, rfl, upd_same, by omega, by omega, (by show 1 * (kf : Int).toNat ≤ sizeLine; exact small (n := 1 * (kf : Int).toNat) (by omega)), fun x3 k3 => ?_⟩
 rw [Int.toNat_natCast, flat_1]
 have u23 := u2'.trans (same_new k3 (.lst ((List.replicate kf fr).map V.int)))
 refine ⟨x1, x3, _, _, rfl, rfl, u23 _ _ upd_same, upd_same, small (by simp; omega), fun x4 k4 => ?_⟩
 rw [← List.map_append]
 have u4 := (u1.trans u23).trans (same_new k4 (.lst ((B.take 4 ++ List.replicate kf fr).map V.int)))
 refine ⟨_, rfl, _, rfl, bl, _, rfl, SqL.of (u4 _ _ hbl7), fun x5 k5 => ?_⟩
 rw [show cutV (B.map V.int) (some (4 : Int)) none = (B.drop 4).map V.int by rw [show (4 : Int) = ((4 : Nat) : Int) from rfl, cut_from, List.map_drop]]
 have u5' := same_new k5 (.lst ((B.drop 4).map V.int))
 refine ⟨x4, x5, _, _, rfl, rfl, u5' _ _ upd_same, upd_same, small (by simp; omega), fun ul k6 => ?_⟩
 rw [← List.map_append, hus]
 have u6 := (u4.trans u5').trans (same_new k6 (.lst ((usedL B fr).map V.int)))
 have hul := upd_same (H := upd (upd (upd (upd (upd H7 x1 (.lst ((B.take 4).map V.int))) x2 (.lst [.int fr])) x3 (.lst ((List.replicate kf fr).map V.int))) x4 (.lst ((B.take 4 ++ List.replicate kf fr).map V.int))) x5 (.lst ((B.drop 4).map V.int))) (a := ul) (o := .lst ((usedL B fr).map V.int))
 have nul : H7 ul = none := (u4.trans u5').free k6
 generalize upd (upd (upd (upd (upd (upd H7 x1 (.lst ((B.take 4).map V.int))) x2 (.lst [.int fr])) x3 (.lst ((List.replicate kf fr).map V.int))) x4 (.lst ((B.take 4 ++ List.replicate kf fr).map V.int))) x5 (.lst ((B.drop 4).map V.int))) ul (.lst ((usedL B fr).map V.int)) = H8 at u6 hul ⊢
 clear u5' u4 u23 u2' u1 k1 k2 k3 k4 k5 k6 ekf hkf hus
 have hbl8 := u6 _ _ hbl7
 have N8 := N7.same u6
 obtain ⟨_, _, _, ekr8, _⟩ := N8.mp.dk.ex
 refine ⟨(by show 0 ≤ sizeLine; decide), fun tl ntl => ?_⟩
 have w9 := same_new ntl (.lst (([] : List Addr).map V.ref))
 have htl := upd_same (H := H8) (a := tl) (o := .lst (([] : List Addr).map V.ref))
 refine ⟨(by show 0 ≤ sizeLine; decide), fun cl ncl => ?_⟩
 have w10 := same_new ncl (.lst (([] : List Addr).map V.ref))
 have hcl := upd_same (H := upd H8 tl (.lst (([] : List Addr).map V.ref))) (a := cl) (o := .lst (([] : List Addr).map V.ref))
 have ntc : tl ≠ cl := ne_of_none htl ncl
 have htl10 : (upd (upd H8 tl (.lst (([] : List Addr).map V.ref))) cl (.lst (([] : List Addr).map V.ref))) tl = some (.lst (([] : List Addr).map V.ref)) := w10 _ _ htl
 have s10 : Same H8 (upd (upd H8 tl (.lst (([] : List Addr).map V.ref))) cl (.lst (([] : List Addr).map V.ref))) := w9.trans w10
 have hold : ∀ {u : Addr} {o : HO}, H8 u = some o → tl ≠ u ∧ cl ≠ u := fun e => ⟨Ne.symm (ne_of_none e ntl), Ne.symm (ne_of_none (w9 _ _ e) ncl)⟩
 have sy10 := (sy7.trans u6).trans s10
 show tSeq _ _ _ _ (upd (upd H8 tl (.lst (([] : List Addr).map V.ref))) cl (.lst (([] : List Addr).map V.ref)))
 generalize upd (upd H8 tl (.lst (([] : List Addr).map V.ref))) cl (.lst (([] : List Addr).map V.ref)) = H10 at w10 hcl htl10 s10 sy10 ⊢
 refine ⟨_, rfl, _, rfl, _, rfl, sc, _, rfl, sy10.seq hS, fun sl nsl => ?_⟩
 obtain ⟨cs, ecs, hcs⟩ : ∃ cs : List Int, cutV (ns.map V.int) (some (5 : Int)) (some (13 : Int)) = cs.map V.int ∧ cs.length ≤ 8 := by
  refine ⟨(ns.drop (min 5 ns.length)).take (min 13 ns.length - min 5 ns.length), ?_, by rw [List.length_take]; omega⟩
  rw [show (5 : Int) = ((5 : Nat) : Int) from rfl, show (13 : Int) = ((13 : Nat) : Int) from rfl]
  unfold cutV
  rw [HT.sIx_nat, HT.sIx_nat, List.length_map, List.map_take, List.map_drop]
 rw [ecs]
 have wS := same_new nsl (.lst (cs.map V.int))
 have hsl := upd_same (H := H10) (a := sl) (o := .lst (cs.map V.int))
 have nwu : ul ≠ wl := fun z => by rw [z, hwl7] at nul; cases nul
 have AS : Al a (upd H10 sl (.lst (cs.map V.int))) b d kr nr y wl bl ul tl cl sl [] [] [] [] cs S [] (fun _ => []) m t n B fr ws := by
  have N10 := N8.same s10
  refine ⟨N10.same wS, wS _ _ (s10 _ _ hbl8), wS _ _ (s10 _ _ hul), hsl, wS _ _ htl10, ⟨rfl, fun i r row e1 _ => by simp at e1⟩, wS _ _ hcl, ⟨rfl, fun i r row e1 _ => by simp at e1⟩, (hold ekr8).1, (hold ekr8).2, ntc, (hold N8.hw).1, (hold N8.hw).2, (hold hbl8).1, (hold hbl8).2, (hold hul).1, (hold hul).2, Ne.symm (ne_of_none htl10 nsl), Ne.symm (ne_of_none hcl nsl), Ne.symm (ne_of_none N10.hw nsl), nbw, nwu, fun r hr => ?_⟩
  rcases hr with z | z <;> cases z
 generalize upd H10 sl (.lst (cs.map V.int)) = HS at hsl AS ⊢
 clear wS nsl sy10 hcl htl10 s10 w10 w9 htl ntl ncl hold ekr8 N8 N7 hbl8 hul u6 wat nul
 refine ⟨sl, rfl, ⟨_, SqL.of hsl⟩, for_enum (xs := cs.map V.int) (fun i σ' H' => ∃ (hs qs : List Addr) (LL : List (List Int)) (ks : List Int) (ρ : Int → List Int) (ws' : List Int) (o15 o16 o17 : Option V), σ' = [some (.ref sc), some (.ref y), some (.int n), some (.int kind), some (.int ws.length), some (.ref bl), some (.int fr), some (.ref wl), some (.ref d), o9, o10, some (.ref b), some (.ref ul), some (.ref tl), some (.ref cl), o15, o16, o17, none] ∧ Al a H' b d kr nr y wl bl ul tl cl sl hs qs LL LL cs S ks ρ m t n B fr ws' ∧ ws'.length = ws.length ∧ LL.length ≤ 4 * i)
  ⟨[], [], [], [], _, ws, _, _, _, rfl, AS, rfl, Nat.le_refl _⟩ (fun i σ' H' _ ⟨_, _, _, _, _, _, _, _, _, _, z, _⟩ => SqL.of z.hl) ?_ ?_⟩
 ·clear AS hsl
  rintro i v σ' H' tp hv ⟨hs, qs, LL, ks, ρ, ws', o15, o16, o17, rfl, A, hlw, hLL⟩ ntp
  have hi : i < 8 := by
   have := (List.getElem?_eq_some_iff.mp hv).1
   rw [List.length_map] at this
   omega
  obtain ⟨c, _, rfl⟩ := List.mem_map.mp (List.mem_of_getElem? hv)
  refine ⟨_, _, rfl, SqT.of upd_same, rfl, _, _, rfl, _, _, rfl, rfl, ?_⟩
  have A1 := A.same (same_new ntp (.tup [.int i, .int c]))
  generalize upd H' tp (.tup [.int i, .int c]) = H1 at A1 ⊢
  refine ⟨_, rfl, _, rfl, _, rfl, _, rfl, _, rfl, ex16 b d kr nr y wl S ks ρ m t n B fr ws' c ⟨rfl, A1.nd, fun H2 s2 => ⟨_, rfl, iteF' (by rfl) ?_⟩⟩⟩
  have A2 := A1.same s2
  clear A1 s2 A
  refine ⟨_, rfl, _, rfl, _, rfl, _, rfl, _, rfl, _, rfl, ex17 b d kr nr y wl S ks ρ m t n B fr ws' c i ⟨rfl, A2.nd, fun ks2 ρ2 ws2 H3 c3 N3 hl3 => ⟨_, rfl, iteF' (by rfl) ?_⟩⟩⟩
  have A3 := A2.put c3 N3
  rw [hlw] at hl3
  clear A2 c3 N3 hlw
  refine ⟨_, rfl, _, rfl, _, _, rfl, rfl, ⟨by decide, by decide⟩, (by show 2 ≤ sizeLine; decide), fun l2 n2 => ?_⟩
  have w2 := same_new n2 (.lst [.int c, .int (c / 3)])
  have hl2 := upd_same (H := H3) (a := l2) (o := .lst [.int c, .int (c / 3)])
  have A4 := A3.same w2
  generalize upd H3 l2 (.lst [.int c, .int (c / 3)]) = H4 at hl2 A4 ⊢
  clear A3 w2 n2
  refine ⟨l2, rfl, ⟨_, SqL.of hl2⟩, for_list (xs := [.int c, .int (c / 3)]) (fun j σ' H' => ∃ o17 : Option V, σ' = [some (.ref sc), some (.ref y), some (.int n), some (.int kind), some (.int ws.length), some (.ref bl), some (.int fr), some (.ref wl), some (.ref d), o9, o10, some (.ref b), some (.ref ul), some (.ref tl), some (.ref cl), some (.int i), some (.int c), o17, none] ∧ Same H4 H')
   ⟨_, rfl, Same.refl _⟩ (fun j σ' H' _ ⟨_, _, s⟩ => SqL.of (s _ _ hl2)) ?_ ?_⟩
  ·rintro j v σ' H' hv ⟨o17, rfl, s⟩
   obtain ⟨c0, rfl⟩ : ∃ c0 : Int, v = .int c0 := by
    have := List.mem_of_getElem? hv
    simp only [List.mem_cons, List.not_mem_nil, or_false] at this
    rcases this with z | z
    ·exact ⟨_, z⟩
    ·exact ⟨_, z⟩
   have A5 := A4.same s
   exact ⟨_, rfl, _, rfl, _, rfl, _, rfl, _, rfl, ex16 b d kr nr y wl S ks2 ρ2 m t n B fr ws2 c0 ⟨rfl, A5.nd, fun H5 s5 => ⟨_, rfl, iteF' (by rfl) ⟨_, rfl, s.trans s5⟩⟩⟩⟩
  rintro σ' H5 ⟨o17', rfl, s5⟩
  have A5 := A4.same s5
  clear A4 s5 hl2
  have hB20 : B.length ≤ 20 := by omega
  have hu21 : (usedL B fr).length ≤ 21 := by
   unfold usedL
   split
   ·omega
   ·simp; omega
  have hB0 : ∀ x ∈ B, 0 ≤ x ∧ x < (m : Int) := fun x hx => by have := A5.nd.inn x hx; omega
  refine ⟨_, rfl, _, rfl, _, rfl, ex14 b d kr nr y S ks2 ρ2 m t n _ B fr ⟨rfl, A5.nd.mp, A5.nd.sp, fun p6 H6 np6 s6 hp6 => ?_⟩⟩
  have A6 := A5.same s6
  refine ⟨_, rfl, p6, bl, B, rfl, hp6, A6.hb, by omega, fun H7 s7 => ⟨_, rfl, iteF' (by rfl) ?_⟩⟩
  have A7 := A6.same s7
  clear A5 A6 s6 s7 hp6 np6
  refine ⟨_, rfl, _, rfl, _, rfl, ex14 b d kr nr y S ks2 ρ2 m t n _ B fr ⟨rfl, A7.nd.mp, A7.nd.sp, fun p8 H8 np8 s8 hp8 => ?_⟩⟩
  have A8 := A7.same s8
  refine ⟨_, rfl, p8, ul, usedL B fr, rfl, hp8, A8.hu, by omega, fun H9 s9 => ⟨_, rfl, iteF' (by rfl) ?_⟩⟩
  have A9 := A8.same s9
  clear A7 A8 s8 s9 hp8 np8
  have hhl := A9.hr.1
  have hql := A9.qr.1
  refine ⟨_, rfl, .inl ⟨rfl, _, SqL.of A9.hh⟩, _, rfl, _, rfl, _, rfl, _, rfl, ex16 b d kr nr y S ks2 ρ2 m t n _ B fr 0 _ ⟨rfl, A9.nd.mp, A9.nd.sp, hB0, .inr ⟨0, ws2.length, rfl, by rw [hl3], by omega, fun p1 Ha np1 sa hp1 => ?_⟩⟩⟩
  rw [A9.nd.eq] at hp1
  have Aa := A9.same sa
  refine ⟨tl, _, _, rfl, rfl, Aa.hh, small1000 (by rw [List.length_map]; omega), ?_⟩
  rw [show hs.map V.ref ++ [V.ref p1] = (hs ++ [p1]).map V.ref by simp]
  have Ab := Aa.tell (ps := [p1]) (RR := [ws2]) ⟨rfl, fun i u z e1 e2 => (by
   match i, e1, e2 with
   | 0, e1, e2 => cases e1; cases e2; exact hp1)⟩ (fun r hr => by rw [List.mem_singleton.mp hr]; exact A9.new np1)
  generalize upd Ha tl (.lst ((hs ++ [p1]).map V.ref)) = Hb at Ab ⊢
  clear A9 Aa sa hp1 np1
  obtain ⟨hf, ehf, hhf⟩ : ∃ hf : Nat, ws.length / 2 = hf ∧ hf ≤ ws.length := ⟨_, rfl, by omega⟩
  refine ⟨_, rfl, .inl ⟨rfl, _, SqL.of Ab.hh⟩, _, rfl, _, rfl, _, rfl, _, rfl, _, _, rfl, rfl, ⟨by decide, by decide⟩, _, rfl, _, rfl, _, _, rfl, rfl, ⟨by decide, by decide⟩, _, _, rfl, rfl, ?_⟩
  dsimp (config := { proj := false, iota := false, eta := false, zeta := false }) only
  rw [show ((ws.length : Nat) : Int) / 2 = (hf : Int) by omega, show ((ws.length : Nat) : Int) - (hf : Int) = ((ws.length - hf : Nat) : Int) by omega]
  refine (ex16 b d kr nr y S ks2 ρ2 m t n _ B fr hf _ ⟨rfl, Ab.nd.mp, Ab.nd.sp, hB0, .inr ⟨hf, ws.length - hf, rfl, rfl, by omega, fun p2 Hc np2 sc2 hp2 => ?_⟩⟩)
  rw [words_cut Ab.nd.eq (by omega), List.take_of_length_le (by rw [List.length_drop]; omega)] at hp2
  have Ac := Ab.same sc2
  refine ⟨tl, _, _, rfl, rfl, Ac.hh, small1000 (by rw [List.length_map, List.length_append]; simp; omega), ?_⟩
  rw [show (hs ++ [p1]).map V.ref ++ [V.ref p2] = (hs ++ [p1] ++ [p2]).map V.ref by simp]
  have Ad := Ac.tell (ps := [p2]) (RR := [ws2.drop hf]) ⟨rfl, fun i u z e1 e2 => (by
   match i, e1, e2 with
   | 0, e1, e2 => cases e1; cases e2; exact hp2)⟩ (fun r hr => by rw [List.mem_singleton.mp hr]; exact Ab.new np2)
  generalize upd Hc tl (.lst ((hs ++ [p1] ++ [p2]).map V.ref)) = Hd at Ad ⊢
  clear Ab Ac sc2 hp2 np2
  refine ⟨_, rfl, .inl ⟨rfl, _, SqL.of Ad.hh⟩, _, rfl, _, rfl, _, rfl, ex14 b d kr nr y S ks2 ρ2 m t n _ B fr ⟨rfl, Ad.nd.mp, Ad.nd.sp, fun p3 He np3 se hp3 => ?_⟩⟩
  have Ae := Ad.same se
  refine ⟨_, rfl, _, rfl, _, rfl, ex14 b d kr nr y S ks2 ρ2 m t n _ B fr ⟨rfl, Ae.nd.mp, Ae.nd.sp, fun p4 Hf np4 sf hp4 => ?_⟩⟩
  have Af := Ae.same sf
  refine ⟨(by show 2 ≤ sizeLine; decide), fun l1 nl1 => ?_⟩
  have wl1 := same_new nl1 (.lst ([p3, p4].map V.ref))
  have hl1 := upd_same (H := Hf) (a := l1) (o := .lst ([p3, p4].map V.ref))
  have Ag := Af.same wl1
  have hp3' := wl1 _ _ (sf _ _ hp3)
  have hp4' := wl1 _ _ hp4
  refine ⟨tl, l1, _, _, rfl, rfl, Ag.hh, hl1, small (by rw [List.length_map, List.length_append, List.length_append]; show _ + 2 ≤ 1000; simp; omega), ?_⟩
  rw [← List.map_append]
  have Ah := Ag.tell (ps := [p3, p4]) (RR := [B, usedL B fr]) ⟨rfl, fun i u z e1 e2 => (by
   match i, e1, e2 with
   | 0, e1, e2 => cases e1; cases e2; exact hp3'
   | 1, e1, e2 => cases e1; cases e2; exact hp4')⟩ (fun r hr => by
    simp only [List.mem_cons, List.not_mem_nil, or_false] at hr
    rcases hr with z | z
    ·rw [z]; exact Ad.new np3
    ·rw [z]; exact Ae.new np4)
  generalize hHh : upd (upd Hf l1 _) tl _ = Hh at Ah
  have eh : upd (upd Hf l1 (.lst [V.ref p3, V.ref p4])) tl (.lst ((hs ++ [p1] ++ [p2] ++ [p3, p4]).map V.ref)) = Hh := hHh
  rw [eh]
  clear eh hHh Ag Af Ae Ad hp3 hp4 hp3' hp4' se sf wl1 hl1 nl1 np3 np4
  refine ⟨_, rfl, .inl ⟨rfl, _, SqL.of Ah.kh⟩, _, rfl, wl, _, rfl, .inl (SqL.of Ah.nd.hw), fun z1 k1 => ?_⟩
  have v1 := same_new k1 (.lst (ws2.map V.int))
  have A1 := Ah.same v1
  have hz1 := upd_same (H := Hh) (a := z1) (o := .lst (ws2.map V.int))
  have nz1 := Ah.new k1
  generalize upd Hh z1 (.lst (ws2.map V.int)) = Hi at v1 A1 hz1 ⊢
  refine ⟨_, rfl, _, rfl, _, _, rfl, rfl, ⟨by decide, by decide⟩, _, rfl, wl, _, rfl, SqL.of A1.nd.hw, fun z2 k2 => ?_⟩
  dsimp (config := { proj := false, iota := false, eta := false, zeta := false }) only
  rw [show ((ws.length : Nat) : Int) / 2 = (hf : Int) by omega, cut_from, ← List.map_drop]
  have v2 := same_new k2 (.lst ((ws2.drop hf).map V.int))
  have A2 := A1.same v2
  have hz2 := upd_same (H := Hi) (a := z2) (o := .lst ((ws2.drop hf).map V.int))
  have hz1 := v2 _ _ hz1
  have nz2 := A1.new k2
  generalize upd Hi z2 (.lst ((ws2.drop hf).map V.int)) = Hj at v2 A2 hz2 hz1 ⊢
  refine ⟨_, rfl, bl, _, rfl, .inl (SqL.of A2.hb), fun z3 k3 => ?_⟩
  have v3 := same_new k3 (.lst (B.map V.int))
  have A3 := A2.same v3
  have hz3 := upd_same (H := Hj) (a := z3) (o := .lst (B.map V.int))
  have hz1 := v3 _ _ hz1
  have hz2 := v3 _ _ hz2
  have nz3 := A2.new k3
  generalize upd Hj z3 (.lst (B.map V.int)) = Hk at v3 A3 hz3 hz2 hz1 ⊢
  refine ⟨_, rfl, ul, _, rfl, .inl (SqL.of A3.hu), fun z4 k4 => ?_⟩
  have v4 := same_new k4 (.lst ((usedL B fr).map V.int))
  have A4 := A3.same v4
  have hz4 := upd_same (H := Hk) (a := z4) (o := .lst ((usedL B fr).map V.int))
  have hz1 := v4 _ _ hz1
  have hz2 := v4 _ _ hz2
  have hz3 := v4 _ _ hz3
  have nz4 := A3.new k4
  generalize upd Hk z4 (.lst ((usedL B fr).map V.int)) = Hl at v4 A4 hz4 hz3 hz2 hz1 ⊢
  refine ⟨(by show 4 ≤ sizeLine; decide), fun l4 k5 => ?_⟩
  have v5 := same_new k5 (.lst ([z1, z2, z3, z4].map V.ref))
  have hl4 := upd_same (H := Hl) (a := l4) (o := .lst ([z1, z2, z3, z4].map V.ref))
  have A5 := A4.same v5
  refine ⟨cl, l4, _, _, rfl, rfl, A5.kh, hl4, small (by rw [List.length_map]; show _ + 4 ≤ 1000; omega), ?_⟩
  rw [← List.map_append]
  have A6 := (A5.swap.tell (ps := [z1, z2, z3, z4]) (RR := [ws2, ws2.drop hf, B, usedL B fr]) ⟨rfl, fun i u z e1 e2 => (by
   match i, e1, e2 with
   | 0, e1, e2 => cases e1; cases e2; exact v5 _ _ hz1
   | 1, e1, e2 => cases e1; cases e2; exact v5 _ _ hz2
   | 2, e1, e2 => cases e1; cases e2; exact v5 _ _ hz3
   | 3, e1, e2 => cases e1; cases e2; exact v5 _ _ hz4)⟩ (fun r hr => by
    simp only [List.mem_cons, List.not_mem_nil, or_false] at hr
    have sw : ∀ {r : Addr}, r ≠ tl ∧ r ≠ cl ∧ r ≠ wl → r ≠ cl ∧ r ≠ tl ∧ r ≠ wl := fun h => ⟨h.2.1, h.1, h.2.2⟩
    rcases hr with z | z | z | z <;> rw [z]
    ·exact sw nz1
    ·exact sw nz2
    ·exact sw nz3
    ·exact sw nz4)).swap
  rw [show LL ++ [ws2] ++ [ws2.drop hf] ++ [B, usedL B fr] = LL ++ [ws2, ws2.drop hf, B, usedL B fr] by simp] at A6
  exact ⟨_, _, _, ks2, ρ2, ws2, _, _, _, rfl, A6, hl3, by rw [List.length_append]; show _ + 4 ≤ _; omega⟩
 rintro σ' Hz ⟨hs, qs, LL, ks, ρ, ws', o15, o16, o17, rfl, A, hlw, hLL⟩
 clear AS hsl
 have fin : ∀ i : Nat, i < m → seen S.R ks ρ (.int i) = some (rowQ m n kind ws' B fr i) := fun i hi => by
  by_cases hB : (i : Int) ∈ B
  ·obtain ⟨k, hk, ek⟩ := List.mem_iff_getElem.mp hB
   obtain ⟨row, es, gr⟩ := A.nd.mp.at (j := i) (by omega)
   rw [es]
   have e2 := rowQ_blk (kind := kind) g hn2 A.nd.ld hk
   rw [ek, show ((i : Int)).toNat = i by omega] at e2
   rw [e2]
   congr 1
   have hbl' := A.nd.ld.len
   refine row_is gr.1 hk (by omega) fun r hr => ?_
   have e3 : wAt S.R ks ρ B (16 * k + r) = row.getD r 0 := by
    have eB : B.getD k 0 = B[k] := by rw [List.getD_eq_getElem?_getD, List.getElem?_eq_getElem hk]; rfl
    unfold wAt
    rw [show (16 * k + r) / 16 = k by omega, show (16 * k + r) % 16 = r by omega, eB, ek, es]; rfl
   rw [← e3, pad_get]
   by_cases hlt : 16 * k + r < ws'.length
   ·rw [if_pos hlt]
    have h1 : (wordsW S.R ks ρ B 0 ws'.length).getD (16 * k + r) 0 = wAt S.R ks ρ B (16 * k + r) := by
     unfold wordsW
     rw [List.getD_eq_getElem?_getD, List.getElem?_map, List.getElem?_range hlt]
     show wAt S.R ks ρ B (0 + (16 * k + r)) = _
     rw [Nat.zero_add]
    rw [← h1, A.nd.eq]
   ·rw [if_neg hlt]
    exact A.nd.pad _ (by omega) (by omega)
  ·rw [seen_at (by omega), if_neg (fun z => hB (A.nd.sub _ z)), rowQ_off (ws' := ws) hlw.symm hB]
   have := hq i hi
   rw [List.getElem?_eq_getElem (by omega)] at this
   exact this
 refine ⟨_, rfl, _, rfl, .list (LL.map fun row => PyData.list (row.map PyData.int)), .list (LL.map fun row => PyData.list (row.map PyData.int)), .lst (SqL.of A.hh) (dvs_rows A.hr), .lst (SqL.of A.kh) (dvs_rows A.qr), shaped_rows _, shaped_rows _, _, rfl, iteF' (by rw [eqv_same (shaped_rows _)]; rfl) ?_⟩
 refine ⟨_, rfl, _, rfl, _, rfl, _, rfl, _, rfl, _, rfl, y, wl, bl, m, t, n, B, ws', fr, kind, rfl, A.nd.mp.lay, g, A.nd.hw, A.hb, A.nd.ld, hn2, fun rp rs He nrp se hrp hR => ?_⟩
 have Ne := A.nd.same se
 obtain ⟨yxe, hye⟩ := Ne.mp.lay
 refine ⟨_, rfl, y, a.cLayout, yxe, _, _, rfl, hye, T.clLayout, T.n_many, rfl, _, rfl, by omega, by omega, ?_⟩
 rw [Int.toNat_natCast]
 refine lc_vals (n := m) (by omega) (fun acc H' i v => ∃ r, v = .ref r ∧ r ≠ acc ∧ H' r = some (.lst ((rowQ m n kind ws' B fr i).map V.int))) ?_ ?_ ?_
 ·rintro acc H H' i v k ⟨r, e1, e2, e3⟩
  exact ⟨r, e1, e2, k _ _ e2 e3⟩
 ·intro acc i Hf Qf hi h0 sf ha k
  have Nf := Ne.same sf
  obtain ⟨bx, hb⟩ := Nf.mp.bat.ex
  refine ⟨_, rfl, b, bx, _, rfl, hb, rfl, _, rfl, ?_⟩
  rw [Int.zero_add]
  exact (ex8 b d kr nr S ks ρ _ ⟨rfl, Nf.mp.bat, Nf.mp.dk, .int _, .inl ⟨_, fin i hi, fun p Hg np sg hp => k _ _ sg ⟨p, rfl, fun z => ha (by rw [← z]; exact np), hp⟩⟩⟩)
 intro acc vs Hg nacc sg hacc hlv hg
 obtain ⟨gs, rfl, _, hG⟩ := rows_of hlv (fun i => rowQ m n kind ws' B fr i) hg
 have hRg := rows_same hR sg
 rw [Int.toNat_natCast] at hRg
 refine ⟨_, rfl, .list (((List.range m).map (rowQ m n kind ws' B fr)).map fun row => PyData.list (row.map PyData.int)), .list (((List.range m).map (rowQ m n kind ws' B fr)).map fun row => PyData.list (row.map PyData.int)), .lst (SqL.of hacc) (dvs_rows hG), .lst (SqL.of (sg _ _ hrp)) (dvs_rows hRg), shaped_rows _, shaped_rows _, ?_⟩
 rw [eqv_same (shaped_rows _)]
 exact q _
end
end K11
end
section
set_option Elab.async false
set_option linter.all false
set_option maxRecDepth 100000
set_option maxHeartbeats 4000000
namespace K11
open PySem L2 BK
theorem all_mk {l : W.OpenLaw} {w : World} {K : W.Frag} {h : Heap} {mg : Str → Option Value} {fa : Addr} {cKeepError cBadRow cNoBlock cStopped cBadDisk cNoRoom cNoNode cTooLong cOutOfPlace cDisk cLayout cBatch fLayout_init fDisk_init fBatch_init f_blocks f_refuse_no_block f_use_up_one f_write f_most_node f_read f_Batch_read f_Batch_write : Addr} (X : K.In h) (G : h.Ns mainGlobals mg) (hfa : mg "law" = some (.ref fa))
  {tROW_WORDS tMOST_WORD tNODE_WORDS tSIZE_AT tPLACES_AT tFAR_AT tNEAR_BLOCKS tLEAST_BLOCKS tMOST_BLOCKS tMAPS_AT tMOST_TABLES : Tok}
  {od1 an1 od2 an2 od3 an3 od4 an4 od5 an5 od6 an6 od7 an7 od8 an8 od9 an9 od10 an10 od11 an11 od12 an12 od13 an13 od14 an14 od15 an15 od16 an16 od17 an17 od18 an18 od19 an19 od20 an20 od21 an21 od22 an22 od23 an23 od24 an24 od25 an25 od26 an26 od27 an27 od28 an28 od29 an29 od30 an30 od31 an31 od32 an32 od33 an33 od34 an34 od35 an35 od36 an36 od37 an37 od38 an38 od39 an39 od40 an40 od41 an41 : Option Addr} {sl1 sl2 sl3 sl4 sl5 sl6 sl7 sl8 sl9 sl10 sl11 sl12 sl13 sl14 sl15 sl16 sl17 sl18 sl19 sl20 sl21 sl22 sl23 sl24 sl25 sl26 sl27 sl28 sl29 sl30 sl31 sl32 sl33 sl34 sl35 sl36 sl37 sl38 sl39 sl40 sl41 : Array (Option Value)} {oc1 kV1 dc1 pm1 cd1 ct1 oc2 kV2 dc2 pm2 cd2 ct2 oc3 kV3 dc3 pm3 cd3 ct3 oc4 kV4 dc4 pm4 cd4 ct4 oc5 kV5 dc5 pm5 cd5 ct5 oc6 kV6 dc6 pm6 cd6 ct6 oc7 kV7 dc7 pm7 cd7 ct7 oc8 kV8 dc8 pm8 cd8 ct8 oc9 kV9 dc9 pm9 cd9 ct9 oc10 kV10 dc10 pm10 cd10 ct10 oc11 kV11 dc11 pm11 cd11 ct11 oc12 kV12 dc12 pm12 cd12 ct12 oc13 kV13 dc13 pm13 cd13 ct13 oc14 kV14 dc14 pm14 cd14 ct14 oc15 kV15 dc15 pm15 cd15 ct15 oc16 kV16 dc16 pm16 cd16 ct16 oc17 kV17 dc17 pm17 cd17 ct17 oc18 kV18 dc18 pm18 cd18 ct18 oc19 kV19 dc19 pm19 cd19 ct19 oc20 kV20 dc20 pm20 cd20 ct20 oc21 kV21 dc21 pm21 cd21 ct21 oc22 kV22 dc22 pm22 cd22 ct22 oc23 kV23 dc23 pm23 cd23 ct23 oc24 kV24 dc24 pm24 cd24 ct24 oc25 kV25 dc25 pm25 cd25 ct25 oc26 kV26 dc26 pm26 cd26 ct26 oc27 kV27 dc27 pm27 cd27 ct27 oc28 kV28 dc28 pm28 cd28 ct28 oc29 kV29 dc29 pm29 cd29 ct29 oc30 kV30 dc30 pm30 cd30 ct30 oc31 kV31 dc31 pm31 cd31 ct31 oc32 kV32 dc32 pm32 cd32 ct32 oc33 kV33 dc33 pm33 cd33 ct33 oc34 kV34 dc34 pm34 cd34 ct34 oc35 kV35 dc35 pm35 cd35 ct35 oc36 kV36 dc36 pm36 cd36 ct36 oc37 kV37 dc37 pm37 cd37 ct37 oc38 kV38 dc38 pm38 cd38 ct38 oc39 kV39 dc39 pm39 cd39 ct39 oc40 kV40 dc40 pm40 cd40 ct40 oc41 kV41 dc41 pm41 cd41 ct41 : Value} {f1 f3 f4 f5 f6 f7 f10 f14 f15 f16 f19 f20 f21 f23 f25 f26 f27 f28 f29 f30 f31 f32 f33 f35 f36 f37 f38 f39 f40 f41 : Addr}
  (n_KeepError : W.nsIn K mainGlobals "KeepError" = some (some (.ref cKeepError)))
  (n_BadRow : W.nsIn K mainGlobals "BadRow" = some (some (.ref cBadRow)))
  (n_NoBlock : W.nsIn K mainGlobals "NoBlock" = some (some (.ref cNoBlock)))
  (n_Stopped : W.nsIn K mainGlobals "Stopped" = some (some (.ref cStopped)))
  (n_BadDisk : W.nsIn K mainGlobals "BadDisk" = some (some (.ref cBadDisk)))
  (n_NoRoom : W.nsIn K mainGlobals "NoRoom" = some (some (.ref cNoRoom)))
  (n_NoNode : W.nsIn K mainGlobals "NoNode" = some (some (.ref cNoNode)))
  (n_TooLong : W.nsIn K mainGlobals "TooLong" = some (some (.ref cTooLong)))
  (n_OutOfPlace : W.nsIn K mainGlobals "OutOfPlace" = some (some (.ref cOutOfPlace)))
  (n_Disk : W.nsIn K mainGlobals "Disk" = some (some (.ref cDisk)))
  (n_Layout : W.nsIn K mainGlobals "Layout" = some (some (.ref cLayout)))
  (n_Batch : W.nsIn K mainGlobals "Batch" = some (some (.ref cBatch)))
  (a_fDisk_init : W.findIn K (.ref cDisk) "__init__" = some (some (.ref fDisk_init)))
  (a_f_blocks : W.findIn K (.ref cDisk) "blocks" = some (some (.ref f_blocks)))
  (a_f_refuse_no_block : W.findIn K (.ref cDisk) "refuse_no_block" = some (some (.ref f_refuse_no_block)))
  (a_f_use_up_one : W.findIn K (.ref cDisk) "use_up_one" = some (some (.ref f_use_up_one)))
  (a_f_write : W.findIn K (.ref cDisk) "write" = some (some (.ref f_write)))
  (a_f_read : W.findIn K (.ref cDisk) "read" = some (some (.ref f_read)))
  (a_fLayout_init : W.findIn K (.ref cLayout) "__init__" = some (some (.ref fLayout_init)))
  (a_f_most_node : W.findIn K (.ref cLayout) "most_node" = some (some (.ref f_most_node)))
  (a_fBatch_init : W.findIn K (.ref cBatch) "__init__" = some (some (.ref fBatch_init)))
  (a_f_Batch_read : W.findIn K (.ref cBatch) "read" = some (some (.ref f_Batch_read)))
  (a_f_Batch_write : W.findIn K (.ref cBatch) "write" = some (some (.ref f_Batch_write)))
  (a1 : W.nsIn K mainGlobals "is_whole" = some (some (.ref f1)))
  (a3 : W.nsIn K mainGlobals "_law_cell_at" = some (some (.ref f3)))
  (a4 : W.nsIn K mainGlobals "_law_order" = some (some (.ref f4)))
  (a5 : W.nsIn K mainGlobals "_law_laid" = some (some (.ref f5)))
  (a6 : W.nsIn K mainGlobals "_law_drawn" = some (some (.ref f6)))
  (a7 : W.nsIn K mainGlobals "empty_row" = some (some (.ref f7)))
  (a10 : W.nsIn K mainGlobals "_law_rows" = some (some (.ref f10)))
  (a14 : W.nsIn K mainGlobals "is_word" = some (some (.ref f14)))
  (a15 : W.nsIn K mainGlobals "are_words" = some (some (.ref f15)))
  (a16 : W.nsIn K mainGlobals "is_row" = some (some (.ref f16)))
  (a19 : W.nsIn K mainGlobals "_law_part" = some (some (.ref f19)))
  (a20 : W.nsIn K mainGlobals "refuse_no_node" = some (some (.ref f20)))
  (a21 : W.nsIn K mainGlobals "first_word_of" = some (some (.ref f21)))
  (a23 : W.nsIn K mainGlobals "is_home" = some (some (.ref f23)))
  (a25 : W.nsIn K mainGlobals "block_of" = some (some (.ref f25)))
  (a26 : W.nsIn K mainGlobals "node_of" = some (some (.ref f26)))
  (a27 : W.nsIn K mainGlobals "refuse_out_of_place" = some (some (.ref f27)))
  (a28 : W.nsIn K mainGlobals "count_of_blocks" = some (some (.ref f28)))
  (a29 : W.nsIn K mainGlobals "blocks_of" = some (some (.ref f29)))
  (a30 : W.nsIn K mainGlobals "parts" = some (some (.ref f30)))
  (a31 : W.nsIn K mainGlobals "words_of" = some (some (.ref f31)))
  (a32 : W.nsIn K mainGlobals "_law_whole" = some (some (.ref f32)))
  (a33 : W.nsIn K mainGlobals "_law_numbers" = some (some (.ref f33)))
  (a35 : W.nsIn K mainGlobals "changed" = some (some (.ref f35)))
  (a36 : W.nsIn K mainGlobals "put_words" = some (some (.ref f36)))
  (a37 : W.nsIn K mainGlobals "_law_refused" = some (some (.ref f37)))
  (a38 : W.nsIn K mainGlobals "_law_told" = some (some (.ref f38)))
  (a39 : W.nsIn K mainGlobals "_law_put" = some (some (.ref f39)))
  (a40 : W.nsIn K mainGlobals "used_by" = some (some (.ref f40)))
  (a41 : W.nsIn K mainGlobals "law" = some (some (.ref f41)))
  (z_isinstance : W.nsIn K mainGlobals "isinstance" = some none)
  (z_int : W.nsIn K mainGlobals "int" = some none)
  (z_bool : W.nsIn K mainGlobals "bool" = some none)
  (z_list : W.nsIn K mainGlobals "list" = some none)
  (z_tuple : W.nsIn K mainGlobals "tuple" = some none)
  (z_len : W.nsIn K mainGlobals "len" = some none)
  (z_all : W.nsIn K mainGlobals "all" = some none)
  (z_range : W.nsIn K mainGlobals "range" = some none)
  (z_ValueError : W.nsIn K mainGlobals "ValueError" = some none)
  (z_sorted : W.nsIn K mainGlobals "sorted" = some none)
  (z_enumerate : W.nsIn K mainGlobals "enumerate" = some none)
  (z_min : W.nsIn K mainGlobals "min" = some none)
  (z_max : W.nsIn K mainGlobals "max" = some none)
  (v_ROW_WORDS : W.nsIn K mainGlobals "ROW_WORDS" = some (some (.int 16 tROW_WORDS)))
  (v_MOST_WORD : W.nsIn K mainGlobals "MOST_WORD" = some (some (.int 999999999 tMOST_WORD)))
  (v_NODE_WORDS : W.nsIn K mainGlobals "NODE_WORDS" = some (some (.int 8 tNODE_WORDS)))
  (v_SIZE_AT : W.nsIn K mainGlobals "SIZE_AT" = some (some (.int 2 tSIZE_AT)))
  (v_PLACES_AT : W.nsIn K mainGlobals "PLACES_AT" = some (some (.int 3 tPLACES_AT)))
  (v_FAR_AT : W.nsIn K mainGlobals "FAR_AT" = some (some (.int 7 tFAR_AT)))
  (v_NEAR_BLOCKS : W.nsIn K mainGlobals "NEAR_BLOCKS" = some (some (.int 4 tNEAR_BLOCKS)))
  (v_LEAST_BLOCKS : W.nsIn K mainGlobals "LEAST_BLOCKS" = some (some (.int 24 tLEAST_BLOCKS)))
  (v_MOST_BLOCKS : W.nsIn K mainGlobals "MOST_BLOCKS" = some (some (.int 96 tMOST_BLOCKS)))
  (v_MAPS_AT : W.nsIn K mainGlobals "MAPS_AT" = some (some (.int 17 tMAPS_AT)))
  (v_MOST_TABLES : W.nsIn K mainGlobals "MOST_TABLES" = some (some (.int 8 tMOST_TABLES)))
  (x_BadRow : W.excIn K cBadRow veMro "ValueError.__new__" = true)
  (x_NoBlock : W.excIn K cNoBlock veMro "ValueError.__new__" = true)
  (x_Stopped : W.excIn K cStopped veMro "ValueError.__new__" = true)
  (x_BadDisk : W.excIn K cBadDisk veMro "ValueError.__new__" = true)
  (x_NoRoom : W.excIn K cNoRoom veMro "ValueError.__new__" = true)
  (x_NoNode : W.excIn K cNoNode veMro "ValueError.__new__" = true)
  (x_OutOfPlace : W.excIn K cOutOfPlace veMro "ValueError.__new__" = true)
  (g0_OutOfPlace : W.findIn K (.ref cOutOfPlace) "__getattribute__" = some (some (.builtin "BaseException.__getattribute__")))
  (g1_OutOfPlace : W.findIn K (.ref cOutOfPlace) "__getattr__" = some none)
  (g2_OutOfPlace : W.findIn K (.ref cOutOfPlace) "__class__" = some (some (.builtin "object.__class__")))
  (g3_OutOfPlace : W.mroIn K cOutOfPlace (.type "BaseException") = some true)
  (g4_OutOfPlace : W.mroIn K cOutOfPlace (.type "object") = some true)
  (g5_OutOfPlace : W.findObj K cOutOfPlace none "__class__" = some (.bind (.builtin "getset_descriptor.__get__") (.builtin "object.__class__")))
  (g6_OutOfPlace : (W.clsIn K cOutOfPlace).isSome = true)
  (g0_BadRow : W.findIn K (.ref cBadRow) "__getattribute__" = some (some (.builtin "BaseException.__getattribute__")))
  (g1_BadRow : W.findIn K (.ref cBadRow) "__getattr__" = some none)
  (g2_BadRow : W.findIn K (.ref cBadRow) "__class__" = some (some (.builtin "object.__class__")))
  (g3_BadRow : W.mroIn K cBadRow (.type "BaseException") = some true)
  (g4_BadRow : W.mroIn K cBadRow (.type "object") = some true)
  (g5_BadRow : W.findObj K cBadRow none "__class__" = some (.bind (.builtin "getset_descriptor.__get__") (.builtin "object.__class__")))
  (g6_BadRow : (W.clsIn K cBadRow).isSome = true)
  (h0_KeepError : (match K.lookup cKeepError with | some ⟨.type "type", _, .cls _, _⟩ => true | _ => false) = true)
  (h1_KeepError : W.mroIn K cKeepError (.type "BaseException") = some true)
  (s_BadRow_KeepError : W.mroIn K cBadRow (.ref cKeepError) = some true)
  (s_NoBlock_KeepError : W.mroIn K cNoBlock (.ref cKeepError) = some true)
  (s_Stopped_KeepError : W.mroIn K cStopped (.ref cKeepError) = some true)
  (s_BadDisk_KeepError : W.mroIn K cBadDisk (.ref cKeepError) = some true)
  (s_NoRoom_KeepError : W.mroIn K cNoRoom (.ref cKeepError) = some true)
  (s_NoNode_KeepError : W.mroIn K cNoNode (.ref cKeepError) = some true)
  (s_OutOfPlace_KeepError : W.mroIn K cOutOfPlace (.ref cKeepError) = some true)
  (q_OutOfPlace_OutOfPlace : W.kitOne K (.ref cOutOfPlace) (.ref cOutOfPlace) = some true)
  (q_OutOfPlace_BadRow : W.kitOne K (.ref cOutOfPlace) (.ref cBadRow) = some false)
  (q_OutOfPlace_NoBlock : W.kitOne K (.ref cOutOfPlace) (.ref cNoBlock) = some false)
  (q_OutOfPlace_NoNode : W.kitOne K (.ref cOutOfPlace) (.ref cNoNode) = some false)
  (q_OutOfPlace_TooLong : W.kitOne K (.ref cOutOfPlace) (.ref cTooLong) = some false)
  (q_OutOfPlace_ValueError : W.kitOne K (.ref cOutOfPlace) (.type "ValueError") = some true)
  (q_BadRow_OutOfPlace : W.kitOne K (.ref cBadRow) (.ref cOutOfPlace) = some false)
  (q_BadRow_BadRow : W.kitOne K (.ref cBadRow) (.ref cBadRow) = some true)
  (q_BadRow_NoBlock : W.kitOne K (.ref cBadRow) (.ref cNoBlock) = some false)
  (q_BadRow_NoNode : W.kitOne K (.ref cBadRow) (.ref cNoNode) = some false)
  (q_BadRow_TooLong : W.kitOne K (.ref cBadRow) (.ref cTooLong) = some false)
  (q_BadRow_ValueError : W.kitOne K (.ref cBadRow) (.type "ValueError") = some true)
  (pg_Disk : W.plainGet K cDisk Str.empty = true)
  (hd_Disk : W.hasDictIn K cDisk = true)
  (po_Disk : W.plainOver K cDisk = true)
  (sa_Disk : W.findIn K (.ref cDisk) "__setattr__" = some (some (.builtin "object.__setattr__")))
  (na_kept_rows : W.findIn K (.ref cDisk) "kept_rows" = some none)
  (na_writes_done : W.findIn K (.ref cDisk) "writes_done" = some none)
  (na_writes_left : W.findIn K (.ref cDisk) "writes_left" = some none)
  (mk_Disk : W.makesIn K cDisk = true)
  (i_fDisk_init : W.isFn K (.ref fDisk_init) = true)
  (kc_Disk : W.keepIn K (.ref cDisk) = true)
  (i_f_blocks : W.isFn K (.ref f_blocks) = true)
  (kp_f_blocks : W.keepIn K (.ref f_blocks) = true)
  (i_f_refuse_no_block : W.isFn K (.ref f_refuse_no_block) = true)
  (kp_f_refuse_no_block : W.keepIn K (.ref f_refuse_no_block) = true)
  (i_f_use_up_one : W.isFn K (.ref f_use_up_one) = true)
  (kp_f_use_up_one : W.keepIn K (.ref f_use_up_one) = true)
  (i_f_write : W.isFn K (.ref f_write) = true)
  (kp_f_write : W.keepIn K (.ref f_write) = true)
  (i_f_read : W.isFn K (.ref f_read) = true)
  (kp_f_read : W.keepIn K (.ref f_read) = true)
  (pg_Layout : W.plainGet K cLayout Str.empty = true)
  (hd_Layout : W.hasDictIn K cLayout = true)
  (po_Layout : W.plainOver K cLayout = true)
  (sa_Layout : W.findIn K (.ref cLayout) "__setattr__" = some (some (.builtin "object.__setattr__")))
  (na_many : W.findIn K (.ref cLayout) "many" = some none)
  (na_tables : W.findIn K (.ref cLayout) "tables" = some none)
  (na_maps_at : W.findIn K (.ref cLayout) "maps_at" = some none)
  (na_nodes_at : W.findIn K (.ref cLayout) "nodes_at" = some none)
  (na_data_at : W.findIn K (.ref cLayout) "data_at" = some none)
  (mk_Layout : W.makesIn K cLayout = true)
  (i_fLayout_init : W.isFn K (.ref fLayout_init) = true)
  (kc_Layout : W.keepIn K (.ref cLayout) = true)
  (i_f_most_node : W.isFn K (.ref f_most_node) = true)
  (kp_f_most_node : W.keepIn K (.ref f_most_node) = true)
  (pg_Batch : W.plainGet K cBatch Str.empty = true)
  (hd_Batch : W.hasDictIn K cBatch = true)
  (po_Batch : W.plainOver K cBatch = true)
  (sa_Batch : W.findIn K (.ref cBatch) "__setattr__" = some (some (.builtin "object.__setattr__")))
  (na_disk : W.findIn K (.ref cBatch) "disk" = some none)
  (na_new_rows : W.findIn K (.ref cBatch) "new_rows" = some none)
  (mk_Batch : W.makesIn K cBatch = true)
  (i_fBatch_init : W.isFn K (.ref fBatch_init) = true)
  (kc_Batch : W.keepIn K (.ref cBatch) = true)
  (i_f_Batch_read : W.isFn K (.ref f_Batch_read) = true)
  (kp_f_Batch_read : W.keepIn K (.ref f_Batch_read) = true)
  (i_f_Batch_write : W.isFn K (.ref f_Batch_write) = true)
  (kp_f_Batch_write : W.keepIn K (.ref f_Batch_write) = true)
  (l1 : K.lookup f1 = some ⟨oc1, od1, .func (W.fnOf "is_whole" "is_whole" (defArgs s_is_whole) (defBody s_is_whole) (defScope s_is_whole) .none kV1 dc1 pm1 an1 cd1 ct1), sl1⟩)
  (c1 : W.codeIn K cd1 "is_whole" = true)
  (k1 : W.keepIn K (.ref f1) = true)
  (l2 : K.lookup fLayout_init = some ⟨oc2, od2, .func (W.fnOf "__init__" "Layout.__init__" (defArgs s_Layout___init__) (defBody s_Layout___init__) (defScope s_Layout___init__) .none kV2 dc2 pm2 an2 cd2 ct2), sl2⟩)
  (c2 : W.codeIn K cd2 "Layout.__init__" = true)
  (k2 : W.keepIn K (.ref fLayout_init) = true)
  (l3 : K.lookup f3 = some ⟨oc3, od3, .func (W.fnOf "_law_cell_at" "_law_cell_at" (defArgs s__law_cell_at) (defBody s__law_cell_at) (defScope s__law_cell_at) .none kV3 dc3 pm3 an3 cd3 ct3), sl3⟩)
  (c3 : W.codeIn K cd3 "_law_cell_at" = true)
  (k3 : W.keepIn K (.ref f3) = true)
  (l4 : K.lookup f4 = some ⟨oc4, od4, .func (W.fnOf "_law_order" "_law_order" (defArgs s__law_order) (defBody s__law_order) (defScope s__law_order) .none kV4 dc4 pm4 an4 cd4 ct4), sl4⟩)
  (c4 : W.codeIn K cd4 "_law_order" = true)
  (k4 : W.keepIn K (.ref f4) = true)
  (l5 : K.lookup f5 = some ⟨oc5, od5, .func (W.fnOf "_law_laid" "_law_laid" (defArgs s__law_laid) (defBody s__law_laid) (defScope s__law_laid) .none kV5 dc5 pm5 an5 cd5 ct5), sl5⟩)
  (c5 : W.codeIn K cd5 "_law_laid" = true)
  (k5 : W.keepIn K (.ref f5) = true)
  (l6 : K.lookup f6 = some ⟨oc6, od6, .func (W.fnOf "_law_drawn" "_law_drawn" (defArgs s__law_drawn) (defBody s__law_drawn) (defScope s__law_drawn) .none kV6 dc6 pm6 an6 cd6 ct6), sl6⟩)
  (c6 : W.codeIn K cd6 "_law_drawn" = true)
  (k6 : W.keepIn K (.ref f6) = true)
  (l7 : K.lookup f7 = some ⟨oc7, od7, .func (W.fnOf "empty_row" "empty_row" (defArgs s_empty_row) (defBody s_empty_row) (defScope s_empty_row) .none kV7 dc7 pm7 an7 cd7 ct7), sl7⟩)
  (c7 : W.codeIn K cd7 "empty_row" = true)
  (k7 : W.keepIn K (.ref f7) = true)
  (l8 : K.lookup fDisk_init = some ⟨oc8, od8, .func (W.fnOf "__init__" "Disk.__init__" (defArgs s_Disk___init__) (defBody s_Disk___init__) (defScope s_Disk___init__) .none kV8 dc8 pm8 an8 cd8 ct8), sl8⟩)
  (c8 : W.codeIn K cd8 "Disk.__init__" = true)
  (k8 : W.keepIn K (.ref fDisk_init) = true)
  (l9 : K.lookup fBatch_init = some ⟨oc9, od9, .func (W.fnOf "__init__" "Batch.__init__" (defArgs s_Batch___init__) (defBody s_Batch___init__) (defScope s_Batch___init__) .none kV9 dc9 pm9 an9 cd9 ct9), sl9⟩)
  (c9 : W.codeIn K cd9 "Batch.__init__" = true)
  (k9 : W.keepIn K (.ref fBatch_init) = true)
  (l10 : K.lookup f10 = some ⟨oc10, od10, .func (W.fnOf "_law_rows" "_law_rows" (defArgs s__law_rows) (defBody s__law_rows) (defScope s__law_rows) .none kV10 dc10 pm10 an10 cd10 ct10), sl10⟩)
  (c10 : W.codeIn K cd10 "_law_rows" = true)
  (k10 : W.keepIn K (.ref f10) = true)
  (l11 : K.lookup f_blocks = some ⟨oc11, od11, .func (W.fnOf "blocks" "Disk.blocks" (defArgs s_Disk_blocks) (defBody s_Disk_blocks) (defScope s_Disk_blocks) .none kV11 dc11 pm11 an11 cd11 ct11), sl11⟩)
  (c11 : W.codeIn K cd11 "Disk.blocks" = true)
  (k11 : W.keepIn K (.ref f_blocks) = true)
  (l12 : K.lookup f_refuse_no_block = some ⟨oc12, od12, .func (W.fnOf "refuse_no_block" "Disk.refuse_no_block" (defArgs s_Disk_refuse_no_block) (defBody s_Disk_refuse_no_block) (defScope s_Disk_refuse_no_block) .none kV12 dc12 pm12 an12 cd12 ct12), sl12⟩)
  (c12 : W.codeIn K cd12 "Disk.refuse_no_block" = true)
  (k12 : W.keepIn K (.ref f_refuse_no_block) = true)
  (l13 : K.lookup f_use_up_one = some ⟨oc13, od13, .func (W.fnOf "use_up_one" "Disk.use_up_one" (defArgs s_Disk_use_up_one) (defBody s_Disk_use_up_one) (defScope s_Disk_use_up_one) .none kV13 dc13 pm13 an13 cd13 ct13), sl13⟩)
  (c13 : W.codeIn K cd13 "Disk.use_up_one" = true)
  (k13 : W.keepIn K (.ref f_use_up_one) = true)
  (l14 : K.lookup f14 = some ⟨oc14, od14, .func (W.fnOf "is_word" "is_word" (defArgs s_is_word) (defBody s_is_word) (defScope s_is_word) .none kV14 dc14 pm14 an14 cd14 ct14), sl14⟩)
  (c14 : W.codeIn K cd14 "is_word" = true)
  (k14 : W.keepIn K (.ref f14) = true)
  (l15 : K.lookup f15 = some ⟨oc15, od15, .func (W.fnOf "are_words" "are_words" (defArgs s_are_words) (defBody s_are_words) (defScope s_are_words) .none kV15 dc15 pm15 an15 cd15 ct15), sl15⟩)
  (c15 : W.codeIn K cd15 "are_words" = true)
  (k15 : W.keepIn K (.ref f15) = true)
  (l16 : K.lookup f16 = some ⟨oc16, od16, .func (W.fnOf "is_row" "is_row" (defArgs s_is_row) (defBody s_is_row) (defScope s_is_row) .none kV16 dc16 pm16 an16 cd16 ct16), sl16⟩)
  (c16 : W.codeIn K cd16 "is_row" = true)
  (k16 : W.keepIn K (.ref f16) = true)
  (l17 : K.lookup f_write = some ⟨oc17, od17, .func (W.fnOf "write" "Disk.write" (defArgs s_Disk_write) (defBody s_Disk_write) (defScope s_Disk_write) .none kV17 dc17 pm17 an17 cd17 ct17), sl17⟩)
  (c17 : W.codeIn K cd17 "Disk.write" = true)
  (k17 : W.keepIn K (.ref f_write) = true)
  (l18 : K.lookup f_most_node = some ⟨oc18, od18, .func (W.fnOf "most_node" "Layout.most_node" (defArgs s_Layout_most_node) (defBody s_Layout_most_node) (defScope s_Layout_most_node) .none kV18 dc18 pm18 an18 cd18 ct18), sl18⟩)
  (c18 : W.codeIn K cd18 "Layout.most_node" = true)
  (k18 : W.keepIn K (.ref f_most_node) = true)
  (l19 : K.lookup f19 = some ⟨oc19, od19, .func (W.fnOf "_law_part" "_law_part" (defArgs s__law_part) (defBody s__law_part) (defScope s__law_part) .none kV19 dc19 pm19 an19 cd19 ct19), sl19⟩)
  (c19 : W.codeIn K cd19 "_law_part" = true)
  (k19 : W.keepIn K (.ref f19) = true)
  (l20 : K.lookup f20 = some ⟨oc20, od20, .func (W.fnOf "refuse_no_node" "refuse_no_node" (defArgs s_refuse_no_node) (defBody s_refuse_no_node) (defScope s_refuse_no_node) .none kV20 dc20 pm20 an20 cd20 ct20), sl20⟩)
  (c20 : W.codeIn K cd20 "refuse_no_node" = true)
  (k20 : W.keepIn K (.ref f20) = true)
  (l21 : K.lookup f21 = some ⟨oc21, od21, .func (W.fnOf "first_word_of" "first_word_of" (defArgs s_first_word_of) (defBody s_first_word_of) (defScope s_first_word_of) .none kV21 dc21 pm21 an21 cd21 ct21), sl21⟩)
  (c21 : W.codeIn K cd21 "first_word_of" = true)
  (k21 : W.keepIn K (.ref f21) = true)
  (l22 : K.lookup f_read = some ⟨oc22, od22, .func (W.fnOf "read" "Disk.read" (defArgs s_Disk_read) (defBody s_Disk_read) (defScope s_Disk_read) .none kV22 dc22 pm22 an22 cd22 ct22), sl22⟩)
  (c22 : W.codeIn K cd22 "Disk.read" = true)
  (k22 : W.keepIn K (.ref f_read) = true)
  (l23 : K.lookup f23 = some ⟨oc23, od23, .func (W.fnOf "is_home" "is_home" (defArgs s_is_home) (defBody s_is_home) (defScope s_is_home) .none kV23 dc23 pm23 an23 cd23 ct23), sl23⟩)
  (c23 : W.codeIn K cd23 "is_home" = true)
  (k23 : W.keepIn K (.ref f23) = true)
  (l24 : K.lookup f_Batch_read = some ⟨oc24, od24, .func (W.fnOf "read" "Batch.read" (defArgs s_Batch_read) (defBody s_Batch_read) (defScope s_Batch_read) .none kV24 dc24 pm24 an24 cd24 ct24), sl24⟩)
  (c24 : W.codeIn K cd24 "Batch.read" = true)
  (k24 : W.keepIn K (.ref f_Batch_read) = true)
  (l25 : K.lookup f25 = some ⟨oc25, od25, .func (W.fnOf "block_of" "block_of" (defArgs s_block_of) (defBody s_block_of) (defScope s_block_of) .none kV25 dc25 pm25 an25 cd25 ct25), sl25⟩)
  (c25 : W.codeIn K cd25 "block_of" = true)
  (k25 : W.keepIn K (.ref f25) = true)
  (l26 : K.lookup f26 = some ⟨oc26, od26, .func (W.fnOf "node_of" "node_of" (defArgs s_node_of) (defBody s_node_of) (defScope s_node_of) .none kV26 dc26 pm26 an26 cd26 ct26), sl26⟩)
  (c26 : W.codeIn K cd26 "node_of" = true)
  (k26 : W.keepIn K (.ref f26) = true)
  (l27 : K.lookup f27 = some ⟨oc27, od27, .func (W.fnOf "refuse_out_of_place" "refuse_out_of_place" (defArgs s_refuse_out_of_place) (defBody s_refuse_out_of_place) (defScope s_refuse_out_of_place) .none kV27 dc27 pm27 an27 cd27 ct27), sl27⟩)
  (c27 : W.codeIn K cd27 "refuse_out_of_place" = true)
  (k27 : W.keepIn K (.ref f27) = true)
  (l28 : K.lookup f28 = some ⟨oc28, od28, .func (W.fnOf "count_of_blocks" "count_of_blocks" (defArgs s_count_of_blocks) (defBody s_count_of_blocks) (defScope s_count_of_blocks) .none kV28 dc28 pm28 an28 cd28 ct28), sl28⟩)
  (c28 : W.codeIn K cd28 "count_of_blocks" = true)
  (k28 : W.keepIn K (.ref f28) = true)
  (l29 : K.lookup f29 = some ⟨oc29, od29, .func (W.fnOf "blocks_of" "blocks_of" (defArgs s_blocks_of) (defBody s_blocks_of) (defScope s_blocks_of) .none kV29 dc29 pm29 an29 cd29 ct29), sl29⟩)
  (c29 : W.codeIn K cd29 "blocks_of" = true)
  (k29 : W.keepIn K (.ref f29) = true)
  (l30 : K.lookup f30 = some ⟨oc30, od30, .func (W.fnOf "parts" "parts" (defArgs s_parts) (defBody s_parts) (defScope s_parts) .none kV30 dc30 pm30 an30 cd30 ct30), sl30⟩)
  (c30 : W.codeIn K cd30 "parts" = true)
  (k30 : W.keepIn K (.ref f30) = true)
  (l31 : K.lookup f31 = some ⟨oc31, od31, .func (W.fnOf "words_of" "words_of" (defArgs s_words_of) (defBody s_words_of) (defScope s_words_of) .none kV31 dc31 pm31 an31 cd31 ct31), sl31⟩)
  (c31 : W.codeIn K cd31 "words_of" = true)
  (k31 : W.keepIn K (.ref f31) = true)
  (l32 : K.lookup f32 = some ⟨oc32, od32, .func (W.fnOf "_law_whole" "_law_whole" (defArgs s__law_whole) (defBody s__law_whole) (defScope s__law_whole) .none kV32 dc32 pm32 an32 cd32 ct32), sl32⟩)
  (c32 : W.codeIn K cd32 "_law_whole" = true)
  (k32 : W.keepIn K (.ref f32) = true)
  (l33 : K.lookup f33 = some ⟨oc33, od33, .func (W.fnOf "_law_numbers" "_law_numbers" (defArgs s__law_numbers) (defBody s__law_numbers) (defScope s__law_numbers) .none kV33 dc33 pm33 an33 cd33 ct33), sl33⟩)
  (c33 : W.codeIn K cd33 "_law_numbers" = true)
  (k33 : W.keepIn K (.ref f33) = true)
  (l34 : K.lookup f_Batch_write = some ⟨oc34, od34, .func (W.fnOf "write" "Batch.write" (defArgs s_Batch_write) (defBody s_Batch_write) (defScope s_Batch_write) .none kV34 dc34 pm34 an34 cd34 ct34), sl34⟩)
  (c34 : W.codeIn K cd34 "Batch.write" = true)
  (k34 : W.keepIn K (.ref f_Batch_write) = true)
  (l35 : K.lookup f35 = some ⟨oc35, od35, .func (W.fnOf "changed" "changed" (defArgs s_changed) (defBody s_changed) (defScope s_changed) .none kV35 dc35 pm35 an35 cd35 ct35), sl35⟩)
  (c35 : W.codeIn K cd35 "changed" = true)
  (k35 : W.keepIn K (.ref f35) = true)
  (l36 : K.lookup f36 = some ⟨oc36, od36, .func (W.fnOf "put_words" "put_words" (defArgs s_put_words) (defBody s_put_words) (defScope s_put_words) .none kV36 dc36 pm36 an36 cd36 ct36), sl36⟩)
  (c36 : W.codeIn K cd36 "put_words" = true)
  (k36 : W.keepIn K (.ref f36) = true)
  (l37 : K.lookup f37 = some ⟨oc37, od37, .func (W.fnOf "_law_refused" "_law_refused" (defArgs s__law_refused) (defBody s__law_refused) (defScope s__law_refused) .none kV37 dc37 pm37 an37 cd37 ct37), sl37⟩)
  (c37 : W.codeIn K cd37 "_law_refused" = true)
  (k37 : W.keepIn K (.ref f37) = true)
  (l38 : K.lookup f38 = some ⟨oc38, od38, .func (W.fnOf "_law_told" "_law_told" (defArgs s__law_told) (defBody s__law_told) (defScope s__law_told) .none kV38 dc38 pm38 an38 cd38 ct38), sl38⟩)
  (c38 : W.codeIn K cd38 "_law_told" = true)
  (k38 : W.keepIn K (.ref f38) = true)
  (l39 : K.lookup f39 = some ⟨oc39, od39, .func (W.fnOf "_law_put" "_law_put" (defArgs s__law_put) (defBody s__law_put) (defScope s__law_put) .none kV39 dc39 pm39 an39 cd39 ct39), sl39⟩)
  (c39 : W.codeIn K cd39 "_law_put" = true)
  (k39 : W.keepIn K (.ref f39) = true)
  (l40 : K.lookup f40 = some ⟨oc40, od40, .func (W.fnOf "used_by" "used_by" (defArgs s_used_by) (defBody s_used_by) (defScope s_used_by) .none kV40 dc40 pm40 an40 cd40 ct40), sl40⟩)
  (c40 : W.codeIn K cd40 "used_by" = true)
  (k40 : W.keepIn K (.ref f40) = true)
  (l41 : K.lookup f41 = some ⟨oc41, od41, .func (W.fnOf "law" "law" (defArgs s_law) (defBody s_law) (defScope s_law) .none kV41 dc41 pm41 an41 cd41 ct41), sl41⟩)
  (c41 : W.codeIn K cd41 "law" = true)
  (k41 : W.keepIn K (.ref f41) = true) :
  ∃ fd : FuncData, (∀ (s : Shared) (v : Value), BindsTo s fd ⟨[v], []⟩ [("_law_script", v)]) ∧ ∀ base : Heap, K.In base → base.Ns mainGlobals mg → FnOk l.prog w K mg base (CXE l.prog w) 10 fa fd ["_law_script"] (spLaw K) := by
 have e := hfa.symm.trans (W.mg_of X G a41)
 cases e
 have T : Txt K mg (⟨cKeepError, cBadRow, cNoBlock, cStopped, cBadDisk, cNoRoom, cNoNode, cTooLong, cOutOfPlace, cDisk, cLayout, cBatch, fLayout_init, fDisk_init, fBatch_init, f_blocks, f_refuse_no_block, f_use_up_one, f_write, f_most_node, f_read, f_Batch_read, f_Batch_write⟩ : Ad) := ⟨W.mg_none_of X G z_isinstance, W.mg_none_of X G z_int, W.mg_none_of X G z_bool, W.mg_none_of X G z_list, W.mg_none_of X G z_tuple, W.mg_none_of X G z_len, W.mg_none_of X G z_all, W.mg_none_of X G z_range, W.mg_none_of X G z_ValueError, W.mg_none_of X G z_sorted, W.mg_none_of X G z_enumerate, W.mg_none_of X G z_min, W.mg_none_of X G z_max, ⟨_, W.mg_of X G v_ROW_WORDS⟩, ⟨_, W.mg_of X G v_MOST_WORD⟩, ⟨_, W.mg_of X G v_NODE_WORDS⟩, ⟨_, W.mg_of X G v_SIZE_AT⟩, ⟨_, W.mg_of X G v_PLACES_AT⟩, ⟨_, W.mg_of X G v_FAR_AT⟩, ⟨_, W.mg_of X G v_NEAR_BLOCKS⟩, ⟨_, W.mg_of X G v_LEAST_BLOCKS⟩, ⟨_, W.mg_of X G v_MOST_BLOCKS⟩, ⟨_, W.mg_of X G v_MAPS_AT⟩, ⟨_, W.mg_of X G v_MOST_TABLES⟩, W.mg_of X G n_KeepError, W.mg_of X G n_BadRow, W.mg_of X G n_NoBlock, W.mg_of X G n_Stopped, W.mg_of X G n_BadDisk, W.mg_of X G n_NoRoom, W.mg_of X G n_NoNode, W.mg_of X G n_TooLong, W.mg_of X G n_OutOfPlace, W.mg_of X G n_Disk, W.mg_of X G n_Layout, W.mg_of X G n_Batch, x_BadRow, x_NoBlock, x_Stopped, x_BadDisk, x_NoRoom, x_NoNode, x_OutOfPlace, ⟨g0_OutOfPlace, g1_OutOfPlace, g2_OutOfPlace, g3_OutOfPlace, g4_OutOfPlace, g5_OutOfPlace, g6_OutOfPlace⟩, ⟨g0_BadRow, g1_BadRow, g2_BadRow, g3_BadRow, g4_BadRow, g5_BadRow, g6_BadRow⟩, ⟨h0_KeepError, h1_KeepError⟩, s_BadRow_KeepError, s_NoBlock_KeepError, s_Stopped_KeepError, s_BadDisk_KeepError, s_NoRoom_KeepError, s_NoNode_KeepError, s_OutOfPlace_KeepError, q_OutOfPlace_OutOfPlace, q_OutOfPlace_BadRow, q_OutOfPlace_NoBlock, q_OutOfPlace_NoNode, q_OutOfPlace_TooLong, q_OutOfPlace_ValueError, q_BadRow_OutOfPlace, q_BadRow_BadRow, q_BadRow_NoBlock, q_BadRow_NoNode, q_BadRow_TooLong, q_BadRow_ValueError, ⟨pg_Disk, hd_Disk, po_Disk, sa_Disk⟩, na_kept_rows, na_writes_done, na_writes_left, ⟨mk_Disk, a_fDisk_init, i_fDisk_init, kc_Disk⟩, ⟨a_f_blocks, i_f_blocks, kp_f_blocks⟩, ⟨a_f_refuse_no_block, i_f_refuse_no_block, kp_f_refuse_no_block⟩, ⟨a_f_use_up_one, i_f_use_up_one, kp_f_use_up_one⟩, ⟨a_f_write, i_f_write, kp_f_write⟩, ⟨a_f_read, i_f_read, kp_f_read⟩, ⟨pg_Layout, hd_Layout, po_Layout, sa_Layout⟩, na_many, na_tables, na_maps_at, na_nodes_at, na_data_at, ⟨mk_Layout, a_fLayout_init, i_fLayout_init, kc_Layout⟩, ⟨a_f_most_node, i_f_most_node, kp_f_most_node⟩, ⟨pg_Batch, hd_Batch, po_Batch, sa_Batch⟩, na_disk, na_new_rows, ⟨mk_Batch, a_fBatch_init, i_fBatch_init, kc_Batch⟩, ⟨a_f_Batch_read, i_f_Batch_read, kp_f_Batch_read⟩, ⟨a_f_Batch_write, i_f_Batch_write, kp_f_Batch_write⟩⟩
 have F1 := fun_mk (st := s_is_whole) l1 c1 k1
 have b1 := F1.binds (ps := ["thing", "least", "most"]) fun _ _ _ _ _ _ us hl => match us, hl with | [_, _, _], _ => rfl
 have F2 := fun_mk (st := s_Layout___init__) l2 c2 k2
 have b2 := F2.binds (ps := ["self", "many", "tables"]) fun _ _ _ _ _ _ us hl => match us, hl with | [_, _, _], _ => rfl
 have F3 := fun_mk (st := s__law_cell_at) l3 c3 k3
 have b3 := F3.binds (ps := ["_law_script", "_law_k"]) fun _ _ _ _ _ _ us hl => match us, hl with | [_, _], _ => rfl
 have F4 := fun_mk (st := s__law_order) l4 c4 k4
 have b4 := F4.binds (ps := ["_law_layout", "_law_cell"]) fun _ _ _ _ _ _ us hl => match us, hl with | [_, _], _ => rfl
 have F5 := fun_mk (st := s__law_laid) l5 c5 k5
 have b5 := F5.binds (ps := ["_law_layout", "_law_script"]) fun _ _ _ _ _ _ us hl => match us, hl with | [_, _], _ => rfl
 have F6 := fun_mk (st := s__law_drawn) l6 c6 k6
 have b6 := F6.binds (ps := ["_law_cell", "_law_many"]) fun _ _ _ _ _ _ us hl => match us, hl with | [_, _], _ => rfl
 have F7 := fun_mk (st := s_empty_row) l7 c7 k7
 have b7 := F7.binds (ps := []) fun _ _ _ _ _ _ us hl => match us, hl with | [], _ => rfl
 have F8 := fun_mk (st := s_Disk___init__) l8 c8 k8
 have b8 := F8.binds (ps := ["self", "many"]) fun _ _ _ _ _ _ us hl => match us, hl with | [_, _], _ => rfl
 have F9 := fun_mk (st := s_Batch___init__) l9 c9 k9
 have b9 := F9.binds (ps := ["self", "disk"]) fun _ _ _ _ _ _ us hl => match us, hl with | [_, _], _ => rfl
 have F10 := fun_mk (st := s__law_rows) l10 c10 k10
 have b10 := F10.binds (ps := ["_law_layout", "_law_words", "_law_blocks", "_law_far", "_law_node", "_law_kind"]) fun _ _ _ _ _ _ us hl => match us, hl with | [_, _, _, _, _, _], _ => rfl
 have F11 := fun_mk (st := s_Disk_blocks) l11 c11 k11
 have b11 := F11.binds (ps := ["self"]) fun _ _ _ _ _ _ us hl => match us, hl with | [_], _ => rfl
 have F12 := fun_mk (st := s_Disk_refuse_no_block) l12 c12 k12
 have b12 := F12.binds (ps := ["self", "block"]) fun _ _ _ _ _ _ us hl => match us, hl with | [_, _], _ => rfl
 have F13 := fun_mk (st := s_Disk_use_up_one) l13 c13 k13
 have b13 := F13.binds (ps := ["self"]) fun _ _ _ _ _ _ us hl => match us, hl with | [_], _ => rfl
 have F14 := fun_mk (st := s_is_word) l14 c14 k14
 have b14 := F14.binds (ps := ["thing"]) fun _ _ _ _ _ _ us hl => match us, hl with | [_], _ => rfl
 have F15 := fun_mk (st := s_are_words) l15 c15 k15
 have b15 := F15.binds (ps := ["thing"]) fun _ _ _ _ _ _ us hl => match us, hl with | [_], _ => rfl
 have F16 := fun_mk (st := s_is_row) l16 c16 k16
 have b16 := F16.binds (ps := ["thing"]) fun _ _ _ _ _ _ us hl => match us, hl with | [_], _ => rfl
 have F17 := fun_mk (st := s_Disk_write) l17 c17 k17
 have b17 := F17.binds (ps := ["self", "block", "row"]) fun _ _ _ _ _ _ us hl => match us, hl with | [_, _, _], _ => rfl
 have F18 := fun_mk (st := s_Layout_most_node) l18 c18 k18
 have b18 := F18.binds (ps := ["self"]) fun _ _ _ _ _ _ us hl => match us, hl with | [_], _ => rfl
 have F19 := fun_mk (st := s__law_part) l19 c19 k19
 have b19 := F19.binds (ps := ["_law_size", "_law_cell"]) fun _ _ _ _ _ _ us hl => match us, hl with | [_, _], _ => rfl
 have F20 := fun_mk (st := s_refuse_no_node) l20 c20 k20
 have b20 := F20.binds (ps := ["layout", "node"]) fun _ _ _ _ _ _ us hl => match us, hl with | [_, _], _ => rfl
 have F21 := fun_mk (st := s_first_word_of) l21 c21 k21
 have b21 := F21.binds (ps := ["node"]) fun _ _ _ _ _ _ us hl => match us, hl with | [_], _ => rfl
 have F22 := fun_mk (st := s_Disk_read) l22 c22 k22
 have b22 := F22.binds (ps := ["self", "block"]) fun _ _ _ _ _ _ us hl => match us, hl with | [_, _], _ => rfl
 have F23 := fun_mk (st := s_is_home) l23 c23 k23
 have b23 := F23.binds (ps := ["disk", "block"]) fun _ _ _ _ _ _ us hl => match us, hl with | [_, _], _ => rfl
 have F24 := fun_mk (st := s_Batch_read) l24 c24 k24
 have b24 := F24.binds (ps := ["self", "block"]) fun _ _ _ _ _ _ us hl => match us, hl with | [_, _], _ => rfl
 have F25 := fun_mk (st := s_block_of) l25 c25 k25
 have b25 := F25.binds (ps := ["layout", "node"]) fun _ _ _ _ _ _ us hl => match us, hl with | [_, _], _ => rfl
 have F26 := fun_mk (st := s_node_of) l26 c26 k26
 have b26 := F26.binds (ps := ["batch", "layout", "node"]) fun _ _ _ _ _ _ us hl => match us, hl with | [_, _, _], _ => rfl
 have F27 := fun_mk (st := s_refuse_out_of_place) l27 c27 k27
 have b27 := F27.binds (ps := ["batch", "layout", "node", "begin", "count"]) fun _ _ _ _ _ _ us hl => match us, hl with | [_, _, _, _, _], _ => rfl
 have F28 := fun_mk (st := s_count_of_blocks) l28 c28 k28
 have b28 := F28.binds (ps := ["size"]) fun _ _ _ _ _ _ us hl => match us, hl with | [_], _ => rfl
 have F29 := fun_mk (st := s_blocks_of) l29 c29 k29
 have b29 := F29.binds (ps := ["batch", "layout", "node"]) fun _ _ _ _ _ _ us hl => match us, hl with | [_, _, _], _ => rfl
 have F30 := fun_mk (st := s_parts) l30 c30 k30
 have b30 := F30.binds (ps := ["begin", "count"]) fun _ _ _ _ _ _ us hl => match us, hl with | [_, _], _ => rfl
 have F31 := fun_mk (st := s_words_of) l31 c31 k31
 have b31 := F31.binds (ps := ["batch", "layout", "node", "begin", "count"]) fun _ _ _ _ _ _ us hl => match us, hl with | [_, _, _, _, _], _ => rfl
 have F32 := fun_mk (st := s__law_whole) l32 c32 k32
 have b32 := F32.binds (ps := ["_law_found"]) fun _ _ _ _ _ _ us hl => match us, hl with | [_], _ => rfl
 have F33 := fun_mk (st := s__law_numbers) l33 c33 k33
 have b33 := F33.binds (ps := ["_law_found", "_law_due"]) fun _ _ _ _ _ _ us hl => match us, hl with | [_, _], _ => rfl
 have F34 := fun_mk (st := s_Batch_write) l34 c34 k34
 have b34 := F34.binds (ps := ["self", "block", "row"]) fun _ _ _ _ _ _ us hl => match us, hl with | [_, _, _], _ => rfl
 have F35 := fun_mk (st := s_changed) l35 c35 k35
 have b35 := F35.binds (ps := ["row", "at", "words"]) fun _ _ _ _ _ _ us hl => match us, hl with | [_, _, _], _ => rfl
 have F36 := fun_mk (st := s_put_words) l36 c36 k36
 have b36 := F36.binds (ps := ["batch", "layout", "node", "begin", "words"]) fun _ _ _ _ _ _ us hl => match us, hl with | [_, _, _, _, _], _ => rfl
 have F37 := fun_mk (st := s__law_refused) l37 c37 k37
 have b37 := F37.binds (ps := ["_law_batch", "_law_layout", "_law_node", "_law_begin", "_law_thing"]) fun _ _ _ _ _ _ us hl => match us, hl with | [_, _, _, _, _], _ => rfl
 have F38 := fun_mk (st := s__law_told) l38 c38 k38
 have b38 := F38.binds (ps := ["_law_batch", "_law_layout", "_law_node", "_law_words", "_law_cell"]) fun _ _ _ _ _ _ us hl => match us, hl with | [_, _, _, _, _], _ => rfl
 have F39 := fun_mk (st := s__law_put) l39 c39 k39
 have b39 := F39.binds (ps := ["_law_batch", "_law_layout", "_law_node", "_law_words", "_law_cell", "_law_turn"]) fun _ _ _ _ _ _ us hl => match us, hl with | [_, _, _, _, _, _], _ => rfl
 have F40 := fun_mk (st := s_used_by) l40 c40 k40
 have b40 := F40.binds (ps := ["batch", "layout", "node"]) fun _ _ _ _ _ _ us hl => match us, hl with | [_, _, _], _ => rfl
 have F41 := fun_mk (st := s_law) l41 c41 k41
 refine ⟨W.fnOf "law" "law" (defArgs s_law) (defBody s_law) (defScope s_law) .none kV41 dc41 pm41 an41 cd41 ct41, fun s v => .of_eq rfl, fun base _ _ => ?_⟩
 have D_is_whole : Df l.prog w K mg base CX0 1 "is_whole" ["thing", "least", "most"] (spWhole K (⟨cKeepError, cBadRow, cNoBlock, cStopped, cBadDisk, cNoRoom, cNoNode, cTooLong, cOutOfPlace, cDisk, cLayout, cBatch, fLayout_init, fDisk_init, fBatch_init, f_blocks, f_refuse_no_block, f_use_up_one, f_write, f_most_node, f_read, f_Batch_read, f_Batch_write⟩ : Ad)) := ⟨_, _, ok_is_whole F1 T , b1, k1, W.mg_of X G a1⟩
 have M_Layout___init__ : Mf l.prog w K mg base (CXE l.prog w) 2 (⟨cKeepError, cBadRow, cNoBlock, cStopped, cBadDisk, cNoRoom, cNoNode, cTooLong, cOutOfPlace, cDisk, cLayout, cBatch, fLayout_init, fDisk_init, fBatch_init, f_blocks, f_refuse_no_block, f_use_up_one, f_write, f_most_node, f_read, f_Batch_read, f_Batch_write⟩ : Ad).fLayout_init ["self", "many", "tables"] (spLInit K (⟨cKeepError, cBadRow, cNoBlock, cStopped, cBadDisk, cNoRoom, cNoNode, cTooLong, cOutOfPlace, cDisk, cLayout, cBatch, fLayout_init, fDisk_init, fBatch_init, f_blocks, f_refuse_no_block, f_use_up_one, f_write, f_most_node, f_read, f_Batch_read, f_Batch_write⟩ : Ad)) := ⟨_, ok_Layout___init__ F2 T D_is_whole, b2⟩
 have D__law_cell_at : Df l.prog w K mg base CX0 1 "_law_cell_at" ["_law_script", "_law_k"] (spCell K (⟨cKeepError, cBadRow, cNoBlock, cStopped, cBadDisk, cNoRoom, cNoNode, cTooLong, cOutOfPlace, cDisk, cLayout, cBatch, fLayout_init, fDisk_init, fBatch_init, f_blocks, f_refuse_no_block, f_use_up_one, f_write, f_most_node, f_read, f_Batch_read, f_Batch_write⟩ : Ad)) := ⟨_, _, ok__law_cell_at F3 T , b3, k3, W.mg_of X G a3⟩
 have D__law_order : Df l.prog w K mg base (CXE l.prog w) 1 "_law_order" ["_law_layout", "_law_cell"] (spOrder K (⟨cKeepError, cBadRow, cNoBlock, cStopped, cBadDisk, cNoRoom, cNoNode, cTooLong, cOutOfPlace, cDisk, cLayout, cBatch, fLayout_init, fDisk_init, fBatch_init, f_blocks, f_refuse_no_block, f_use_up_one, f_write, f_most_node, f_read, f_Batch_read, f_Batch_write⟩ : Ad)) := ⟨_, _, ok__law_order F4 T , b4, k4, W.mg_of X G a4⟩
 have D__law_laid : Df l.prog w K mg base (CXE l.prog w) 2 "_law_laid" ["_law_layout", "_law_script"] (spLaid K (⟨cKeepError, cBadRow, cNoBlock, cStopped, cBadDisk, cNoRoom, cNoNode, cTooLong, cOutOfPlace, cDisk, cLayout, cBatch, fLayout_init, fDisk_init, fBatch_init, f_blocks, f_refuse_no_block, f_use_up_one, f_write, f_most_node, f_read, f_Batch_read, f_Batch_write⟩ : Ad)) := ⟨_, _, ok__law_laid F5 T D__law_cell_at D__law_order, b5, k5, W.mg_of X G a5⟩
 have D__law_drawn : Df l.prog w K mg base (CXE l.prog w) 1 "_law_drawn" ["_law_cell", "_law_many"] (spDrawn K (⟨cKeepError, cBadRow, cNoBlock, cStopped, cBadDisk, cNoRoom, cNoNode, cTooLong, cOutOfPlace, cDisk, cLayout, cBatch, fLayout_init, fDisk_init, fBatch_init, f_blocks, f_refuse_no_block, f_use_up_one, f_write, f_most_node, f_read, f_Batch_read, f_Batch_write⟩ : Ad)) := ⟨_, _, ok__law_drawn F6 T , b6, k6, W.mg_of X G a6⟩
 have D_empty_row : Df l.prog w K mg base CX0 1 "empty_row" [] (spEmpty K (⟨cKeepError, cBadRow, cNoBlock, cStopped, cBadDisk, cNoRoom, cNoNode, cTooLong, cOutOfPlace, cDisk, cLayout, cBatch, fLayout_init, fDisk_init, fBatch_init, f_blocks, f_refuse_no_block, f_use_up_one, f_write, f_most_node, f_read, f_Batch_read, f_Batch_write⟩ : Ad)) := ⟨_, _, ok_empty_row F7 T , b7, k7, W.mg_of X G a7⟩
 have M_Disk___init__ : Mf l.prog w K mg base (CXE l.prog w) 2 (⟨cKeepError, cBadRow, cNoBlock, cStopped, cBadDisk, cNoRoom, cNoNode, cTooLong, cOutOfPlace, cDisk, cLayout, cBatch, fLayout_init, fDisk_init, fBatch_init, f_blocks, f_refuse_no_block, f_use_up_one, f_write, f_most_node, f_read, f_Batch_read, f_Batch_write⟩ : Ad).fDisk_init ["self", "many"] (spInit K (⟨cKeepError, cBadRow, cNoBlock, cStopped, cBadDisk, cNoRoom, cNoNode, cTooLong, cOutOfPlace, cDisk, cLayout, cBatch, fLayout_init, fDisk_init, fBatch_init, f_blocks, f_refuse_no_block, f_use_up_one, f_write, f_most_node, f_read, f_Batch_read, f_Batch_write⟩ : Ad)) := ⟨_, ok_Disk___init__ F8 T D_is_whole D_empty_row, b8⟩
 have M_Batch___init__ : Mf l.prog w K mg base (CXE l.prog w) 1 (⟨cKeepError, cBadRow, cNoBlock, cStopped, cBadDisk, cNoRoom, cNoNode, cTooLong, cOutOfPlace, cDisk, cLayout, cBatch, fLayout_init, fDisk_init, fBatch_init, f_blocks, f_refuse_no_block, f_use_up_one, f_write, f_most_node, f_read, f_Batch_read, f_Batch_write⟩ : Ad).fBatch_init ["self", "disk"] (spBInit K (⟨cKeepError, cBadRow, cNoBlock, cStopped, cBadDisk, cNoRoom, cNoNode, cTooLong, cOutOfPlace, cDisk, cLayout, cBatch, fLayout_init, fDisk_init, fBatch_init, f_blocks, f_refuse_no_block, f_use_up_one, f_write, f_most_node, f_read, f_Batch_read, f_Batch_write⟩ : Ad)) := ⟨_, ok_Batch___init__ F9 T , b9⟩
 have D__law_rows : Df l.prog w K mg base (CXE l.prog w) 1 "_law_rows" ["_law_layout", "_law_words", "_law_blocks", "_law_far", "_law_node", "_law_kind"] (spRowsQ K (⟨cKeepError, cBadRow, cNoBlock, cStopped, cBadDisk, cNoRoom, cNoNode, cTooLong, cOutOfPlace, cDisk, cLayout, cBatch, fLayout_init, fDisk_init, fBatch_init, f_blocks, f_refuse_no_block, f_use_up_one, f_write, f_most_node, f_read, f_Batch_read, f_Batch_write⟩ : Ad)) := ⟨_, _, ok__law_rows F10 T , b10, k10, W.mg_of X G a10⟩
 have M_Disk_blocks : Mf l.prog w K mg base (CXE l.prog w) 1 (⟨cKeepError, cBadRow, cNoBlock, cStopped, cBadDisk, cNoRoom, cNoNode, cTooLong, cOutOfPlace, cDisk, cLayout, cBatch, fLayout_init, fDisk_init, fBatch_init, f_blocks, f_refuse_no_block, f_use_up_one, f_write, f_most_node, f_read, f_Batch_read, f_Batch_write⟩ : Ad).f_blocks ["self"] (spBlocks K (⟨cKeepError, cBadRow, cNoBlock, cStopped, cBadDisk, cNoRoom, cNoNode, cTooLong, cOutOfPlace, cDisk, cLayout, cBatch, fLayout_init, fDisk_init, fBatch_init, f_blocks, f_refuse_no_block, f_use_up_one, f_write, f_most_node, f_read, f_Batch_read, f_Batch_write⟩ : Ad)) := ⟨_, ok_Disk_blocks F11 T , b11⟩
 have M_Disk_refuse_no_block : Mf l.prog w K mg base (CXE l.prog w) 2 (⟨cKeepError, cBadRow, cNoBlock, cStopped, cBadDisk, cNoRoom, cNoNode, cTooLong, cOutOfPlace, cDisk, cLayout, cBatch, fLayout_init, fDisk_init, fBatch_init, f_blocks, f_refuse_no_block, f_use_up_one, f_write, f_most_node, f_read, f_Batch_read, f_Batch_write⟩ : Ad).f_refuse_no_block ["self", "block"] (spRefuse K (⟨cKeepError, cBadRow, cNoBlock, cStopped, cBadDisk, cNoRoom, cNoNode, cTooLong, cOutOfPlace, cDisk, cLayout, cBatch, fLayout_init, fDisk_init, fBatch_init, f_blocks, f_refuse_no_block, f_use_up_one, f_write, f_most_node, f_read, f_Batch_read, f_Batch_write⟩ : Ad)) := ⟨_, ok_Disk_refuse_no_block F12 T D_is_whole M_Disk_blocks, b12⟩
 have M_Disk_use_up_one : Mf l.prog w K mg base (CXE l.prog w) 1 (⟨cKeepError, cBadRow, cNoBlock, cStopped, cBadDisk, cNoRoom, cNoNode, cTooLong, cOutOfPlace, cDisk, cLayout, cBatch, fLayout_init, fDisk_init, fBatch_init, f_blocks, f_refuse_no_block, f_use_up_one, f_write, f_most_node, f_read, f_Batch_read, f_Batch_write⟩ : Ad).f_use_up_one ["self"] (spUseUp K (⟨cKeepError, cBadRow, cNoBlock, cStopped, cBadDisk, cNoRoom, cNoNode, cTooLong, cOutOfPlace, cDisk, cLayout, cBatch, fLayout_init, fDisk_init, fBatch_init, f_blocks, f_refuse_no_block, f_use_up_one, f_write, f_most_node, f_read, f_Batch_read, f_Batch_write⟩ : Ad)) := ⟨_, ok_Disk_use_up_one F13 T , b13⟩
 have D_is_word : Df l.prog w K mg base CX0 2 "is_word" ["thing"] (spWord K (⟨cKeepError, cBadRow, cNoBlock, cStopped, cBadDisk, cNoRoom, cNoNode, cTooLong, cOutOfPlace, cDisk, cLayout, cBatch, fLayout_init, fDisk_init, fBatch_init, f_blocks, f_refuse_no_block, f_use_up_one, f_write, f_most_node, f_read, f_Batch_read, f_Batch_write⟩ : Ad)) := ⟨_, _, ok_is_word F14 T D_is_whole, b14, k14, W.mg_of X G a14⟩
 have D_are_words : Df l.prog w K mg base CX0 3 "are_words" ["thing"] (spAre K (⟨cKeepError, cBadRow, cNoBlock, cStopped, cBadDisk, cNoRoom, cNoNode, cTooLong, cOutOfPlace, cDisk, cLayout, cBatch, fLayout_init, fDisk_init, fBatch_init, f_blocks, f_refuse_no_block, f_use_up_one, f_write, f_most_node, f_read, f_Batch_read, f_Batch_write⟩ : Ad)) := ⟨_, _, ok_are_words F15 T D_is_word, b15, k15, W.mg_of X G a15⟩
 have D_is_row : Df l.prog w K mg base CX0 4 "is_row" ["thing"] (spIsRow K (⟨cKeepError, cBadRow, cNoBlock, cStopped, cBadDisk, cNoRoom, cNoNode, cTooLong, cOutOfPlace, cDisk, cLayout, cBatch, fLayout_init, fDisk_init, fBatch_init, f_blocks, f_refuse_no_block, f_use_up_one, f_write, f_most_node, f_read, f_Batch_read, f_Batch_write⟩ : Ad)) := ⟨_, _, ok_is_row F16 T D_are_words, b16, k16, W.mg_of X G a16⟩
 have M_Disk_write : Mf l.prog w K mg base (CXE l.prog w) 5 (⟨cKeepError, cBadRow, cNoBlock, cStopped, cBadDisk, cNoRoom, cNoNode, cTooLong, cOutOfPlace, cDisk, cLayout, cBatch, fLayout_init, fDisk_init, fBatch_init, f_blocks, f_refuse_no_block, f_use_up_one, f_write, f_most_node, f_read, f_Batch_read, f_Batch_write⟩ : Ad).f_write ["self", "block", "row"] (spWrite K (⟨cKeepError, cBadRow, cNoBlock, cStopped, cBadDisk, cNoRoom, cNoNode, cTooLong, cOutOfPlace, cDisk, cLayout, cBatch, fLayout_init, fDisk_init, fBatch_init, f_blocks, f_refuse_no_block, f_use_up_one, f_write, f_most_node, f_read, f_Batch_read, f_Batch_write⟩ : Ad)) := ⟨_, ok_Disk_write F17 T M_Disk_refuse_no_block M_Disk_use_up_one D_is_row, b17⟩
 have M_Layout_most_node : Mf l.prog w K mg base CX0 1 (⟨cKeepError, cBadRow, cNoBlock, cStopped, cBadDisk, cNoRoom, cNoNode, cTooLong, cOutOfPlace, cDisk, cLayout, cBatch, fLayout_init, fDisk_init, fBatch_init, f_blocks, f_refuse_no_block, f_use_up_one, f_write, f_most_node, f_read, f_Batch_read, f_Batch_write⟩ : Ad).f_most_node ["self"] (spMost K (⟨cKeepError, cBadRow, cNoBlock, cStopped, cBadDisk, cNoRoom, cNoNode, cTooLong, cOutOfPlace, cDisk, cLayout, cBatch, fLayout_init, fDisk_init, fBatch_init, f_blocks, f_refuse_no_block, f_use_up_one, f_write, f_most_node, f_read, f_Batch_read, f_Batch_write⟩ : Ad)) := ⟨_, ok_Layout_most_node F18 T , b18⟩
 have D__law_part : Df l.prog w K mg base (CXE l.prog w) 1 "_law_part" ["_law_size", "_law_cell"] (spPart K (⟨cKeepError, cBadRow, cNoBlock, cStopped, cBadDisk, cNoRoom, cNoNode, cTooLong, cOutOfPlace, cDisk, cLayout, cBatch, fLayout_init, fDisk_init, fBatch_init, f_blocks, f_refuse_no_block, f_use_up_one, f_write, f_most_node, f_read, f_Batch_read, f_Batch_write⟩ : Ad)) := ⟨_, _, ok__law_part F19 T , b19, k19, W.mg_of X G a19⟩
 have D_refuse_no_node : Df l.prog w K mg base (CXE l.prog w) 2 "refuse_no_node" ["layout", "node"] (spRefuseN K (⟨cKeepError, cBadRow, cNoBlock, cStopped, cBadDisk, cNoRoom, cNoNode, cTooLong, cOutOfPlace, cDisk, cLayout, cBatch, fLayout_init, fDisk_init, fBatch_init, f_blocks, f_refuse_no_block, f_use_up_one, f_write, f_most_node, f_read, f_Batch_read, f_Batch_write⟩ : Ad)) := ⟨_, _, ok_refuse_no_node F20 T D_is_whole M_Layout_most_node, b20, k20, W.mg_of X G a20⟩
 have D_first_word_of : Df l.prog w K mg base CX0 1 "first_word_of" ["node"] (spFirst K (⟨cKeepError, cBadRow, cNoBlock, cStopped, cBadDisk, cNoRoom, cNoNode, cTooLong, cOutOfPlace, cDisk, cLayout, cBatch, fLayout_init, fDisk_init, fBatch_init, f_blocks, f_refuse_no_block, f_use_up_one, f_write, f_most_node, f_read, f_Batch_read, f_Batch_write⟩ : Ad)) := ⟨_, _, ok_first_word_of F21 T , b21, k21, W.mg_of X G a21⟩
 have M_Disk_read : Mf l.prog w K mg base (CXE l.prog w) 3 (⟨cKeepError, cBadRow, cNoBlock, cStopped, cBadDisk, cNoRoom, cNoNode, cTooLong, cOutOfPlace, cDisk, cLayout, cBatch, fLayout_init, fDisk_init, fBatch_init, f_blocks, f_refuse_no_block, f_use_up_one, f_write, f_most_node, f_read, f_Batch_read, f_Batch_write⟩ : Ad).f_read ["self", "block"] (spRead K (⟨cKeepError, cBadRow, cNoBlock, cStopped, cBadDisk, cNoRoom, cNoNode, cTooLong, cOutOfPlace, cDisk, cLayout, cBatch, fLayout_init, fDisk_init, fBatch_init, f_blocks, f_refuse_no_block, f_use_up_one, f_write, f_most_node, f_read, f_Batch_read, f_Batch_write⟩ : Ad)) := ⟨_, ok_Disk_read F22 T M_Disk_refuse_no_block, b22⟩
 have D_is_home : Df l.prog w K mg base (CXE l.prog w) 2 "is_home" ["disk", "block"] (spHome K (⟨cKeepError, cBadRow, cNoBlock, cStopped, cBadDisk, cNoRoom, cNoNode, cTooLong, cOutOfPlace, cDisk, cLayout, cBatch, fLayout_init, fDisk_init, fBatch_init, f_blocks, f_refuse_no_block, f_use_up_one, f_write, f_most_node, f_read, f_Batch_read, f_Batch_write⟩ : Ad)) := ⟨_, _, ok_is_home F23 T D_is_whole M_Disk_blocks, b23, k23, W.mg_of X G a23⟩
 have M_Batch_read : Mf l.prog w K mg base (CXE l.prog w) 4 (⟨cKeepError, cBadRow, cNoBlock, cStopped, cBadDisk, cNoRoom, cNoNode, cTooLong, cOutOfPlace, cDisk, cLayout, cBatch, fLayout_init, fDisk_init, fBatch_init, f_blocks, f_refuse_no_block, f_use_up_one, f_write, f_most_node, f_read, f_Batch_read, f_Batch_write⟩ : Ad).f_Batch_read ["self", "block"] (spBRead K (⟨cKeepError, cBadRow, cNoBlock, cStopped, cBadDisk, cNoRoom, cNoNode, cTooLong, cOutOfPlace, cDisk, cLayout, cBatch, fLayout_init, fDisk_init, fBatch_init, f_blocks, f_refuse_no_block, f_use_up_one, f_write, f_most_node, f_read, f_Batch_read, f_Batch_write⟩ : Ad)) := ⟨_, ok_Batch_read F24 T M_Disk_read D_is_home, b24⟩
 have D_block_of : Df l.prog w K mg base CX0 1 "block_of" ["layout", "node"] (spBlockOf K (⟨cKeepError, cBadRow, cNoBlock, cStopped, cBadDisk, cNoRoom, cNoNode, cTooLong, cOutOfPlace, cDisk, cLayout, cBatch, fLayout_init, fDisk_init, fBatch_init, f_blocks, f_refuse_no_block, f_use_up_one, f_write, f_most_node, f_read, f_Batch_read, f_Batch_write⟩ : Ad)) := ⟨_, _, ok_block_of F25 T , b25, k25, W.mg_of X G a25⟩
 have D_node_of : Df l.prog w K mg base (CXE l.prog w) 5 "node_of" ["batch", "layout", "node"] (spNodeOf K (⟨cKeepError, cBadRow, cNoBlock, cStopped, cBadDisk, cNoRoom, cNoNode, cTooLong, cOutOfPlace, cDisk, cLayout, cBatch, fLayout_init, fDisk_init, fBatch_init, f_blocks, f_refuse_no_block, f_use_up_one, f_write, f_most_node, f_read, f_Batch_read, f_Batch_write⟩ : Ad)) := ⟨_, _, ok_node_of F26 T D_refuse_no_node D_first_word_of M_Batch_read D_block_of, b26, k26, W.mg_of X G a26⟩
 have D_refuse_out_of_place : Df l.prog w K mg base (CXE l.prog w) 6 "refuse_out_of_place" ["batch", "layout", "node", "begin", "count"] (spRefuseO K (⟨cKeepError, cBadRow, cNoBlock, cStopped, cBadDisk, cNoRoom, cNoNode, cTooLong, cOutOfPlace, cDisk, cLayout, cBatch, fLayout_init, fDisk_init, fBatch_init, f_blocks, f_refuse_no_block, f_use_up_one, f_write, f_most_node, f_read, f_Batch_read, f_Batch_write⟩ : Ad)) := ⟨_, _, ok_refuse_out_of_place F27 T D_node_of, b27, k27, W.mg_of X G a27⟩
 have D_count_of_blocks : Df l.prog w K mg base CX0 1 "count_of_blocks" ["size"] (spCount K (⟨cKeepError, cBadRow, cNoBlock, cStopped, cBadDisk, cNoRoom, cNoNode, cTooLong, cOutOfPlace, cDisk, cLayout, cBatch, fLayout_init, fDisk_init, fBatch_init, f_blocks, f_refuse_no_block, f_use_up_one, f_write, f_most_node, f_read, f_Batch_read, f_Batch_write⟩ : Ad)) := ⟨_, _, ok_count_of_blocks F28 T , b28, k28, W.mg_of X G a28⟩
 have D_blocks_of : Df l.prog w K mg base (CXE l.prog w) 6 "blocks_of" ["batch", "layout", "node"] (spBlocksOf K (⟨cKeepError, cBadRow, cNoBlock, cStopped, cBadDisk, cNoRoom, cNoNode, cTooLong, cOutOfPlace, cDisk, cLayout, cBatch, fLayout_init, fDisk_init, fBatch_init, f_blocks, f_refuse_no_block, f_use_up_one, f_write, f_most_node, f_read, f_Batch_read, f_Batch_write⟩ : Ad)) := ⟨_, _, ok_blocks_of F29 T D_node_of D_count_of_blocks M_Batch_read, b29, k29, W.mg_of X G a29⟩
 have D_parts : Df l.prog w K mg base (CXE l.prog w) 1 "parts" ["begin", "count"] (spParts K (⟨cKeepError, cBadRow, cNoBlock, cStopped, cBadDisk, cNoRoom, cNoNode, cTooLong, cOutOfPlace, cDisk, cLayout, cBatch, fLayout_init, fDisk_init, fBatch_init, f_blocks, f_refuse_no_block, f_use_up_one, f_write, f_most_node, f_read, f_Batch_read, f_Batch_write⟩ : Ad)) := ⟨_, _, ok_parts F30 T , b30, k30, W.mg_of X G a30⟩
 have D_words_of : Df l.prog w K mg base (CXE l.prog w) 7 "words_of" ["batch", "layout", "node", "begin", "count"] (spWordsOf K (⟨cKeepError, cBadRow, cNoBlock, cStopped, cBadDisk, cNoRoom, cNoNode, cTooLong, cOutOfPlace, cDisk, cLayout, cBatch, fLayout_init, fDisk_init, fBatch_init, f_blocks, f_refuse_no_block, f_use_up_one, f_write, f_most_node, f_read, f_Batch_read, f_Batch_write⟩ : Ad)) := ⟨_, _, ok_words_of F31 T D_refuse_out_of_place D_blocks_of D_parts M_Batch_read, b31, k31, W.mg_of X G a31⟩
 have D__law_whole : Df l.prog w K mg base CX0 1 "_law_whole" ["_law_found"] (spWholeL K (⟨cKeepError, cBadRow, cNoBlock, cStopped, cBadDisk, cNoRoom, cNoNode, cTooLong, cOutOfPlace, cDisk, cLayout, cBatch, fLayout_init, fDisk_init, fBatch_init, f_blocks, f_refuse_no_block, f_use_up_one, f_write, f_most_node, f_read, f_Batch_read, f_Batch_write⟩ : Ad)) := ⟨_, _, ok__law_whole F32 T , b32, k32, W.mg_of X G a32⟩
 have D__law_numbers : Df l.prog w K mg base (CXE l.prog w) 2 "_law_numbers" ["_law_found", "_law_due"] (spNumbers K (⟨cKeepError, cBadRow, cNoBlock, cStopped, cBadDisk, cNoRoom, cNoNode, cTooLong, cOutOfPlace, cDisk, cLayout, cBatch, fLayout_init, fDisk_init, fBatch_init, f_blocks, f_refuse_no_block, f_use_up_one, f_write, f_most_node, f_read, f_Batch_read, f_Batch_write⟩ : Ad)) := ⟨_, _, ok__law_numbers F33 T D__law_whole, b33, k33, W.mg_of X G a33⟩
 have M_Batch_write : Mf l.prog w K mg base (CXE l.prog w) 5 (⟨cKeepError, cBadRow, cNoBlock, cStopped, cBadDisk, cNoRoom, cNoNode, cTooLong, cOutOfPlace, cDisk, cLayout, cBatch, fLayout_init, fDisk_init, fBatch_init, f_blocks, f_refuse_no_block, f_use_up_one, f_write, f_most_node, f_read, f_Batch_read, f_Batch_write⟩ : Ad).f_Batch_write ["self", "block", "row"] (spBWrite K (⟨cKeepError, cBadRow, cNoBlock, cStopped, cBadDisk, cNoRoom, cNoNode, cTooLong, cOutOfPlace, cDisk, cLayout, cBatch, fLayout_init, fDisk_init, fBatch_init, f_blocks, f_refuse_no_block, f_use_up_one, f_write, f_most_node, f_read, f_Batch_read, f_Batch_write⟩ : Ad)) := ⟨_, ok_Batch_write F34 T D_is_home D_is_row, b34⟩
 have D_changed : Df l.prog w K mg base CX0 1 "changed" ["row", "at", "words"] (spChanged K (⟨cKeepError, cBadRow, cNoBlock, cStopped, cBadDisk, cNoRoom, cNoNode, cTooLong, cOutOfPlace, cDisk, cLayout, cBatch, fLayout_init, fDisk_init, fBatch_init, f_blocks, f_refuse_no_block, f_use_up_one, f_write, f_most_node, f_read, f_Batch_read, f_Batch_write⟩ : Ad)) := ⟨_, _, ok_changed F35 T , b35, k35, W.mg_of X G a35⟩
 have D_put_words : Df l.prog w K mg base (CXE l.prog w) 7 "put_words" ["batch", "layout", "node", "begin", "words"] (spPutWords K (⟨cKeepError, cBadRow, cNoBlock, cStopped, cBadDisk, cNoRoom, cNoNode, cTooLong, cOutOfPlace, cDisk, cLayout, cBatch, fLayout_init, fDisk_init, fBatch_init, f_blocks, f_refuse_no_block, f_use_up_one, f_write, f_most_node, f_read, f_Batch_read, f_Batch_write⟩ : Ad)) := ⟨_, _, ok_put_words F36 T D_refuse_out_of_place D_blocks_of D_parts D_are_words M_Batch_write D_changed M_Batch_read, b36, k36, W.mg_of X G a36⟩
 have D__law_refused : Df l.prog w K mg base (CXE l.prog w) 8 "_law_refused" ["_law_batch", "_law_layout", "_law_node", "_law_begin", "_law_thing"] (spRefused K (⟨cKeepError, cBadRow, cNoBlock, cStopped, cBadDisk, cNoRoom, cNoNode, cTooLong, cOutOfPlace, cDisk, cLayout, cBatch, fLayout_init, fDisk_init, fBatch_init, f_blocks, f_refuse_no_block, f_use_up_one, f_write, f_most_node, f_read, f_Batch_read, f_Batch_write⟩ : Ad)) := ⟨_, _, ok__law_refused F37 T D_words_of D_put_words, b37, k37, W.mg_of X G a37⟩
 have D__law_told : Df l.prog w K mg base (CXE l.prog w) 9 "_law_told" ["_law_batch", "_law_layout", "_law_node", "_law_words", "_law_cell"] (spTold K (⟨cKeepError, cBadRow, cNoBlock, cStopped, cBadDisk, cNoRoom, cNoNode, cTooLong, cOutOfPlace, cDisk, cLayout, cBatch, fLayout_init, fDisk_init, fBatch_init, f_blocks, f_refuse_no_block, f_use_up_one, f_write, f_most_node, f_read, f_Batch_read, f_Batch_write⟩ : Ad)) := ⟨_, _, ok__law_told F38 T D__law_part D_words_of D__law_numbers D__law_refused, b38, k38, W.mg_of X G a38⟩
 have D__law_put : Df l.prog w K mg base (CXE l.prog w) 9 "_law_put" ["_law_batch", "_law_layout", "_law_node", "_law_words", "_law_cell", "_law_turn"] (spPut K (⟨cKeepError, cBadRow, cNoBlock, cStopped, cBadDisk, cNoRoom, cNoNode, cTooLong, cOutOfPlace, cDisk, cLayout, cBatch, fLayout_init, fDisk_init, fBatch_init, f_blocks, f_refuse_no_block, f_use_up_one, f_write, f_most_node, f_read, f_Batch_read, f_Batch_write⟩ : Ad)) := ⟨_, _, ok__law_put F39 T D__law_part D__law_drawn D_put_words D__law_refused, b39, k39, W.mg_of X G a39⟩
 have D_used_by : Df l.prog w K mg base (CXE l.prog w) 7 "used_by" ["batch", "layout", "node"] (spUsedBy K (⟨cKeepError, cBadRow, cNoBlock, cStopped, cBadDisk, cNoRoom, cNoNode, cTooLong, cOutOfPlace, cDisk, cLayout, cBatch, fLayout_init, fDisk_init, fBatch_init, f_blocks, f_refuse_no_block, f_use_up_one, f_write, f_most_node, f_read, f_Batch_read, f_Batch_write⟩ : Ad)) := ⟨_, _, ok_used_by F40 T D_blocks_of D_node_of, b40, k40, W.mg_of X G a40⟩
 exact ok_law F41 T M_Layout___init__ D__law_laid D__law_drawn M_Disk___init__ M_Batch___init__ D__law_rows D__law_cell_at M_Disk_write M_Layout_most_node D__law_told D__law_put D__law_numbers D_words_of M_Batch_read D_blocks_of D_used_by
theorem walk {l : W.OpenLaw} {q : Program} {loose : List Str} {XP : (Str → Option Value) → Heap → Prop} {YP : World → Heap → Prop} {d : DefRec} {K : Params → W.Frag} (hn : l.most = some 63) (hdf : d.params.defaults = [])
  (hY : ∀ (w : World) (h : Heap), YP w h → (K w.params).In h)
  (F : ∀ (w : World) (mg : Str → Option Value) (fa : Addr) (h : Heap), (K w.params).In h → h.Ns mainGlobals mg → mg d.name = some (.ref fa) →
   ∃ fd : FuncData, (∀ (s : Shared) (u : Value), BindsTo s fd ⟨[u], []⟩ [("_law_script", u)]) ∧ ∀ base : Heap, (K w.params).In base → base.Ns mainGlobals mg → FnOk l.prog w (K w.params) mg base (CXE l.prog w) 10 fa fd ["_law_script"] (spLaw (K w.params))) :
  W.WalkO q loose XP YP l.row.toRowW d [] (fun f vs => PySem.call f vs) :=
 L2.walk_of (n := 63) (k := 10) (x := "_law_script") (CX := fun w => CXE l.prog w) (sp := fun w => spLaw (K w.params)) hn (by decide) hdf ⟨by decide, by decide⟩ hY F (fun _ _ a ns hl _ hS => ⟨a, ns, rfl, hS, hl, fun _ => rfl⟩) fun _ _ _ _ _ z => cxe0 z
end K11
namespace PySem.W.Fast
def tw17738424142673393785 : Nat := 0
def tw8158085811504005866 : Nat := 0
def tw13626072246408735099 : Nat := 0
def tw3601569745344698006 : Nat := 0
def tw11454477700279085935 : Nat := 0
def tw13336991509821762724 : Nat := 0
def tw8873605354053341392 : Nat := 0
def tw12320893568441061382 : Nat := 0
def tw4297038400231845873 : Nat := 0
def tw18080509810399367770 : Nat := 0
def tw6538919985834336471 : Nat := 0
def tw2964091078807957802 : Nat := 0
def tw5261093971420174645 : Nat := 0
def tw12256620065223386211 : Nat := 0
def tw17744774915971686103 : Nat := 0
def tw18316327350786755484 : Nat := 0
def tw3597147063996092106 : Nat := 0
def tw8811249092662637603 : Nat := 0
def tw10944699243233595432 : Nat := 0
def tw1790905767229728693 : Nat := 0
def tw1115671916915745649 : Nat := 0
def tw15557899921438820671 : Nat := 0
def tw11143201279599241251 : Nat := 0
def tw5629478274033023696 : Nat := 0
def tw3074916846091827809 : Nat := 0
def tw4271375967402984129 : Nat := 0
def tw17253006959853456926 : Nat := 0
def tw2451350608312325626 : Nat := 0
def tw9044793585800956807 : Nat := 0
def tw5049428858773676411 : Nat := 0
def tw9273478361117595088 : Nat := 0
def tw14833773068587167514 : Nat := 0
def tw13318262985747861121 : Nat := 0
def tw16588221600845450558 : Nat := 0
def tw18302463903048143918 : Nat := 0
def tw2143261572000622333 : Nat := 0
def tw10231126316491326219 : Nat := 0
def tw2318741272189330154 : Nat := 0
def tw14191537026790432793 : Nat := 0
def tw9876563783288616626 : Nat := 0
def tw10750861521732208114 : Nat := 0
def tw13323756366549215124 : Nat := 0
def tw3100864560895956415 : Nat := 0
def tw1687390847328701923 : Nat := 0
def tw11825644687422064058 : Nat := 0
def tw13330587032040014288 : Nat := 0
def tw11213134570497548633 : Nat := 0
def tw2002649612770132260 : Nat := 0
def tw13750986338722520181 : Nat := 0
def tw6522789909556096173 : Nat := 0
def tw3770035183221777970 : Nat := 0
def tw16511557619976247982 : Nat := 0
def tw783554911154918942 : Nat := 0
def tw3100798635763513855 : Nat := 0
def tw7944565349554765320 : Nat := 0
def tw10041737143208758370 : Nat := 0
def tw7801842810336807499 : Nat := 0
def tw8979668477802575654 : Nat := 0
def tw15954783092323908237 : Nat := 0
def tw16765476544233473982 : Nat := 0
def tw1639022525996005710 : Nat := 0
def tw7242204684679886995 : Nat := 0
def tw10888466219094222556 : Nat := 0
def tw15411957904853555099 : Nat := 0
def tw11901553806452208260 : Nat := 0
def tw11204126593546706482 : Nat := 0
def tw15920444476378323045 : Nat := 0
def tw17807800877573846912 : Nat := 0
def tw5380519975870830073 : Nat := 0
def tw573834970764954205 : Nat := 0
def tw11811677475547011098 : Nat := 0
def tw1659624219150246982 : Nat := 0
def tw17395640399687111135 : Nat := 0
def tw6252952868632723327 : Nat := 0
def tw479800286269381933 : Nat := 0
def tw13468473102725422393 : Nat := 0
def tw4021918481059231612 : Nat := 0
def tw11882046725131524643 : Nat := 0
def tw11451876518410963633 : Nat := 0
def tw3271994833133150078 : Nat := 0
def tw6003380341009289875 : Nat := 0
def tw119215422863084574 : Nat := 0
def tw12162173873814942222 : Nat := 0
def tw4101366730279572863 : Nat := 0
def tw17647327791750262805 : Nat := 0
def tw501133512741999408 : Nat := 0
def tw12565476851698160436 : Nat := 0
def tw7825930700999254882 : Nat := 0
def tw11265146865936136183 : Nat := 0
def tw15882851494589804814 : Nat := 0
def tw5681295812485323206 : Nat := 0
def tw6588361202257844435 : Nat := 0
def tw9584486664944614622 : Nat := 0
def tw6350307640330718377 : Nat := 0
def tw85273461723546294 : Nat := 0
def tw1404679906488734791 : Nat := 0
def tw15717849892485795781 : Nat := 0
def tw18324415403636329578 : Nat := 0
def tw11144812692077667400 : Nat := 0
def tw4527925239876075278 : Nat := 0
def tw9764570513035827550 : Nat := 0
def tw12140106376121826339 : Nat := 0
def tw560199593724334851 : Nat := 0
def tw17045811246296619258 : Nat := 0
def tw10848466423980069972 : Nat := 0
def tw5874286989041837568 : Nat := 0
def tw9522227080534347883 : Nat := 0
def tw10540966857424487293 : Nat := 0
def tw9848895816225417682 : Nat := 0
def tw15973194393294940010 : Nat := 0
def tw16267092072391253082 : Nat := 0
def tw14589747281086398030 : Nat := 0
def tw4141947645061268310 : Nat := 0
def tw13800755309542952648 : Nat := 0
def tw10148090951222175910 : Nat := 0
def tw8217426049082359293 : Nat := 0
def tw14062296535725974926 : Nat := 0
def tw12132886833687975850 : Nat := 0
def tw18184501751163897375 : Nat := 0
def tw10677260953949739785 : Nat := 0
def tw6236731958921437949 : Nat := 0
def tw6293057537249233620 : Nat := 0
def tw9561519551734717814 : Nat := 0
def tw8361951886503688266 : Nat := 0
def tw13098656826042383317 : Nat := 0
def tw8447118923453644339 : Nat := 0
def tw410740356793170756 : Nat := 0
def tw13140959899765985134 : Nat := 0
def tw8283335888540854869 : Nat := 0
def tw10500604940810483386 : Nat := 0
def tw3109577965839868613 : Nat := 0
def tw4422510735990886415 : Nat := 0
def tw8542555224021639870 : Nat := 0
def tw12233107374976574419 : Nat := 0
def tw12108818793428948431 : Nat := 0
def tw17140406364114553468 : Nat := 0
def tw2888726065218891113 : Nat := 0
def tw4709979976056234159 : Nat := 0
end PySem.W.Fast
open PySem PySem.W PyProof.Rows
set_option maxRecDepth 100000 in
set_option maxHeartbeats 0 in
theorem PySem.Challenge.cw_blockkeep_k11_words_of_nodes_holds : PySem.Challenge.rw_blockkeep_k11_words_of_nodes.Holds := by
 w_on; o_law; k_head; (case hw => w_witness2)
 k_fill
 refine K11.walk (l := PySem.Challenge.rw_blockkeep_k11_words_of_nodes) rfl rfl (fun w h Y => W.kIn_of Y) ?F
 case F =>
  intro w mg fa h KX G hmg
  refine' K11.all_mk KX G hmg ?h_n_KeepError ?h_n_BadRow ?h_n_NoBlock ?h_n_Stopped ?h_n_BadDisk ?h_n_NoRoom ?h_n_NoNode ?h_n_TooLong ?h_n_OutOfPlace ?h_n_Disk ?h_n_Layout ?h_n_Batch ?h_a_fDisk_init ?h_a_f_blocks ?h_a_f_refuse_no_block ?h_a_f_use_up_one ?h_a_f_write ?h_a_f_read ?h_a_fLayout_init ?h_a_f_most_node ?h_a_fBatch_init ?h_a_f_Batch_read ?h_a_f_Batch_write ?h_a1 ?h_a3 ?h_a4 ?h_a5 ?h_a6 ?h_a7 ?h_a10 ?h_a14 ?h_a15 ?h_a16 ?h_a19 ?h_a20 ?h_a21 ?h_a23 ?h_a25 ?h_a26 ?h_a27 ?h_a28 ?h_a29 ?h_a30 ?h_a31 ?h_a32 ?h_a33 ?h_a35 ?h_a36 ?h_a37 ?h_a38 ?h_a39 ?h_a40 ?h_a41 ?h_z_isinstance ?h_z_int ?h_z_bool ?h_z_list ?h_z_tuple ?h_z_len ?h_z_all ?h_z_range ?h_z_ValueError ?h_z_sorted ?h_z_enumerate ?h_z_min ?h_z_max ?h_v_ROW_WORDS ?h_v_MOST_WORD ?h_v_NODE_WORDS ?h_v_SIZE_AT ?h_v_PLACES_AT ?h_v_FAR_AT ?h_v_NEAR_BLOCKS ?h_v_LEAST_BLOCKS ?h_v_MOST_BLOCKS ?h_v_MAPS_AT ?h_v_MOST_TABLES ?h_x_BadRow ?h_x_NoBlock ?h_x_Stopped ?h_x_BadDisk ?h_x_NoRoom ?h_x_NoNode ?h_x_OutOfPlace ?h_g0_OutOfPlace ?h_g1_OutOfPlace ?h_g2_OutOfPlace ?h_g3_OutOfPlace ?h_g4_OutOfPlace ?h_g5_OutOfPlace ?h_g6_OutOfPlace ?h_g0_BadRow ?h_g1_BadRow ?h_g2_BadRow ?h_g3_BadRow ?h_g4_BadRow ?h_g5_BadRow ?h_g6_BadRow ?h_h0_KeepError ?h_h1_KeepError ?h_s_BadRow_KeepError ?h_s_NoBlock_KeepError ?h_s_Stopped_KeepError ?h_s_BadDisk_KeepError ?h_s_NoRoom_KeepError ?h_s_NoNode_KeepError ?h_s_OutOfPlace_KeepError ?h_q_OutOfPlace_OutOfPlace ?h_q_OutOfPlace_BadRow ?h_q_OutOfPlace_NoBlock ?h_q_OutOfPlace_NoNode ?h_q_OutOfPlace_TooLong ?h_q_OutOfPlace_ValueError ?h_q_BadRow_OutOfPlace ?h_q_BadRow_BadRow ?h_q_BadRow_NoBlock ?h_q_BadRow_NoNode ?h_q_BadRow_TooLong ?h_q_BadRow_ValueError ?h_pg_Disk ?h_hd_Disk ?h_po_Disk ?h_sa_Disk ?h_na_kept_rows ?h_na_writes_done ?h_na_writes_left ?h_mk_Disk ?h_i_fDisk_init ?h_kc_Disk ?h_i_f_blocks ?h_kp_f_blocks ?h_i_f_refuse_no_block ?h_kp_f_refuse_no_block ?h_i_f_use_up_one ?h_kp_f_use_up_one ?h_i_f_write ?h_kp_f_write ?h_i_f_read ?h_kp_f_read ?h_pg_Layout ?h_hd_Layout ?h_po_Layout ?h_sa_Layout ?h_na_many ?h_na_tables ?h_na_maps_at ?h_na_nodes_at ?h_na_data_at ?h_mk_Layout ?h_i_fLayout_init ?h_kc_Layout ?h_i_f_most_node ?h_kp_f_most_node ?h_pg_Batch ?h_hd_Batch ?h_po_Batch ?h_sa_Batch ?h_na_disk ?h_na_new_rows ?h_mk_Batch ?h_i_fBatch_init ?h_kc_Batch ?h_i_f_Batch_read ?h_kp_f_Batch_read ?h_i_f_Batch_write ?h_kp_f_Batch_write ?h_l1 ?h_c1 ?h_k1 ?h_l2 ?h_c2 ?h_k2 ?h_l3 ?h_c3 ?h_k3 ?h_l4 ?h_c4 ?h_k4 ?h_l5 ?h_c5 ?h_k5 ?h_l6 ?h_c6 ?h_k6 ?h_l7 ?h_c7 ?h_k7 ?h_l8 ?h_c8 ?h_k8 ?h_l9 ?h_c9 ?h_k9 ?h_l10 ?h_c10 ?h_k10 ?h_l11 ?h_c11 ?h_k11 ?h_l12 ?h_c12 ?h_k12 ?h_l13 ?h_c13 ?h_k13 ?h_l14 ?h_c14 ?h_k14 ?h_l15 ?h_c15 ?h_k15 ?h_l16 ?h_c16 ?h_k16 ?h_l17 ?h_c17 ?h_k17 ?h_l18 ?h_c18 ?h_k18 ?h_l19 ?h_c19 ?h_k19 ?h_l20 ?h_c20 ?h_k20 ?h_l21 ?h_c21 ?h_k21 ?h_l22 ?h_c22 ?h_k22 ?h_l23 ?h_c23 ?h_k23 ?h_l24 ?h_c24 ?h_k24 ?h_l25 ?h_c25 ?h_k25 ?h_l26 ?h_c26 ?h_k26 ?h_l27 ?h_c27 ?h_k27 ?h_l28 ?h_c28 ?h_k28 ?h_l29 ?h_c29 ?h_k29 ?h_l30 ?h_c30 ?h_k30 ?h_l31 ?h_c31 ?h_k31 ?h_l32 ?h_c32 ?h_k32 ?h_l33 ?h_c33 ?h_k33 ?h_l34 ?h_c34 ?h_k34 ?h_l35 ?h_c35 ?h_k35 ?h_l36 ?h_c36 ?h_k36 ?h_l37 ?h_c37 ?h_k37 ?h_l38 ?h_c38 ?h_k38 ?h_l39 ?h_c39 ?h_k39 ?h_l40 ?h_c40 ?h_k40 ?h_l41 ?h_c41 ?h_k41
  (case h_n_KeepError | h_n_BadRow | h_n_NoBlock | h_n_Stopped | h_n_BadDisk | h_n_NoRoom | h_n_NoNode | h_n_TooLong | h_n_OutOfPlace | h_n_Disk | h_n_Layout | h_n_Batch | h_a_fDisk_init | h_a_f_blocks | h_a_f_refuse_no_block | h_a_f_use_up_one | h_a_f_write | h_a_f_read | h_a_fLayout_init | h_a_f_most_node | h_a_fBatch_init | h_a_f_Batch_read | h_a_f_Batch_write | h_a1 | h_a3 | h_a4 | h_a5 | h_a6 | h_a7 | h_a10 | h_a14 | h_a15 | h_a16 | h_a19 | h_a20 | h_a21 | h_a23 | h_a25 | h_a26 | h_a27 | h_a28 | h_a29 | h_a30 | h_a31 | h_a32 | h_a33 | h_a35 | h_a36 | h_a37 | h_a38 | h_a39 | h_a40 | h_a41 | h_z_isinstance | h_z_int | h_z_bool | h_z_list | h_z_tuple | h_z_len | h_z_all | h_z_range | h_z_ValueError | h_z_sorted | h_z_enumerate | h_z_min | h_z_max | h_v_ROW_WORDS | h_v_MOST_WORD | h_v_NODE_WORDS | h_v_SIZE_AT | h_v_PLACES_AT | h_v_FAR_AT | h_v_NEAR_BLOCKS | h_v_LEAST_BLOCKS | h_v_MOST_BLOCKS | h_v_MAPS_AT | h_v_MOST_TABLES => k_is)
  (case h_x_BadRow | h_x_NoBlock | h_x_Stopped | h_x_BadDisk | h_x_NoRoom | h_x_NoNode | h_x_OutOfPlace => k_exc)
  (case h_g0_OutOfPlace | h_g1_OutOfPlace | h_g2_OutOfPlace | h_g3_OutOfPlace | h_g4_OutOfPlace => k_is)
  (case h_g5_OutOfPlace | h_g6_OutOfPlace => kernel_rfl)
  (case h_g0_BadRow | h_g1_BadRow | h_g2_BadRow | h_g3_BadRow | h_g4_BadRow => k_is)
  (case h_g5_BadRow | h_g6_BadRow | h_h0_KeepError => kernel_rfl)
  (case h_h1_KeepError | h_s_BadRow_KeepError | h_s_NoBlock_KeepError | h_s_Stopped_KeepError | h_s_BadDisk_KeepError | h_s_NoRoom_KeepError | h_s_NoNode_KeepError | h_s_OutOfPlace_KeepError => k_is)
  (case h_q_OutOfPlace_OutOfPlace | h_q_OutOfPlace_BadRow | h_q_OutOfPlace_NoBlock | h_q_OutOfPlace_NoNode | h_q_OutOfPlace_TooLong | h_q_OutOfPlace_ValueError | h_q_BadRow_OutOfPlace | h_q_BadRow_BadRow | h_q_BadRow_NoBlock | h_q_BadRow_NoNode | h_q_BadRow_TooLong | h_q_BadRow_ValueError => kernel_rfl)
  (case h_pg_Disk | h_hd_Disk | h_po_Disk | h_sa_Disk | h_na_kept_rows | h_na_writes_done | h_na_writes_left | h_mk_Disk | h_i_fDisk_init | h_kc_Disk | h_i_f_blocks | h_kp_f_blocks | h_i_f_refuse_no_block | h_kp_f_refuse_no_block | h_i_f_use_up_one | h_kp_f_use_up_one | h_i_f_write | h_kp_f_write | h_i_f_read | h_kp_f_read | h_pg_Layout | h_hd_Layout | h_po_Layout | h_sa_Layout | h_na_many | h_na_tables | h_na_maps_at | h_na_nodes_at | h_na_data_at | h_mk_Layout | h_i_fLayout_init | h_kc_Layout | h_i_f_most_node | h_kp_f_most_node | h_pg_Batch | h_hd_Batch | h_po_Batch | h_sa_Batch | h_na_disk | h_na_new_rows | h_mk_Batch | h_i_fBatch_init | h_kc_Batch | h_i_f_Batch_read | h_kp_f_Batch_read | h_i_f_Batch_write | h_kp_f_Batch_write | h_l1 | h_c1 | h_k1 | h_l2 | h_c2 | h_k2 | h_l3 | h_c3 | h_k3 | h_l4 | h_c4 | h_k4 | h_l5 | h_c5 | h_k5 | h_l6 | h_c6 | h_k6 | h_l7 | h_c7 | h_k7 | h_l8 | h_c8 | h_k8 | h_l9 | h_c9 | h_k9 | h_l10 | h_c10 | h_k10 | h_l11 | h_c11 | h_k11 | h_l12 | h_c12 | h_k12 | h_l13 | h_c13 | h_k13 | h_l14 | h_c14 | h_k14 | h_l15 | h_c15 | h_k15 | h_l16 | h_c16 | h_k16 | h_l17 | h_c17 | h_k17 | h_l18 | h_c18 | h_k18 | h_l19 | h_c19 | h_k19 | h_l20 | h_c20 | h_k20 | h_l21 | h_c21 | h_k21 | h_l22 | h_c22 | h_k22 | h_l23 | h_c23 | h_k23 | h_l24 | h_c24 | h_k24 | h_l25 | h_c25 | h_k25 | h_l26 | h_c26 | h_k26 | h_l27 | h_c27 | h_k27 | h_l28 | h_c28 | h_k28 | h_l29 | h_c29 | h_k29 | h_l30 | h_c30 | h_k30 | h_l31 | h_c31 | h_k31 | h_l32 | h_c32 | h_k32 | h_l33 | h_c33 | h_k33 | h_l34 | h_c34 | h_k34 | h_l35 | h_c35 | h_k35 | h_l36 | h_c36 | h_k36 | h_l37 | h_c37 | h_k37 | h_l38 | h_c38 | h_k38 | h_l39 | h_c39 | h_k39 | h_l40 | h_c40 | h_k40 | h_l41 | h_c41 | h_k41 => k_is)
end
