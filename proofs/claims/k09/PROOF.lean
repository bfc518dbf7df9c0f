import PyProof.Rows.All
import Wide.All
import OpenK.AllK
import Wide.FinOn
import Lean
import PyProof.EqAt
import PyProof.EqKinds
import PyProof.TupleCall
import PyProof.EqLayable
import PyProof.ConsumeWalk
import PySem.Challenge.RW_blockkeep_k09_maps
section
set_option Elab.async false
set_option linter.all false
set_option maxRecDepth 100000
namespace L2
open PySem PySem.Spec PyProof.Rows
def Ctx (h : Heap) (e : Addr) (vs : Array Value) : Prop := vs[2]? = some .none ∨ ∃ (b : Addr) (ob : Obj) (vb : Array Value), vs[2]? = some (.ref b) ∧ b ≠ e ∧ h.get? b = some ob ∧ ob.data = .fields vb ∧ vb[2]? = some .none
def HdAt (A : Around) (h : Heap) : Prop := A.handled = none ∨ ∃ (e : Addr) (oe : Obj) (vs : Array Value), A.handled = some (.ref e) ∧ h.get? e = some oe ∧ oe.data = .fields vs ∧ Ctx h e vs
def HdOff (A : Around) (h : Heap) (a : Addr) : Prop := A.handled = none ∨ ∃ (e : Addr) (oe : Obj) (vs : Array Value), A.handled = some (.ref e) ∧ e ≠ a ∧ h.get? e = some oe ∧ oe.data = .fields vs ∧
 (vs[2]? = some .none ∨ ∃ (b : Addr) (ob : Obj) (vb : Array Value), vs[2]? = some (.ref b) ∧ b ≠ e ∧ b ≠ a ∧ h.get? b = some ob ∧ ob.data = .fields vb ∧ vb[2]? = some .none)
theorem entry_unchain : entryFor table "proto.unchain" = some Builtin.«proto.unchain» := entryFor_of_fast (by kernel_rfl)
section
variable {prog : Program} {w : World} {A : Around} {E : Value → Shared → Prop} {s : Shared}
theorem unchain_at {v o slow : Value} {t : Bool} {a : Addr} {oo : Obj} {vs : Array Value} {R : Result → Shared → Prop} (ho : o = .ref a) (hoe : s.heap.get? a = some oo) (hde : oo.data = .fields vs) (h2 : vs[2]? = some .none)
  (h : R (.ok (.ret .none)) s) : codeAny (model prog w) A (.builtin "proto.unchain" ⟨[v, o, slow, .bool t], []⟩) R s := by
 subst ho
 refine codeAny_builtin entry_unchain ?_
 unfold Builtin.«proto.unchain»
 refine wpAny_bind (wpAny_field hoe hde h2 ?_)
 rw [if_pos (by rfl)]
 refine wpAny_bind (wpAny_pure (wpAny_pure ?_))
 exact h
theorem raiseNew_hd {α : Type} {a : Addr} {o : Obj} {vs : Array Value} {Q : α → Shared → Prop} (hd : HdOff A s.heap a) (ho : s.heap.get? a = some o) (hdt : o.data = .fields vs) (h3 : 2 < vs.size)
  (h : ∀ h', Heap.SameBut a s.heap h' → (∃ o' v, h'.get? a = some o' ∧ o'.cls = o.cls ∧ o'.dict = o.dict ∧ o'.data = .fields (vs.setIfInBounds 2 v) ∧ (A.handled = none → h' = s.heap) ∧ ∀ e, A.handled = some (.ref e) → v = .ref e) → E (.ref a) { s with heap := h' }) : wpAny (model prog w) A (raiseNew (.ref a) : Sem α) Q E s := by
 unfold raiseNew
 refine wpAny_bind (wpAny_handled ?_)
 rcases hd with hn | ⟨e, oe, es, he, ne0, hoe, hde, h2⟩
 ·rw [hn]
  have hx : vs.setIfInBounds 2 vs[2] = vs := Array.ext (by simp) fun i h1 h2 => by
   rw [Array.getElem_setIfInBounds]
   split
   ·rename_i z; subst z; rfl
   ·rfl
  exact wpAny_bind (wpAny_pure (wpAny_throw (h s.heap (Heap.SameBut.refl ..) ⟨o, vs[2], ho, rfl, rfl, by rw [hx]; exact hdt, fun _ => rfl, fun e he => by rw [hn] at he; cases he⟩)))
 ·rw [he]
  have ne : (Value.ref e != Value.ref a) = true := by simp [ne0]
  dsimp only
  rw [if_pos ne]
  have fin : wpAny (model prog w) A (updateField a 2 (.ref e) >>= fun _ => throw (.ref a)) Q E s :=
   wpAny_bind (show wpAny _ _ (setField (.ref a) 2 (.ref e)) _ _ _ from wpAny_setField ho hdt h3 (wpAny_throw (h _ (Heap.SameBut.update ..)
    ⟨_, .ref e, Heap.get?_update_self _ ho (Obj.isFreed_of_fields (Obj.data_mapFields hdt _)), Obj.cls_mapFields .., (by unfold Obj.mapFields; split <;> rfl), Obj.data_mapFields hdt _, fun z => (by rw [he] at z; cases z), fun e' z => (by rw [he] at z; cases z; rfl)⟩)))
  refine wpAny_bind (wpAny_holding (wpAny_runValue ?_))
  rcases h2 with h2 | ⟨b, ob, vb, h2, hbe, hba, hob, hdb, hb2⟩
  ·exact unchain_at rfl hoe hde h2 fin
  ·refine codeAny_builtin entry_unchain ?_
   unfold Builtin.«proto.unchain»
   refine wpAny_bind (wpAny_field hoe hde h2 ?_)
   rw [if_neg (by simp), if_neg (by simp [hba]), if_neg (by simp [hbe])]
   refine wpAny_bind (wpAny_pure ?_)
   exact wpAny_pure ⟨Code.quiet_builtin _ (by decide +kernel), unchain_at rfl hob hdb hb2 fin⟩
theorem HdAt.two {A : Around} {h h' : Heap} {it : Addr} {o1 o2 : Obj} (x : HdAt A h) (k : ∀ b o, b ≠ it → h.get? b = some o → h'.get? b = some o) (hi : ∀ oe vs, h.get? it = some oe → oe.data = .fields vs → vs[2]? ≠ some .none ∧ ∀ b, vs[2]? ≠ some (.ref b)) :
  HdOff A ((h'.push o1).push o2) (h'.push o1).objs.size := by
 rcases x with x | ⟨e, oe, vs, a, b, c, d⟩
 ·exact .inl x
 ·have b' := k e oe (fun z => by
   have := hi oe vs (z ▸ b) c
   rcases d with d | ⟨b, _, _, d, _⟩
   ·exact this.1 d
   ·exact this.2 b d) b
  have nw : ∀ {c o}, h'.get? c = some o → c ≠ (h'.push o1).objs.size := fun {c o} z => by
   rw [Heap.size_push]
   exact Nat.ne_of_lt (Nat.lt_succ_of_lt (Heap.lt_size z))
  refine .inr ⟨e, oe, vs, a, nw b', Heap.get?_push_of_some _ (Heap.get?_push_of_some _ b'), c, ?_⟩
  rcases d with d | ⟨b, ob, vb, d1, d2, d3, d4, d5⟩
  ·exact .inl d
  ·have d3' := k b ob (fun z => (hi ob vb (z ▸ d3) d4).1 d5) d3
   exact .inr ⟨b, ob, vb, d1, d2, nw d3', Heap.get?_push_of_some _ (Heap.get?_push_of_some _ d3'), d4, d5⟩
theorem list_endH {it l : Addr} {i : Nat} {items : Array Value} {Q : Option Value → Shared → Prop} (hh : HdAt A s.heap)
  (hit : s.heap.IsListIter it l i) (hl : s.heap.IsList l items) (hx : items[i]? = none)
  (hQ : ∀ h', Heap.ExtBut it s.heap h' → Q none { s with heap := h' }) : wpAny (model prog w) A (pyNext (.ref it)) Q E s := by
 obtain ⟨o, ho, hc, hd⟩ := id hit
 obtain ⟨ol, hol, _, nl, hdl⟩ := hl
 unfold pyNext
 refine wpAny_bind (wpAny_attempt (wpAny_callSpecial?_slot (name := Str.ofString "__next__") hit.typeIs slot_listiter_next
  (wpAny_call_entry slot_listiter_next hit.typeIs entry_listiter_next ?_ (args_listiter_next _))))
 show wpAny _ _ (field (.ref it) 0 >>= _) _ _ s
 refine wpAny_bind (wpAny_field ho hd (x := .ref l) rfl ?_)
 show wpAny _ _ (if (Value.ref l == Value.none) = true then _ else _) _ _ s
 rw [if_neg (show ¬ ((Value.ref l == Value.none) = true) from Bool.false_ne_true)]
 show wpAny _ _ (field (.ref it) 1 >>= _) _ _ s
 refine wpAny_bind (wpAny_field ho hd (x := .int i 0) rfl ?_)
 show wpAny _ _ (seqItems? (.ref l) >>= _) _ _ s
 refine wpAny_bind (wpAny_seqItems hol hdl ?_)
 simp only [Int.toNat_natCast, hx]
 refine wpAny_bind (wpAny_rule (wpAny_bind (wpAny_setField ho hd (by simp) ?_)))
 show wpAny _ _ (newExc (.type "StopIteration") [] >>= _) _ _ _
 refine wpAny_bind ?_
 simp only [newExc, newTuple]
 refine wpAny_bind (wpAny_newObj_type ?_ (by size_fits))
 refine wpAny_bind (m := firstArgMember _ _) (wpAny_of_eq (a := Value.none) (by first | rfl | (simp only [firstArgMember]; rfl)) ?_)
 refine wpAny_newObj_type ?_ (by size_fits)
 refine raiseNew_hd (HdAt.two (A := A.in1) (it := it) hh (fun b o' hb e => (Heap.SameBut.update ..).extBut b o' hb e) (fun oe vs e e2 => by rw [ho] at e; cases e; rw [hd] at e2; cases e2; exact ⟨by simp, by simp⟩)) (Heap.get?_push_size _ rfl) rfl (by simp; omega) fun h' sb ⟨o', _, ho', hc', _⟩ => ?_
 refine wpAny_bind (wpAny_isInstance (T := "StopIteration") (b := true) ⟨_, ho', hc'⟩ isSubtype_stop ?_)
 refine wpAny_pure (hQ _ fun b ob hb e => (sb.2 b ?_).trans (((Heap.SameBut.update ..).extBut.push _).push _ b ob hb e))
 exact Nat.ne_of_lt (Nat.lt_of_lt_of_le (Heap.lt_size e) (by rw [Heap.size_push, Heap.size_after_update]; exact Nat.le_succ _))
theorem range_endH {it : Addr} {x left step : Int} {Q : Option Value → Shared → Prop} (hh : HdAt A s.heap) (hit : IsRangeIter s.heap it x left step) (hleft : left ≤ 0)
  (hQ : ∀ h', Heap.ExtBut it s.heap h' → Q none { s with heap := h' }) : wpAny (model prog w) A (pyNext (.ref it)) Q E s := by
 have hT : s.TypeIs (.ref it) "range_iterator" := ⟨_, hit, rfl⟩
 unfold pyNext
 refine wpAny_bind (wpAny_attempt (wpAny_callSpecial?_slot (name := Str.ofString "__next__") hT F.slot_range_iterator_next
  (wpAny_call_entry F.slot_range_iterator_next hT F.entry_range_iterator_next ?_ (F.args_range_iterator_next_1 _))))
 show wpAny _ _ (field (.ref it) 0 >>= _) _ _ s
 refine wpAny_bind (wpAny_field hit rfl (x := rawInt x) rfl ?_)
 show wpAny _ _ (field (.ref it) 1 >>= _) _ _ s
 refine wpAny_bind (wpAny_field hit rfl (x := rawInt left) rfl ?_)
 show wpAny _ _ (field (.ref it) 2 >>= _) _ _ s
 refine wpAny_bind (wpAny_field hit rfl (x := rawInt step) rfl ?_)
 show wpAny _ _ (if left ≤ 0 then _ else _) _ _ s
 rw [if_pos hleft]
 refine wpAny_bind (wpAny_rule ?_)
 refine wpAny_bind ?_
 show wpAny _ _ (newExc (.type "StopIteration") [] >>= _) _ _ _
 refine wpAny_bind ?_
 simp only [newExc, newTuple]
 refine wpAny_bind (wpAny_newObj_type ?_ (by size_fits))
 refine wpAny_bind (m := firstArgMember _ _) (wpAny_of_eq (a := Value.none) (by first | rfl | (simp only [firstArgMember]; rfl)) ?_)
 refine wpAny_newObj_type ?_ (by size_fits)
 refine raiseNew_hd (HdAt.two (A := A.in1) (it := it) hh (fun b o' hb e => e) (fun oe vs e e2 => by rw [show s.heap.get? it = some _ from hit] at e; cases e; cases e2; exact ⟨by simp [rawInt], by simp [rawInt]⟩)) (Heap.get?_push_size _ rfl) rfl (by simp; omega) fun h' sb ⟨o', _, ho', hc', _⟩ => ?_
 refine wpAny_bind (wpAny_isInstance (T := "StopIteration") (b := true) ⟨_, ho', hc'⟩ isSubtype_stop ?_)
 refine wpAny_pure (hQ _ fun b ob hb e => (sb.2 b ?_).trans (((Heap.ExtBut.refl it s.heap).push _).push _ b ob hb e))
 exact Nat.ne_of_lt (Nat.lt_of_lt_of_le (Heap.lt_size e) (by rw [Heap.size_push]; exact Nat.le_succ _))
end
section
variable {prog : Program} {w : World} {A : Around} {E : Value → Shared → Prop} {s : Shared} {K : PySem.W.Frag} {e D : Addr} {oe : Obj}
open PySem.Calls PySem.W in
theorem exc_class {Q : Option Value → Shared → Prop} (X : K.In s.heap) (I : PySem.W.InstAt s.heap e oe D none) (hga : findIn K (.ref D) "__getattribute__" = some (some (.builtin "BaseException.__getattribute__"))) (hk : findIn K (.ref D) "__getattr__" = some none)
  (ha : findIn K (.ref D) "__class__" = some (some (.builtin "object.__class__"))) (hB : mroIn K D (.type "BaseException") = some true) (hm : mroIn K D (.type "object") = some true)
  (hf : findObj K D none "__class__" = some (.bind (.builtin "getset_descriptor.__get__") (.builtin "object.__class__")))
  (h : Q (some (.ref D)) { s with toks := s.toks + 1 }) : wpAny (model prog w) A (getAttr? (.ref e) "__class__") Q E s := by
 obtain ⟨h0, g, d, t, os⟩ := s
 have L0 := I.type (M := model prog w)
 have L1 := looks_findIn (M := model prog w) X hga
 have L2 := looks_findIn (M := model prog w) X hk
 have L3 := looks_findIn (M := model prog w) X ha
 have L4 := looks_mroIn (M := model prog w) X hB
 unfold getAttr? getAttrBy? getAttrBy
 refine wpAny_bind (wpAny_mkText (wpAny_bind (wpAny_attempt (wpAny_holding (wpAny_bind (L0.at (wpAny_bind (L1.at ?_))))))))
 show wpAny _ _ (getAttrByItsOwn _ _ _ _ _ _) _ _ _
 unfold getAttrByItsOwn hookBefore
 rw [if_pos (show onTheHeap (Value.ref D) = true from rfl)]
 have L5 := looks_find (M := model prog w) X I hf
 refine wpAny_bind (L2.at (wpAny_bind (wpAny_attempt (wpAny_holding ?_))))
 unfold callGetattribute
 rw [if_neg (by decide)]
 unfold boundAndCalled
 refine wpAny_bind (wpAny_of_eq (PySem.F.attr_ValueError.ga.bind (.ref e)) ?_)
 refine wpAny_call (codeAny_call_builtin PySem.F.attr_ValueError.ga.plain F.entry_bexc_ga ?_)
 have hk' : builtinKind "BaseException.__getattribute__" = some .slot := by decide +kernel
 have hsplit : splitId "BaseException.__getattribute__" = some ("BaseException", "__getattribute__") := by decide +kernel
 have harg := F.args_bexc_ga (.ref e) (.str "__class__" t)
 simp only [checkBuiltinCall, hk', hsplit]
 refine wpAny_bind ?_
 unfold isInstance
 refine wpAny_bind (L0.at (L4.at ?_))
 rw [if_neg (by decide)]
 refine wpAny_of_eq harg ?_
 unfold Builtin.«object.__getattribute__»
 refine wpAny_bind (wpAny_pure (wpAny_bind (wpAny_pure (wpAny_bind (L0.at (wpAny_bind (L5.at ?_)))))))
 unfold Builtin.ObjectAttr.bindTo
 refine wpAny_bind (wpAny_holding (wpAny_call (PySem.W.class_get (ox := oe) (od := none) X I hm ?_)))
 refine wpAny_pure ?_
 exact handed_on rfl (wpAny_pure h)
structure ExcK (K : PySem.W.Frag) (D : Addr) : Prop where
 ga : PySem.W.findIn K (.ref D) "__getattribute__" = some (some (.builtin "BaseException.__getattribute__"))
 gr : PySem.W.findIn K (.ref D) "__getattr__" = some none
 cl : PySem.W.findIn K (.ref D) "__class__" = some (some (.builtin "object.__class__"))
 bx : PySem.W.mroIn K D (.type "BaseException") = some true
 ob : PySem.W.mroIn K D (.type "object") = some true
 fd : PySem.W.findObj K D none "__class__" = some (.bind (.builtin "getset_descriptor.__get__") (.builtin "object.__class__"))
 is : (PySem.W.clsIn K D).isSome = true
open PySem.Calls PySem.W in
theorem kitx_exc (F : ExcK K D) : KitX K (.ref e) (.ref D) (fun h => ∃ oe, PySem.W.InstAt h e oe D none) where
 ty := fun _ _ _ ⟨_, I⟩ => I.type
 it := fun _ _ X _ => by
  obtain ⟨cdD, hcD⟩ := Option.isSome_iff_exists.mp F.is
  unfold clsIn at hcD
  split at hcD
  ·rename_i c' d' cd' sl' ho
   intro A' Q' E' s' k q
   unfold isType loadHead
   exact wpAny_bind (wpAny_loadPart (k _ _ (X _ _ ho)) (wpAny_pure q))
  ·cases hcD
 ne := fun h tp dd its n sl X htp => by
  obtain ⟨cdD, hcD⟩ := Option.isSome_iff_exists.mp F.is
  refine Bool.eq_false_iff.mpr fun q => ?_
  have e : D = tp := Value.ref.inj (beq_iff_eq.mp q)
  subst e
  unfold clsIn at hcD
  split at hcD
  ·rename_i c' d' cd' sl' ho
   have z := (X _ _ ho).symm.trans htp
   cases z
  ·cases hcD
 ca := fun X ⟨_, I⟩ k => exc_class X I F.ga F.gr F.cl F.bx F.ob F.fd k
end
end L2
namespace L2
open PySem PySem.Spec PyProof.Rows
abbrev Key := Sum Int Str
def keyIs : Key → Value → Bool
 | .inl k, v => Value.isInt k v
 | .inr x, v => Value.isStrOf x v
def keyH (w : World) : Key → Int
 | .inl k => hashInt k
 | .inr x => hashStr w x
theorem keyIs_shape : ∀ {k : Key} {v : Value}, keyIs k v = true → (∃ i t, k = Sum.inl i ∧ v = Value.int i t) ∨ (∃ x t, k = Sum.inr x ∧ v = Value.str x t)
 | .inl i, v, h => by
  obtain ⟨t, e⟩ := Value.isInt_shape (k := i) (v := v) h
  exact .inl ⟨i, t, rfl, e⟩
 | .inr x, v, h => by
  obtain ⟨t, e⟩ := Value.isStrOf_shape (x := x) (v := v) h
  exact .inr ⟨x, t, rfl, e⟩
theorem keyIs_int (i : Int) (t : Tok) : keyIs (.inl i) (.int i t) = true := by simp [keyIs, Value.isInt]
theorem keyIs_str (x : Str) (t : Tok) : keyIs (.inr x) (.str x t) = true := by simp [keyIs, Value.isStrOf]
theorem key_ll (a b : Int) : decide ((Sum.inl a : Key) = Sum.inl b) = (a == b) := by
 by_cases e : a = b
 ·subst e; simp
 ·have h : ¬ (Sum.inl a : Key) = Sum.inl b := fun q => e (Sum.inl.inj q)
  rw [decide_eq_false h]
  exact (beq_eq_false_iff_ne.mpr e).symm
theorem key_rr (a b : Str) : decide ((Sum.inr a : Key) = Sum.inr b) = decide (a = b) := by
 by_cases e : a = b
 ·subst e; simp
 ·have h : ¬ (Sum.inr a : Key) = Sum.inr b := fun q => e (Sum.inr.inj q)
  rw [decide_eq_false h, decide_eq_false e]
theorem key_lr (a : Int) (b : Str) : decide ((Sum.inl a : Key) = Sum.inr b) = false := decide_eq_false (fun q => nomatch q)
theorem key_rl (a : Str) (b : Int) : decide ((Sum.inr a : Key) = Sum.inl b) = false := decide_eq_false (fun q => nomatch q)
def mixKind (prog : Program) (w : World) : PySem.KeyKind prog w Key where
 is := keyIs
 hash := keyH w
 inj := fun v a b ha hb => by
  rcases keyIs_shape ha with ⟨i, t, rfl, rfl⟩ | ⟨x, t, rfl, rfl⟩
  ·rcases keyIs_shape hb with ⟨j, u, rfl, e⟩ | ⟨y, u, rfl, e⟩
   ·injection e with e1 _; rw [e1]
   ·exact nomatch e
  ·rcases keyIs_shape hb with ⟨j, u, rfl, e⟩ | ⟨y, u, rfl, e⟩
   ·exact nomatch e
   ·injection e with e1 _; rw [e1]
 byValue := fun k v h => by
  rcases keyIs_shape h with ⟨i, t, rfl, rfl⟩ | ⟨x, t, rfl, rfl⟩ <;> rfl
 pyHash := fun hv h => by
  rcases keyIs_shape hv with ⟨i, t, rfl, rfl⟩ | ⟨x, t, rfl, rfl⟩
  ·exact wpAny_pyHash_int h
  ·exact wpAny_pyHash_str h
 eqBool := fun hu hv h => by
  rcases keyIs_shape hu with ⟨i, t, rfl, rfl⟩ | ⟨x, t, rfl, rfl⟩
  ·rcases keyIs_shape hv with ⟨j, u, rfl, rfl⟩ | ⟨y, u, rfl, rfl⟩
   ·rw [key_ll] at h; exact wpAny_eqBool_int h
   ·rw [key_lr] at h; exact SeqAt.EqAt.int_str i t y u _ _ _ _ h
  ·rcases keyIs_shape hv with ⟨j, u, rfl, rfl⟩ | ⟨y, u, rfl, rfl⟩
   ·rw [key_rl] at h; exact SeqAt.EqAt.str_int x t j u _ _ _ _ h
   ·rw [key_rr] at h; exact wpAny_eqBool_str h
 «strs» := fun k x t v h => by
  rcases keyIs_shape h with ⟨i, u, rfl, e⟩ | ⟨y, u, rfl, e⟩
  ·exact nomatch e
  ·injection e with e1 _
   subst e1
   cases v <;> rfl
theorem mixKind_int (prog : Program) (w : World) (i : Int) (t : Tok) : (mixKind prog w).is (.inl i) (.int i t) = true := keyIs_int i t
theorem mixKind_str (prog : Program) (w : World) (x : Str) (t : Tok) : (mixKind prog w).is (.inr x) (.str x t) = true := keyIs_str x t
end L2
namespace L2
open PySem PySem.Spec PyProof.Rows
inductive V where
 | non | bl (b : Bool) | int (i : Int) | str (x : Str) | byt (b : Array UInt8) | flt (b : UInt64) | ref (a : Addr) | ty (n : String)
 deriving DecidableEq
def RelV : V → Value → Prop
 | .non, u => u = Value.none
 | .bl b, u => u = Value.bool b
 | .int i, u => ∃ t, u = Value.int i t
 | .str x, u => ∃ t, u = Value.str x t
 | .byt b, u => ∃ t, u = Value.bytes b t
 | .flt b, u => ∃ t, u = Value.float b t
 | .ref a, u => u = Value.ref a
 | .ty n, u => u = Value.type n
abbrev Vals : List V → List Value → Prop := Paired RelV
theorem Vals.length {xs : List V} {us : List Value} (r : Vals xs us) : xs.length = us.length := Paired.length r
theorem Vals.get : ∀ {xs : List V} {us : List Value} {i : Nat} {x : V}, Vals xs us → xs[i]? = some x → ∃ u, us[i]? = some u ∧ RelV x u
 | _, _, _, _, .nil, e => by simp at e
 | _, _, 0, _, .cons r _, e => by simp at e; subst e; exact ⟨_, rfl, r⟩
 | _, _, i + 1, x, .cons _ t, e => by
  obtain ⟨u, h1, h2⟩ := Vals.get (i := i) (x := x) t (by simpa using e)
  exact ⟨u, by simpa using h1, h2⟩
theorem Vals.set {x : V} {u : Value} (r : RelV x u) : ∀ {xs : List V} {us : List Value} (i : Nat), Vals xs us → Vals (xs.set i x) (us.set i u)
 | _, _, _, .nil => .nil
 | _, _, 0, .cons _ t => .cons r t
 | _, _, i + 1, .cons q t => .cons q (Vals.set r i t)
theorem Vals.append : ∀ {xs ys : List V} {us ws : List Value}, Vals xs us → Vals ys ws → Vals (xs ++ ys) (us ++ ws)
 | _, _, _, _, .nil, s => s
 | _, _, _, _, .cons r t, s => .cons r (Vals.append t s)
theorem Vals.take : ∀ {xs : List V} {us : List Value} (n : Nat), Vals xs us → Vals (xs.take n) (us.take n)
 | _, _, 0, _ => .nil
 | _, _, _ + 1, .nil => .nil
 | _, _, n + 1, .cons r t => .cons r (Vals.take n t)
theorem Vals.drop : ∀ {xs : List V} {us : List Value} (n : Nat), Vals xs us → Vals (xs.drop n) (us.drop n)
 | _, _, 0, r => r
 | _, _, _ + 1, .nil => .nil
 | _, _, n + 1, .cons _ t => Vals.drop n t
def RelO : Option V → Option Value → Prop
 | some v, some u => RelV v u
 | none, none => True
 | _, _ => False
def KV {κ : Type} : List (κ × V) → List (κ × Value) → Prop := Paired fun (p : κ × V) (q : κ × Value) => p.1 = q.1 ∧ RelV p.2 q.2
def kV : Key → V
 | .inl i => .int i
 | .inr x => .str x
inductive HO where
 | lst (xs : List V)
 | tup (xs : List V)
 | dK (kvs : List (Key × V)) | dT (kvs : List (List Key × V))
 | set (S : Int → Bool) (n : Nat)
 | ins (C dx : Addr) (fs : List (Str × V))
 | own (x : Addr)
 | xd (fs : List (Str × V))
 | met (f x : Addr)
 | rng (lo hi : Int)
 | frz (o : Obj) (u : HO)
 | tbl (ps : Array Value)
 | exc (cls : Value)
 | ext (φ : Heap → Prop)
abbrev Hp := Addr → Option HO
def upd (H : Hp) (a : Addr) (o : HO) : Hp := fun b => if b = a then some o else H b
theorem upd_same {H : Hp} {a : Addr} {o : HO} : upd H a o a = some o := by unfold upd; rw [if_pos rfl]
theorem upd_ne {H : Hp} {a b : Addr} {o : HO} (h : b ≠ a) : upd H a o b = H b := by unfold upd; rw [if_neg h]
theorem upd_upd {H : Hp} {a : Addr} {o u : HO} : upd (upd H a o) a u = upd H a u := by
 funext b; unfold upd; split <;> rfl
theorem ne_of {H : Hp} {a b : Addr} {o u : HO} (h : H a = some o) (h' : H b = some u) (d : o ≠ u) : a ≠ b := by
 intro e; subst e; rw [h] at h'; exact d (Option.some.inj h')
theorem ne_of_none {H : Hp} {a b : Addr} {o : HO} (h : H a = some o) (h' : H b = none) : a ≠ b := by
 intro e; subst e; rw [h] at h'; cases h'
section
variable (P : Program) (w : World)
def ObjOk (H : Hp) (h : Heap) (a : Addr) : HO → Prop
 | .lst xs => xs.length ≤ sizeLine ∧ ∃ (its : List Value) (n : Nat), Vals xs its ∧ h.get? a = some { cls := .type "list", data := .seq its.toArray n }
 | .tup xs => xs.length ≤ sizeLine ∧ ∃ its : List Value, Vals xs its ∧ IsTup h a its.toArray
 | .dK kvs => kvs.length ≤ sizeLine ∧ (a == sysModules) = false ∧ ∃ vs, KV kvs vs ∧ h.DictOf (mixKind P w) a vs
 | .dT kvs => kvs.length ≤ sizeLine ∧ (a == sysModules) = false ∧ ∃ xs : List (List Key × Addr × Value),
   Paired (fun (p : List Key × V) (q : List Key × Addr × Value) => p.1 = q.1 ∧ H q.2.1 = some (.tup (p.1.map kV)) ∧ RelV p.2 q.2.2) kvs xs ∧
   ∃ o es ep, h.get? a = some o ∧ o.ExactDict ∧ o.data = .dict es ep ∧ es.toList = xs.map (entryOfKey (tupleKind (mixKind P w))) ∧ (xs.map (·.1)).Nodup
 | .set S n => h.SetOf (intKind P w) a S n
 | .ins C dx fs => H dx = some (.own a) ∧ fs.length ≤ 1000 ∧ dx ≠ a ∧ h.get? a = some (PySem.W.instObj C dx) ∧
   ∃ mA, h.Ns1 dx mA ∧ (∀ f, RelO (fs.lookup f) (mA f)) ∧ PySem.Within mA (fs.map (·.1))
 | .own _ => ∃ o, h.get? a = some o
 | .xd fs => ∃ mA, h.Ns1 a mA ∧ ∀ f, RelO (fs.lookup f) (mA f)
 | .rng lo hi => ∃ t u v, h.get? a = some { cls := .type "range", data := .fields #[.int lo t, .int hi u, .int 1 v] }
 | .frz o u => h.get? a = some o ∧ ObjOk H h a u
 | .tbl ps => h.get? a = some { cls := .none, data := .fields ps }
 | .met f x => h.get? a = some (PySem.W.methodObj (.ref f) (.ref x))
 | .exc c => ∃ oe vs, h.get? a = some oe ∧ oe.cls = c ∧ oe.dict = none ∧ oe.data = .fields vs ∧ (vs[2]? = some .none ∨ ∃ b ob vb, vs[2]? = some (.ref b) ∧ b ≠ a ∧ H b = some (.own a) ∧ h.get? b = some ob ∧ ob.data = .fields vb ∧ vb[2]? = some .none)
 | .ext φ => φ h ∧ (∃ o, h.get? a = some o) ∧ ∀ h1 h2 : Heap, φ h1 → (∀ o, h1.get? a = some o → h2.get? a = some o) → φ h2
def HOk (H : Hp) (h : Heap) : Prop := ∀ a o, H a = some o → ObjOk P w H h a o
end
section
variable {P : Program} {w : World} {H H' : Hp} {h h' : Heap} {a : Addr} {o : HO}
theorem ObjOk.lt (x : ObjOk P w H h a o) : a < h.objs.size := by
 cases o with
 | lst xs => obtain ⟨_, _, _, _, e⟩ := x; exact Heap.lt_size e
 | tup xs => obtain ⟨_, _, _, p⟩ := x; exact p.lt
 | dK kvs => obtain ⟨_, _, _, _, o, _, _, e, _⟩ := x; exact Heap.lt_size e
 | dT kvs => obtain ⟨_, _, _, _, o, _, _, e, _⟩ := x; exact Heap.lt_size e
 | set S n => obtain ⟨o, _, _, _, e, _⟩ := x; exact Heap.lt_size e
 | ins C dx fs => obtain ⟨_, _, _, e, _⟩ := x; exact Heap.lt_size e
 | own y => obtain ⟨_, e⟩ := x; exact Heap.lt_size e
 | xd fs => obtain ⟨_, ⟨_, _, _, e, _⟩, _⟩ := x; exact Heap.lt_size e
 | rng lo hi => obtain ⟨_, _, _, e⟩ := x; exact Heap.lt_size e
 | frz ob u => obtain ⟨e, _⟩ := x; exact Heap.lt_size e
 | tbl ps => exact Heap.lt_size (show h.get? a = some _ from x)
 | met f y => exact Heap.lt_size (show h.get? a = some _ from x)
 | ext φ => obtain ⟨_, ⟨_, e⟩, _⟩ := x; exact Heap.lt_size e
 | exc c => obtain ⟨_, _, e, _⟩ := x; exact Heap.lt_size e
theorem Paired.mapP {α β : Type} {F G : α → β → Prop} : ∀ {l₁ : List α} {l₂ : List β}, Paired F l₁ l₂ → (∀ a b, F a b → G a b) → Paired G l₁ l₂
 | _, _, .nil, _ => .nil
 | _, _, .cons r t, f => .cons (f _ _ r) (Paired.mapP t f)
theorem ObjOk.stay (x : ObjOk P w H h a o) (k : ∀ b u, (b = a ∨ H b = some (.own a)) → h.get? b = some u → h'.get? b = some u)
  (ho : ∀ b, H b = some (.own a) → H' b = some (.own a)) (ht : ∀ b xs, H b = some (.tup xs) → H' b = some (.tup xs)) : ObjOk P w H' h' a o := by
 induction o with
 | lst xs => obtain ⟨z, its, n, r, e⟩ := x; exact ⟨z, its, n, r, k _ _ (.inl rfl) e⟩
 | tup xs => obtain ⟨z, its, r, ob, e, c⟩ := x; exact ⟨z, its, r, ob, k _ _ (.inl rfl) e, c⟩
 | dK kvs => obtain ⟨z, y, vs, r, ob, es, ep, e, c⟩ := x; exact ⟨z, y, vs, r, ob, es, ep, k _ _ (.inl rfl) e, c⟩
 | dT kvs =>
  obtain ⟨z, y, xs, r, ob, es, ep, e, c⟩ := x
  exact ⟨z, y, xs, Paired.mapP r fun p q z => ⟨z.1, ht _ _ z.2.1, z.2.2⟩, ob, es, ep, k _ _ (.inl rfl) e, c⟩
 | set S n => obtain ⟨ob, es, ep, t, e, c⟩ := x; exact ⟨ob, es, ep, t, k _ _ (.inl rfl) e, c⟩
 | ins C dx fs =>
  obtain ⟨d, z, ne, e, mA, ⟨od, es, ep, e2, c⟩, r⟩ := x
  exact ⟨ho _ d, z, ne, k _ _ (.inl rfl) e, mA, ⟨od, es, ep, k _ _ (.inr d) e2, c⟩, r⟩
 | own y => obtain ⟨ob, e⟩ := x; exact ⟨ob, k _ _ (.inl rfl) e⟩
 | xd fs => obtain ⟨mA, ⟨od, es, ep, e, c⟩, r⟩ := x; exact ⟨mA, ⟨od, es, ep, k _ _ (.inl rfl) e, c⟩, r⟩
 | rng lo hi => obtain ⟨t, u, v, e⟩ := x; exact ⟨t, u, v, k _ _ (.inl rfl) e⟩
 | frz ob u ih => obtain ⟨e, q⟩ := x; exact ⟨k _ _ (.inl rfl) e, ih q⟩
 | tbl ps =>
  have e : h.get? a = some { cls := .none, data := .fields ps } := x
  show h'.get? a = some { cls := .none, data := .fields ps }
  exact k a _ (.inl rfl) e
 | met f y =>
  have e : h.get? a = some (PySem.W.methodObj (.ref f) (.ref y)) := x
  show h'.get? a = some (PySem.W.methodObj (.ref f) (.ref y))
  exact k a _ (.inl rfl) e
 | exc c =>
  obtain ⟨oe, vs, e, r1, r2, r3, r⟩ := x
  refine ⟨oe, vs, k _ _ (.inl rfl) e, r1, r2, r3, ?_⟩
  rcases r with r | ⟨b, ob, vb, d1, d2, d3, d4, d5⟩
  ·exact .inl r
  ·exact .inr ⟨b, ob, vb, d1, d2, ho _ d3, k _ _ (.inr d3) d4, d5⟩
 | ext φ => obtain ⟨p, ⟨o, e⟩, st⟩ := x; exact ⟨st _ _ p fun o q => k _ _ (.inl rfl) q, ⟨o, k _ _ (.inl rfl) e⟩, st⟩
theorem HOk.lt (x : HOk P w H h) (e : H a = some o) : a < h.objs.size := (x a o e).lt
theorem HOk.fresh (x : HOk P w H h) (e : h.objs.size ≤ a) : H a = none := by
 cases q : H a with
 | none => rfl
 | some u => exact absurd (Nat.lt_of_lt_of_le (x.lt q) e) (Nat.lt_irrefl _)
theorem HOk.kept (x : HOk P w H h) (k : ∀ b u, h.get? b = some u → h'.get? b = some u) : HOk P w H h' := fun a o e =>
 (x a o e).stay (fun b u _ q => k b u q) (fun _ q => q) fun _ _ q => q
theorem HOk.laid (x : HOk P w H h) (k : ∀ b u, h.get? b = some u → h'.get? b = some u) (hp : h.objs.size ≤ a) (new : ObjOk P w (upd H a o) h' a o) : HOk P w (upd H a o) h' := fun b u e => by
 have hn := x.fresh hp
 by_cases hb : b = a
 ·subst hb; rw [upd_same] at e; cases e; exact new
 ·rw [upd_ne hb] at e
  exact (x b u e).stay (fun c v _ q => k c v q) (fun c q => by rw [upd_ne (ne_of_none q hn)]; exact q) fun c xs q => by rw [upd_ne (ne_of_none q hn)]; exact q
end
def HdE (A : Around) (H : Hp) : Prop := A.handled = none ∨ ∃ (e : Addr) (c : Value), A.handled = some (.ref e) ∧ H e = some (.exc c)
theorem HdE.at {P : Program} {w : World} {A : Around} {H : Hp} {h : Heap} (x : HdE A H) (ok : HOk P w H h) : HdAt A h := by
 rcases x with x | ⟨e, c, a, b⟩
 ·exact .inl x
 ·obtain ⟨oe, vs, q, _, _, d, z⟩ := ok e _ b
  refine .inr ⟨e, oe, vs, a, q, d, ?_⟩
  rcases z with z | ⟨b, ob, vb, d1, d2, _, d4⟩
  ·exact .inl z
  ·exact .inr ⟨b, ob, vb, d1, d2, d4⟩
def Rd (H : Hp) (a : Addr) (u : HO) : Prop := H a = some u ∨ ∃ o, H a = some (.frz o u)
theorem Rd.ok {P : Program} {w : World} {H : Hp} {h : Heap} {a : Addr} {u : HO} (r : Rd H a u) (x : HOk P w H h) : ObjOk P w H h a u := by
 rcases r with r | ⟨o, r⟩
 ·exact x a u r
 ·obtain ⟨_, q⟩ := x a _ r
  exact q
def Mut : Option HO → Prop
 | some (.lst _) => True
 | some (.dK _) => True
 | some (.dT _) => True
 | some (.set _ _) => True
 | some (.ins _ _ _) => True
 | some (.ext _) => True
 | _ => False
section
variable {P : Program} {w : World} {H : Hp} {h h' : Heap} {x e : Addr} {o' : HO}
theorem HOk.write (ok : HOk P w H h) (mu : Mut (H x)) (he : e = x ∨ H e = some (.own x)) (k : ∀ b u, b ≠ e → h.get? b = some u → h'.get? b = some u) (heo : ∃ u, h'.get? e = some u)
  (new : ObjOk P w (upd H x o') h' x o') : HOk P w (upd H x o') h' := fun b u q => by
 have nown : ∀ c y, H c = some (.own y) → c ≠ x := fun c y r z => by subst z; rw [r] at mu; exact mu
 have ntup : ∀ c xs, H c = some (.tup xs) → c ≠ x := fun c xs r z => by subst z; rw [r] at mu; exact mu
 by_cases hb : b = x
 ·subst hb; rw [upd_same] at q; cases q; exact new
 ·rw [upd_ne hb] at q
  by_cases hbe : b = e
  ·have q' : H b = some (.own x) := by
    rcases he with z | z
    ·exact absurd (hbe.trans z) hb
    ·rw [hbe]; exact z
   rw [q] at q'; cases q'
   obtain ⟨v, hv⟩ := heo
   exact ⟨v, by rw [hbe]; exact hv⟩
  ·refine (ok b u q).stay (fun c v hc r => k c v ?_ r) (fun c r => by rw [upd_ne (nown c b r)]; exact r) fun c xs r => by rw [upd_ne (ntup c xs r)]; exact r
   rcases hc with rfl | hc
   ·exact hbe
   ·rintro rfl
    rcases he with z | z
    ·exact nown c b hc z
    ·rw [hc] at z; cases z; exact hb rfl
end
structure Un (fs ex : List Addr) (H H' : Hp) (h h' : Heap) : Prop where
 keep : ∀ b o, h.get? b = some o → H b = none → b ∉ fs → b ∉ ex → h'.get? b = some o
 slot : ∀ b o, h.get? b = some o → H b = none → b ∈ fs → b ∉ ex → ∃ sl, h'.get? b = some { o with slots := sl }
 free : ∀ b o, h.get? b = some o → H b = none → b ∉ ex → H' b = none
 there : ∀ b o, h.get? b = some o → b ∉ ex → ∃ o', h'.get? b = some o'
 tups : ∀ b xs, H b = some (.tup xs) → H' b = some (.tup xs)
 frzs : ∀ b o u, H b = some (.frz o u) → H' b = some (.frz o u)
 tbls : ∀ b ps, H b = some (.tbl ps) → ∃ more, H' b = some (.tbl (ps ++ more))
 excs : ∀ b c, H b = some (.exc c) → H' b = some (.exc c)
section
variable {fs fs' ex ex' : List Addr} {H H1 H2 : Hp} {h h1 h2 h' : Heap} {a x e : Addr} {o : HO}
theorem Un.any (u : Un fs ex H H1 h h1) {b : Addr} {ob : Obj} (q : h.get? b = some ob) (n : H b = none) (hx : b ∉ ex) : ∃ sl, h1.get? b = some { ob with slots := sl } := by
 by_cases hb : b ∈ fs
 ·exact u.slot b ob q n hb hx
 ·exact ⟨ob.slots, u.keep b ob q n hb hx⟩
theorem Un.kept (k : ∀ b u, h.get? b = some u → h'.get? b = some u) : Un fs ex H H h h' :=
 ⟨fun b ob q _ _ _ => k b ob q, fun b ob q _ _ _ => ⟨ob.slots, k b ob q⟩, fun _ _ _ n _ => n, fun b ob q _ => ⟨ob, k b ob q⟩, fun _ _ q => q, fun _ _ _ q => q, fun _ ps q => ⟨#[], by rw [q]; simp⟩, fun _ _ q => q⟩
theorem Un.refl : Un fs ex H H h h := Un.kept fun _ _ q => q
theorem Un.laid (k : ∀ b u, h.get? b = some u → h'.get? b = some u) (hp : h.objs.size ≤ a) (hn : H a = none) : Un fs ex H (upd H a o) h h' where
 keep := fun b u q _ _ _ => k b u q
 slot := fun b u q _ _ _ => ⟨u.slots, k b u q⟩
 free := fun b u q n _ => by rw [upd_ne (Nat.ne_of_lt (Nat.lt_of_lt_of_le (Heap.lt_size q) hp))]; exact n
 there := fun b u q _ => ⟨u, k b u q⟩
 tups := fun b xs q => by rw [upd_ne (ne_of_none q hn)]; exact q
 frzs := fun b u xs q => by rw [upd_ne (ne_of_none q hn)]; exact q
 tbls := fun b ps q => ⟨#[], by rw [upd_ne (ne_of_none q hn), q]; simp⟩
 excs := fun b c q => by rw [upd_ne (ne_of_none q hn)]; exact q
theorem Un.write (mu : Mut (H x)) (he : e = x ∨ H e = some (.own x)) (k : ∀ b u, b ≠ e → h.get? b = some u → h'.get? b = some u) (heo : ∃ u, h'.get? e = some u) : Un fs ex H (upd H x o) h h' := by
 have hx : ∀ b, H b = none → b ≠ x := fun b n z => by subst z; rw [n] at mu; exact mu
 have hb : ∀ b, H b = none → b ≠ e := fun b n z => by
  subst z
  rcases he with r | r
  ·exact hx b n r
  ·rw [n] at r; cases r
 have hm : ∀ b u, H b = some u → ¬ Mut (some u) → b ≠ x := fun b u q nm z => by subst z; rw [q] at mu; exact nm mu
 refine ⟨fun b u q n _ _ => k b u (hb b n) q, fun b u q n _ _ => ⟨u.slots, k b u (hb b n) q⟩, fun b u q n _ => by rw [upd_ne (hx b n)]; exact n, fun b u q _ => ?_,
  fun b xs q => by rw [upd_ne (hm b _ q fun z => z)]; exact q, fun b u xs q => by rw [upd_ne (hm b _ q fun z => z)]; exact q, fun b ps q => ⟨#[], by rw [upd_ne (hm b _ q fun z => z), q]; simp⟩, fun b c q => by rw [upd_ne (hm b _ q fun z => z)]; exact q⟩
 by_cases hbe : b = e
 ·subst hbe; exact heo
 ·exact ⟨u, k b u hbe q⟩
end
def trk (h : Heap) (H : Hp) : List Addr := (List.range h.objs.size).filter fun a => (H a).isSome
def hidT (h : Heap) (H : Hp) : Heap := PySem.W.hideAll h (trk h H)
theorem hidT_size (h : Heap) (H : Hp) : (hidT h H).objs.size = h.objs.size := PySem.W.hideAll_size _ _
theorem hidT_get {h : Heap} {H : Hp} {b : Addr} {o : Obj} (e : h.get? b = some o) (n : H b = none) : (hidT h H).get? b = some o :=
 PySem.W.hideAll_get _ e fun hm => by
  have q : (H b).isSome = true := (List.mem_filter.mp hm).2
  rw [n] at q; simp at q
theorem of_hidT {h : Heap} {H : Hp} {b : Addr} {o : Obj} (e : (hidT h H).get? b = some o) : h.get? b = some o ∧ H b = none := by
 have e' : h.get? b = some o := PySem.W.of_hideAll (trk h H) e
 refine ⟨e', ?_⟩
 cases q : H b with
 | none => rfl
 | some x =>
  have hm : b ∈ trk h H := List.mem_filter.mpr ⟨List.mem_range.mpr (Heap.lt_size e'), by simp [q]⟩
  have z : (hidT h H).get? b = none := PySem.W.hideAll_none (trk h H) hm
  rw [z] at e; cases e
end L2
namespace L2
open PySem PySem.Spec PyProof.Rows
structure Mod (K : PySem.W.Frag) (mg : Str → Option Value) (base : Heap) : Prop where
 kin : K.In base
 glob : base.Ns mainGlobals mg
 blt : ∃ mb, base.Ns builtinsNs mb ∧ ∀ x : Str, x ≠ "__name__" → mb x = bootBuiltins x
 nolimit : base.NoLimit
structure Cx where
 prog : Program
 w : World
 K : PySem.W.Frag
 mg : Str → Option Value
 base : Heap
 A : Around
 N : List Str
 s₀ : Shared
 H₀ : Hp
 env : Env
 outer : List Env
 stack : List Env
 ex : List Addr
 fn : Str → Bool
 calm : Bool
 pn : List (Addr × Obj)
 tr : List (Addr × Value)
 fx : List (Str × Value)
 xe : Value → Shared → Prop
def frs (l : List Env) : List Addr := l.filterMap (·.frame)
abbrev Cx.fs (X : Cx) : List Addr := frs X.outer
def Vis (sc : Scope) (x : Str) : Prop := sc.names.lookup x = some .local ∨ sc.names.lookup x = some .cell ∨ sc.names.lookup x = some .free
def Loc (sc : Scope) (x : Str) : Prop := sc.names.lookup x = some .local ∨ sc.names.lookup x = some .cell
def Look (env : Env) (h : Heap) (m : Str → Option Value) (x : Str) (u : Value) : Prop :=
 (env.kindOf x = some .local ∧ m x = some u) ∨ ((env.kindOf x = some .cell ∨ env.kindOf x = some .free) ∧ ∃ c, env.cells.lookup x = some c ∧ h.IsCell c (some u))
structure Cx.Ok (X : Cx) : Prop where
 mod : Mod X.K X.mg X.base
 kind : X.env.scope.kind = .function
 glob : X.env.globals = mainGlobals
 blt : X.env.builtins = builtinsNs
 above : X.s₀.heap.objs.size ≤ X.env.locals
 inj : ∀ x y c, X.env.cells.lookup x = some c → X.env.cells.lookup y = some c → x = y
 has : ∀ x, (X.env.kindOf x = some .cell ∨ X.env.kindOf x = some .free) → ∃ c, X.env.cells.lookup x = some c
 cab : ∀ x c, X.fn x = true → X.env.cells.lookup x = some c → X.s₀.heap.objs.size ≤ c
 hd : X.A.handled = none ∨ ∃ (e : Addr) (c : Value), X.A.handled = some (.ref e) ∧ (X.H₀ e = some (.exc c) ∨ (e, c) ∈ X.tr)
 frames : X.A.frames = some X.stack
 stk : X.stack = X.outer ∨ (X.stack = X.env :: X.outer ∧ X.env.frame = some X.env.locals)
 exf : ∀ b ∈ X.ex, b ≠ X.env.locals ∧ ∀ x c, X.env.cells.lookup x = some c → c ≠ b
 bs : ∀ b o, X.base.get? b = some o → X.s₀.heap.get? b = some o ∧ X.H₀ b = none
 bsz : X.base.objs.size ≤ X.s₀.heap.objs.size
 noex : ∀ b o, X.base.get? b = some o → b ∉ X.ex
 exfs : ∀ b ∈ X.ex, b ∉ X.fs
 funs : X.s₀.heap.FunFrames X.base X.outer
 frf : ∀ b ∈ X.fs, X.H₀ b = none
structure Inv (X : Cx) (pins : List (Addr × Obj)) (σ : List (Option V)) (H : Hp) (s : Shared) : Prop where
 ok : X.Ok
 os : s.os = X.s₀.os
 bare : AllBare s.gens
 base : Un X.fs X.ex X.H₀ H X.s₀.heap s.heap
 loc : ∃ m, s.heap.Ns X.env.locals m ∧ ∀ (i : Nat) (x : Str) (v : V), X.N[i]? = some x → σ[i]? = some (some v) → Vis X.env.scope x → ∃ u, RelV v u ∧ Look X.env s.heap m x u
 cell : ∀ x c, X.env.cells.lookup x = some c → ∃ v, s.heap.IsCell c v
 free : H X.env.locals = none
 freeC : ∀ x c, X.env.cells.lookup x = some c → H c = none
 pin : ∀ p ∈ X.pn ++ pins, s.heap.get? p.1 = some p.2 ∧ H p.1 = none ∧ p.1 ≠ X.env.locals ∧ p.1 ∉ X.fs ∧ ∀ v, p.2.data ≠ .cell v
 hok : HOk X.prog X.w H s.heap
 len : σ.length = X.N.length
 tr : ∀ p ∈ X.tr, H p.1 = some (.exc p.2)
 fix : ∀ p ∈ X.fx, ∃ m, s.heap.Ns X.env.locals m ∧ Look X.env s.heap m p.1 p.2
theorem ns_uniq {h : Heap} {a : Addr} {m m' : Str → Option Value} (n : h.Ns a m) (n' : h.Ns a m') : m = m' := by
 obtain ⟨o, es, ep, h1, h2, _, h3⟩ := n
 obtain ⟨o', es', ep', h1', h2', _, h3'⟩ := n'
 rw [h1] at h1'; cases h1'
 rw [h2] at h2'; cases h2'
 funext x
 rw [← h3, ← h3']
section
variable {X : Cx} {pins : List (Addr × Obj)} {σ : List (Option V)} {H H' : Hp} {s : Shared} {h' : Heap}
theorem Cx.Ok.nofr (ok : X.Ok) {b : Addr} {o : Obj} (e : X.base.get? b = some o) : b ∉ X.fs := fun hb => by
 have := (ok.funs.mem hb).1
 rw [e] at this; cases this
theorem Inv.bs (I : Inv X pins σ H s) : ∀ b o, X.base.get? b = some o → s.heap.get? b = some o ∧ H b = none := fun b o e =>
 ⟨I.base.keep b o (I.ok.bs b o e).1 (I.ok.bs b o e).2 (I.ok.nofr e) (I.ok.noex b o e), I.base.free b o (I.ok.bs b o e).1 (I.ok.bs b o e).2 (I.ok.noex b o e)⟩
theorem Inv.bk (I : Inv X pins σ H s) : ∀ b o, X.base.get? b = some o → s.heap.get? b = some o := fun b o e => (I.bs b o e).1
theorem Inv.mod (I : Inv X pins σ H s) : Mod X.K X.mg X.base := I.ok.mod
theorem Inv.hdE (I : Inv X pins σ H s) : HdE X.A H := by
 rcases I.ok.hd with h | ⟨e, c, h1, h2⟩
 ·exact .inl h
 ·rcases h2 with h2 | h2
  ·exact .inr ⟨e, c, h1, I.base.excs e c h2⟩
  ·exact .inr ⟨e, c, h1, I.tr (e, c) h2⟩
theorem Inv.hd (I : Inv X pins σ H s) : HdAt X.A s.heap := I.hdE.at I.hok
theorem Inv.kIn (I : Inv X pins σ H s) : X.K.In s.heap := I.ok.mod.kin.keeps I.bk
theorem Inv.lt (I : Inv X pins σ H s) : X.env.locals < s.heap.objs.size := let ⟨_, hn, _⟩ := I.loc; hn.lt
theorem Inv.sz (I : Inv X pins σ H s) : X.s₀.heap.objs.size ≤ s.heap.objs.size := Nat.le_trans I.ok.above (Nat.le_of_lt I.lt)
theorem Inv.nofs (I : Inv X pins σ H s) {a : Addr} (h : s.heap.objs.size ≤ a) : a ∉ X.fs := fun hb => by
 obtain ⟨_, o, ho, _⟩ := I.ok.funs.mem hb
 exact absurd (Nat.lt_of_lt_of_le (Heap.lt_size ho) (Nat.le_trans I.sz h)) (Nat.lt_irrefl _)
theorem Inv.cne (I : Inv X pins σ H s) : ∀ x c, X.env.cells.lookup x = some c → c ≠ X.env.locals := fun x c e z => by
 obtain ⟨v, o, ho, hd⟩ := I.cell x c e
 obtain ⟨m, ⟨o', es, ep, ho', hd', _⟩, _⟩ := I.loc
 rw [z, ho'] at ho; cases ho; rw [hd'] at hd; cases hd
theorem Inv.funs (I : Inv X pins σ H s) : s.heap.FunFrames X.base X.outer := by
 have all : ∀ (l : List Env), (∀ b ∈ frs l, b ∈ X.fs) → X.s₀.heap.FunFrames X.base l → s.heap.FunFrames X.base l := by
  intro l
  induction l with
  | nil => intro _ _; trivial
  | cons env r ih =>
   intro hs hl
   obtain ⟨hk, ⟨L, o, hf, hn, ho, hd⟩, hr⟩ := hl
   have hL : L ∈ X.fs := hs L (by unfold frs; rw [List.filterMap_cons, hf]; exact List.mem_cons_self)
   obtain ⟨sl, e⟩ := I.base.slot L o ho (I.ok.frf L hL) hL fun z => I.ok.exfs L z hL
   exact ⟨hk, ⟨L, _, hf, hn, e, hd⟩, ih (fun b hb => hs b (by unfold frs; rw [List.filterMap_cons, hf]; exact List.mem_cons_of_mem _ hb)) hr⟩
 exact all X.outer (fun _ hb => hb) I.ok.funs
theorem Inv.stack (I : Inv X pins σ H s) : s.heap.FunFrames X.base X.stack := by
 rcases I.ok.stk with e | ⟨e, hf⟩
 ·rw [e]; exact I.funs
 ·rw [e]
  obtain ⟨m, hn, _⟩ := I.loc
  refine .cons (by rw [I.ok.kind]; decide) hf hn ?_ I.funs
  exact Heap.get?_none_of_le (Nat.le_trans I.ok.bsz I.ok.above)
theorem Inv.stkSub (I : Inv X pins σ H s) : ∀ b ∈ frs X.stack, b ∈ X.env.locals :: X.fs := fun b hb => by
 rcases I.ok.stk with e | ⟨e, hf⟩
 ·rw [e] at hb; exact List.mem_cons_of_mem _ hb
 ·rw [e] at hb
  unfold frs at hb
  rw [List.filterMap_cons, hf] at hb
  exact hb
theorem Inv.stkFree (I : Inv X pins σ H s) : ∀ b ∈ frs X.stack, H b = none := fun b hb => by
 rcases List.mem_cons.mp (I.stkSub b hb) with e | hb
 ·rw [e]; exact I.free
 ·obtain ⟨_, o, ho, _⟩ := I.ok.funs.mem hb
  exact I.base.free b o ho (I.ok.frf b hb) fun z => I.ok.exfs b z hb
theorem Inv.step {g' : Array GenState} {t' : Nat} {d' : Drawn} {ch : List Addr} (I : Inv X pins σ H s)
  (hch : ∀ b ∈ ch, (b ∈ X.ex ∨ X.s₀.heap.objs.size ≤ b) ∧ b ≠ X.env.locals ∧ (∀ x c, X.env.cells.lookup x = some c → c ≠ b) ∧ ∀ p ∈ X.pn ++ pins, p.1 ≠ b)
  (keep : ∀ b o, b ≠ X.env.locals → b ∉ X.fs → b ∉ ch → s.heap.get? b = some o → H b = none → h'.get? b = some o)
  (slot : ∀ b o, b ≠ X.env.locals → b ∈ X.fs → b ∉ ch → s.heap.get? b = some o → H b = none → ∃ sl, h'.get? b = some { o with slots := sl }) (free : ∀ b o, b ∉ ch → s.heap.get? b = some o → H b = none → H' b = none)
  (there : ∀ b o, b ∉ ch → s.heap.get? b = some o → ∃ o', h'.get? b = some o')
  (tups : ∀ b xs, H b = some (.tup xs) → H' b = some (.tup xs)) (frzs : ∀ b o u, H b = some (.frz o u) → H' b = some (.frz o u)) (tbls : ∀ b ps, H b = some (.tbl ps) → ∃ more, H' b = some (.tbl (ps ++ more))) (excs : ∀ b c, H b = some (.exc c) → H' b = some (.exc c))
  (ns : ∀ m, s.heap.Ns X.env.locals m → h'.Ns X.env.locals m) (hok : HOk X.prog X.w H' h') (hg : AllBare g') :
  Inv X pins σ H' { s with heap := h', gens := g', drawn := d', toks := t' } := by
 have neL : ∀ b o, X.s₀.heap.get? b = some o → b ≠ X.env.locals := fun b o e => Nat.ne_of_lt (Nat.lt_of_lt_of_le (Heap.lt_size e) I.ok.above)
 have neC : ∀ b o, X.s₀.heap.get? b = some o → b ∉ X.ex → b ∉ ch := fun b o e hx hb => by
  rcases (hch b hb).1 with z | z
  ·exact hx z
  ·exact absurd (Nat.lt_of_lt_of_le (Heap.lt_size e) z) (Nat.lt_irrefl _)
 have cellK : ∀ x c, X.env.cells.lookup x = some c → ∀ v, s.heap.IsCell c v → h'.IsCell c v := fun x c e v ⟨o, ho, hd⟩ => by
  have nch : c ∉ ch := fun z => (hch c z).2.2.1 x c e rfl
  by_cases hc : c ∈ X.fs
  ·obtain ⟨sl, q⟩ := slot c o (I.cne x c e) hc nch ho (I.freeC x c e)
   exact ⟨_, q, hd⟩
  ·exact ⟨o, keep c o (I.cne x c e) hc nch ho (I.freeC x c e), hd⟩
 refine ⟨I.ok, I.os, hg, ⟨fun b o e n hb hx => ?_, fun b o e n hb hx => ?_, fun b o e n hx => ?_, fun b o e hx => ?_, fun b xs e => tups b xs (I.base.tups b xs e), fun b o xs e => frzs b o xs (I.base.frzs b o xs e), fun b ps e => ?_, fun b k e => excs b k (I.base.excs b k e)⟩, ?_, fun x c e => ?_, ?_, fun x c e => ?_, fun p hp => ?_, hok, I.len, fun p hp => excs _ _ (I.tr p hp), fun p hp => let ⟨m, hn, lk⟩ := I.fix p hp; ⟨m, ns m hn, lk.elim .inl fun ⟨k, c, e, z⟩ => .inr ⟨k, c, e, cellK p.1 c e _ z⟩⟩⟩
 ·exact keep b o (neL b o e) hb (neC b o e hx) (I.base.keep b o e n hb hx) (I.base.free b o e n hx)
 ·obtain ⟨sl, e1⟩ := I.base.slot b o e n hb hx
  obtain ⟨sl', e2⟩ := slot b _ (neL b o e) hb (neC b o e hx) e1 (I.base.free b o e n hx)
  exact ⟨sl', e2⟩
 ·obtain ⟨o', e1⟩ := I.base.there b o e hx
  exact free b o' (neC b o e hx) e1 (I.base.free b o e n hx)
 ·obtain ⟨o', e1⟩ := I.base.there b o e hx
  exact there b o' (neC b o e hx) e1
 ·obtain ⟨m1, e1⟩ := I.base.tbls b ps e
  obtain ⟨m2, e2⟩ := tbls b _ e1
  exact ⟨m1 ++ m2, by rw [e2, Array.append_assoc]⟩
 ·obtain ⟨m, hn, hl⟩ := I.loc
  refine ⟨m, ns m hn, fun i x v e1 e2 e3 => ?_⟩
  obtain ⟨u, r, l⟩ := hl i x v e1 e2 e3
  refine ⟨u, r, ?_⟩
  rcases l with l | ⟨k, c, e, z⟩
  ·exact .inl l
  ·exact .inr ⟨k, c, e, cellK x c e _ z⟩
 ·obtain ⟨v, z⟩ := I.cell x c e
  exact ⟨v, cellK x c e v z⟩
 ·obtain ⟨m, ⟨o, _, _, ho, _⟩, _⟩ := I.loc
  exact free _ o (fun z => (hch _ z).2.1 rfl) ho I.free
 ·obtain ⟨v, o, ho, hd⟩ := I.cell x c e
  exact free c o (fun z => (hch c z).2.2.1 x c e rfl) ho (I.freeC x c e)
 ·obtain ⟨e, n, ne, nf, d⟩ := I.pin p hp
  have nch : p.1 ∉ ch := fun z => (hch p.1 z).2.2.2 p hp rfl
  exact ⟨keep p.1 p.2 ne nf nch e n, free p.1 p.2 nch e n, ne, nf, d⟩
theorem Inv.un {t' : Nat} (I : Inv X pins σ H s) (u : Un X.fs [] H H' s.heap h') (hok : HOk X.prog X.w H' h') : Inv X pins σ H' { s with heap := h', toks := t' } := by
 obtain ⟨m, ⟨o, es, ep, ho, r⟩, _⟩ := id I.loc
 obtain ⟨sl, hL⟩ := u.any ho I.free (by simp)
 exact I.step (g' := s.gens) (d' := s.drawn) (ch := []) (fun _ z => nomatch z) (fun b o _ hb _ e n => u.keep b o e n hb (by simp)) (fun b o _ hb _ e n => u.slot b o e n hb (by simp)) (fun b o _ e n => u.free b o e n (by simp)) (fun b o _ e => u.there b o e (by simp)) u.tups u.frzs u.tbls u.excs (fun m' hm => by
  obtain ⟨o', es', ep', ho', r'⟩ := hm
  rw [ho] at ho'; cases ho'
  exact ⟨_, es', ep', hL, r'⟩) hok I.bare
theorem Inv.call {g' : Array GenState} {t' : Nat} {d' : Drawn} {ch : List Addr} (I : Inv X pins σ H s) (u : Un (frs X.stack) ch H H' s.heap h') (hok : HOk X.prog X.w H' h') (hg : AllBare g')
  (hch : ∀ b ∈ ch, (b ∈ X.ex ∨ X.s₀.heap.objs.size ≤ b) ∧ b ≠ X.env.locals ∧ (∀ x c, X.env.cells.lookup x = some c → c ≠ b) ∧ ∀ p ∈ X.pn ++ pins, p.1 ≠ b) :
  Inv X pins σ H' { s with heap := h', gens := g', drawn := d', toks := t' } := by
 obtain ⟨m, ⟨o, es, ep, ho, r⟩, _⟩ := id I.loc
 obtain ⟨sl, hL⟩ := u.any ho I.free fun z => (hch _ z).2.1 rfl
 exact I.step (ch := ch) hch (fun b o hL hb hc e n => u.keep b o e n (fun z => (List.mem_cons.mp (I.stkSub b z)).elim hL hb) hc) (fun b o _ _ hc e n => u.any e n hc) (fun b o hc e n => u.free b o e n hc) (fun b o hc e => u.there b o e hc) u.tups u.frzs u.tbls u.excs (fun m' hm => by
  obtain ⟨o', es', ep', ho', r'⟩ := hm
  rw [ho] at ho'; cases ho'
  exact ⟨_, es', ep', hL, r'⟩) hok hg
theorem Inv.turned {t' : Nat} {it : Addr} (I : Inv X pins σ H s) (k : ∀ b o, b ≠ it → s.heap.get? b = some o → h'.get? b = some o) (hn : H it = none) (hL : it ≠ X.env.locals)
  (h1 : it ∈ X.ex ∨ X.s₀.heap.objs.size ≤ it) (h2 : ∀ x c, X.env.cells.lookup x = some c → c ≠ it) (h3 : ∀ p ∈ X.pn ++ pins, p.1 ≠ it) : Inv X pins σ H { s with heap := h', toks := t' } := by
 have nit : ∀ b u, H b = some u → b ≠ it := fun b u e z => by rw [z, hn] at e; cases e
 refine I.step (g' := s.gens) (d' := s.drawn) (ch := [it]) (fun b hb => ?_) (fun b o _ _ hc e _ => k b o (fun z => hc (by simp [z])) e) (fun b o _ _ hc e _ => ⟨o.slots, k b o (fun z => hc (by simp [z])) e⟩) (fun _ _ _ _ n => n)
  (fun b o hc e => ⟨o, k b o (fun z => hc (by simp [z])) e⟩) (fun _ _ e => e) (fun _ _ _ e => e) (fun b ps e => ⟨#[], by rw [e]; simp⟩) (fun _ _ e => e) (fun m hm => ?_) (fun b u e => ?_) I.bare
 ·have e : b = it := by simpa using hb
  subst e
  exact ⟨h1, hL, h2, h3⟩
 ·obtain ⟨o, es, ep, ho, r⟩ := hm
  exact ⟨o, es, ep, k _ o (Ne.symm hL) ho, r⟩
 ·refine (I.hok b u e).stay (fun c v hc q => k c v ?_ q) (fun _ q => q) fun _ _ q => q
  rcases hc with z | z
  ·rw [z]; exact nit b u e
  ·exact nit c _ z
theorem Inv.tok (I : Inv X pins σ H s) (t : Nat) : Inv X pins σ H { s with toks := t } := I.un (h' := s.heap) (t' := t) Un.refl I.hok
theorem Inv.kept {t' : Nat} (I : Inv X pins σ H s) (k : ∀ b u, s.heap.get? b = some u → h'.get? b = some u) : Inv X pins σ H { s with heap := h', toks := t' } := I.un (Un.kept k) (I.hok.kept k)
theorem Inv.laid {a : Addr} {o : HO} {t' : Nat} (I : Inv X pins σ H s) (k : ∀ b u, s.heap.get? b = some u → h'.get? b = some u) (hp : s.heap.objs.size ≤ a) (new : ObjOk X.prog X.w (upd H a o) h' a o) :
  Inv X pins σ (upd H a o) { s with heap := h', toks := t' } := I.un (Un.laid k hp (I.hok.fresh hp)) (I.hok.laid k hp new)
theorem Inv.write {x e : Addr} {o : HO} {t' : Nat} (I : Inv X pins σ H s) (mu : Mut (H x)) (he : e = x ∨ H e = some (.own x)) (k : ∀ b u, b ≠ e → s.heap.get? b = some u → h'.get? b = some u) (heo : ∃ u, h'.get? e = some u)
  (new : ObjOk X.prog X.w (upd H x o) h' x o) : Inv X pins σ (upd H x o) { s with heap := h', toks := t' } := I.un (Un.write mu he k heo) (I.hok.write mu he k heo new)
theorem Inv.pins_of {pins' : List (Addr × Obj)} (I : Inv X pins σ H s) (h : ∀ p ∈ pins', s.heap.get? p.1 = some p.2 ∧ H p.1 = none ∧ p.1 ≠ X.env.locals ∧ p.1 ∉ X.fs ∧ ∀ v, p.2.data ≠ .cell v) : Inv X pins' σ H s :=
 ⟨I.ok, I.os, I.bare, I.base, I.loc, I.cell, I.free, I.freeC, fun p hp => (List.mem_append.mp hp).elim (fun z => I.pin p (List.mem_append_left _ z)) (h p), I.hok, I.len, I.tr, I.fix⟩
theorem nodup_ix {N : List Str} (hN : N.Nodup) {i j : Nat} {x : Str} (a : N[i]? = some x) (b : N[j]? = some x) : i = j := by
 obtain ⟨h1, e1⟩ := List.getElem?_eq_some_iff.mp a
 obtain ⟨h2, e2⟩ := List.getElem?_eq_some_iff.mp b
 exact (List.getElem_inj hN).mp (e1.trans e2.symm)
theorem store_ok2 {M : Model} {A : Around} {E : Value → Shared → Prop} {i : Nat} {x : Str} {v : V} {u : Value} {Q : Unit → Shared → Prop} (I : Inv X pins σ H s) (hN : X.N.Nodup) (hi : X.N[i]? = some x) (hx : Loc X.env.scope x) (r : RelV v u)
  (h : ∀ s', Inv X pins (σ.set i (some v)) H s' → (∃ a, Heap.SameBut a s.heap s'.heap ∧ (a = X.env.locals ∨ X.env.cells.lookup x = some a)) → Q () s') (hf : X.fn x = true ∨ X.env.scope.names.lookup x = some .local := by first | exact .inl rfl | exact .inr rfl | assumption) (hfx : ∀ p ∈ X.fx, p.1 ≠ x := by first | exact fun p h => absurd (show p ∈ ([] : List (Str × Value)) from h) (by simp) | assumption) : wpAny M A (storeName X.env x u) Q E s := by
 obtain ⟨m, hn, hl⟩ := id I.loc
 have hcls : (X.env.scope.kind == .class || (X.env.scope.kind == .module && X.env.locals != X.env.globals)) = false := by rw [I.ok.kind]; rfl
 have hiσ : i < σ.length := by rw [I.len]; exact (List.getElem?_eq_some_iff.mp hi).1
 have cne := I.cne
 have tracked : ∀ {a : Addr} {h' : Heap}, (∃ o, s.heap.get? a = some o ∧ H a = none) → Heap.SameBut a s.heap h' → HOk X.prog X.w H h' := fun {a h'} ha hs b ob e => by
  obtain ⟨_, _, hfree⟩ := ha
  refine (I.hok b ob e).stay (fun c w' hc q => (hs.2 c ?_).trans q) (fun _ q => q) fun _ _ q => q
  rintro rfl
  rcases hc with rfl | hc
  ·rw [hfree] at e; cases e
  ·rw [hfree] at hc; cases hc
 rcases hx with hk | hk
 ·refine wpAny_storeName_local hk hn (fun h' hn' hs => ?_) hcls
  obtain ⟨oL, _, _, hoL, _⟩ := id hn
  refine h _ ⟨I.ok, I.os, I.bare, ⟨fun b o e n hb hx => ?_, fun b o e n hb hx => ?_, I.base.free, fun b o e hx => ?_, I.base.tups, I.base.frzs, I.base.tbls, I.base.excs⟩, ⟨_, hn', fun j y v' e1 e2 e3 => ?_⟩, fun y c e => ?_, I.free, I.freeC, fun p hp => ?_, tracked ⟨oL, hoL, I.free⟩ hs, by simpa using I.len, I.tr, fun p hp => ?_⟩ ⟨_, hs, .inl rfl⟩
  rotate_right
  ·obtain ⟨m1, hn1, lk⟩ := I.fix p hp
   have em := ns_uniq hn1 hn
   subst em
   refine ⟨_, hn', ?_⟩
   rcases lk with ⟨k, e⟩ | ⟨k, c, e, z⟩
   ·exact .inl ⟨k, by simp [hfx p hp, e]⟩
   ·exact .inr ⟨k, c, e, z.sameBut hs (cne p.1 c e)⟩
  ·exact (hs.2 b (Nat.ne_of_lt (Nat.lt_of_lt_of_le (Heap.lt_size e) I.ok.above))).trans (I.base.keep b o e n hb hx)
  ·obtain ⟨sl, e1⟩ := I.base.slot b o e n hb hx
   exact ⟨sl, (hs.2 b (Nat.ne_of_lt (Nat.lt_of_lt_of_le (Heap.lt_size e) I.ok.above))).trans e1⟩
  ·obtain ⟨o', e1⟩ := I.base.there b o e hx
   exact ⟨o', (hs.2 b (Nat.ne_of_lt (Nat.lt_of_lt_of_le (Heap.lt_size e) I.ok.above))).trans e1⟩
  ·by_cases hj : j = i
   ·subst hj
    rw [hi] at e1; cases e1
    rw [List.getElem?_set_self hiσ] at e2
    cases e2
    exact ⟨u, r, .inl ⟨hk, by simp⟩⟩
   ·rw [List.getElem?_set_ne (Ne.symm hj)] at e2
    obtain ⟨u', r', q⟩ := hl j y v' e1 e2 e3
    refine ⟨u', r', ?_⟩
    rcases q with ⟨k, e⟩ | ⟨k, c, e, z⟩
    ·refine .inl ⟨k, ?_⟩
     have : y ≠ x := fun e => hj (nodup_ix hN e1 (e ▸ hi))
     simp [this, e]
    ·exact .inr ⟨k, c, e, z.sameBut hs (cne y c e)⟩
  ·obtain ⟨w', z⟩ := I.cell y c e
   exact ⟨w', z.sameBut hs (cne y c e)⟩
  ·obtain ⟨e, n, ne, nf, d⟩ := I.pin p hp
   exact ⟨(hs.2 p.1 ne).trans e, n, ne, nf, d⟩
 ·have hfn : X.fn x = true := by
   rcases hf with z | z
   ·exact z
   ·rw [z] at hk; cases hk
  obtain ⟨c, hc⟩ := I.ok.has x (.inl hk)
  obtain ⟨w', z⟩ := I.cell x c hc
  refine wpAny_storeName_cell I.ok.kind hk hc z (fun h' hc' hs => ?_)
  obtain ⟨oc, hoc, hocd⟩ := id z
  refine h { s with heap := h' } ⟨I.ok, I.os, I.bare, ⟨fun b o e n hb hx => ?_, fun b o e n hb hx => ?_, I.base.free, fun b o e hx => ?_, I.base.tups, I.base.frzs, I.base.tbls, I.base.excs⟩, ⟨m, hn.sameBut hs (Ne.symm (cne x c hc)), fun j y v' e1 e2 e3 => ?_⟩, fun y c' e => ?_, I.free, I.freeC, fun p hp => ?_, tracked ⟨oc, hoc, I.freeC x c hc⟩ hs, by simpa using I.len, I.tr, fun p hp => ?_⟩ ⟨c, hs, .inr hc⟩
  rotate_right
  ·obtain ⟨m1, hn1, lk⟩ := I.fix p hp
   refine ⟨m1, hn1.sameBut hs (Ne.symm (cne x c hc)), ?_⟩
   rcases lk with q | ⟨k, c', e, z'⟩
   ·exact .inl q
   ·refine .inr ⟨k, c', e, z'.sameBut hs ?_⟩
    rintro rfl
    exact hfx p hp (I.ok.inj _ _ _ e hc)
  ·exact (hs.2 b (Nat.ne_of_lt (Nat.lt_of_lt_of_le (Heap.lt_size e) (I.ok.cab x c hfn hc)))).trans (I.base.keep b o e n hb hx)
  ·obtain ⟨sl, e1⟩ := I.base.slot b o e n hb hx
   exact ⟨sl, (hs.2 b (Nat.ne_of_lt (Nat.lt_of_lt_of_le (Heap.lt_size e) (I.ok.cab x c hfn hc)))).trans e1⟩
  ·obtain ⟨o', e1⟩ := I.base.there b o e hx
   exact ⟨o', (hs.2 b (Nat.ne_of_lt (Nat.lt_of_lt_of_le (Heap.lt_size e) (I.ok.cab x c hfn hc)))).trans e1⟩
  ·by_cases hj : j = i
   ·subst hj
    rw [hi] at e1; cases e1
    rw [List.getElem?_set_self hiσ] at e2
    cases e2
    exact ⟨u, r, .inr ⟨.inl hk, c, hc, hc'⟩⟩
   ·rw [List.getElem?_set_ne (Ne.symm hj)] at e2
    obtain ⟨u', r', q⟩ := hl j y v' e1 e2 e3
    refine ⟨u', r', ?_⟩
    rcases q with q | ⟨k, c', e, z'⟩
    ·exact .inl q
    ·refine .inr ⟨k, c', e, z'.sameBut hs ?_⟩
     rintro rfl
     exact hj (nodup_ix hN e1 (I.ok.inj _ _ _ e hc ▸ hi))
  ·by_cases hcc : c' = c
   ·subst hcc; exact ⟨_, hc'⟩
   ·obtain ⟨w2, z2⟩ := I.cell y c' e
    exact ⟨w2, z2.sameBut hs hcc⟩
  ·obtain ⟨e, n, ne, nf, d⟩ := I.pin p hp
   refine ⟨(hs.2 p.1 ?_).trans e, n, ne, nf, d⟩
   intro q
   rw [q, hoc] at e
   have q' : oc = p.2 := Option.some.inj e
   exact d w' (by rw [← q']; exact hocd)
theorem store_ok {M : Model} {A : Around} {E : Value → Shared → Prop} {i : Nat} {x : Str} {v : V} {u : Value} {Q : Unit → Shared → Prop} (I : Inv X pins σ H s) (hN : X.N.Nodup) (hi : X.N[i]? = some x) (hx : Loc X.env.scope x) (r : RelV v u)
  (h : ∀ s', Inv X pins (σ.set i (some v)) H s' → Q () s') (hf : X.fn x = true ∨ X.env.scope.names.lookup x = some .local := by first | exact .inl rfl | exact .inr rfl | assumption) (hfx : ∀ p ∈ X.fx, p.1 ≠ x := by first | exact fun p h => absurd (show p ∈ ([] : List (Str × Value)) from h) (by simp) | assumption) : wpAny M A (storeName X.env x u) Q E s :=
 store_ok2 I hN hi hx r (fun s' I' _ => h s' I') hf hfx
theorem Inv.call' {s' : Shared} {ch : List Addr} (I : Inv X pins σ H s) (ho : s'.os = s.os) (u : Un (frs X.stack) ch H H' s.heap s'.heap) (hok : HOk X.prog X.w H' s'.heap) (hg : AllBare s'.gens)
  (hch : ∀ b ∈ ch, (b ∈ X.ex ∨ X.s₀.heap.objs.size ≤ b) ∧ b ≠ X.env.locals ∧ (∀ x c, X.env.cells.lookup x = some c → c ≠ b) ∧ ∀ p ∈ X.pn ++ pins, p.1 ≠ b) : Inv X pins σ H' s' := by
 obtain ⟨h', g', d', t', o'⟩ := s'
 have e : o' = s.os := ho
 subst e
 exact I.call (g' := g') (t' := t') (d' := d') u hok hg hch
end
abbrev XK := Value → Option Addr → Hp → Prop
abbrev St := List (Option V)
abbrev VK := V → Hp → Prop
abbrev TE := St → Hp → VK → Prop
abbrev TT := St → Hp → (Bool → Hp → Prop) → Prop
abbrev TA := St → Hp → (List V → Hp → Prop) → Prop
structure Ends where
 nx : St → Hp → Prop
 rt : VK
 bk : St → Hp → Prop := fun _ _ => False
 ct : St → Hp → Prop := fun _ _ => False
abbrev TS := Ends → St → Hp → Prop
def EP (X : Cx) (pins : List (Addr × Obj)) (σ : St) (Q : VK) (u : Value) (s' : Shared) : Prop := ∃ v H', Inv X pins σ H' s' ∧ RelV v u ∧ Q v H'
def TP (X : Cx) (pins : List (Addr × Obj)) (σ : St) (Q : Bool → Hp → Prop) (b : Bool) (s' : Shared) : Prop := ∃ H', Inv X pins σ H' s' ∧ Q b H'
def AP (X : Cx) (pins : List (Addr × Obj)) (σ : St) (Q : List V → Hp → Prop) (us : List Value) (s' : Shared) : Prop := ∃ vs H', Inv X pins σ H' s' ∧ Vals vs us ∧ Q vs H'
def SP (X : Cx) (pins : List (Addr × Obj)) (D : Ends) (f : Flow) (s' : Shared) : Prop :=
 match f with
 | .next => ∃ σ' H', Inv X pins σ' H' s' ∧ D.nx σ' H'
 | .brk => ∃ σ' H', Inv X pins σ' H' s' ∧ D.bk σ' H'
 | .cont => ∃ σ' H', Inv X pins σ' H' s' ∧ D.ct σ' H'
 | .ret u => ∃ v σ' H', Inv X pins σ' H' s' ∧ RelV v u ∧ D.rt v H'
def PE (X : Cx) (e : Expr) (t : TE) : Prop :=
 ∀ (pins : List (Addr × Obj)) (s : Shared) (σ : St) (H : Hp) (Q : VK), Inv X pins σ H s → t σ H Q → wpAny (model X.prog X.w) X.A (eval e X.env) (EP X pins σ Q) X.xe s
def PT (X : Cx) (e : Expr) (t : TT) : Prop :=
 ∀ (pins : List (Addr × Obj)) (s : Shared) (σ : St) (H : Hp) (Q : Bool → Hp → Prop), Inv X pins σ H s → t σ H Q → wpAny (model X.prog X.w) X.A (isTrue e X.env (eval e X.env)) (TP X pins σ Q) X.xe s
def PW (X : Cx) (e : Expr) (t : TT) : Prop :=
 ∀ (whole : Sem Value) (pins : List (Addr × Obj)) (s : Shared) (σ : St) (H : Hp) (Q : Bool → Hp → Prop), Inv X pins σ H s → t σ H Q → wpAny (model X.prog X.w) X.A (isTrue e X.env whole) (TP X pins σ Q) X.xe s
theorem PW.pt {X : Cx} {e : Expr} {t : TT} (h : PW X e t) : PT X e t := h _
def PA (X : Cx) (es : List Expr) (t : TA) : Prop :=
 ∀ (pos : Pos) (pins : List (Addr × Obj)) (s : Shared) (σ : St) (H : Hp) (Q : List V → Hp → Prop), Inv X pins σ H s → t σ H Q → wpAny (model X.prog X.w) X.A (spliced (backTo pos (starEach es X.env))) (AP X pins σ Q) X.xe s
def PS (X : Cx) (st : Stmt) (t : TS) : Prop :=
 ∀ (pins : List (Addr × Obj)) (s : Shared) (σ : St) (H : Hp) (D : Ends), Inv X pins σ H s → t D σ H → wpAny (model X.prog X.w) X.A (exec st X.env) (SP X pins D) X.xe s
def PSs (X : Cx) (st : List Stmt) (t : TS) : Prop :=
 ∀ (pins : List (Addr × Obj)) (s : Shared) (σ : St) (H : Hp) (D : Ends), Inv X pins σ H s → t D σ H → wpAny (model X.prog X.w) X.A (execs st X.env) (SP X pins D) X.xe s
theorem thn {α : Type} {t : Sem α} {Q Q' : α → Shared → Prop} {M : Model} {A : Around} {E : Value → Shared → Prop} {s : Shared} (h : wpAny M A t Q E s) (hQ : ∀ a s, Q a s → Q' a s) : wpAny M A t Q' E s := wpAny_mono h hQ fun _ _ x => x
end L2
namespace L2
open PySem PySem.Spec PyProof.Rows
section
variable {X : Cx}
def tVar (i : Nat) : TE := fun σ H Q => ∃ v, σ[i]? = some (some v) ∧ Q v H
def tC (v : V) : TE := fun _ H Q => Q v H
theorem pe_var {i : Nat} {x : Str} {pos : Pos} (hN : X.N[i]? = some x) (hv : Vis X.env.scope x) (hd : (x == ("__debug__" : Str)) = false := by decide) (hcd : (x == ("__classdict__" : Str)) = false := by decide) : PE X (.Name x pos) (tVar i) := by
 intro pins s σ H Q I h
 obtain ⟨v, e, h⟩ := h
 obtain ⟨m, hn, hl⟩ := I.loc
 obtain ⟨u, r, l⟩ := hl i x v hN e hv
 have fin : EP X pins σ Q u s := ⟨v, H, I, r, h⟩
 rcases l with ⟨hk, hm⟩ | ⟨hk, c, hc, hcell⟩
 ·exact wpAny_Name (wpAny_loadName_local I.ok.kind hk hn hm fin) hd
 ·rcases hk with hk | hk
  ·exact wpAny_Name (wpAny_loadName_cell I.ok.kind hk hc hcell fin) hd
  ·exact wpAny_Name (wpAny_loadName_free I.ok.kind hk hc hcell fin hcd) hd
theorem pe_int {i j pos} : PE X (.Constant (.int i) j pos) (tC (.int i)) := fun _ _ _ H _ I h => wpAny_Constant_int ⟨.int i, H, I.tok _, ⟨_, rfl⟩, h⟩
theorem pe_bl {b j pos} : PE X (.Constant (.bool b) j pos) (tC (.bl b)) := fun _ _ _ H _ I h => Constant_bool ⟨.bl b, H, I, rfl, h⟩
theorem pe_non {j pos} : PE X (.Constant .none j pos) (tC .non) := fun _ _ _ H _ I h => Constant_none ⟨.non, H, I, rfl, h⟩
theorem pe_str {x j pos} : PE X (.Constant (.str x) j pos) (tC (.str x)) := fun _ _ _ H _ I h => Calls.Constant_str ⟨.str x, H, I.tok _, ⟨_, rfl⟩, h⟩
def Gl (X : Cx) (x : Str) : Prop := X.env.kindOf x = some .globalImplicit
theorem ld_glob {E : Value → Shared → Prop} {pins : List (Addr × Obj)} {s : Shared} {σ : St} {H : Hp} {x : Str} {u : Value} {pos : Pos} {Q : Value → Shared → Prop} (I : Inv X pins σ H s) (hg : Gl X x) (hm : X.mg x = some u) (h : Q u s)
  (hd : (x == ("__debug__" : Str)) = false := by decide) : wpAny (model X.prog X.w) X.A (eval (.Name x pos) X.env) Q E s :=
 Calls.Name_function_global I.ok.kind hg (Calls.loadGlobal_global (by rw [I.ok.glob]; exact I.mod.glob.keeps I.bk) hm h) hd
theorem ld_blt {E : Value → Shared → Prop} {pins : List (Addr × Obj)} {s : Shared} {σ : St} {H : Hp} {x : Str} {u : Value} {pos : Pos} {Q : Value → Shared → Prop} (I : Inv X pins σ H s) (hg : Gl X x) (hm : X.mg x = none) (hv : bootBuiltins x = some u) (h : Q u s)
  (hn : x ≠ "__name__" := by decide) (hd : (x == ("__debug__" : Str)) = false := by decide) : wpAny (model X.prog X.w) X.A (eval (.Name x pos) X.env) Q E s := by
 obtain ⟨mb, h1, h2⟩ := I.mod.blt
 exact Calls.Name_function_global I.ok.kind hg (Calls.loadGlobal_builtin (by rw [I.ok.glob]; exact I.mod.glob.keeps I.bk) hm (by rw [I.ok.blt]; exact h1.keeps I.bk) ((h2 x hn).trans hv) h) hd
theorem pe_glob {x : Str} {v : V} {u : Value} {pos : Pos} (hg : Gl X x) (hm : X.mg x = some u) (r : RelV v u) (hd : (x == ("__debug__" : Str)) = false := by decide) : PE X (.Name x pos) (tC v) :=
 fun _ _ _ H _ I h => ld_glob I hg hm ⟨v, H, I, r, h⟩ hd
theorem pe_bltn {x : Str} {v : V} {u : Value} {pos : Pos} (hg : Gl X x) (hm : X.mg x = none) (hv : bootBuiltins x = some u) (r : RelV v u) (hn : x ≠ "__name__" := by decide) (hd : (x == ("__debug__" : Str)) = false := by decide) : PE X (.Name x pos) (tC v) :=
 fun _ _ _ H _ I h => ld_blt I hg hm hv ⟨v, H, I, r, h⟩ hn hd
variable {a b : Expr} {ta tb : TE} {pos : Pos}
def PC (X : Cx) (op : CmpOp) (a b : Expr) (t : TE) : Prop :=
 ∀ (pins : List (Addr × Obj)) (s : Shared) (σ : St) (H : Hp) (Q : VK), Inv X pins σ H s → t σ H Q →
  wpAny (model X.prog X.w) X.A (eval a X.env) (fun v s₁ => wpAny (model X.prog X.w) X.A (eval b X.env) (fun u s₂ => wpAny (model X.prog X.w) X.A (compareOp op v u) (EP X pins σ Q) X.xe s₂) X.xe s₁) X.xe s
def tB (t : TE) : TT := fun σ H Q => t σ H fun x H1 => ∃ c, x = .bl c ∧ Q c H1
theorem pe_cmp {op : CmpOp} {t : TE} (h : PC X op a b t) (h1 : behindInMarks op b = false := by first | exact nobehind _ (by decide) (by decide) | rfl) : PE X (.Compare a [op] [b] pos) t := fun pins s σ H Q I hw => wpAny_Compare1 (h pins s σ H Q I hw) h1
theorem pt_cmp {op : CmpOp} {t : TE} (h : PC X op a b t) (h1 : behindInMarks op b = false := by first | exact nobehind _ (by decide) (by decide) | rfl) : PT X (.Compare a [op] [b] pos) (tB t) := by
 intro pins s σ H Q I hw
 refine wpAny_isTrue_Compare1 (thn (h pins s σ H _ I hw) fun v s1 h1 => thn h1 fun u s2 h2 => thn h2 fun c s3 ⟨x, H1, I1, r1, q1⟩ => ?_) h1
 obtain ⟨d, rfl, q⟩ := q1
 cases r1
 exact wpAny_truthy_bool ⟨H1, I1, q⟩
theorem pt_val {e : Expr} {t : TE} (h : PE X e t) (he : ∀ whole, isTrue e X.env whole = (do let v ← whole; standAt e.pos; holding [v] (truthy v)) := by intro _; rfl) : PT X e (tB t) := by
 intro pins s σ H Q I hw
 refine isTrue_plain (thn (h pins s σ H _ I hw) fun v s1 ⟨x, H1, I1, r1, q1⟩ => ?_) (he _)
 obtain ⟨d, rfl, q⟩ := q1
 cases r1
 exact wpAny_truthy_bool ⟨H1, I1, q⟩
variable {tA tB' : TT} {rest : List Expr}
def tAnd (t u : TT) : TT := fun σ H Q => t σ H fun c H1 => if c = true then u σ H1 Q else Q false H1
def tOr (t u : TT) : TT := fun σ H Q => t σ H fun c H1 => if c = true then Q true H1 else u σ H1 Q
def tNot (t : TT) : TT := fun σ H Q => t σ H fun c H1 => Q (!c) H1
theorem pw_and1 (ha : PT X a tA) : PW X (.BoolOp .And [a] pos) tA := by
 intro wh pins s σ H Q I h
 refine isTrue_and (thn (ha pins s σ H Q I h) fun c s1 e => ?_)
 cases c with
 | true => exact isTrue_and_nil e
 | false => exact e
theorem pw_or1 (ha : PT X a tA) : PW X (.BoolOp .Or [a] pos) tA := by
 intro wh pins s σ H Q I h
 refine isTrue_or (thn (ha pins s σ H Q I h) fun c s1 e => ?_)
 cases c with
 | false => exact isTrue_or_nil e
 | true => exact e
theorem pw_and (ha : PT X a tA) (hb : PW X (.BoolOp .And (b :: rest) pos) tB') : PW X (.BoolOp .And (a :: b :: rest) pos) (tAnd tA tB') := by
 intro wh pins s σ H Q I h
 refine isTrue_and (thn (ha pins s σ H _ I h) fun c s1 ⟨H1, I1, q1⟩ => ?_)
 cases c with
 | true => exact hb wh pins s1 σ H1 Q I1 q1
 | false => exact ⟨H1, I1, q1⟩
theorem pw_or (ha : PT X a tA) (hb : PW X (.BoolOp .Or (b :: rest) pos) tB') : PW X (.BoolOp .Or (a :: b :: rest) pos) (tOr tA tB') := by
 intro wh pins s σ H Q I h
 refine isTrue_or (thn (ha pins s σ H _ I h) fun c s1 ⟨H1, I1, q1⟩ => ?_)
 cases c with
 | true => exact ⟨H1, I1, q1⟩
 | false => exact hb wh pins s1 σ H1 Q I1 q1
theorem pt_not (ha : PT X a tA) : PT X (.UnaryOp .Not a pos) (tNot tA) := by
 intro pins s σ H Q I h
 exact isTrue_not (ha pins s σ H (fun c H1 => Q (!c) H1) I h)
def tAndV (ta tb : TE) : TE := fun σ H Q => ta σ H fun x H1 => ∃ c, x = .bl c ∧ if c = true then tb σ H1 Q else Q (.bl false) H1
def tNotV (ta : TE) : TE := fun σ H Q => ta σ H fun x H1 => ∃ c, x = .bl c ∧ Q (.bl (!c)) H1
theorem pe_one {op} {t : TE} (h : PE X a t) : PE X (.BoolOp op [a] pos) t := fun pins s σ H Q I hw => BoolOp_one (h pins s σ H Q I hw)
theorem pe_and (ha : PE X a ta) (hb : PE X (.BoolOp .And (b :: rest) pos) tb) : PE X (.BoolOp .And (a :: b :: rest) pos) (tAndV ta tb) := by
 intro pins s σ H Q I h
 refine BoolOp_and (thn (ha pins s σ H _ I h) fun v s1 ⟨x, H1, I1, r1, q1⟩ => ?_)
 obtain ⟨c, rfl, q1⟩ := q1
 cases r1
 refine wpAny_truthy_bool ?_
 cases c with
 | true => exact hb pins s1 σ H1 Q I1 q1
 | false => exact ⟨.bl false, H1, I1, rfl, q1⟩
theorem pe_not (ha : PE X a ta) : PE X (.UnaryOp .Not a pos) (tNotV ta) := by
 intro pins s σ H Q I h
 refine UnaryOp_ (thn (ha pins s σ H _ I h) fun v s1 ⟨x, H1, I1, r1, q1⟩ => ?_)
 obtain ⟨c, rfl, q1⟩ := q1
 cases r1
 exact not_of (wpAny_truthy_bool ⟨.bl (!c), H1, I1, rfl, q1⟩)
end
end L2
namespace L2
open PySem PySem.Spec PyProof.Rows
def SqL (K : PySem.W.Frag) (H : Hp) (a : Addr) (xs : List V) : Prop :=
 Rd H a (.lst xs) ∨
  ∃ (o : Obj) (its : Array Value) (n : Nat), K.lookup a = some o ∧ o.cls = .type "list" ∧ o.dict = none ∧ o.data = .seq its n ∧ its.size ≤ sizeLine ∧ Vals xs its.toList
def SqT (K : PySem.W.Frag) (H : Hp) (a : Addr) (xs : List V) : Prop :=
 Rd H a (.tup xs) ∨
  ∃ (o : Obj) (its : Array Value) (n : Nat), K.lookup a = some o ∧ o.cls = .type "tuple" ∧ o.data = .seq its n ∧ its.size ≤ sizeLine ∧ Vals xs its.toList
def absV : Value → Option V
 | .none => some .non
 | .bool b => some (.bl b)
 | .int i _ => some (.int i)
 | .str x _ => some (.str x)
 | .bytes b _ => some (.byt b)
 | .float b _ => some (.flt b)
 | .ref a => some (.ref a)
 | .type n => some (.ty n)
 | _ => none
theorem RelV.abs {x : V} {u : Value} (r : RelV x u) : absV u = some x := by
 cases x with
 | non => cases r; rfl
 | bl _ => cases r; rfl
 | int _ => obtain ⟨t, rfl⟩ := r; rfl
 | str _ => obtain ⟨t, rfl⟩ := r; rfl
 | byt _ => obtain ⟨t, rfl⟩ := r; rfl
 | flt _ => obtain ⟨t, rfl⟩ := r; rfl
 | ref _ => cases r; rfl
 | ty _ => cases r; rfl
theorem RelV.inj {x y : V} {u : Value} (r : RelV x u) (q : RelV y u) : x = y := Option.some.inj (r.abs.symm.trans q.abs)
theorem Vals.inj : ∀ {xs ys : List V} {us : List Value}, Vals xs us → Vals ys us → xs = ys
 | _, _, _, .nil, .nil => rfl
 | _, _, _, .cons r t, .cons r' t' => by rw [r.inj r', Vals.inj t t']
section
variable {X : Cx} {pins : List (Addr × Obj)} {σ : St} {H : Hp} {s : Shared} {a : Addr} {xs ys : List V}
theorem SqL.of {K : PySem.W.Frag} (h : H a = some (.lst xs)) : SqL K H a xs := .inl (.inl h)
theorem SqT.of {K : PySem.W.Frag} (h : H a = some (.tup xs)) : SqT K H a xs := .inl (.inl h)
theorem Inv.list (I : Inv X pins σ H s) (h : SqL X.K H a xs) : ∃ its : List Value, Vals xs its ∧ PlainL s.heap a its.toArray ∧ xs.length ≤ sizeLine := by
 rcases h with h | ⟨o, its, n, hk, hc, hd, hs, hz, r⟩
 ·obtain ⟨z, its, n, r, e⟩ := h.ok I.hok
  exact ⟨its, r, ⟨_, n, e, rfl, rfl, rfl⟩, z⟩
 ·refine ⟨its.toList, r, ⟨o, n, I.kIn a o hk, hc, hd, by simpa using hs⟩, ?_⟩
  have e := r.length
  simp only [Array.length_toList] at e
  omega
theorem Inv.tuple (I : Inv X pins σ H s) (h : SqT X.K H a xs) : ∃ its : List Value, Vals xs its ∧ IsTup s.heap a its.toArray ∧ xs.length ≤ sizeLine := by
 rcases h with h | ⟨o, its, n, hk, hc, hs, hz, r⟩
 ·obtain ⟨z, its, r, p⟩ := h.ok I.hok
  exact ⟨its, r, p, z⟩
 ·refine ⟨its.toList, r, ⟨o, I.kIn a o hk, hc, n, by simpa using hs⟩, ?_⟩
  have e := r.length
  simp only [Array.length_toList] at e
  omega
theorem Inv.list_inj (I : Inv X pins σ H s) (h : SqL X.K H a xs) (h' : SqL X.K H a ys) : xs = ys := by
 obtain ⟨its, r, ⟨o, n, e, _, _, d⟩, _⟩ := I.list h
 obtain ⟨its', r', ⟨o', n', e', _, _, d'⟩, _⟩ := I.list h'
 rw [e] at e'; cases e'
 rw [d] at d'
 injection d' with d1 _
 have : its = its' := by simpa using congrArg Array.toList d1
 subst this
 exact r.inj r'
end
abbrev Cx.wish (X : Cx) (E : Value → Shared → Prop) : Cx := { X with xe := E }
abbrev Cx.nox (X : Cx) : Cx := X.wish fun _ _ => False
theorem Cx.Ok.wish {X : Cx} (ok : X.Ok) (E : Value → Shared → Prop) : (X.wish E).Ok :=
 ⟨ok.mod, ok.kind, ok.glob, ok.blt, ok.above, ok.inj, ok.has, ok.cab, ok.hd, ok.frames, ok.stk, ok.exf, ok.bs, ok.bsz, ok.noex, ok.exfs, ok.funs, ok.frf⟩
theorem Cx.Ok.unwish {X : Cx} {E : Value → Shared → Prop} (ok : (X.wish E).Ok) : X.Ok :=
 ⟨ok.mod, ok.kind, ok.glob, ok.blt, ok.above, ok.inj, ok.has, ok.cab, ok.hd, ok.frames, ok.stk, ok.exf, ok.bs, ok.bsz, ok.noex, ok.exfs, ok.funs, ok.frf⟩
section
variable {X : Cx} {pins : List (Addr × Obj)} {σ : St} {H : Hp} {s : Shared} {E : Value → Shared → Prop}
theorem Inv.wish (I : Inv X pins σ H s) (E : Value → Shared → Prop) : Inv (X.wish E) pins σ H s := ⟨I.ok.wish E, I.os, I.bare, I.base, I.loc, I.cell, I.free, I.freeC, I.pin, I.hok, I.len, I.tr, I.fix⟩
theorem Inv.unwish (I : Inv (X.wish E) pins σ H s) : Inv X pins σ H s := ⟨I.ok.unwish, I.os, I.bare, I.base, I.loc, I.cell, I.free, I.freeC, I.pin, I.hok, I.len, I.tr, I.fix⟩
theorem SP.unwish {D : Ends} {f : Flow} {s' : Shared} (h : SP (X.wish E) pins D f s') : SP X pins D f s' := by
 cases f with
 | next => obtain ⟨σ', H', I, q⟩ := h; exact ⟨σ', H', I.unwish, q⟩
 | brk => obtain ⟨σ', H', I, q⟩ := h; exact ⟨σ', H', I.unwish, q⟩
 | cont => obtain ⟨σ', H', I, q⟩ := h; exact ⟨σ', H', I.unwish, q⟩
 | ret u => obtain ⟨v, σ', H', I, r, q⟩ := h; exact ⟨v, σ', H', I.unwish, r, q⟩
theorem PSs.nox {st : List Stmt} {t : TS} (h : PSs X.nox st t) : PSs X st t := fun pins s σ H D I hw =>
 wpAny_mono (h pins s σ H D (I.wish _) hw) (fun _ _ q => q.unwish) fun _ _ z => False.elim z
end
section
variable {X : Cx} {st : Stmt} {rest : List Stmt} {t u : TS} {e : Expr} {te : TE} {pos : Pos}
def tNext : TS := fun D σ H => D.nx σ H
def tSeq (t u : TS) : TS := fun D σ H => t { D with nx := u D } σ H
theorem pss_nil : PSs X [] tNext := fun _ _ σ H _ I h => wpAny_execs_nil ⟨σ, H, I, h⟩
theorem pss_cons (h1 : PS X st t) (h2 : PSs X rest u) : PSs X (st :: rest) (tSeq t u) := by
 intro pins s σ H D I h
 refine wpAny_execs_cons (thn (h1 pins s σ H { D with nx := u D } I h) fun f s1 q => ?_)
 cases f with
 | next =>
  obtain ⟨σ', H', I', q⟩ := q
  exact h2 pins s1 σ' H' D I' q
 | ret v => exact q
 | brk => exact q
 | cont => exact q
theorem pss_one (h1 : PS X st t) : PSs X [st] t := by
 intro pins s σ H D I h
 refine wpAny_execs_cons (thn (h1 pins s σ H D I h) fun f s1 q => ?_)
 cases f with
 | next => exact wpAny_execs_nil q
 | ret v => exact q
 | brk => exact q
 | cont => exact q
theorem Inv.quiet {pins : List (Addr × Obj)} {σ : St} {H : Hp} {s : Shared} (I : Inv X pins σ H s) : interactive X.env = false := by simp [interactive, I.ok.kind]
def tDrop (te : TE) : TS := fun D σ H => te σ H fun _ H1 => D.nx σ H1
theorem ps_expr (he : PE X e te) (hs : swapsWith e none pos.line X.env = pure false := by rfl) : PS X (.Expr e pos) (tDrop te) := by
 intro pins s σ H D I h
 exact wpAny_Expr_any (thn (he pins s σ H _ I h) fun v s1 ⟨x, H1, I1, r1, q1⟩ => ⟨σ, H1, I1, q1⟩) I.quiet hs
def tRet (te : TE) : TS := fun D σ H => te σ H D.rt
theorem ps_ret (he : PE X e te) : PS X (.Return (some e) pos) (tRet te) := by
 intro pins s σ H D I h
 exact wpAny_Return_some (thn (he pins s σ H _ I h) fun v s1 ⟨x, H1, I1, r1, q1⟩ => ⟨x, σ, H1, I1, r1, q1⟩)
def tRetN : TS := fun D _ H => D.rt .non H
theorem ps_retN : PS X (.Return none pos) tRetN := fun _ _ σ H _ I h => wpAny_Return_none ⟨.non, σ, H, I, rfl, h⟩
def tIfS (c : TT) (t u : TS) : TS := fun D σ H => c σ H fun b H1 => if b = true then t D σ H1 else u D σ H1
theorem ps_if {c : Expr} {a b : List Stmt} {tc : TT} (hc : PT X c tc) (ha : PSs X a t) (hb : PSs X b u) : PS X (.If c a b pos) (tIfS tc t u) := by
 intro pins s σ H D I h
 refine wpAny_If (thn (hc pins s σ H _ I h) fun d s1 ⟨H1, I1, q1⟩ => ?_)
 cases d with
 | true => exact ha pins s1 σ H1 D I1 q1
 | false => exact hb pins s1 σ H1 D I1 q1
end
abbrev TG := V → St → Hp → (St → Hp → Prop) → Prop
abbrev TGs := List V → St → Hp → (St → Hp → Prop) → Prop
def PG (X : Cx) (target : Expr) (t : TG) : Prop :=
 ∀ (pins : List (Addr × Obj)) (s : Shared) (σ : St) (H : Hp) (v : V) (u : Value) (Q : St → Hp → Prop), Inv X pins σ H s → RelV v u → t v σ H Q →
  wpAny (model X.prog X.w) X.A (assign target X.env u) (fun _ s' => ∃ σ' H', Inv X pins σ' H' s' ∧ Q σ' H') X.xe s
def PGs (X : Cx) (ts : List Expr) (t : TGs) : Prop :=
 ∀ (pins : List (Addr × Obj)) (s : Shared) (σ : St) (H : Hp) (vs : List V) (us : List Value) (Q : St → Hp → Prop), Inv X pins σ H s → Vals vs us → t vs σ H Q →
  wpAny (model X.prog X.w) X.A (assignInOrder ((assignEach ts X.env).map (·.2)) us) (fun _ s' => ∃ σ' H', Inv X pins σ' H' s' ∧ Q σ' H') X.xe s
abbrev TSet := V → V → V → Hp → (Hp → Prop) → Prop
def PSet (X : Cx) (t : TSet) : Prop :=
 ∀ (pins : List (Addr × Obj)) (s : Shared) (σ : St) (H : Hp) (o i v : V) (ov iv u : Value) (Q : Hp → Prop), Inv X pins σ H s → RelV o ov → RelV i iv → RelV v u → t o i v H Q →
  wpAny (model X.prog X.w) X.A (setItem ov iv u) (fun _ s' => ∃ H', Inv X pins σ H' s' ∧ Q H') X.xe s
section
variable {X : Cx} {pos : Pos}
def gName (i : Nat) : TG := fun v σ H Q => Q (σ.set i (some v)) H
theorem pg_name {i : Nat} {x : Str} (hN : X.N.Nodup) (hi : X.N[i]? = some x) (hx : Loc X.env.scope x) (hf : X.fn x = true ∨ X.env.scope.names.lookup x = some .local := by first | exact .inl rfl | exact .inr rfl | assumption) (hfx : ∀ p ∈ X.fx, p.1 ≠ x := by first | exact fun p h => absurd (show p ∈ ([] : List (Str × Value)) from h) (by simp) | assumption) : PG X (.Name x pos) (gName i) := by
 intro pins s σ H v u Q I r h
 exact wpAny_assign_Name (store_ok I hN hi hx r (fun s' I' => ⟨_, H, I', h⟩) hf hfx)
def gNil : TGs := fun vs σ H Q => vs = [] ∧ Q σ H
def gCons (t : TG) (u : TGs) : TGs := fun vs σ H Q => ∃ v r, vs = v :: r ∧ t v σ H fun σ' H' => u r σ' H' Q
theorem pgs_nil : PGs X [] gNil := by
 intro pins s σ H vs us Q I r h
 obtain ⟨e, h⟩ := h
 subst e
 cases r
 exact assignInOrder_nil ⟨σ, H, I, h⟩
theorem pgs_cons {e : Expr} {es : List Expr} {t : TG} {u : TGs} (h1 : PG X e t) (h2 : PGs X es u)
  (hs : (assignEach (e :: es) X.env).map (·.2) = assign e X.env :: (assignEach es X.env).map (·.2) := by rfl) : PGs X (e :: es) (gCons t u) := by
 intro pins s σ H vs us Q I r h
 obtain ⟨v, vr, e1, h⟩ := h
 subst e1
 cases r with
 | cons r rr =>
  rw [hs]
  refine assignInOrder_cons (thn (h1 pins s σ H _ _ _ I r h) fun _ s1 ⟨σ1, H1, I1, q1⟩ => ?_)
  exact h2 pins s1 σ1 H1 _ _ Q I1 rr q1
def gTup (K : PySem.W.Frag) (n : Nat) (t : TGs) : TG := fun v σ H Q => ∃ a xs, v = .ref a ∧ SqT K H a xs ∧ xs.length = n ∧ t xs σ H Q
theorem pg_tup {es : List Expr} {k : Nat} {t : TGs} {n : Nat} (hc : X.A.handled = none) (h : PGs X es t)
  (hn : (assignEach es X.env).length = n := by rfl) (hst : (assignEach es X.env).findIdx? (·.1) = none := by rfl) : PG X (.Tuple es k pos) (gTup X.K n t) := by
 intro pins s σ H v u Q I r hw
 obtain ⟨a, xs, e1, hq, hl, hw⟩ := hw
 subst e1
 cases r
 obtain ⟨its, rv, ht, hz⟩ := I.tuple hq
 refine assign_Tuple_tuple hc ht (by simp [hn, ← hl, rv.length]) hst fun h' hx => ?_
 have I1 : Inv X pins σ H { s with heap := h' } := I.kept (t' := s.toks) fun b o e => hx b o (Nat.ne_of_lt (Heap.lt_size e)) e
 exact h pins _ σ H xs _ Q I1 (by simpa using rv) hw
def gSub (to ti : TE) (t : TSet) : TG := fun v σ H Q => to σ H fun o H1 => ti σ H1 fun i H2 => t o i v H2 fun H3 => Q σ H3
theorem pg_sub {o i : Expr} {to ti : TE} {t : TSet} (ho : PE X o to) (hi : PE X i ti) (hs : PSet X t)
  (ha : ∀ v, assign (.Subscript o i pos) X.env v = (do
   let ov ← holding [v] (eval o X.env)
   let iv ← holding [v, ov] (eval i X.env)
   standAt pos
   holding [v, ov, iv] (setItem ov iv v)
   release [v, ov, iv] []) := by intro _; rfl) : PG X (.Subscript o i pos) (gSub to ti t) := by
 intro pins s σ H v u Q I r h
 rw [ha]
 refine wpAny_bind (wpAny_holding (thn (ho pins s σ H _ I h) fun ov s1 ⟨x, H1, I1, r1, q1⟩ => ?_))
 refine wpAny_bind (wpAny_holding (thn (hi pins s1 σ H1 _ I1 q1) fun iv s2 ⟨y, H2, I2, r2, q2⟩ => ?_))
 refine wpAny_bind (wpAny_standAt (wpAny_bind (wpAny_holding (thn (hs pins s2 σ H2 x y v ov iv u _ I2 r1 r2 r q2) fun _ s3 ⟨H3, I3, q3⟩ => ?_))))
 exact wpAny_release ⟨σ, H3, I3, q3⟩
def tAsg (te : TE) (g : TG) : TS := fun D σ H => te σ H fun x H1 => g x σ H1 D.nx
theorem ps_asg {tg e : Expr} {te : TE} {g : TG} (he : PE X e te) (hg : PG X tg g) (hs : swapsWithSole [tg] e pos.line X.env = pure false := by rfl) (hw : swappedStores [tg] e X.env = pure none := by rfl)
  (h1 : (assignEach [tg] X.env).map (·.2) = [assign tg X.env] := by rfl) : PS X (.Assign [tg] e pos) (tAsg te g) := by
 intro pins s σ H D I h
 refine wpAny_Assign_stores (thn (he pins s σ H _ I h) fun v s1 ⟨x, H1, I1, r1, q1⟩ => ?_) hs hw
 rw [h1]
 exact thn (hg pins s1 σ H1 x v _ I1 r1 q1) fun _ s2 q => q
theorem ps_set {i : Nat} {x : Str} {e : Expr} {te : TE} {pos' : Pos} (hN : X.N.Nodup) (hi : X.N[i]? = some x) (hx : Loc X.env.scope x) (he : PE X e te) (hs : swapsWith e (some (.Name x pos')) pos.line X.env = pure false := by rfl) (hf : X.fn x = true ∨ X.env.scope.names.lookup x = some .local := by first | exact .inl rfl | exact .inr rfl | assumption) (hfx : ∀ p ∈ X.fx, p.1 ≠ x := by first | exact fun p h => absurd (show p ∈ ([] : List (Str × Value)) from h) (by simp) | assumption) :
  PS X (.Assign [.Name x pos'] e pos) (tAsg te (gName i)) := by
 intro pins s σ H D I h
 refine wpAny_Assign_Name (thn (he pins s σ H _ I h) fun v s1 ⟨y, H1, I1, r1, q1⟩ => ?_) hs
 exact store_ok I1 hN hi hx r1 (fun s2 I2 => ⟨_, H1, I2, q1⟩) hf hfx
end
section
variable {X : Cx} {pos : Pos}
end
structure It where
 go : Nat → Hp → Prop
 yld : Nat → Hp → V → Hp → Prop
 stop : Nat → Hp → Prop
def FpOk (X : Cx) (pins : List (Addr × Obj)) (H : Hp) (b : Addr) : Prop :=
 H b = none ∧ b ≠ X.env.locals ∧ b ∉ X.fs ∧ (b ∈ X.ex ∨ X.s₀.heap.objs.size ≤ b) ∧ (∀ x c, X.env.cells.lookup x = some c → c ≠ b) ∧ ∀ p ∈ X.pn ++ pins, p.1 ≠ b
theorem Inv.fpOk {X : Cx} {pins : List (Addr × Obj)} {σ : St} {H H' : Hp} {s : Shared} {b : Addr} (I : Inv X pins σ H s) (hb : s.heap.objs.size ≤ b) (hn : H' b = none) : FpOk X pins H' b := by
 refine ⟨hn, Nat.ne_of_gt (Nat.lt_of_lt_of_le I.lt hb), I.nofs hb, .inr (Nat.le_trans I.sz hb), fun x c e z => ?_, fun p hp z => ?_⟩
 ·obtain ⟨v, q⟩ := I.cell x c e
  exact absurd (Nat.lt_of_lt_of_le q.lt (by rw [z]; exact hb)) (Nat.lt_irrefl _)
 ·exact absurd (Nat.lt_of_lt_of_le (Heap.lt_size (I.pin p hp).1) (by rw [z]; exact hb)) (Nat.lt_irrefl _)
structure Turn (P : Program) (w : World) (K : PySem.W.Frag) (tg : Expr) (J : It) (fp : List Addr) (it : Addr) (tn : Nat → Heap → Prop) : Prop where
 mem : it ∈ fp
 obj : ∀ i h, tn i h → ∀ b ∈ fp, ∃ o, h.get? b = some o ∧ ∀ v, o.data ≠ .cell v
 keep : ∀ i h h', tn i h → (∀ b ∈ fp, ∀ o, h.get? b = some o → h'.get? b = some o) → tn i h'
 item : ∀ (X : Cx), X.prog = P → X.w = w → X.K = K → X.calm = true → ∀ (i : Nat) (pins : List (Addr × Obj)) (s : Shared) (σ : St) (H : Hp) (E : Value → Shared → Prop), Inv X pins σ H s → (∀ b ∈ fp, FpOk X pins H b) → tn i s.heap → J.go i H →
  wpAny (model P w) X.A (pyNext (.ref it)) (fun r s1 => ∃ u, r = some u ∧
   wpAny (model P w) X.A (letOwnedTupleGo tg (.ref it) u) (fun _ s2 => ∃ x H', Inv X pins σ H' s2 ∧ RelV x u ∧ J.yld i H x H' ∧ tn (i + 1) s2.heap ∧ ∀ b ∈ fp, H' b = none) E s1) E s
 done : ∀ (X : Cx), X.prog = P → X.w = w → X.K = K → X.calm = true → ∀ (i : Nat) (pins : List (Addr × Obj)) (s : Shared) (σ : St) (H : Hp) (E : Value → Shared → Prop), Inv X pins σ H s → (∀ b ∈ fp, FpOk X pins H b) → tn i s.heap → J.stop i H →
  wpAny (model P w) X.A (pyNext (.ref it)) (fun r s1 => r = none ∧ Inv X pins σ H s1) E s
 self : ∀ (A : Around) (i : Nat) (s : Shared) (Q : Value → Shared → Prop) (E : Value → Shared → Prop), tn i s.heap → Q (.ref it) s → wpAny (model P w) A (pyIter (.ref it)) Q E s
abbrev TI := St → Hp → (It → Hp → Prop) → Prop
def PIE (X : Cx) (pins : List (Addr × Obj)) (σ : St) (tg : Expr) (R : It → Hp → Prop) (itv : Value) (s2 : Shared) : Prop :=
 ∃ (it : Addr) (fp : List Addr) (tn : Nat → Heap → Prop) (J : It) (H' : Hp), itv = .ref it ∧ Inv X pins σ H' s2 ∧ Turn X.prog X.w X.K tg J fp it tn ∧ tn 0 s2.heap ∧ (∀ b ∈ fp, FpOk X pins H' b) ∧ R J H'
def PI (X : Cx) (tg iter : Expr) (wi : TI) : Prop :=
 ∀ (pins : List (Addr × Obj)) (s : Shared) (σ : St) (H : Hp) (R : It → Hp → Prop), Inv X pins σ H s → wi σ H R →
  wpAny (model X.prog X.w) X.A (eval iter X.env) (fun v s1 => wpAny (model X.prog X.w) X.A (pyIter v) (PIE X pins σ tg R) X.xe s1) X.xe s
theorem go_of {M : Model} {A : Around} {E : Value → Shared → Prop} {s : Shared} {tg : Expr} {it : Addr} {u : Value} {o : Obj} {n : String} {vs : Array Value} {Q : Unit → Shared → Prop} (ho : s.heap.get? it = some o) (hc : o.cls = .type n) (hd : o.data = .fields vs)
    (hn : ["enumerate", "zip", "dict_itemiterator", "dict_reverseitemiterator", "odict_iterator", "itertools.zip_longest", "itertools.pairwise"].contains n = false) (hQ : Q () s) : wpAny M A (letOwnedTupleGo tg (.ref it) u) Q E s := by
  unfold letOwnedTupleGo
  cases tg <;> first
    | exact wpAny_pure hQ
    | (cases u <;> first
        | exact wpAny_pure hQ
        | (refine wpAny_bind (wpAny_load ho ?_)
           rw [hc, hd]
           show wpAny M A (if (["enumerate", "zip", "dict_itemiterator", "dict_reverseitemiterator", "odict_iterator", "itertools.zip_longest", "itertools.pairwise"].contains n && vs[0]? == some (rawInt _)) = true then _ else _) Q E s
           rw [if_neg (by intro h; rw [hn, Bool.false_and] at h; cases h)]
           exact wpAny_pure hQ))
def Itl (K : PySem.W.Frag) (a : Addr) : It :=
 ⟨fun i H => ∃ xs x, SqL K H a xs ∧ xs[i]? = some x, fun i H x H' => H' = H ∧ ∀ xs, SqL K H a xs → xs[i]? = some x, fun i H => ∃ xs, SqL K H a xs ∧ xs.length ≤ i⟩
def Itr (lo : Int) (n : Nat) : It := ⟨fun i _ => i < n, fun i H x H' => H' = H ∧ x = .int (lo + i), fun i _ => n ≤ i⟩
theorem turn_list {P : Program} {w : World} {K : PySem.W.Frag} {tg : Expr} (a it : Addr) : Turn P w K tg (Itl K a) [it] it (fun i h => h.IsListIter it a i) where
 mem := by simp
 obj := fun i h st b hb => by
  have e : b = it := by simpa using hb
  subst e
  obtain ⟨o, e, c, d⟩ := st
  exact ⟨o, e, fun v z => by rw [d] at z; cases z⟩
 keep := fun i h h' st k => st.at fun o e => k it (by simp) o e
 item := by
  intro X hP hw hK hc i pins s σ H E I hf st hg
  subst hP hw hK
  obtain ⟨xs, x, hq, hx⟩ := hg
  obtain ⟨its, rv, p, hz⟩ := I.list hq
  obtain ⟨u, hu, ru⟩ := rv.get hx
  obtain ⟨f0, f1, f2, f3, f4, f5⟩ := hf it (by simp)
  refine wpAny_pyNext_list_item st p.isList (x := u) (by simpa using hu) fun h' st' sb => ?_
  have I1 : Inv X pins σ H { s with heap := h' } := I.turned (t' := s.toks) (fun b o hb e => (sb.2 b hb).trans e) f0 f1 f3 f4 f5
  obtain ⟨o, e, c, d⟩ := id st'
  exact ⟨u, rfl, go_of (s := { s with heap := h' }) e c d (by decide) ⟨x, H, I1, ru, ⟨rfl, fun ys hy => by rw [I.list_inj hy hq]; exact hx⟩, st', fun b hb => (hf b hb).1⟩⟩
 done := by
  intro X hP hw hK hc i pins s σ H E I hf st hg
  subst hP hw hK
  obtain ⟨xs, hq, hx⟩ := hg
  obtain ⟨its, rv, p, hz⟩ := I.list hq
  obtain ⟨f0, f1, f2, f3, f4, f5⟩ := hf it (by simp)
  have hl := rv.length
  exact list_endH I.hd st p.isList (by simp; omega) fun h' eb => ⟨rfl, I.turned (t' := s.toks) (fun b o hb e => eb b o hb e) f0 f1 f3 f4 f5⟩
 self := fun _ _ _ _ _ st h => wpAny_pyIter_listiter st h
theorem turn_range {P : Program} {w : World} {K : PySem.W.Frag} {tg : Expr} (it : Addr) (lo : Int) (n : Nat) : Turn P w K tg (Itr lo n) [it] it (fun i h => IsRangeIter h it (lo + (i : Nat) * 1) ((n : Int) - (i : Nat)) 1) where
 mem := by simp
 obj := fun i h st b hb => by
  have e : b = it := by simpa using hb
  subst e
  exact ⟨_, st, fun v z => by
   have z' : Data.fields _ = Data.cell v := z
   cases z'⟩
 keep := fun i h h' st k => k it (by simp) _ st
 item := by
  intro X hP hw hK hc i pins s σ H E I hf st hg
  subst hP hw hK
  obtain ⟨f0, f1, f2, f3, f4, f5⟩ := hf it (by simp)
  have hlt : i < n := hg
  refine wpAny_pyNext_range_item st (by omega) fun h' st' sb => ?_
  have I1 : Inv X pins σ H { s with heap := h', toks := s.toks + 1 } := I.turned (fun b o hb e => (sb.2 b hb).trans e) f0 f1 f3 f4 f5
  have e1 : lo + (i : Int) * 1 + 1 = lo + ((i + 1 : Nat) : Int) * 1 := by omega
  have e2 : (n : Int) - (i : Int) - 1 = (n : Int) - ((i + 1 : Nat) : Int) := by omega
  rw [e1, e2] at st'
  refine ⟨_, rfl, go_of (s := { s with heap := h', toks := s.toks + 1 }) (n := "range_iterator") st' rfl rfl (by decide) ⟨.int (lo + i), H, I1, ⟨s.toks, ?_⟩, ⟨rfl, rfl⟩, st', fun b hb => (hf b hb).1⟩⟩
  rw [Int.mul_one]
 done := by
  intro X hP hw hK hc i pins s σ H E I hf st hg
  subst hP hw hK
  obtain ⟨f0, f1, f2, f3, f4, f5⟩ := hf it (by simp)
  exact range_endH I.hd st (by have : n ≤ i := hg; omega) fun h' eb => ⟨rfl, I.turned (t' := s.toks) (fun b o hb e => eb b o hb e) f0 f1 f3 f4 f5⟩
 self := fun _ _ _ _ _ st h => wpAny_pyIter_rangeiter st h
end L2
namespace L2
open PySem PySem.Spec PyProof.Rows
section
variable {X : Cx} {tg : Expr}
def iList (K : PySem.W.Frag) (tl : TE) : TI := fun σ H R => tl σ H fun x H1 => ∃ a, x = .ref a ∧ (∃ xs, SqL K H1 a xs) ∧ R (Itl K a) H1
theorem pi_list {l : Expr} {tl : TE} (hl : PE X l tl) : PI X tg l (iList X.K tl) := by
 intro pins s σ H R I h
 refine thn (hl pins s σ H _ I h) fun v s1 ⟨x, H1, I1, r1, q1⟩ => ?_
 obtain ⟨a, e, ⟨xs, hq⟩, q⟩ := q1
 subst e
 cases r1
 obtain ⟨its, rv, p, hz⟩ := I1.list hq
 refine wpAny_pyIter_list p.isList ?_
 refine ⟨s1.heap.objs.size, [s1.heap.objs.size], _, _, H1, rfl, I1.kept (t' := s1.toks) fun b o e => Heap.get?_push_of_some _ e, turn_list a _, ⟨_, Heap.get?_push_size _ rfl, rfl, rfl⟩, fun b hb => ?_, q⟩
 have e : b = s1.heap.objs.size := by simpa using hb
 subst e
 exact I1.fpOk (Nat.le_refl _) (I1.hok.fresh (Nat.le_refl _))
theorem range_it {pins : List (Addr × Obj)} {σ : St} {H : Hp} {s : Shared} {R : It → Hp → Prop} {E : Value → Shared → Prop} {lo hi : Int} {t u v : Tok} {tk : Nat} (I : Inv X pins σ H s) (h1 : -(2 ^ 62) ≤ lo) (h2 : lo < 2 ^ 62) (h3 : -(2 ^ 62) ≤ hi) (h4 : hi < 2 ^ 62)
  (q : R (Itr lo (hi - lo).toNat) H) : wpAny (model X.prog X.w) X.A (pyIter (.ref s.heap.objs.size)) (PIE X pins σ tg R) E { s with heap := s.heap.push { cls := .type "range", data := .fields #[.int lo t, .int hi u, .int 1 v] }, toks := tk } := by
 refine wpAny_pyIter_range (IsRange.new ..) (small_one h1 h2 h3 h4) ?_
 have I1 : Inv X pins σ H { s with heap := s.heap.push { cls := .type "range", data := .fields #[.int lo t, .int hi u, .int 1 v] }, toks := tk } := I.kept fun b o e => Heap.get?_push_of_some _ e
 refine ⟨(s.heap.push { cls := .type "range", data := .fields #[.int lo t, .int hi u, .int 1 v] }).objs.size, [(s.heap.push { cls := .type "range", data := .fields #[.int lo t, .int hi u, .int 1 v] }).objs.size], _, _, H, rfl,
  I1.kept (t' := tk) fun b o e => Heap.get?_push_of_some _ e, turn_range _ lo (hi - lo).toNat, ?_, fun b hb => ?_, q⟩
 ·have e1 : lo + ((0 : Nat) : Int) * 1 = lo := by simp
  have e2 : (((hi - lo).toNat : Nat) : Int) - ((0 : Nat) : Int) = Builtin.Range.rangeSize lo hi 1 := by rw [rangeSize_one]; split <;> omega
  show IsRangeIter _ _ (lo + ((0 : Nat) : Int) * 1) ((((hi - lo).toNat : Nat) : Int) - ((0 : Nat) : Int)) 1
  rw [e1, e2]
  exact Heap.get?_push_size _ rfl
 ·have e : b = (s.heap.push { cls := .type "range", data := .fields #[.int lo t, .int hi u, .int 1 v] }).objs.size := by simpa using hb
  subst e
  exact I1.fpOk (Nat.le_refl _) (I1.hok.fresh (Nat.le_refl _))
def iRng1 (ta : TA) : TI := fun σ H R => ta σ H fun vs H1 => ∃ j : Int, vs = [.int j] ∧ -(2 ^ 62) ≤ j ∧ j < 2 ^ 62 ∧ R (Itr 0 j.toNat) H1
def iRng2 (ta : TA) : TI := fun σ H R => ta σ H fun vs H1 => ∃ i j : Int, vs = [.int i, .int j] ∧ (-(2 ^ 62) ≤ i ∧ i < 2 ^ 62 ∧ -(2 ^ 62) ≤ j ∧ j < 2 ^ 62) ∧ R (Itr i (j - i).toNat) H1
theorem pi_range1 {a : Expr} {ta : TA} {p pos : Pos} (hg : Gl X "range") (hm : X.mg "range" = none) (ha : PA X [a] ta) (hs : starEach [a] X.env = [(false, eval a X.env)] := by rfl) : PI X tg (.Call (.Name "range" p) [a] [] pos) (iRng1 ta) := by
 intro pins s σ H R I h
 refine Call_ (ld_blt I hg hm boot_range (PyProof.Rows.callWith_type1 (thn (ha pos pins s σ H _ I h) fun us s1 ⟨vs, H1, I1, r1, q1⟩ => ?_) hs rfl))
 obtain ⟨j, e, q1, q2, q⟩ := q1
 subst e
 cases r1 with
 | cons r rr =>
  cases rr
  obtain ⟨t, rfl⟩ := r
  exact call_range_1 (range_it I1 (by omega) (by omega) q1 q2 (by simpa using q))
theorem pi_range2 {a b : Expr} {ta : TA} {p pos : Pos} (hg : Gl X "range") (hm : X.mg "range" = none) (ha : PA X [a, b] ta) (hs : starEach [a, b] X.env = [(false, eval a X.env), (false, eval b X.env)] := by rfl) (hs2 : starEach [b] X.env = [(false, eval b X.env)] := by rfl) :
  PI X tg (.Call (.Name "range" p) [a, b] [] pos) (iRng2 ta) := by
 intro pins s σ H R I h
 refine Call_ (ld_blt I hg hm boot_range (PyProof.Rows.callWith_type1 (thn (ha pos pins s σ H _ I h) fun us s1 ⟨vs, H1, I1, r1, q1⟩ => ?_) (by rw [hs, hs2]) (by rw [hs2]; rfl)))
 obtain ⟨i, j, e, ⟨q1, q2, q3, q4⟩, q⟩ := q1
 subst e
 cases r1 with
 | cons r rr =>
  cases rr with
  | cons r' rr =>
   cases rr
   obtain ⟨t, rfl⟩ := r
   obtain ⟨t', rfl⟩ := r'
   exact call_range_2 (range_it I1 q1 q2 q3 q4 q)
def tFor (wi : TI) (g : TG) (tb : TS) : TS := fun D σ H => wi σ H fun J H1 => ∃ W : Nat → Nat → St → Hp → Prop, (∃ m, W 0 m σ H1) ∧ ∀ i m σ H, W i m σ H →
 (J.stop i H ∧ D.nx σ H) ∨ (J.go i H ∧ ∃ N : St → Hp → Prop, (∀ σ' H', N σ' H' → ∃ m', m' < m ∧ W (i + 1) m' σ' H') ∧ ∀ x H', J.yld i H x H' → g x σ H' fun σ2 H2 => tb { D with nx := N, ct := N, bk := D.nx } σ2 H2)
def pinsAt (fp : List Addr) (h : Heap) : List (Addr × Obj) := fp.filterMap fun b => (h.get? b).map fun o => (b, o)
theorem mem_pinsAt {fp : List Addr} {h : Heap} {b : Addr} {o : Obj} (hb : b ∈ fp) (e : h.get? b = some o) : (b, o) ∈ pinsAt fp h := List.mem_filterMap.mpr ⟨b, hb, by rw [e]; rfl⟩
theorem of_pinsAt {fp : List Addr} {h : Heap} {p : Addr × Obj} (hp : p ∈ pinsAt fp h) : p.1 ∈ fp ∧ h.get? p.1 = some p.2 := by
 obtain ⟨b, hb, e⟩ := List.mem_filterMap.mp hp
 cases q : h.get? b with
 | none => rw [q] at e; cases e
 | some o =>
  rw [q] at e
  have e' : (b, o) = p := Option.some.inj e
  subst e'
  exact ⟨hb, q⟩
theorem Inv.pinned {pins : List (Addr × Obj)} {σ : St} {H : Hp} {s : Shared} {fp : List Addr} (I : Inv X pins σ H s) (hf : ∀ b ∈ fp, FpOk X pins H b) (ho : ∀ b ∈ fp, ∃ o, s.heap.get? b = some o ∧ ∀ v, o.data ≠ .cell v) : Inv X (pins ++ pinsAt fp s.heap) σ H s :=
 I.pins_of fun p hp => (List.mem_append.mp hp).elim (fun z => I.pin p (List.mem_append_right _ z)) fun z => by
  obtain ⟨hb, e⟩ := of_pinsAt z
  obtain ⟨f0, f1, f2, _⟩ := hf p.1 hb
  obtain ⟨o, e', d⟩ := ho p.1 hb
  rw [e] at e'; cases e'
  exact ⟨e, f0, f1, f2, d⟩
theorem Inv.unpinned {pins pl : List (Addr × Obj)} {σ : St} {H : Hp} {s : Shared} (I : Inv X (pins ++ pl) σ H s) : Inv X pins σ H s := I.pins_of fun p hp => I.pin p (List.mem_append_right _ (List.mem_append_left _ hp))
theorem ps_for {iter : Expr} {body : List Stmt} {wi : TI} {g : TG} {tb : TS} {pos : Pos} (hp : PassesOwn (model X.prog X.w) X.A X.env X.xe) (hc : X.calm = true) (hi : PI X tg iter wi) (hg : PG X tg g) (hb : PSs X body tb)
  (hs : ∀ x, foldedSetIterable iter X.env x = pure x := by intro _; rfl) : PS X (.For tg iter body [] pos) (tFor wi g tb) := by
 intro pins s σ H D I h
 refine wpAny_For (thn (hi pins s σ H _ I h) fun v s1 h1 => thn h1 fun itv s2 h2 => ?_) hs
 obtain ⟨it, fp, tn, J, H2, e, I2, T, st2, f2, W, ⟨m0, w0⟩, turn⟩ := h2
 subst e
 have stat : ∀ {H' : Hp}, (∀ b ∈ fp, H' b = none) → ∀ b ∈ fp, FpOk X pins H' b := fun hn b hb => ⟨hn b hb, (f2 b hb).2⟩
 refine codeAny_forLoop_any (fun n s' => ∃ i σ' H', Inv X pins σ' H' s' ∧ tn i s'.heap ∧ (∀ b ∈ fp, H' b = none) ∧ W i n σ' H') ?_ m0 ⟨0, σ, H2, I2, st2, fun b hb => (f2 b hb).1, w0⟩
 rintro n s3 ⟨i, σ3, H3, I3, st3, fr3, w3⟩
 rcases turn i n σ3 H3 w3 with ⟨stop, qn⟩ | ⟨go, N, hN, step⟩
 ·refine wpAny_passesOwn hp (thn (T.done X rfl rfl rfl hc i pins s3 σ3 H3 X.xe I3 (stat fr3) st3 stop) fun r s4 ⟨hr, I4⟩ => ?_)
  subst hr
  exact wpAny_execs_nil ⟨σ3, H3, I4, qn⟩
 ·refine wpAny_passesOwn hp (thn (T.item X rfl rfl rfl hc i pins s3 σ3 H3 X.xe I3 (stat fr3) st3 go) fun r s4 ⟨u, hr, h4⟩ => ?_)
  subst hr
  refine wpAny_passesOwn hp (thn h4 fun _ s5 ⟨x, H5, I5, r5, y5, st5, fr5⟩ => ?_)
  have I5' := I5.pinned (stat fr5) (T.obj _ _ st5)
  refine wpAny_passesOwn hp (thn (hg _ s5 σ3 H5 x u _ I5' r5 (step x H5 y5)) fun _ s6 ⟨σ6, H6, I6, q6⟩ => ?_)
  refine wpAny_passesOwn hp (thn (hb _ s6 σ6 H6 _ I6 q6) fun f s7 q7 => ?_)
  have again : ∀ {σ7 : St} {H7 : Hp}, Inv X (pins ++ pinsAt fp s5.heap) σ7 H7 s7 → N σ7 H7 → ∃ m, m < n ∧ ∃ i σ' H', Inv X pins σ' H' s7 ∧ tn i s7.heap ∧ (∀ b ∈ fp, H' b = none) ∧ W i m σ' H' := fun {σ7 H7} I7 n7 => by
   obtain ⟨m', hm, w7⟩ := hN σ7 H7 n7
   refine ⟨m', hm, i + 1, σ7, H7, I7.unpinned, T.keep _ _ _ st5 fun b hb o e => (I7.pin (b, o) (List.mem_append_right _ (List.mem_append_right _ (mem_pinsAt hb e)))).1, fun b hb => ?_, w7⟩
   obtain ⟨o, e, d⟩ := T.obj _ _ st5 b hb
   exact (I7.pin (b, o) (List.mem_append_right _ (List.mem_append_right _ (mem_pinsAt hb e)))).2.1
  cases f with
  | next => obtain ⟨σ7, H7, I7, n7⟩ := q7; exact again I7 n7
  | cont => obtain ⟨σ7, H7, I7, n7⟩ := q7; exact again I7 n7
  | brk => obtain ⟨σ7, H7, I7, q7⟩ := q7; exact ⟨σ7, H7, I7.unpinned, q7⟩
  | ret v => obtain ⟨x7, σ7, H7, I7, r7, q7⟩ := q7; exact ⟨x7, σ7, H7, I7.unpinned, r7, q7⟩
end
theorem for_list {K : PySem.W.Frag} {a : Addr} {xs : List V} {g : TG} {tb : TS} {D : Ends} {σ : St} {H : Hp} (Pv : Nat → St → Hp → Prop) (h0 : Pv 0 σ H) (hl : ∀ i σ H, i ≤ xs.length → Pv i σ H → SqL K H a xs)
  (hs : ∀ i x σ H, xs[i]? = some x → Pv i σ H → g x σ H fun σ2 H2 => tb { D with nx := Pv (i + 1), ct := Pv (i + 1), bk := D.nx } σ2 H2) (hd : ∀ σ H, Pv xs.length σ H → D.nx σ H) :
  ∃ W : Nat → Nat → St → Hp → Prop, (∃ m, W 0 m σ H) ∧ ∀ i m σ H, W i m σ H →
   ((Itl K a).stop i H ∧ D.nx σ H) ∨ ((Itl K a).go i H ∧ ∃ N : St → Hp → Prop, (∀ σ' H', N σ' H' → ∃ m', m' < m ∧ W (i + 1) m' σ' H') ∧ ∀ x H', (Itl K a).yld i H x H' → g x σ H' fun σ2 H2 => tb { D with nx := N, ct := N, bk := D.nx } σ2 H2) := by
 refine ⟨fun i m σ H => m = xs.length - i ∧ i ≤ xs.length ∧ Pv i σ H, ⟨xs.length, by simp, Nat.zero_le _, h0⟩, ?_⟩
 rintro i m σ H ⟨rfl, hi, p⟩
 have q := hl i σ H hi p
 by_cases hlt : i < xs.length
 ·refine .inr ⟨⟨xs, xs[i], q, by simp [hlt]⟩, Pv (i + 1), fun σ' H' p' => ⟨xs.length - (i + 1), by omega, rfl, hlt, p'⟩, fun x H' y => ?_⟩
  obtain ⟨e, y⟩ := y
  subst e
  exact hs i x σ _ (y xs q) p
 ·have e : i = xs.length := by omega
  subst e
  exact .inl ⟨⟨xs, q, Nat.le_refl _⟩, hd σ H p⟩
theorem for_range {lo : Int} {n : Nat} {g : TG} {tb : TS} {D : Ends} {σ : St} {H : Hp} (Pv : Nat → St → Hp → Prop) (h0 : Pv 0 σ H)
  (hs : ∀ i σ H, i < n → Pv i σ H → g (.int (lo + i)) σ H fun σ2 H2 => tb { D with nx := Pv (i + 1), ct := Pv (i + 1), bk := D.nx } σ2 H2) (hd : ∀ σ H, Pv n σ H → D.nx σ H) :
  ∃ W : Nat → Nat → St → Hp → Prop, (∃ m, W 0 m σ H) ∧ ∀ i m σ H, W i m σ H →
   ((Itr lo n).stop i H ∧ D.nx σ H) ∨ ((Itr lo n).go i H ∧ ∃ N : St → Hp → Prop, (∀ σ' H', N σ' H' → ∃ m', m' < m ∧ W (i + 1) m' σ' H') ∧ ∀ x H', (Itr lo n).yld i H x H' → g x σ H' fun σ2 H2 => tb { D with nx := N, ct := N, bk := D.nx } σ2 H2) := by
 refine ⟨fun i m σ H => m = n - i ∧ i ≤ n ∧ Pv i σ H, ⟨n, by simp, Nat.zero_le _, h0⟩, ?_⟩
 rintro i m σ H ⟨rfl, hi, p⟩
 by_cases hlt : i < n
 ·refine .inr ⟨hlt, Pv (i + 1), fun σ' H' p' => ⟨n - (i + 1), by omega, rfl, hlt, p'⟩, fun x H' y => ?_⟩
  obtain ⟨e, y⟩ := y
  subst e y
  exact hs i σ _ hlt p
 ·have e : i = n := by omega
  subst e
  exact .inl ⟨Nat.le_refl _, hd σ H p⟩
end L2
namespace L2
open PySem PySem.Spec PyProof.Rows
abbrev R2 := V → V → Hp → VK → Prop
def OpR (X : Cx) (f : Value → Value → Sem Value) (r : R2) : Prop :=
 ∀ (pins : List (Addr × Obj)) (s : Shared) (σ : St) (H : Hp) (x y : V) (v u : Value) (Q : VK), Inv X pins σ H s → RelV x v → RelV y u → r x y H Q →
  wpAny (model X.prog X.w) X.A (f v u) (EP X pins σ Q) X.xe s
def UnR (X : Cx) (f : Value → Sem Value) (r : V → Hp → VK → Prop) : Prop :=
 ∀ (pins : List (Addr × Obj)) (s : Shared) (σ : St) (H : Hp) (x : V) (v : Value) (Q : VK), Inv X pins σ H s → RelV x v → r x H Q →
  wpAny (model X.prog X.w) X.A (f v) (EP X pins σ Q) X.xe s
def CallR (X : Cx) (f : Value) (r : List V → Hp → VK → Prop) : Prop :=
 ∀ (pins : List (Addr × Obj)) (s : Shared) (σ : St) (H : Hp) (xs : List V) (us : List Value) (Q : VK), Inv X pins σ H s → Vals xs us → r xs H Q →
  wpAny (model X.prog X.w) X.A (call f us) (EP X pins σ Q) X.xe s
def tOp (r : R2) (ta tb : TE) : TE := fun σ H Q => ta σ H fun x H1 => tb σ H1 fun y H2 => r x y H2 Q
def tUn (r : V → Hp → VK → Prop) (ta : TE) : TE := fun σ H Q => ta σ H fun x H1 => r x H1 Q
def rI (C : Int → Int → Prop) (g : Int → Int → V) : R2 := fun x y H Q => ∃ i j, x = .int i ∧ y = .int j ∧ C i j ∧ Q (g i j) H
def rI0 (g : Int → Int → V) : R2 := fun x y H Q => ∃ i j, x = .int i ∧ y = .int j ∧ Q (g i j) H
def rU (g : Int → V) : V → Hp → VK → Prop := fun x H Q => ∃ i, x = .int i ∧ Q (g i) H
section
variable {X : Cx} {a b c : Expr} {ta tb tc : TE} {pos : Pos}
theorem binT (ha : PE X a ta) (hb : PE X b tb) {pins : List (Addr × Obj)} {s : Shared} {σ : St} {H : Hp} {R : V → V → Hp → Prop} (I : Inv X pins σ H s)
  (h : ta σ H fun x H1 => tb σ H1 fun y H2 => R x y H2) {Q : Value → Shared → Prop} {f : Value → Value → Sem Value}
  (hf : ∀ v u s2 x y H2, Inv X pins σ H2 s2 → RelV x v → RelV y u → R x y H2 → wpAny (model X.prog X.w) X.A (f v u) Q X.xe s2) :
  wpAny (model X.prog X.w) X.A (eval a X.env) (fun v s₁ => wpAny (model X.prog X.w) X.A (eval b X.env) (fun u s₂ => wpAny (model X.prog X.w) X.A (f v u) Q X.xe s₂) X.xe s₁) X.xe s := by
 refine thn (ha pins s σ H _ I h) fun v s1 ⟨x, H1, I1, r1, q1⟩ => ?_
 refine thn (hb pins s1 σ H1 _ I1 q1) fun u s2 ⟨y, H2, I2, r2, q2⟩ => ?_
 exact hf v u s2 x y H2 I2 r1 r2 q2
theorem pe_op {op : Operator} {r : R2} (ho : OpR X (binaryOp op) r) (ha : PE X a ta) (hb : PE X b tb) : PE X (.BinOp a op b pos) (tOp r ta tb) := by
 intro pins s σ H Q I h
 exact wpAny_BinOp (binT ha hb I h fun v u s2 x y H2 I2 rx ry q => ho pins s2 σ H2 x y v u Q I2 rx ry q)
theorem pe_un {op : UnaryOp} {r : V → Hp → VK → Prop} (ho : UnR X (unaryOp op) r) (ha : PE X a ta) : PE X (.UnaryOp op a pos) (tUn r ta) := by
 intro pins s σ H Q I h
 exact UnaryOp_ (thn (ha pins s σ H _ I h) fun v s1 ⟨x, H1, I1, r1, q1⟩ => ho pins s1 σ H1 x v Q I1 r1 q1)
theorem opI {f : Value → Value → Sem Value} {C : Int → Int → Prop} {g : Int → Int → Int}
  (rule : ∀ (i j : Int) (t u : Tok) (s : Shared) (Q : Value → Shared → Prop) (E : Value → Shared → Prop), C i j → Q (.int (g i j) s.toks) { s with toks := s.toks + 1 } → wpAny (model X.prog X.w) X.A (f (.int i t) (.int j u)) Q E s) :
  OpR X f (rI C fun i j => .int (g i j)) := by
 intro pins s σ H x y v u Q I rx ry h
 obtain ⟨i, j, rfl, rfl, hc, q⟩ := h
 obtain ⟨t, rfl⟩ := rx
 obtain ⟨t', rfl⟩ := ry
 exact rule i j t t' s _ _ hc ⟨.int (g i j), H, I.tok _, ⟨_, rfl⟩, q⟩
theorem opI0 {f : Value → Value → Sem Value} {g : Int → Int → Int}
  (rule : ∀ (i j : Int) (t u : Tok) (s : Shared) (Q : Value → Shared → Prop) (E : Value → Shared → Prop), Q (.int (g i j) s.toks) { s with toks := s.toks + 1 } → wpAny (model X.prog X.w) X.A (f (.int i t) (.int j u)) Q E s) :
  OpR X f (rI0 fun i j => .int (g i j)) := by
 intro pins s σ H x y v u Q I rx ry h
 obtain ⟨i, j, rfl, rfl, q⟩ := h
 obtain ⟨t, rfl⟩ := rx
 obtain ⟨t', rfl⟩ := ry
 exact rule i j t t' s _ _ ⟨.int (g i j), H, I.tok _, ⟨_, rfl⟩, q⟩
theorem opB0 {f : Value → Value → Sem Value} {g : Int → Int → Bool}
  (rule : ∀ (i j : Int) (t u : Tok) (s : Shared) (Q : Value → Shared → Prop) (E : Value → Shared → Prop), Q (.bool (g i j)) s → wpAny (model X.prog X.w) X.A (f (.int i t) (.int j u)) Q E s) :
  OpR X f (rI0 fun i j => .bl (g i j)) := by
 intro pins s σ H x y v u Q I rx ry h
 obtain ⟨i, j, rfl, rfl, q⟩ := h
 obtain ⟨t, rfl⟩ := rx
 obtain ⟨t', rfl⟩ := ry
 exact rule i j t t' s _ _ ⟨.bl (g i j), H, I, rfl, q⟩
def CDiv (i j : Int) : Prop := 0 < j ∧ j < 1073741824
def CPow (i j : Int) : Prop := 0 ≤ j ∧ j ≤ 1000000 ∧ i.natAbs < 2 ^ 64
def CMul (i j : Int) : Prop := (-(2 ^ 64) < i ∧ i < 2 ^ 64) ∨ (-(2 ^ 64) < j ∧ j < 2 ^ 64)
theorem CMul.ok {i j : Int} (h : CMul i j) : IntMulOk i j := by
 rcases h with ⟨h1, h2⟩ | ⟨h1, h2⟩
 ·exact .of_left (intBits_le_64 h1 h2)
 ·exact .of_right (intBits_le_64 h1 h2)
theorem op_add : OpR X (binaryOp .Add) (rI0 fun i j => .int (i + j)) := opI0 fun _ _ _ _ _ _ _ q => add_int q
theorem op_sub : OpR X (binaryOp .Sub) (rI0 fun i j => .int (i - j)) := opI0 fun _ _ _ _ _ _ _ q => sub_int q
theorem op_mul : OpR X (binaryOp .Mult) (rI CMul fun i j => .int (i * j)) := opI fun _ _ _ _ _ _ _ hc q => mul_int q hc.ok
theorem op_fdiv : OpR X (binaryOp .FloorDiv) (rI CDiv fun i j => .int (i / j)) := opI fun i j _ _ _ _ _ hc q => by
 have h1 : (0 : Int) < j := hc.1
 have h2 : j < 1073741824 := hc.2
 exact floordiv_int (by omega) (by rw [Int.fdiv_eq_ediv_of_nonneg i (by omega)]; exact q) (.inl (PyProof.noPylong_small (by omega)))
theorem op_mod : OpR X (binaryOp .Mod) (rI (fun _ j => 0 < j) fun i j => .int (i % j)) := opI fun i j _ _ _ _ _ hc q => by
 have h1 : (0 : Int) < j := hc
 exact mod_int' (by omega) (by rw [Int.fmod_eq_emod_of_nonneg i (by omega)]; exact q)
theorem op_pow : OpR X (binaryOp .Pow) (rI CPow fun i j => .int (i ^ j.toNat)) := opI fun _ _ _ _ _ _ _ hc q => pow_int_small hc.1 hc.2.1 hc.2.2 q
theorem unI {f : Value → Sem Value} {g : Int → Int}
  (rule : ∀ (i : Int) (t : Tok) (s : Shared) (Q : Value → Shared → Prop) (E : Value → Shared → Prop), Q (.int (g i) s.toks) { s with toks := s.toks + 1 } → wpAny (model X.prog X.w) X.A (f (.int i t)) Q E s) :
  UnR X f (rU fun i => .int (g i)) := by
 intro pins s σ H x v Q I rx h
 obtain ⟨i, rfl, q⟩ := h
 obtain ⟨t, rfl⟩ := rx
 exact rule i t s _ _ ⟨.int (g i), H, I.tok _, ⟨_, rfl⟩, q⟩
theorem un_neg : UnR X (unaryOp .USub) (rU fun i => .int (-i)) := unI fun _ _ _ _ _ q => neg_int q
end
def scal : V → V → Bool
 | .non, .non => true | .non, .int _ => true | .int _, .non => true | .non, .bl _ => true | .bl _, .non => true | .non, .str _ => true | .str _, .non => true
 | .int _, .int _ => true | .bl _, .bl _ => true | .str _, .str _ => true | .byt _, .byt _ => true
 | .int _, .str _ => true | .str _, .int _ => true | .bl _, .str _ => true | .str _, .bl _ => true
 | _, _ => false
def rEq : R2 := fun x y H Q => scal x y = true ∧ Q (.bl (decide (x = y))) H
def rNe : R2 := fun x y H Q => scal x y = true ∧ Q (.bl (!decide (x = y))) H
theorem dec_int {i j : Int} : decide (V.int i = V.int j) = (i == j) := by
 rw [Bool.eq_iff_iff]
 simp
theorem dec_bl {i j : Bool} : decide (V.bl i = V.bl j) = (i == j) := by
 rw [Bool.eq_iff_iff]
 simp
theorem dec_str {i j : Str} : decide (V.str i = V.str j) = (i == j) := by
 rw [Bool.eq_iff_iff]
 simp
theorem dec_byt {i j : Array UInt8} : decide (V.byt i = V.byt j) = (i.toList == j.toList) := by
 rw [Bool.eq_iff_iff]
 cases i
 cases j
 simp
section
variable {X : Cx} {a b c : Expr} {ta tb tc : TE} {pos : Pos}
theorem fin_bl {pins : List (Addr × Obj)} {σ : St} {H : Hp} {s : Shared} {Q : VK} {k k' : Bool} (I : Inv X pins σ H s) (q : Q (.bl k) H) (e : k = k') : EP X pins σ Q (.bool k') s := by
 subst e
 exact ⟨.bl k, H, I, rfl, q⟩
theorem op_eq : OpR X (compareOp .Eq) rEq := by
 intro pins s σ H x y v u Q I rx ry h
 obtain ⟨hs, q⟩ := h
 cases x with
 | non =>
  cases rx
  cases y with
  | non => cases ry; exact PySem.EqNone.eq_none_none (fin_bl I q (by simp))
  | bl j => cases ry; exact PySem.EqNone.eq_none_bool (fin_bl I q (by simp))
  | int j => obtain ⟨t', rfl⟩ := ry; exact PySem.EqNone.eq_none_int (fin_bl I q (by simp))
  | str j => obtain ⟨t', rfl⟩ := ry; exact PySem.EqNone.eq_none_str (fin_bl I q (by simp))
  | _ => exact absurd (show false = true from hs) Bool.false_ne_true
 | bl i =>
  cases rx
  cases y with
  | non => cases ry; exact PySem.EqNone.eq_bool_none (fin_bl I q (by simp))
  | bl j => cases ry; exact eq_bool (fin_bl I q dec_bl)
  | str j => obtain ⟨t', rfl⟩ := ry; exact PySem.EqMixed.eq_bool_str (fin_bl I q (by simp))
  | _ => exact absurd (show false = true from hs) Bool.false_ne_true
 | int i =>
  obtain ⟨t, rfl⟩ := rx
  cases y with
  | non => cases ry; exact PySem.EqNone.eq_int_none (fin_bl I q (by simp))
  | int j => obtain ⟨t', rfl⟩ := ry; exact eq_int (fin_bl I q dec_int)
  | str j => obtain ⟨t', rfl⟩ := ry; exact PySem.EqMixed.eq_int_str (fin_bl I q (by simp))
  | _ => exact absurd (show false = true from hs) Bool.false_ne_true
 | str i =>
  obtain ⟨t, rfl⟩ := rx
  cases y with
  | non => cases ry; exact PySem.EqNone.eq_str_none (fin_bl I q (by simp))
  | bl j => cases ry; exact PySem.EqMixed.eq_str_bool (fin_bl I q (by simp))
  | int j => obtain ⟨t', rfl⟩ := ry; exact PySem.EqMixed.eq_str_int (fin_bl I q (by simp))
  | str j => obtain ⟨t', rfl⟩ := ry; exact eq_str (fin_bl I q dec_str)
  | _ => exact absurd (show false = true from hs) Bool.false_ne_true
 | byt i =>
  obtain ⟨t, rfl⟩ := rx
  cases y with
  | byt j => obtain ⟨t', rfl⟩ := ry; exact PySem.W.eq_bytes (fin_bl I q dec_byt)
  | _ => exact absurd (show false = true from hs) Bool.false_ne_true
 | _ => cases y <;> exact absurd (show false = true from hs) Bool.false_ne_true
theorem op_ne : OpR X (compareOp .NotEq) rNe := by
 intro pins s σ H x y v u Q I rx ry h
 obtain ⟨hs, q⟩ := h
 cases x with
 | non =>
  cases rx
  cases y with
  | non => cases ry; exact PySem.EqNone.ne_none_none (fin_bl I q (by simp))
  | bl j => cases ry; exact PySem.EqNone.ne_none_bool (fin_bl I q (by simp))
  | int j => obtain ⟨t', rfl⟩ := ry; exact PySem.EqNone.ne_none_int (fin_bl I q (by simp))
  | str j => obtain ⟨t', rfl⟩ := ry; exact PySem.EqNone.ne_none_str (fin_bl I q (by simp))
  | _ => exact absurd (show false = true from hs) Bool.false_ne_true
 | bl i =>
  cases rx
  cases y with
  | non => cases ry; exact PySem.EqNone.ne_bool_none (fin_bl I q (by simp))
  | bl j => cases ry; exact ne_bool (fin_bl I q (congrArg not dec_bl))
  | str j => obtain ⟨t', rfl⟩ := ry; exact PySem.EqMixed.ne_bool_str (fin_bl I q (by simp))
  | _ => exact absurd (show false = true from hs) Bool.false_ne_true
 | int i =>
  obtain ⟨t, rfl⟩ := rx
  cases y with
  | non => cases ry; exact PySem.EqNone.ne_int_none (fin_bl I q (by simp))
  | int j => obtain ⟨t', rfl⟩ := ry; exact ne_int (fin_bl I q (congrArg not dec_int))
  | str j => obtain ⟨t', rfl⟩ := ry; exact PySem.EqMixed.ne_int_str (fin_bl I q (by simp))
  | _ => exact absurd (show false = true from hs) Bool.false_ne_true
 | str i =>
  obtain ⟨t, rfl⟩ := rx
  cases y with
  | non => cases ry; exact PySem.EqNone.ne_str_none (fin_bl I q (by simp))
  | bl j => cases ry; exact PySem.EqMixed.ne_str_bool (fin_bl I q (by simp))
  | int j => obtain ⟨t', rfl⟩ := ry; exact PySem.EqMixed.ne_str_int (fin_bl I q (by simp))
  | str j => obtain ⟨t', rfl⟩ := ry; exact ne_str (fin_bl I q (congrArg not dec_str))
  | _ => exact absurd (show false = true from hs) Bool.false_ne_true
 | byt i =>
  obtain ⟨t, rfl⟩ := rx
  cases y with
  | byt j => obtain ⟨t', rfl⟩ := ry; exact PySem.W.ne_bytes (fin_bl I q (congrArg not dec_byt))
  | _ => exact absurd (show false = true from hs) Bool.false_ne_true
 | _ => cases y <;> exact absurd (show false = true from hs) Bool.false_ne_true
theorem op_lt : OpR X (compareOp .Lt) (rI0 fun i j => .bl (decide (i < j))) := opB0 fun _ _ _ _ _ _ _ q => lt_int q
theorem op_le : OpR X (compareOp .LtE) (rI0 fun i j => .bl (decide (i ≤ j))) := opB0 fun _ _ _ _ _ _ _ q => le_int q
theorem op_gt : OpR X (compareOp .Gt) (rI0 fun i j => .bl (decide (j < i))) := opB0 fun _ _ _ _ _ _ _ q => gt_int q
theorem op_ge : OpR X (compareOp .GtE) (rI0 fun i j => .bl (decide (j ≤ i))) := opB0 fun _ _ _ _ _ _ _ q => ge_int q
theorem op_isN : OpR X (compareOp .Is) (fun x y H Q => y = .non ∧ Q (.bl (decide (x = .non))) H) := by
 intro pins s σ H x y v u Q I rx ry h
 obtain ⟨rfl, q⟩ := h
 cases ry
 refine is_none_gen (fin_bl I q ?_)
 cases x <;> first
  | (cases rx; rfl)
  | (obtain ⟨t, rfl⟩ := rx; rfl)
theorem op_notN : OpR X (compareOp .IsNot) (fun x y H Q => y = .non ∧ Q (.bl (!decide (x = .non))) H) := by
 intro pins s σ H x y v u Q I rx ry h
 obtain ⟨rfl, q⟩ := h
 cases ry
 refine isnot_none_gen (fin_bl I q ?_)
 cases x <;> first
  | (cases rx; rfl)
  | (obtain ⟨t, rfl⟩ := rx; rfl)
theorem nomark (b : Expr) {op : CmpOp} (h : op ≠ .In := by decide) (h2 : op ≠ .NotIn := by decide) : behindInMarks op b = false := by
 have e1 : (op == CmpOp.In) = false := by cases op <;> first | rfl | exact absurd rfl h
 have e2 : (op == CmpOp.NotIn) = false := by cases op <;> first | rfl | exact absurd rfl h2
 cases b <;> simp [behindInMarks, e1, e2]
theorem pe_cmpR {op : CmpOp} {r : R2} (ho : OpR X (compareOp op) r) (ha : PE X a ta) (hb : PE X b tb) (hm : behindInMarks op b = false) : PE X (.Compare a [op] [b] pos) (tOp r ta tb) := by
 intro pins s σ H Q I h
 exact wpAny_Compare1 (binT ha hb I h fun v u s2 x y H2 I2 rx ry q => ho pins s2 σ H2 x y v u Q I2 rx ry q) hm
def tTest (t : TE) : TT := fun σ H Q => t σ H fun x H' => ∃ k, x = .bl k ∧ Q k H'
theorem pt_cmpR {op : CmpOp} {r : R2} (ho : OpR X (compareOp op) r) (ha : PE X a ta) (hb : PE X b tb) (hm : behindInMarks op b = false) : PT X (.Compare a [op] [b] pos) (tTest (tOp r ta tb)) := by
 intro pins s σ H Q I h
 refine wpAny_isTrue_Compare1 (thn (ha pins s σ H _ I h) fun v s1 ⟨x, H1, I1, r1, q1⟩ => thn (hb pins s1 σ H1 _ I1 q1) fun u s2 ⟨y, H2, I2, r2, q2⟩ =>
  thn (ho pins s2 σ H2 x y v u _ I2 r1 r2 q2) fun c s3 ⟨z, H3, I3, r3, k, e, q3⟩ => ?_) hm
 subst e
 cases r3
 exact wpAny_truthy_bool ⟨H3, I3, q3⟩
def tChain (r r' : R2) (ta tb tc : TE) : TE := fun σ H Q => ta σ H fun x H1 => tb σ H1 fun y H2 => r x y H2 fun z H3 => ∃ k, z = .bl k ∧
 (if k = true then tc σ H3 fun w' H4 => r' y w' H4 Q else Q (.bl false) H3)
theorem pe_chain {op op' : CmpOp} {r r' : R2} (ho : OpR X (compareOp op) r) (ho' : OpR X (compareOp op') r') (ha : PE X a ta) (hb : PE X b tb) (hc : PE X c tc)
  (hm : lastMarks [op, op'] [b, c] = false := by with_unfolding_all rfl) : PE X (.Compare a [op, op'] [b, c] pos) (tChain r r' ta tb tc) := by
 intro pins s σ H Q I h
 refine Compare_chain (thn (ha pins s σ H _ I h) fun v s1 ⟨x, H1, I1, r1, q1⟩ => chain_link (thn (hb pins s1 σ H1 _ I1 q1) fun u s2 ⟨y, H2, I2, r2, q2⟩ =>
  thn (ho pins s2 σ H2 x y v u _ I2 r1 r2 q2) fun d s3 ⟨z, H3, I3, r3, k, e, q3⟩ => ?_)) hm
 subst e
 cases r3
 refine wpAny_truthy_bool ?_
 cases k with
 | false => exact ite_ff ⟨.bl false, H3, I3, rfl, q3⟩
 | true => exact ite_tt (chain_last (thn (hc pins s3 σ H3 _ I3 q3) fun w' s4 ⟨z', H4, I4, r4, q4⟩ => ho' pins s4 σ H4 y z' u w' Q I4 r2 r4 q4))
theorem pt_chain {op op' : CmpOp} {r r' : R2} (ho : OpR X (compareOp op) r) (ho' : OpR X (compareOp op') r') (ha : PE X a ta) (hb : PE X b tb) (hc : PE X c tc)
  (hm : lastMarks [op, op'] [b, c] = false := by with_unfolding_all rfl) : PT X (.Compare a [op, op'] [b, c] pos) (tTest (tChain r r' ta tb tc)) := by
 intro pins s σ H Q I h
 refine isTrue_chain (thn (ha pins s σ H _ I h) fun v s1 ⟨x, H1, I1, r1, q1⟩ => test_link (thn (hb pins s1 σ H1 _ I1 q1) fun u s2 ⟨y, H2, I2, r2, q2⟩ =>
  thn (ho pins s2 σ H2 x y v u _ I2 r1 r2 q2) fun d s3 ⟨z, H3, I3, r3, k, e, q3⟩ => ?_)) hm
 subst e
 cases r3
 refine wpAny_truthy_bool ?_
 cases k with
 | false =>
  obtain ⟨k', e', q'⟩ := q3
  cases e'
  exact ite_ff ⟨H3, I3, q'⟩
 | true =>
  refine ite_tt (test_last (thn (hc pins s3 σ H3 _ I3 q3) fun w' s4 ⟨z', H4, I4, r4, q4⟩ => thn (ho' pins s4 σ H4 y z' u w' _ I4 r2 r4 q4) fun d' s5 ⟨z2, H5, I5, r5, k2, e2, q5⟩ => ?_))
  subst e2
  cases r5
  exact wpAny_truthy_bool ⟨H5, I5, q5⟩
theorem line63 : (sizeLine : Nat) < 2 ^ 63 := by rw [sizeLine_eq]; decide
theorem vals1 {x : V} {us : List Value} (r : Vals [x] us) : ∃ u, us = [u] ∧ RelV x u := by
 cases r with
 | cons r1 r2 => cases r2; exact ⟨_, rfl, r1⟩
theorem vals2 {x y : V} {us : List Value} (r : Vals [x, y] us) : ∃ u w', us = [u, w'] ∧ RelV x u ∧ RelV y w' := by
 cases r with
 | cons r1 r2 =>
  cases r2 with
  | cons r3 r4 => cases r4; exact ⟨_, _, rfl, r1, r3⟩
theorem call_int1 : CallR X (.type "int") (fun xs H Q => (∃ i, xs = [.int i] ∧ Q (.int i) H) ∨ ∃ k, xs = [.bl k] ∧ Q (.int (if k then 1 else 0)) H) := by
 intro pins s σ H xs us Q I r h
 rcases h with ⟨i, rfl, q⟩ | ⟨k, rfl, q⟩
 ·obtain ⟨u, rfl, t, rfl⟩ := vals1 r
  exact call_int_int ⟨.int i, H, I, ⟨_, rfl⟩, q⟩
 ·obtain ⟨u, rfl, r1⟩ := vals1 r
  cases r1
  exact call_int_bool ⟨.int (if k then 1 else 0), H, I.tok _, ⟨_, rfl⟩, q⟩
end
end L2
namespace L2
open PySem PySem.Spec PyProof.Rows
structure ObjM (h : Heap) (x dx C : Addr) (mA : Str → Option Value) : Prop where
 obj : h.get? x = some (PySem.W.instObj C dx)
 ns : h.Ns1 dx mA
 ne : dx ≠ x
theorem lookIn_ns {h : Heap} {dx : Addr} {mA : Str → Option Value} (n : h.Ns1 dx mA) : ∃ od, h.get? dx = some od ∧ ∀ name, PySem.W.lookIn name od = some (mA name) := by
 obtain ⟨o, es, ep, ho, hd, hk, _, hm⟩ := n
 refine ⟨o, ho, fun name => ?_⟩
 have e := hm name
 unfold nsFind findBy at e
 rw [← Array.find?_toList] at e
 unfold PySem.W.lookIn
 rw [hd]
 dsimp only
 split
 ·rename_i y q
  rw [q] at e
  exact congrArg some e
 ·rename_i q
  rw [q] at e
  have a : es.toList.any (·.refKey) = false := by
   rw [List.any_eq_false]
   intro y hy
   obtain ⟨z, t, hkey⟩ := hk y (Array.mem_toList_iff.mp hy)
   simp [DictEntry.refKey, hkey]
  have a' : ¬ es.toList.any (·.refKey) = true := by rw [a]; exact Bool.false_ne_true
  rw [if_neg a']
  exact congrArg some e
theorem ObjM.look {h : Heap} {x dx C : Addr} {mA : Str → Option Value} (I : ObjM h x dx C mA) : ∃ od, PySem.W.InstAt h x (PySem.W.instObj C dx) C (some od) ∧ ∀ name, PySem.W.lookIn name od = some (mA name) :=
 let ⟨od, ho, hl⟩ := lookIn_ns I.ns
 ⟨od, ⟨I.obj, rfl, rfl, ho⟩, hl⟩
section
variable {prog : Program} {w : World} {A : Around} {E : Value → Shared → Prop} {s : Shared} {K : PySem.W.Frag} {x dx C f : Addr} {mA : Str → Option Value} {name : Str} {v : Value}
theorem get_map {expr : Bool} {Q : Value → Shared → Prop} (X : K.In s.heap) (I : ObjM s.heap x dx C mA) (hg : PySem.W.plainGet K C name = true) (hh : PySem.W.hasDictIn K C = true)
  (ha : PySem.W.findIn K (.ref C) name = some none) (hv : mA name = some v) (hv' : PySem.W.handedIn v = true) (h : Q v { s with toks := s.toks + 1 }) :
  wpAny (model prog w) A (getAttr (.ref x) name expr) Q E s := by
 obtain ⟨od, J, hl⟩ := I.look
 exact PySem.W.get_value X J (PySem.W.plainGet_of hg).1 (PySem.W.findObj_own hh ha rfl (by rw [hl, hv])) hv' h
theorem get_meth {pl : Sem Bool} {Q : Value × List Value → Shared → Prop} (X : K.In s.heap) (I : ObjM s.heap x dx C mA) (hg : PySem.W.plainGet K C name = true)
  (hf : PySem.W.findIn K (.ref C) name = some (some (.ref f))) (ht : PySem.W.isFn K (.ref f) = true) (hv : mA name = none) (h : Q (.ref f, [.ref x]) s) :
  wpAny (model prog w) A (getMethod (.ref x) name pl) Q E s := by
 obtain ⟨od, J, hl⟩ := I.look
 exact PySem.W.method_fn X J (PySem.W.plainGet_of hg).1 (PySem.W.plainGet_of hg).2 hf (beq_iff_eq.mp ht) (by show (PySem.W.lookIn name od).map (·.isSome) = some false; rw [hl, hv]; rfl) h
theorem set_map {ns : List Str} {Q : Unit → Shared → Prop} (X : K.In s.heap) (I : ObjM s.heap x dx C mA)
  (hs : PySem.W.findIn K (.ref C) "__setattr__" = some (some (.builtin "object.__setattr__"))) (hp : PySem.W.plainOver K C = true) (ht : PySem.W.takerIn K C name = some none) (hh : PySem.W.hasDictIn K C = true)
  (hw : PySem.Within mA ns) (hsz : ns.length ≤ sizeLine)
  (h : ∀ h', ObjM h' x dx C (fun y => if y = name then some v else mA y) → Heap.SameBut dx s.heap h' → Q () { s with heap := h', toks := s.toks + 2 }) :
  wpAny (model prog w) A (setAttr (.ref x) name v) Q E s := by
 obtain ⟨od, J, hl⟩ := I.look
 refine PySem.W.set_plain X J hs (PySem.W.osa_open (s := { s with toks := s.toks + 1 }) (r := none) X J hp ht fun b => ?_)
 obtain ⟨cd, hc, hd'⟩ := PySem.W.any_some hh
 have hx : s.heap.get? x = some ⟨.ref C, some dx, .plain, #[]⟩ := I.obj
 refine wpAny_bind (wpAny_pure (wpAny_bind (wpAny_bind (wpAny_loadPart hx (wpAny_bind (PySem.W.Looks.here (s := { s with toks := s.toks + 1 }) (PySem.W.looks_clsIn X hc) ?_))))))
 rw [hd']
 refine wpAny_pure (a := some dx) (wpAny_bind (wpAny_pure (wpAny_bind ?_)))
 refine wpAny_nsSet1 (s := { s with toks := s.toks + 1 }) I.ns fun h' hn2 hs2 => ?_
 obtain ⟨oD, esD, epD, hoD, hdD, hcD⟩ := hn2.count (PySem.Within.cons name v hw)
 refine wpAny_bind (wpAny_lookBehind hoD (by rw [hdD]; exact pastItsLine_dict (Nat.le_trans hcD (by rw [List.length_cons]; omega))) ?_)
 exact wpAny_pure (h _ ⟨(hs2.2 _ (Ne.symm I.ne)).trans I.obj, hn2, I.ne⟩ hs2)
theorem make_map {R : Result → Shared → Prop} {vs : List Value} {kw : List (Str × Value)} (X : K.In s.heap) (hm : PySem.W.makesIn K C = true)
  (hi : PySem.W.findIn K (.ref C) "__init__" = some (some (.ref f))) (hf : PySem.W.typeIn K (.ref f) = some (.type "function"))
  (h : codeAny (model prog w) (A.under (.builtin "type.__call__" ⟨.ref C :: vs, kw⟩)) (.call (.ref f) ⟨.ref (s.heap.objs.size + 1) :: vs, kw⟩) (PySem.W.InitBack (s.heap.objs.size + 1) R)
   { s with heap := (s.heap.push PySem.W.emptyDict).push (PySem.W.instObj C s.heap.objs.size) }) :
  codeAny (model prog w) A (.call (.ref C) ⟨vs, kw⟩) R s := by
 obtain ⟨hh, g, d, t, os⟩ := s
 exact PySem.W.make_core (PySem.W.makes_of X hm) (PySem.W.looks_findIn X hi) (fun self => PySem.W.bind_fn X self hf) (.inl rfl) h
end
def putF (f : Str) (v : V) : List (Str × V) → List (Str × V)
 | [] => [(f, v)]
 | (g, x) :: r => if g = f then (g, v) :: r else (g, x) :: putF f v r
theorem lookup_putF (f g : Str) (v : V) : ∀ fs : List (Str × V), (putF f v fs).lookup g = if g = f then some v else fs.lookup g
 | [] => by
  show List.lookup g [(f, v)] = _
  by_cases h : g = f
  ·have hb : (g == f) = true := beq_iff_eq.mpr h
   simp only [List.lookup, hb, if_pos h]
  ·have hb : (g == f) = false := beq_eq_false_iff_ne.mpr h
   simp only [List.lookup, hb, if_neg h]
 | (k, x) :: r => by
  have ih := lookup_putF f g v r
  rw [show putF f v ((k, x) :: r) = (if k = f then (k, v) :: r else (k, x) :: putF f v r) from rfl]
  by_cases hk : k = f
  ·rw [if_pos hk]
   by_cases h : g = k
   ·have hb : (g == k) = true := beq_iff_eq.mpr h
    simp only [List.lookup, hb, if_pos (h.trans hk)]
   ·have hb : (g == k) = false := beq_eq_false_iff_ne.mpr h
    simp only [List.lookup, hb, if_neg (fun e : g = f => h (e.trans hk.symm))]
  ·rw [if_neg hk]
   by_cases h : g = k
   ·have hb : (g == k) = true := beq_iff_eq.mpr h
    simp only [List.lookup, hb, if_neg (fun e : g = f => hk (h.symm.trans e))]
   ·have hb : (g == k) = false := beq_eq_false_iff_ne.mpr h
    simp only [List.lookup, hb]
    exact ih
theorem keys_putF (f : Str) (v : V) : ∀ fs : List (Str × V), f ∈ (putF f v fs).map (·.1) ∧ ∀ g, g ∈ fs.map (·.1) → g ∈ (putF f v fs).map (·.1)
 | [] => ⟨by simp [putF], fun g h => by simp at h⟩
 | (k, x) :: r => by
  obtain ⟨i1, i2⟩ := keys_putF f v r
  rw [show putF f v ((k, x) :: r) = (if k = f then (k, v) :: r else (k, x) :: putF f v r) from rfl]
  by_cases hk : k = f
  ·rw [if_pos hk]
   subst hk
   exact ⟨by simp, fun g h => by simpa using h⟩
  ·rw [if_neg hk]
   refine ⟨?_, fun g h => ?_⟩
   ·rw [List.map_cons]
    exact List.mem_cons_of_mem _ i1
   ·rw [List.map_cons] at h ⊢
    rcases List.mem_cons.mp h with e | e
    ·exact List.mem_cons.mpr (.inl e)
    ·exact List.mem_cons_of_mem _ (i2 g e)
theorem length_putF (f : Str) (v : V) : ∀ fs : List (Str × V), (putF f v fs).length ≤ fs.length + 1
 | [] => by simp [putF]
 | (k, x) :: r => by
  have ih := length_putF f v r
  rw [show putF f v ((k, x) :: r) = (if k = f then (k, v) :: r else (k, x) :: putF f v r) from rfl]
  by_cases hk : k = f
  ·rw [if_pos hk, List.length_cons, List.length_cons]; omega
  ·rw [if_neg hk, List.length_cons, List.length_cons]; omega
theorem RelO.some_of {v : V} {o : Option Value} (r : RelO (some v) o) : ∃ u, o = some u ∧ RelV v u := by
 cases o with
 | none => exact (show False from r).elim
 | some u => exact ⟨u, rfl, r⟩
theorem RelO.none_of {o : Option Value} (r : RelO none o) : o = none := by
 cases o with
 | none => rfl
 | some u => exact (show False from r).elim
theorem handed_of {v : V} {u : Value} (r : RelV v u) : PySem.W.handedIn u = true := by
 cases v with
 | non => cases (show u = Value.none from r); rfl
 | bl b => cases (show u = Value.bool b from r); rfl
 | int i => obtain ⟨t, e⟩ := (show ∃ t, u = Value.int i t from r); cases e; rfl
 | str x => obtain ⟨t, e⟩ := (show ∃ t, u = Value.str x t from r); cases e; rfl
 | byt b => obtain ⟨t, e⟩ := (show ∃ t, u = Value.bytes b t from r); cases e; rfl
 | flt b => obtain ⟨t, e⟩ := (show ∃ t, u = Value.float b t from r); cases e; rfl
 | ref a => cases (show u = Value.ref a from r); rfl
 | ty n => cases (show u = Value.type n from r); rfl
section
variable {P : Program} {w : World} {H H' : Hp} {h h' : Heap} {a C dx : Addr} {fs fs' : List (Str × V)}
theorem ins_get (hok : HOk P w H h) (e : H a = some (.ins C dx fs)) : ∃ mA, ObjM h a dx C mA ∧ (∀ f, RelO (fs.lookup f) (mA f)) ∧ PySem.Within mA (fs.map (·.1)) ∧ fs.length ≤ 1000 ∧ H dx = some (.own a) := by
 obtain ⟨d, z, ne, ob, mA, n, r, q⟩ := (show ObjOk P w H h a (.ins C dx fs) from hok a _ e)
 exact ⟨mA, ⟨ob, n, ne⟩, r, q, z, d⟩
end
structure Cls (K : PySem.W.Frag) (C : Addr) : Prop where
 pg : PySem.W.plainGet K C Str.empty = true
 hd : PySem.W.hasDictIn K C = true
 po : PySem.W.plainOver K C = true
 sa : PySem.W.findIn K (.ref C) "__setattr__" = some (some (.builtin "object.__setattr__"))
theorem Cls.get {K : PySem.W.Frag} {C : Addr} (c : Cls K C) (f : Str) : PySem.W.plainGet K C f = true := c.pg
def NoAttr (K : PySem.W.Frag) (C : Addr) (f : Str) : Prop := PySem.W.findIn K (.ref C) f = some none
theorem NoAttr.taker {K : PySem.W.Frag} {C : Addr} {f : Str} (n : NoAttr K C f) : PySem.W.takerIn K C f = some none := by
 unfold PySem.W.takerIn
 rw [show PySem.W.findIn K (.ref C) f = some none from n]
 rfl
structure Meth (K : PySem.W.Frag) (C : Addr) (m : Str) (f : Addr) : Prop where
 at_ : PySem.W.findIn K (.ref C) m = some (some (.ref f))
 fn : PySem.W.isFn K (.ref f) = true
 kp : PySem.W.keepIn K (.ref f) = true
section
variable {X : Cx} {pins : List (Addr × Obj)} {σ : St} {H : Hp} {s : Shared} {a C dx : Addr} {fs : List (Str × V)} {f : Str} {v : V} {A : Around} {E : Value → Shared → Prop}
theorem getattr_ok {b : Bool} {Q : Value → Shared → Prop} (I : Inv X pins σ H s) (e : H a = some (.ins C dx fs)) (c : Cls X.K C) (n : NoAttr X.K C f) (l : fs.lookup f = some v)
  (h : ∀ u s', Inv X pins σ H s' → RelV v u → Q u s') : wpAny (model X.prog X.w) A (getAttr (.ref a) f b) Q E s := by
 obtain ⟨mA, O, r, _, _, _⟩ := ins_get I.hok e
 obtain ⟨u, hu, ru⟩ := RelO.some_of (v := v) (o := mA f) (by rw [← l]; exact r f)
 exact get_map I.kIn O (c.get f) c.hd n hu (handed_of ru) (h u _ (I.tok _) ru)
theorem getmeth_ok {m : Str} {g : Addr} {pl : Sem Bool} {Q : Value × List Value → Shared → Prop} (I : Inv X pins σ H s) (e : H a = some (.ins C dx fs)) (c : Cls X.K C) (k : Meth X.K C m g) (l : fs.lookup m = none)
  (h : Q (.ref g, [.ref a]) s) : wpAny (model X.prog X.w) A (getMethod (.ref a) m pl) Q E s := by
 obtain ⟨mA, O, r, _, _, _⟩ := ins_get I.hok e
 have hn : mA m = none := RelO.none_of (by rw [← l]; exact r m)
 exact get_meth I.kIn O (c.get m) k.at_ k.fn hn h
theorem setattr_ok {y : V} {u : Value} {Q : Unit → Shared → Prop} (I : Inv X pins σ H s) (e : H a = some (.ins C dx fs)) (c : Cls X.K C) (n : NoAttr X.K C f) (hl : fs.length < 1000) (ry : RelV y u)
  (h : ∀ s', Inv X pins σ (upd H a (.ins C dx (putF f y fs))) s' → Q () s') : wpAny (model X.prog X.w) A (setAttr (.ref a) f u) Q E s := by
 obtain ⟨mA, O, r, wi, _, ho⟩ := ins_get I.hok e
 have hz : (fs.map (·.1)).length ≤ sizeLine := by rw [List.length_map, sizeLine_eq]; omega
 refine set_map I.kIn O c.sa c.po n.taker c.hd wi hz fun h' O' sb => h _ ?_
 have hd : ∃ o, h'.get? dx = some o := let ⟨o, _, _, e', _⟩ := O'.ns; ⟨o, e'⟩
 refine I.write (x := a) (e := dx) (by rw [e]; exact True.intro) (.inr ho) (fun b q hb z => (sb.2 b hb).trans z) hd ?_
 refine ⟨by rw [upd_ne O.ne]; exact ho, ?_, O.ne, O'.obj, _, O'.ns, fun g => ?_, fun g hg => ?_⟩
 ·have := length_putF f y fs; omega
 ·show RelO ((putF f y fs).lookup g) (if g = f then some u else mA g)
  rw [lookup_putF]
  by_cases q : g = f
  ·rw [if_pos q, if_pos q]; exact ry
  ·rw [if_neg q, if_neg q]; exact r g
 ·by_cases q : g = f
  ·rw [q]; exact (keys_putF f y fs).1
  ·refine (keys_putF f y fs).2 g (wi g fun z => hg ?_)
   show (if g = f then some u else mA g) = none
   rw [if_neg q]; exact z
theorem Inv.made (I : Inv X pins σ H s) : Inv X pins σ (upd (upd H s.heap.objs.size (.own (s.heap.objs.size + 1))) (s.heap.objs.size + 1) (.ins C s.heap.objs.size []))
  { s with heap := (s.heap.push PySem.W.emptyDict).push (PySem.W.instObj C s.heap.objs.size) } := by
 have e1 : (s.heap.push PySem.W.emptyDict).get? s.heap.objs.size = some PySem.W.emptyDict := Heap.get?_push_size s.heap rfl
 have e2 : ((s.heap.push PySem.W.emptyDict).push (PySem.W.instObj C s.heap.objs.size)).get? (s.heap.objs.size + 1) = some (PySem.W.instObj C s.heap.objs.size) := by
  have := Heap.get?_push_size (s.heap.push PySem.W.emptyDict) (o := PySem.W.instObj C s.heap.objs.size) rfl
  rwa [Heap.size_push] at this
 have e3 : (s.heap.push PySem.W.emptyDict).Ns s.heap.objs.size (fun _ => none) := ⟨PySem.W.emptyDict, #[], _, e1, rfl, (fun e he => absurd he (by simp)), fun _ => rfl⟩
 have I1 := I.laid (a := s.heap.objs.size) (o := .own (s.heap.objs.size + 1)) (h' := s.heap.push PySem.W.emptyDict) (t' := s.toks) (fun b u q => Heap.get?_push_of_some _ q) (Nat.le_refl _) ⟨_, e1⟩
 refine I1.laid (a := s.heap.objs.size + 1) (o := .ins C s.heap.objs.size []) (t' := s.toks) (fun b u q => Heap.get?_push_of_some _ q) (Nat.le_of_eq (Heap.size_push _ _)) ?_
 have ne : s.heap.objs.size ≠ s.heap.objs.size + 1 := Nat.ne_of_lt (Nat.lt_succ_self _)
 refine ⟨by rw [upd_ne ne, upd_same], Nat.zero_le _, ne, e2, fun _ => none, (Heap.Ns1.of_empty e3).at fun o q => Heap.get?_push_of_some _ q, fun _ => True.intro, fun y hy => absurd rfl hy⟩
theorem attr_of {prog : Program} {w : World} {env : Env} {e : Expr} {f : Str} {pos : Pos} {s : Shared} {Q : Value → Shared → Prop} (hb : attributeBase e f env (eval e env) = eval e env)
  (h : wpAny (model prog w) A (eval e env) (fun o s₁ => wpAny (model prog w) A (getAttr o f true) Q E s₁) E s) : wpAny (model prog w) A (eval (.Attribute e f pos) env) Q E s :=
 Attribute_any_ h (by rw [arm_eval_Attribute, hb])
end
def tFld (K : PySem.W.Frag) (ta : TE) (f : Str) : TE := fun σ H Q => ta σ H fun x H1 => ∃ a C dx fs v, x = .ref a ∧ H1 a = some (.ins C dx fs) ∧ Cls K C ∧ NoAttr K C f ∧ fs.lookup f = some v ∧ Q v H1
def sFld (K : PySem.W.Frag) (ta tv : TE) (f : Str) : TS := fun D σ H => tv σ H fun y H1 => ta σ H1 fun x H2 => ∃ a C dx fs, x = .ref a ∧ H2 a = some (.ins C dx fs) ∧ Cls K C ∧ NoAttr K C f ∧ fs.length < 1000 ∧
 D.nx σ (upd H2 a (.ins C dx (putF f y fs)))
section
variable {X : Cx} {o e value : Expr} {f : Str} {pos pos' tpos : Pos} {ta tv : TE}
theorem pe_fld (he : PE X e ta) (hb : attributeBase e f X.env (eval e X.env) = eval e X.env) : PE X (.Attribute e f pos) (tFld X.K ta f) := by
 intro pins s σ H Q I h
 refine attr_of hb (thn (he pins s σ H _ I h) fun u s1 ⟨x, H1, I1, rx, a, C, dx, fs, v, ex, ea, c, n, l, q⟩ => ?_)
 subst ex
 obtain rfl : u = Value.ref a := rx
 exact getattr_ok I1 ea c n l fun u' s2 I2 ru => ⟨v, H1, I2, ru, q⟩
theorem ps_fld (ha : PE X o ta) (hv : PE X value tv) (hs : swapsWith value (some (.Attribute o f pos')) pos.line X.env = pure false) : PS X (.Assign [.Attribute o f pos'] value pos) (sFld X.K ta tv f) := by
 intro pins s σ H D I h
 refine plainObj_wpAny_Assign_Attribute (thn (hv pins s σ H _ I h) fun u s1 ⟨y, H1, I1, ry, q⟩ => thn (ha pins s1 σ H1 _ I1 q) fun ov s2 ⟨x, H2, I2, rx, a, C, dx, fs, ex, ea, c, n, l, q2⟩ => ?_) hs
 subst ex
 obtain rfl : ov = Value.ref a := rx
 exact setattr_ok I2 ea c n l ry fun s3 I3 => ⟨σ, _, I3, q2⟩
end
section
variable {X : Cx} {pins : List (Addr × Obj)} {σ : St} {H : Hp} {s : Shared} {A : Around} {E : Value → Shared → Prop} {Q : Value → Shared → Prop} {c : Value} {b : Bool}
inductive TyOf (K : PySem.W.Frag) (H : Hp) : V → Value → Prop where
 | non : TyOf K H .non (.type "NoneType")
 | bl (x : Bool) : TyOf K H (.bl x) (.type "bool")
 | int (i : Int) : TyOf K H (.int i) (.type "int")
 | str (x : Str) : TyOf K H (.str x) (.type "str")
 | flt (x : UInt64) : TyOf K H (.flt x) (.type "float")
 | lst {a : Addr} {xs : List V} (e : H a = some (.lst xs)) : TyOf K H (.ref a) (.type "list")
 | frz {a : Addr} {o : Obj} {xs : List V} (e : H a = some (.frz o (.lst xs))) : TyOf K H (.ref a) (.type "list")
 | tup {a : Addr} {xs : List V} (e : H a = some (.tup xs)) : TyOf K H (.ref a) (.type "tuple")
 | dK {a : Addr} {kvs : List (Key × V)} (e : H a = some (.dK kvs)) : TyOf K H (.ref a) (.type "dict")
 | dT {a : Addr} {kvs : List (List Key × V)} (e : H a = some (.dT kvs)) : TyOf K H (.ref a) (.type "dict")
 | ins {a C dx : Addr} {fs : List (Str × V)} (e : H a = some (.ins C dx fs)) (cl : Cls K C) (ha : PySem.W.findIn K (.ref C) "__class__" = some (some (.builtin "object.__class__")))
   (hn : PySem.W.specialIn K (.builtin "object.__class__") "__get__" = some (some (.builtin "getset_descriptor.__get__"))) (htk : PySem.W.takesIn K (.builtin "object.__class__") = some true)
   (hm : PySem.W.mroIn K C (.type "object") = some true) : TyOf K H (.ref a) (.ref C)
 | exc {a C : Addr} (e : H a = some (.exc (.ref C))) (F : ExcK K C) : TyOf K H (.ref a) (.ref C)
theorem isinst_ok {x : V} {u t : Value} (I : Inv X pins σ H s) (rx : RelV x u) (ty : TyOf X.K H x t) (e : PySem.W.kitOne X.K t c = some b) (h : ∀ tk, Q (.bool b) { s with toks := tk }) :
  wpAny (model X.prog X.w) A (call (.builtin "isinstance") [u, c]) Q E s := by
 cases ty with
 | non => cases (show u = Value.none from rx); exact PySem.W.kia_one PySem.W.kitx_none I.kIn True.intro e (fun z => nomatch z) h
 | bl y => cases (show u = Value.bool y from rx); exact PySem.W.kia_one PySem.W.kitx_bool I.kIn True.intro e (fun z => nomatch z) h
 | int i => obtain ⟨t, q⟩ := (show ∃ t, u = Value.int i t from rx); cases q; exact PySem.W.kia_one PySem.W.kitx_int I.kIn True.intro e (fun z => nomatch z) h
 | str y => obtain ⟨t, q⟩ := (show ∃ t, u = Value.str y t from rx); cases q; exact PySem.W.kia_one PySem.W.kitx_str I.kIn True.intro e (fun z => nomatch z) h
 | flt y => obtain ⟨t, q⟩ := (show ∃ t, u = Value.float y t from rx); cases q; exact PySem.W.kia_one PySem.W.kitx_float I.kIn True.intro e (fun z => nomatch z) h
 | @lst a xs ea =>
  cases (show u = Value.ref a from rx)
  obtain ⟨_, _, n, _, h1⟩ := (show ObjOk X.prog X.w H s.heap a (.lst xs) from I.hok a _ ea)
  exact PySem.W.kia_one PySem.W.kitx_list I.kIn ⟨_, h1, rfl⟩ e (fun z => nomatch z) h
 | @frz a ob xs ea =>
  cases (show u = Value.ref a from rx)
  obtain ⟨_, _, _, n, _, h1⟩ := (show ObjOk X.prog X.w H s.heap a (.frz ob (.lst xs)) from I.hok a _ ea)
  exact PySem.W.kia_one PySem.W.kitx_list I.kIn ⟨_, h1, rfl⟩ e (fun z => nomatch z) h
 | @tup a xs ea =>
  cases (show u = Value.ref a from rx)
  obtain ⟨_, _, _, p⟩ := (show ObjOk X.prog X.w H s.heap a (.tup xs) from I.hok a _ ea)
  obtain ⟨o, h1, h2, _⟩ := p
  exact PySem.W.kia_one PySem.W.kitx_tuple I.kIn ⟨o, h1, h2⟩ e (fun z => nomatch z) h
 | @dK a kvs ea =>
  cases (show u = Value.ref a from rx)
  obtain ⟨_, _, vs, _, p⟩ := (show ObjOk X.prog X.w H s.heap a (.dK kvs) from I.hok a _ ea)
  obtain ⟨o, es, ep, h1, h2, _⟩ := p
  exact PySem.W.kia_one PySem.W.kitx_dict I.kIn ⟨o, h1, h2.1⟩ e (fun z => nomatch z) h
 | @dT a kvs ea =>
  cases (show u = Value.ref a from rx)
  obtain ⟨_, _, xs, _, o, es, ep, h1, h2, _⟩ := (show ObjOk X.prog X.w H s.heap a (.dT kvs) from I.hok a _ ea)
  exact PySem.W.kia_one PySem.W.kitx_dict I.kIn ⟨o, h1, h2.1⟩ e (fun z => nomatch z) h
 | @exc a C ea F =>
  cases (show u = Value.ref a from rx)
  obtain ⟨oe, vs, h1, h2, h3, h4, _⟩ := (show ObjOk X.prog X.w H s.heap a (.exc (.ref C)) from I.hok a _ ea)
  refine PySem.W.kia_one (kitx_exc F) I.kIn ⟨oe, h1, h2, ?_, ?_⟩ e (fun z => nomatch z) h
  ·unfold PySem.W.notCls; rw [h4]
  ·rw [h3]; trivial
 | @ins a C dx fs ea cl ha hn htk hm =>
  cases (show u = Value.ref a from rx)
  obtain ⟨mA, O, _⟩ := ins_get I.hok ea
  obtain ⟨od, J, _⟩ := O.look
  exact PySem.W.kia_one (PySem.W.kitx_own (cl.get _) cl.hd ha hn htk hm) I.kIn J e (fun z => nomatch z) h
end
end L2
namespace L2
open PySem PySem.Spec PyProof.Rows
structure Room (k : Nat) (A : Around) : Prop where
 dp : A.depth + 3 * k + 5 < recursionLimit
 un : A.units + 16 * k + 200 < cLine
theorem Room.mono {j k : Nat} {A : Around} (r : Room k A) (h : j ≤ k) : Room j A := ⟨by have := r.dp; omega, by have := r.un; omega⟩
theorem Room.deeper {k : Nat} {A : Around} (r : Room (k + 1) A) (env : Env) : Room k (A.deeper env) :=
 ⟨by have := r.dp; show A.depth + 1 + 3 * k + 5 < _; omega, by have := r.un; show A.units + 3 + 16 * k + 200 < _; omega⟩
theorem make_depth {A : Around} {C : Addr} {us : List Value} {kw : List (Str × Value)} : (A.under (.builtin "type.__call__" ⟨.ref C :: us, kw⟩)).depth = A.depth + 1 := by
 first | rfl | simp [Around.under, Code.weight, Code.isCreation, Code.isGuard, Code.isCaller, Code.frames, Code.isFrame, guardIds]
theorem make_units {A : Around} {C : Addr} {us : List Value} {kw : List (Str × Value)} : (A.under (.builtin "type.__call__" ⟨.ref C :: us, kw⟩)).units = A.units + 1 := by
 first | rfl | simp [Around.under, Code.cUnits, Code.frames, Code.isFrame]
theorem Room.make {k : Nat} {A : Around} (r : Room (k + 1) A) (C : Addr) (us : List Value) (kw : List (Str × Value)) : Room k (A.under (.builtin "type.__call__" ⟨.ref C :: us, kw⟩)) :=
 ⟨by have := r.dp; rw [make_depth]; omega, by have := r.un; rw [make_units]; omega⟩
theorem Room.depth {k : Nat} {A : Around} (r : Room k A) : A.depth < recursionLimit := by have := r.dp; omega
theorem Room.units {k : Nat} {A : Around} (r : Room k A) : A.units + 64 < cLine := by have := r.un; omega
def tNil : TA := fun _ H Q => Q [] H
def tCons (ta : TE) (tr : TA) : TA := fun σ H Q => ta σ H fun x H1 => tr σ H1 fun xs H2 => Q (x :: xs) H2
section
variable {X : Cx} {e : Expr} {es : List Expr} {te : TE} {t : TA} {pos : Pos}
theorem pa_nil : PA X [] tNil := fun _ _ _ _ H Q I h => Calls.spliced_nil ⟨[], H, I, .nil, h⟩
theorem pa_cons (ha : PE X e te) (hr : PA X es t) (hs : starEach (e :: es) X.env = (false, eval e X.env) :: starEach es X.env := by rfl) : PA X (e :: es) (tCons te t) := by
 intro pos pins s σ H Q I h
 rw [hs]
 show wpAny _ _ (spliced ((false, eval e X.env) :: backTo pos (starEach es X.env))) _ _ s
 refine Calls.spliced_cons (thn (ha pins s σ H _ I h) fun u s1 ⟨x, H1, I1, r1, q1⟩ => ?_)
 exact thn (hr pos pins s1 σ H1 _ I1 q1) fun us s2 ⟨xs, H2, I2, r2, q2⟩ => ⟨x :: xs, H2, I2, .cons r1 r2, q2⟩
def tTup (t : TA) : TE := fun σ H Q => t σ H fun xs H1 => xs.length ≤ sizeLine ∧ ∀ p, H1 p = none → Q (.ref p) (upd H1 p (.tup xs))
def tLst (t : TA) : TE := fun σ H Q => t σ H fun xs H1 => xs.length ≤ sizeLine ∧ ∀ p, H1 p = none → Q (.ref p) (upd H1 p (.lst xs))
theorem pe_tup {x1} (h : PA X es t) : PE X (.Tuple es x1 pos) (tTup t) := by
 intro pins s σ H Q I hq
 refine wpAny_Tuple_spliced (thn (h pos pins s σ H _ I hq) fun us s1 ⟨xs, H1, I1, r, z, q⟩ => ⟨by rw [← r.length]; exact z, ?_⟩)
 have hf : H1 s1.heap.objs.size = none := I1.hok.fresh (Nat.le_refl _)
 refine ⟨.ref s1.heap.objs.size, upd H1 s1.heap.objs.size (.tup xs), I1.laid (t' := s1.toks) (fun b u e => Heap.get?_push_of_some _ e) (Nat.le_refl _) ?_, rfl, q _ hf⟩
 exact ⟨z, us, r, ⟨_, Heap.get?_push_size _ rfl, rfl, _, rfl⟩⟩
theorem pe_lst (h : PA X es t) : PE X (.List es pos) (tLst t) := by
 intro pins s σ H Q I hq
 refine wpAny_List_spliced (thn (h pos pins s σ H _ I hq) fun us s1 ⟨xs, H1, I1, r, z, q⟩ => ⟨by rw [← r.length]; exact z, ?_⟩)
 have hf : H1 s1.heap.objs.size = none := I1.hok.fresh (Nat.le_refl _)
 refine ⟨.ref s1.heap.objs.size, upd H1 s1.heap.objs.size (.lst xs), I1.laid (t' := s1.toks) (fun b u e => Heap.get?_push_of_some _ e) (Nat.le_refl _) ?_, rfl, q _ hf⟩
 exact ⟨z, us, 0, r, Heap.get?_push_size _ rfl⟩
end
abbrev Sp := List V → Hp → VK → XK → Prop
abbrev CXT := List Env → Hp → Shared → XK → Value → Shared → Prop
structure Env0 (P : Program) (w : World) (K : PySem.W.Frag) (mg : Str → Option Value) (base : Heap) (A : Around) (outer : List Env) (s : Shared) (H : Hp) : Prop where
 frames : A.frames = some outer
 mod : Mod K mg base
 bs : ∀ b o, base.get? b = some o → s.heap.get? b = some o ∧ H b = none
 bsz : base.objs.size ≤ s.heap.objs.size
 funs : s.heap.FunFrames base outer
 frf : ∀ b ∈ frs outer, H b = none
 hok : HOk P w H s.heap
 bare : AllBare s.gens
 hd : HdE A H
def CE (outer : List Env) (P : Program) (w : World) (H : Hp) (s : Shared) (Q : VK) (u : Value) (s' : Shared) : Prop :=
 ∃ v H', s'.os = s.os ∧ AllBare s'.gens ∧ Un (frs outer) [] H H' s.heap s'.heap ∧ HOk P w H' s'.heap ∧ RelV v u ∧ Q v H'
def CR (CX : CXT) (outer : List Env) (P : Program) (w : World) (H : Hp) (s : Shared) (Q : VK) (E : XK) (r : Result) (s' : Shared) : Prop :=
 match r with
 | .ok (.ret u) => CE outer P w H s Q u s'
 | .ok _ => False
 | .error e => CX outer H s E e s'
abbrev CX0 : CXT := fun _ _ _ _ _ _ => False
def Calm (CX : CXT) (A : Around) : Prop := CX = CX0 ∨ A.handled = none
structure FnOk (P : Program) (w : World) (K : PySem.W.Frag) (mg : Str → Option Value) (base : Heap) (CX : CXT) (k : Nat) (f : Addr) (fd : FuncData) (ps : List Str) (sp : Sp) : Prop where
 len : ∀ vs H Q E, sp vs H Q E → vs.length = ps.length
 run : ∀ (A : Around) (outer : List Env) (s : Shared) (H : Hp) (args : Args) (us : List Value) (vs : List V) (Q : VK) (E : XK), Room k A → Calm CX A → Env0 P w K mg base A outer s H → BindsTo s fd args (ps.zip us) → Vals vs us → sp vs H Q E →
  codeAny (model P w) A (.call (.ref f) args) (CR CX outer P w H s Q E) s
theorem Env0.make {P : Program} {w : World} {K : PySem.W.Frag} {mg : Str → Option Value} {base : Heap} {A : Around} {outer : List Env} {s : Shared} {H : Hp} (e : Env0 P w K mg base A outer s H) (C : Addr) (us : List Value) (kw : List (Str × Value)) :
  Env0 P w K mg base (A.under (.builtin "type.__call__" ⟨.ref C :: us, kw⟩)) outer s H := ⟨by first | exact e.frames | (simpa [Around.under, Code.envs, Code.isFrame, pushEnvs] using e.frames), e.mod, e.bs, e.bsz, e.funs, e.frf, e.hok, e.bare, e.hd⟩
section
variable {X : Cx} {pins : List (Addr × Obj)} {σ : St} {H : Hp} {s s' : Shared}
theorem Inv.env0 (I : Inv X pins σ H s) : Env0 X.prog X.w X.K X.mg X.base X.A X.stack s H :=
 ⟨I.ok.frames, I.ok.mod, I.bs, Nat.le_trans I.ok.bsz I.sz, I.stack, I.stkFree, I.hok, I.bare, I.hdE⟩
theorem Inv.after {Q : VK} {u : Value} (I : Inv X pins σ H s) (h : CE X.stack X.prog X.w H s Q u s') : EP X pins σ Q u s' := by
 obtain ⟨v, H', os, bare, un, hok, r, q⟩ := h
 obtain ⟨hh, g, d, t, os'⟩ := s'
 obtain rfl : os' = s.os := os
 exact ⟨v, H', I.call (h' := hh) (g' := g) (d' := d) (t' := t) (ch := []) un hok bare (fun b z => absurd z (by simp)), r, q⟩
end
def tCall (sp : Sp) (dvs : List V) (E : XK) (t : TA) : TE := fun σ H Q => t σ H fun vs H1 => sp (vs ++ dvs) H1 Q E
def tMeth (C : Addr) (m : Str) (sp : Sp) (dvs : List V) (E : XK) (ta : TE) (t : TA) : TE := fun σ H Q => ta σ H fun x H1 => ∃ a dx fs, x = .ref a ∧ H1 a = some (.ins C dx fs) ∧ fs.lookup m = none ∧
 t σ H1 fun vs H2 => sp (x :: (vs ++ dvs)) H2 Q E
def tMake (C : Addr) (sp : Sp) (dvs : List V) (E : XK) (t : TA) : TE := fun σ H Q => t σ H fun vs H1 => ∀ x dx, H1 x = none → H1 dx = none → dx ≠ x →
 sp (.ref x :: (vs ++ dvs)) (upd (upd H1 dx (.own x)) x (.ins C dx [])) (fun v H2 => v = .non ∧ Q (.ref x) H2) E
def Binds (K : PySem.W.Frag) (fd : FuncData) (ps : List Str) (ds : List Value) : Prop :=
 ∀ (s : Shared) (us : List Value), K.In s.heap → (us ++ ds).length = ps.length → BindsTo s fd ⟨us, []⟩ (ps.zip (us ++ ds))
theorem Binds.all {K : PySem.W.Frag} {fd : FuncData} {ps : List Str} (h : ∀ us : List Value, us.length = ps.length → bindArgs fd ⟨us, []⟩ = pure (ps.zip us)) : Binds K fd ps [] := fun s us _ hl => by
 rw [List.append_nil] at hl ⊢
 exact .of_eq (h us hl)
def Passes (CX : CXT) (X : Cx) (E : XK) : Prop := ∀ (pins : List (Addr × Obj)) (σ : St) (H : Hp) (s : Shared) (e : Value) (s' : Shared), Inv X pins σ H s → CX X.stack H s E e s' → X.xe e s'
section
variable {X : Cx} {CX : CXT} {k : Nat} {f C : Addr} {fd : FuncData} {ps : List Str} {sp : Sp} {dvs : List V} {ds : List Value} {E : XK} {x m : Str} {p pos apos : Pos} {e o : Expr} {es : List Expr} {ta : TE} {t : TA}
theorem run_fn {pins : List (Addr × Obj)} {σ : St} {H : Hp} {s : Shared} {Q : VK} {us : List Value} {vs : List V} (F : FnOk X.prog X.w X.K X.mg X.base CX k f fd ps sp) (hr : Room k X.A) (hb : Binds X.K fd ps ds) (hd : Vals dvs ds) (hx : Passes CX X E)
  (I : Inv X pins σ H s) (r : Vals vs us) (h : sp (vs ++ dvs) H Q E) (hcm : Calm CX X.A := by first | assumption | exact Or.inl rfl | exact Or.inr (by assumption)) : wpAny (model X.prog X.w) X.A (call (.ref f) us) (EP X pins σ Q) X.xe s := by
 have r2 : Vals (vs ++ dvs) (us ++ ds) := r.append hd
 have hl : (us ++ ds).length = ps.length := by rw [← r2.length]; exact F.len _ _ _ _ h
 refine wpAny_call (codeAny_mono (F.run X.A X.stack s H ⟨us, []⟩ (us ++ ds) (vs ++ dvs) Q E hr hcm I.env0 (hb s us I.kIn hl) r2 h) fun r s' hq => ?_)
 cases r with
 | error e => exact hx pins σ H s e s' I hq
 | ok fl =>
  cases fl with
  | ret u => exact I.after hq
  | next => exact False.elim hq
  | brk => exact False.elim hq
  | cont => exact False.elim hq
theorem pe_call (F : FnOk X.prog X.w X.K X.mg X.base CX k f fd ps sp) (hr : Room k X.A) (hg : Gl X x) (hm : X.mg x = some (.ref f)) (hk : PySem.W.keepIn X.K (.ref f) = true) (hb : Binds X.K fd ps ds) (hd : Vals dvs ds) (hx : Passes CX X E)
  (ha : PA X (e :: es) t) (hdb : (x == ("__debug__" : Str)) = false := by decide) (he : starEach (e :: es) X.env = (false, eval e X.env) :: starEach es X.env := by rfl) (hpl : (backTo pos (starEach es X.env)).any (·.1) = false := by rfl) (hcm : Calm CX X.A := by first | assumption | exact Or.inl rfl | exact Or.inr (by assumption)) :
  PE X (.Call (.Name x p) (e :: es) [] pos) (tCall sp dvs E t) := by
 intro pins s σ H Q I h
 refine wpAny_Call_Name_kw (ld_glob I hg hm ?_ hdb)
 refine PySem.W.callWith_K (h₀ := X.base) I.ok.mod.kin hk (thn (ha pos pins s σ H _ I h) fun us s1 ⟨vs, H1, I1, r, q⟩ => ⟨I1.kIn, ?_⟩) he hpl
 exact run_fn F hr hb hd hx I1 r q
theorem pe_call0 (F : FnOk X.prog X.w X.K X.mg X.base CX k f fd ps sp) (hr : Room k X.A) (hg : Gl X x) (hm : X.mg x = some (.ref f)) (hk : PySem.W.keepIn X.K (.ref f) = true) (hb : Binds X.K fd ps ds) (hd : Vals dvs ds) (hx : Passes CX X E)
  (hdb : (x == ("__debug__" : Str)) = false := by decide) (hcm : Calm CX X.A := by first | assumption | exact Or.inl rfl | exact Or.inr (by assumption)) : PE X (.Call (.Name x p) [] [] pos) (tCall sp dvs E tNil) := by
 intro pins s σ H Q I h
 refine wpAny_Call_Name_kw (ld_glob I hg hm ?_ hdb)
 exact PySem.W.callWith_K0 I.kIn hk (run_fn (us := []) F hr hb hd hx I .nil h)
theorem pe_meth {pl : Sem Bool} (he : PE X o ta) (c : Cls X.K C) (hm : Meth X.K C m f) (F : FnOk X.prog X.w X.K X.mg X.base CX k f fd ps sp) (hr : Room k X.A) (hb : Binds X.K fd ps ds) (hd : Vals dvs ds) (hx : Passes CX X E) (ha : PA X (e :: es) t)
  (hst : starEach (e :: es) X.env = (false, eval e X.env) :: starEach es X.env := by rfl) (hpl : (backTo pos (starEach es X.env)).any (·.1) = false := by rfl)
  (ht : eval (.Call (.Attribute o m apos) (e :: es) [] pos) X.env = (do
   let ov ← eval o X.env
   standAt apos.atName
   let (f, first) ← holding [ov] (getMethod ov m pl)
   callWith pos f first (backTo pos (starEach (e :: es) X.env)) (backToKw pos (keywordEach [] X.env))) := by rfl) (hcm : Calm CX X.A := by first | assumption | exact Or.inl rfl | exact Or.inr (by assumption)) :
  PE X (.Call (.Attribute o m apos) (e :: es) [] pos) (tMeth C m sp dvs E ta t) := by
 intro pins s σ H Q I h
 refine PySem.W.methodCall_KW (pl := pl) (thn (he pins s σ H _ I h) fun u s1 ⟨x, H1, I1, rx, a, dx, fs, ex, ea, l, q⟩ => ?_) ht
 subst ex
 obtain rfl : u = Value.ref a := rx
 refine getmeth_ok I1 ea c hm l ?_
 refine PySem.W.callWith_K (first := [.ref a]) (h₀ := X.base) I.ok.mod.kin hm.kp (thn (ha pos pins s1 σ H1 _ I1 q) fun us s2 ⟨vs, H2, I2, r, q2⟩ => ⟨I2.kIn, ?_⟩) hst hpl
 exact run_fn (us := .ref a :: us) (vs := .ref a :: vs) F hr hb hd hx I2 (.cons rfl r) q2
theorem pe_meth0 {pl : Sem Bool} (he : PE X o ta) (c : Cls X.K C) (hm : Meth X.K C m f) (F : FnOk X.prog X.w X.K X.mg X.base CX k f fd ps sp) (hr : Room k X.A) (hb : Binds X.K fd ps ds) (hd : Vals dvs ds) (hx : Passes CX X E)
  (ht : eval (.Call (.Attribute o m apos) [] [] pos) X.env = (do
   let ov ← eval o X.env
   standAt apos.atName
   let (f, first) ← holding [ov] (getMethod ov m pl)
   callWith pos f first (backTo pos (starEach [] X.env)) (backToKw pos (keywordEach [] X.env))) := by rfl) (hcm : Calm CX X.A := by first | assumption | exact Or.inl rfl | exact Or.inr (by assumption)) :
  PE X (.Call (.Attribute o m apos) [] [] pos) (tMeth C m sp dvs E ta tNil) := by
 intro pins s σ H Q I h
 refine PySem.W.methodCall_KW (pl := pl) (thn (he pins s σ H _ I h) fun u s1 ⟨x, H1, I1, rx, a, dx, fs, ex, ea, l, q⟩ => ?_) ht
 subst ex
 obtain rfl : u = Value.ref a := rx
 refine getmeth_ok I1 ea c hm l ?_
 exact PySem.W.callWith_K0 (first := [.ref a]) I1.kIn hm.kp (run_fn (us := [.ref a]) (vs := [.ref a]) F hr hb hd hx I1 (.cons rfl .nil) q)
structure Mk (K : PySem.W.Frag) (C f : Addr) : Prop where
 makes : PySem.W.makesIn K C = true
 init : PySem.W.findIn K (.ref C) "__init__" = some (some (.ref f))
 fn : PySem.W.isFn K (.ref f) = true
 kp : PySem.W.keepIn K (.ref C) = true
theorem run_make {pins : List (Addr × Obj)} {σ : St} {H : Hp} {s : Shared} {Q : VK} {us : List Value} {vs : List V} (M : Mk X.K C f) (F : FnOk X.prog X.w X.K X.mg X.base CX k f fd ps sp) (hr : Room (k + 1) X.A) (hb : Binds X.K fd ps ds) (hd : Vals dvs ds)
  (hx : Passes CX X E) (I : Inv X pins σ H s) (r : Vals vs us)
  (h : ∀ x dx, H x = none → H dx = none → dx ≠ x → sp (.ref x :: (vs ++ dvs)) (upd (upd H dx (.own x)) x (.ins C dx [])) (fun v H2 => v = .non ∧ Q (.ref x) H2) E) (hcm : Calm CX X.A := by first | assumption | exact Or.inl rfl | exact Or.inr (by assumption)) :
  wpAny (model X.prog X.w) X.A (call (.ref C) us) (EP X pins σ Q) X.xe s := by
 have hq := h (s.heap.objs.size + 1) s.heap.objs.size (I.hok.fresh (Nat.le_succ _)) (I.hok.fresh (Nat.le_refl _)) (Nat.ne_of_lt (Nat.lt_succ_self _))
 have I2 := Inv.made (C := C) I
 have r2 : Vals (V.ref (s.heap.objs.size + 1) :: (vs ++ dvs)) (Value.ref (s.heap.objs.size + 1) :: (us ++ ds)) := .cons rfl (r.append hd)
 have hl : (Value.ref (s.heap.objs.size + 1) :: us ++ ds).length = ps.length := by
  have e := r2.length
  rw [F.len _ _ _ _ hq] at e
  exact e.symm
 refine wpAny_call (make_map (f := f) I.kIn M.makes M.init (beq_iff_eq.mp M.fn) (codeAny_mono (F.run _ X.stack _ _ ⟨Value.ref (s.heap.objs.size + 1) :: us, []⟩ (Value.ref (s.heap.objs.size + 1) :: (us ++ ds)) _ _ E (hr.make C us []) (show Calm CX _ from hcm)
  (I2.env0.make C us []) (hb _ (Value.ref (s.heap.objs.size + 1) :: us) I2.kIn hl) r2 hq) fun r s' hq' => ?_))
 cases r with
 | error e => exact hx pins σ _ _ e s' I2 hq'
 | ok fl =>
  cases fl with
  | ret u =>
   obtain ⟨v, H', I3, rv, ev, q3⟩ := I2.after hq'
   subst ev
   exact ⟨rv, ⟨V.ref (s.heap.objs.size + 1), H', I3, rfl, q3⟩⟩
  | next => exact False.elim hq'
  | brk => exact False.elim hq'
  | cont => exact False.elim hq'
theorem pe_make (M : Mk X.K C f) (F : FnOk X.prog X.w X.K X.mg X.base CX k f fd ps sp) (hr : Room (k + 1) X.A) (hg : Gl X x) (hm : X.mg x = some (.ref C)) (hb : Binds X.K fd ps ds) (hd : Vals dvs ds) (hx : Passes CX X E)
  (ha : PA X (e :: es) t) (hdb : (x == ("__debug__" : Str)) = false := by decide) (he : starEach (e :: es) X.env = (false, eval e X.env) :: starEach es X.env := by rfl) (hpl : (backTo pos (starEach es X.env)).any (·.1) = false := by rfl) (hcm : Calm CX X.A := by first | assumption | exact Or.inl rfl | exact Or.inr (by assumption)) :
  PE X (.Call (.Name x p) (e :: es) [] pos) (tMake C sp dvs E t) := by
 intro pins s σ H Q I h
 refine wpAny_Call_Name_kw (ld_glob I hg hm ?_ hdb)
 refine PySem.W.callWith_K (h₀ := X.base) I.ok.mod.kin M.kp (thn (ha pos pins s σ H _ I h) fun us s1 ⟨vs, H1, I1, r, q⟩ => ⟨I1.kIn, ?_⟩) he hpl
 exact run_make M F hr hb hd hx I1 r q
end
section
variable {X : Cx} {CX : CXT} {k : Nat} {f C : Addr} {fd : FuncData} {ps ks : List Str} {sp : Sp} {E : XK} {x m : Str} {p pos apos kpos : Pos} {e o : Expr} {es : List Expr} {kws : List Keyword} {te ta : TE} {t tk : TA} {nm : Option Str}
variable {g : List Value → List Value → List Value} {gV : List V → List V → List V}
end
structure FnScope (N P : List Str) (sc : Scope) : Prop where
 kind : sc.kind = .function
 co : sc.isCoroutine = false
 gen : sc.isGenerator = false
 nd : N.Nodup
 pre : N.take P.length = P
 par : ∀ x ∈ P, sc.names.lookup x = some .local ∨ sc.names.lookup x = some .cell
 nofree : ∀ y ∈ sc.names, y.2 ≠ .free
theorem bindL_out {kindOf : Str → Option NameKind} {x : Str} : ∀ {binds : List (Str × Value)} {m : Str → Option Value}, (∀ v, (x, v) ∉ binds) → bindL kindOf binds m x = m x
 | [], _, _ => rfl
 | (n, v) :: r, m, h => by
  unfold bindL
  rw [bindL_out fun w hw => h w (List.mem_cons_of_mem _ hw)]
  split
  ·have : x ≠ n := by rintro rfl; exact h v List.mem_cons_self
   simp [this]
  ·rfl
theorem bindC_out {kindOf : Str → Option NameKind} {x : Str} : ∀ {binds : List (Str × Value)} {m : Str → Option Value}, (∀ v, (x, v) ∉ binds) → bindC kindOf binds m x = m x
 | [], _, _ => rfl
 | (n, v) :: r, m, h => by
  unfold bindC
  rw [bindC_out fun w hw => h w (List.mem_cons_of_mem _ hw)]
  split
  ·rfl
  ·have : x ≠ n := by rintro rfl; exact h v List.mem_cons_self
   simp [this]
theorem bindL_get {kindOf : Str → Option NameKind} {x : Str} {v : Value} : ∀ {P : List Str} {vs : List Value} {i : Nat} {m : Str → Option Value}, P.Nodup → P[i]? = some x → vs[i]? = some v → kindOf x = some .local →
  bindL kindOf (P.zip vs) m x = some v
 | [], _, _, _, _, h, _, _ => by simp at h
 | _ :: _, [], _, _, _, _, h, _ => by simp at h
 | p :: P, w :: vs, 0, m, nd, h1, h2, hk => by
  simp at h1 h2; subst h1; subst h2
  show bindL kindOf ((p, w) :: P.zip vs) m p = _
  unfold bindL
  rw [bindL_out fun v hv => (List.nodup_cons.mp nd).1 (List.of_mem_zip hv).1, if_pos hk]
  simp
 | p :: P, w :: vs, i + 1, m, nd, h1, h2, hk => by
  show bindL kindOf ((p, w) :: P.zip vs) m x = _
  unfold bindL
  exact bindL_get (i := i) (List.nodup_cons.mp nd).2 (by simpa using h1) (by simpa using h2) hk
theorem bindC_get {kindOf : Str → Option NameKind} {x : Str} {v : Value} : ∀ {P : List Str} {vs : List Value} {i : Nat} {m : Str → Option Value}, P.Nodup → P[i]? = some x → vs[i]? = some v → kindOf x ≠ some .local →
  bindC kindOf (P.zip vs) m x = some v
 | [], _, _, _, _, h, _, _ => by simp at h
 | _ :: _, [], _, _, _, _, h, _ => by simp at h
 | p :: P, w :: vs, 0, m, nd, h1, h2, hk => by
  simp at h1 h2; subst h1; subst h2
  show bindC kindOf ((p, w) :: P.zip vs) m p = _
  unfold bindC
  rw [bindC_out fun v hv => (List.nodup_cons.mp nd).1 (List.of_mem_zip hv).1, if_neg hk]
  simp
 | p :: P, w :: vs, i + 1, m, nd, h1, h2, hk => by
  show bindC kindOf ((p, w) :: P.zip vs) m x = _
  unfold bindC
  exact bindC_get (i := i) (List.nodup_cons.mp nd).2 (by simpa using h1) (by simpa using h2) hk
def start (N : List Str) (vs : List V) : St := vs.map some ++ List.replicate (N.length - vs.length) none
def cxOf (CX : CXT) (P : Program) (w : World) (K : PySem.W.Frag) (mg : Str → Option Value) (base : Heap) (N : List Str) (qual : Str) (scope : Scope) (f : Addr) (cd : Value) (A : Around) (outer : List Env) (s : Shared) (H : Hp) (E : XK) : Cx where
 prog := P
 w := w
 K := K
 mg := mg
 base := base
 A := A.deeper (envOfC qual scope s.heap.objs.size f cd)
 N := N
 s₀ := s
 H₀ := H
 env := envOfC qual scope s.heap.objs.size f cd
 outer := outer
 stack := envOfC qual scope s.heap.objs.size f cd :: outer
 ex := []
 calm := true
 fn := fun _ => true
 pn := []
 tr := []
 fx := []
 xe := fun e s' => wpAny (model P w) (A.deeper (envOfC qual scope s.heap.objs.size f cd)) (leaving (envOfC qual scope s.heap.objs.size f cd) e) (fun _ s'' => CX outer H s E e s'') (fun e' s'' => CX outer H s E e' s'') s'
theorem cell_has {sc : Scope} {n : Nat} {x : Str} (h : sc.names.lookup x = some .cell) : ∃ c, (cellsFrom n sc.names []).lookup x = some c := by
 have q := PySem.W.cellsFrom_some sc.names n [] (.inl h)
 exact Option.isSome_iff_exists.mp q
theorem inv_start {CX : CXT} {P : Program} {w : World} {K : PySem.W.Frag} {mg : Str → Option Value} {base : Heap} {N ps : List Str} {qual : Str} {scope : Scope} {f : Addr} {cd : Value} {A : Around} {outer : List Env} {s s1 : Shared} {H : Hp} {E : XK} {us : List Value} {vs : List V}
  (S : FnScope N ps scope) (e0 : Env0 P w K mg base A outer s H) (hl : vs.length = ps.length) (r : Vals vs us)
  (x : InCallC s s.heap.objs.size (bindL (envOfC qual scope s.heap.objs.size f cd).kindOf (ps.zip us) fun _ => none) (cellsFrom (s.heap.objs.size + 1) scope.names []) (bindC (envOfC qual scope s.heap.objs.size f cd).kindOf (ps.zip us) fun _ => none) s1) :
  Inv (cxOf CX P w K mg base N qual scope f cd A outer s H E) [] (start N vs) H s1 := by
 have hpl : ps.length ≤ N.length := by have := congrArg List.length S.pre; rw [List.length_take] at this; omega
 obtain ⟨h1, tk, rfl, hk⟩ := x.done
 have noA : ∀ b : Addr, b ∉ (cxOf CX P w K mg base N qual scope f cd A outer s H E).ex := fun b z => absurd (show b ∈ ([] : List Addr) from z) (by simp)
 have hdX : A.handled = none ∨ ∃ (e : Addr) (c : Value), A.handled = some (.ref e) ∧ (H e = some (.exc c) ∨ (e, c) ∈ (cxOf CX P w K mg base N qual scope f cd A outer s H E).tr) := by
  rcases e0.hd with z | ⟨e, c, z1, z2⟩
  ·exact .inl z
  ·exact .inr ⟨e, c, z1, .inl z2⟩
 refine ⟨⟨e0.mod, S.kind, rfl, rfl, Nat.le_refl _, fun y z c h1 h2 => ?_, fun y hy => ?_, fun y c _ h => ?_, hdX, Around.frames_deeper e0.frames, .inr ⟨rfl, rfl⟩, fun b z => absurd z (noA b), e0.bs, e0.bsz, fun b _ _ => noA b, fun b z => absurd z (noA b), e0.funs, e0.frf⟩,
  rfl, e0.bare, Un.kept hk, ⟨_, x.toInCall.ns, fun i y v h1 h2 h3 => ?_⟩, fun y c h => ⟨_, x.cell y c h⟩, e0.hok.fresh (Nat.le_refl _), fun y c h => ?_, fun p hp => absurd (show p ∈ ([] : List (Addr × Obj)) from hp) (by simp), e0.hok.kept hk, ?_, fun p hp => absurd (show p ∈ ([] : List (Addr × Value)) from hp) (by simp), fun p hp => absurd (show p ∈ ([] : List (Str × Value)) from hp) (by simp)⟩
 ·exact name_of_addr x.apart (PySem.mem_of_lookup h1) (PySem.mem_of_lookup h2)
 ·have hy : scope.names.lookup y = some .cell ∨ scope.names.lookup y = some .free := hy
  rcases hy with hy | hy
  ·exact cell_has hy
  ·exact absurd rfl (S.nofree _ (PySem.mem_of_lookup hy))
 ·exact Nat.le_of_lt (x.above y c (PySem.mem_of_lookup h))
 ·have hi : i < vs.length := by
   unfold start at h2
   by_cases hi : i < vs.length
   ·exact hi
   ·rw [List.getElem?_append_right (by simpa using hi)] at h2
    rw [List.getElem?_replicate] at h2
    split at h2 <;> cases h2
  have ha : vs[i]? = some v := by
   unfold start at h2
   rw [List.getElem?_append_left (by simpa using hi), List.getElem?_map] at h2
   cases e : vs[i]? with
   | none => rw [e] at h2; cases h2
   | some a => rw [e] at h2; cases h2; rfl
  obtain ⟨u, hu, rv⟩ := r.get ha
  have hp : ps[i]? = some y := by
   rw [← S.pre, List.getElem?_take_of_lt (by omega)]; exact h1
  have ndP : ps.Nodup := by rw [← S.pre]; exact S.nd.sublist (List.take_sublist _ _)
  refine ⟨u, rv, ?_⟩
  rcases S.par y (List.mem_of_getElem? hp) with k | k
  ·exact .inl ⟨k, bindL_get ndP hp hu k⟩
  ·obtain ⟨c, e⟩ := cell_has (n := s.heap.objs.size + 1) k
   refine .inr ⟨.inl k, c, e, ?_⟩
   have q := x.cell y c e
   rw [bindC_get ndP hp hu (by show scope.names.lookup y ≠ _; rw [k]; decide)] at q
   exact q
 ·exact e0.hok.fresh (Nat.le_of_lt (x.above y c (PySem.mem_of_lookup h)))
 ·unfold start
  show _ = N.length
  rw [List.length_append, List.length_map, List.length_replicate]
  omega
theorem fn_of {CX : CXT} {P : Program} {w : World} {K : PySem.W.Frag} {mg : Str → Option Value} {base : Heap} {k : Nat} {f : Addr} {name qual : Str} {params : Arguments} {body : List Stmt} {scope : Scope} {dV kV doc pm cdv ct oc : Value} {an od : Option Addr}
  {osl : Array (Option Value)} {N ps : List Str} {sp : Sp} (lk : K.lookup f = some ⟨oc, od, .func (PySem.W.fnOf name qual params body scope dV kV doc pm an cdv ct), osl⟩) (hcd : PySem.W.codeIn K cdv qual = true) (S : FnScope N ps scope)
  (len : ∀ vs H Q E, sp vs H Q E → vs.length = ps.length)
  (hbody : ∀ (A : Around) (outer : List Env) (s : Shared) (H : Hp) (vs : List V) (Q : VK) (E : XK), Room k (A.deeper (envOfC qual scope s.heap.objs.size f cdv)) → Calm CX A → sp vs H Q E →
   ∃ t, PSs (cxOf CX P w K mg base N qual scope f cdv A outer s H E) body t ∧ t { nx := fun _ H' => Q .non H', rt := Q } (start N vs) H) :
  FnOk P w K mg base CX (k + 1) f (PySem.W.fnOf name qual params body scope dV kV doc pm an cdv ct) ps sp := by
 refine ⟨len, fun A outer s H args us vs Q E hr hcm e0 hb r hsp => ?_⟩
 have hl := len _ _ _ _ hsp
 have KX : K.In s.heap := e0.mod.kin.keeps fun b o e => (e0.bs b o e).1
 have lim : s.heap.NoLimit := e0.mod.nolimit.keeps fun b o e => (e0.bs b o e).1
 have hkind : ∀ y ∈ ps.zip us, scope.names.lookup y.1 = some .local ∨ (scope.names.lookup y.1 = some .cell ∧ ((cellsFrom (s.heap.objs.size + 1) scope.names []).lookup y.1).isSome = true) := fun ⟨n, v⟩ hy => by
  rcases S.par n (List.of_mem_zip hy).1 with q | q
  ·exact .inl q
  ·exact .inr ⟨q, PySem.W.cellsFrom_some _ _ _ (.inl q)⟩
 refine codeAny_call_function hr.depth (KX _ _ lk) rfl S.co S.gen rfl (PySem.W.codeRec_of KX hcd) (hb _ _ _ _ ?_)
 refine wpAny_newFunctionEnv_cells S.kind hkind fun env he s1 x => ?_
 subst he
 refine ⟨lim.keeps x.toInCall.keep, codeAny_func ?_⟩
 obtain ⟨t, ht, hq⟩ := hbody A outer s H vs Q E (hr.deeper _) hcm hsp
 have I : Inv (cxOf CX P w K mg base N qual scope f cdv A outer s H E) [] (start N vs) H s1 := inv_start S e0 hl r x
 refine wpAny_mono (ht [] s1 (start N vs) H _ I hq) (fun fl s' hs => ?_) fun e s' hs => hs
 have fin : ∀ {σ' : St} {H' : Hp} {v : V} {u : Value}, Inv (cxOf CX P w K mg base N qual scope f cdv A outer s H E) [] σ' H' s' → RelV v u → Q v H' → CE outer P w H s Q u s' :=
  fun {σ' H' v u} J rv q => ⟨v, H', J.os, J.bare, J.base, J.hok, rv, q⟩
 cases fl with
 | ret u =>
  obtain ⟨v, σ', H', J, rv, q⟩ := hs
  exact fin J rv q
 | next =>
  obtain ⟨σ', H', J, q⟩ := hs
  exact fin (v := V.non) (u := Value.none) J rfl q
 | brk =>
  obtain ⟨_, _, _, q⟩ := hs
  exact False.elim q
 | cont =>
  obtain ⟨_, _, _, q⟩ := hs
  exact False.elim q
end L2
namespace L2
open PySem PySem.Spec PyProof.Rows
section
variable {X : Cx} {x : Str} {p pos : Pos} {e : Expr} {es : List Expr} {t : TA} {id T : String} {r : List V → Hp → VK → Prop}
def tCB (r : List V → Hp → VK → Prop) (t : TA) : TE := fun σ H Q => t σ H fun vs H1 => r vs H1 Q
theorem pe_callB (hc : CallR X (.builtin id) r) (hg : Gl X x) (hm : X.mg x = none) (hv : bootBuiltins x = some (.builtin id)) (ha : PA X (e :: es) t) (hn : x ≠ "__name__" := by decide) (hdb : (x == ("__debug__" : Str)) = false := by decide)
  (he : starEach (e :: es) X.env = (false, eval e X.env) :: starEach es X.env := by rfl) (hpl : (backTo pos (starEach es X.env)).any (·.1) = false := by rfl) : PE X (.Call (.Name x p) (e :: es) [] pos) (tCB r t) := by
 intro pins s σ H Q I h
 refine wpAny_Call_Name_kw (ld_blt I hg hm hv ?_ hn hdb)
 exact PyProof.Rows.callWith_builtin1 (thn (ha pos pins s σ H _ I h) fun us s1 ⟨vs, H1, I1, r1, q1⟩ => hc pins s1 σ H1 vs us Q I1 r1 q1) he hpl
theorem pe_callTy (hc : CallR X (.type T) r) (hg : Gl X x) (hm : X.mg x = none) (hv : bootBuiltins x = some (.type T)) (ha : PA X (e :: es) t) (hn : x ≠ "__name__" := by decide) (hdb : (x == ("__debug__" : Str)) = false := by decide)
  (he : starEach (e :: es) X.env = (false, eval e X.env) :: starEach es X.env := by rfl) (hpl : (backTo pos (starEach es X.env)).any (·.1) = false := by rfl) : PE X (.Call (.Name x p) (e :: es) [] pos) (tCB r t) := by
 intro pins s σ H Q I h
 refine wpAny_Call_Name_kw (ld_blt I hg hm hv ?_ hn hdb)
 exact PyProof.Rows.callWith_type1 (thn (ha pos pins s σ H _ I h) fun us s1 ⟨vs, H1, I1, r1, q1⟩ => hc pins s1 σ H1 vs us Q I1 r1 q1) he hpl
end
end L2
namespace HT
open PySem PyProof.Rows
section
open PySem.SeqAt
open PySem.AutoSeq1 (wpAny_loadPart')
open PySem.MeetsSeq PySem.MeetsSeq2 PySem.MeetsSeq3
end
section
variable {prog : Program} {w : World} {A : Around} {E : Value → Shared → Prop} {s : Shared}
def sIx (n d : Nat) : Option Int → Nat
 | none => d
 | some v => if v < 0 then (v + (n : Int)).toNat else min v.toNat n
theorem sIx_none (n d : Nat) : sIx n d none = d := rfl
theorem sIx_nat (n d k : Nat) : sIx n d (some (k : Int)) = min k n := by
 show (if (k : Int) < 0 then ((k : Int) + (n : Int)).toNat else min (k : Int).toNat n) = min k n
 rw [if_neg (by omega), Int.toNat_natCast]
end
end HT
namespace L2
open PySem PySem.Spec PyProof.Rows
abbrev TO := St → Hp → (Option Int → Hp → Prop) → Prop
def PO (X : Cx) (e : Option Expr) (t : TO) : Prop :=
 ∀ (pins : List (Addr × Obj)) (s : Shared) (σ : St) (H : Hp) (Q : Option Int → Hp → Prop), Inv X pins σ H s → t σ H Q →
  wpAny (model X.prog X.w) X.A (evalPart e X.env) (fun u s' => ∃ o H', Inv X pins σ H' s' ∧ IsPart u o ∧ Q o H') X.xe s
def tNoPart : TO := fun _ H Q => Q none H
def tPart (t : TE) : TO := fun σ H Q => t σ H fun x H1 => ∃ i, x = .int i ∧ Q (some i) H1
theorem intsAre_of {ns : List Int} : ∀ {us : List Value}, Vals (ns.map V.int) us → IntsAre us ns := by
 induction ns with
 | nil => intro us r; rw [List.map_nil] at r; cases r; exact .nil
 | cons n ns ih =>
  intro us r
  rw [List.map_cons] at r
  cases r with
  | cons r1 r2 =>
   obtain ⟨t, e⟩ := r1
   subst e
   exact .cons n t (ih r2)
section
variable {X : Cx} {e : Expr} {te : TE} {lo hi : Option Expr} {tl th : TO} {pos p2 : Pos}
theorem po_none : PO X none tNoPart := by
 intro pins s σ H Q I h
 rw [evalPart_none]
 exact wpAny_pure ⟨none, H, I, .none, h⟩
theorem po_some (h : PE X e te) : PO X (some e) (tPart te) := by
 intro pins s σ H Q I hw
 rw [evalPart_some]
 refine thn (h pins s σ H _ I hw) fun u s1 ⟨x, H1, I1, r1, q1⟩ => ?_
 obtain ⟨i, rfl, q⟩ := q1
 obtain ⟨t, rfl⟩ := r1
 exact ⟨some i, H1, I1, .int i t, q⟩
def SlR (X : Cx) (r : V → Option Int → Option Int → Hp → VK → Prop) : Prop :=
 ∀ (pins : List (Addr × Obj)) (s : Shared) (σ : St) (H : Hp) (x : V) (v vl vu : Value) (lo hi : Option Int) (sl : Addr) (Q : VK), Inv X pins σ H s → RelV x v → s.heap.IsSliceOf sl vl vu .none → IsPart vl lo → IsPart vu hi → r x lo hi H Q →
  ∃ T id, typeLookup (.type T) "__getitem__" = pure (some (.builtin id)) ∧ s.TypeIs v T ∧ wpAny (model X.prog X.w) X.A (getItem v (.ref sl)) (EP X pins σ Q) X.xe s
def tSl (r : V → Option Int → Option Int → Hp → VK → Prop) (te : TE) (tl th : TO) : TE := fun σ H Q => te σ H fun x H1 => tl σ H1 fun l H2 => th σ H2 fun u H3 => r x l u H3 Q
theorem pe_slice {r : V → Option Int → Option Int → Hp → VK → Prop} (hr : SlR X r) (he : PE X e te) (hl : PO X lo tl) (hu : PO X hi th) : PE X (.Subscript e (.Slice lo hi none p2) pos) (tSl r te tl th) := by
 intro pins s σ H Q I h
 refine Subscript_ (thn (he pins s σ H _ I h) fun v s1 ⟨x, H1, I1, r1, q1⟩ => ?_)
 refine wpAny_Slice (thn (hl pins s1 σ H1 _ I1 q1) fun vl s2 ⟨l, H2, I2, pl, q2⟩ => thn (hu pins s2 σ H2 _ I2 q2) fun vu s3 ⟨u, H3, I3, pu, q3⟩ => ?_)
 rw [evalPart_none]
 refine wpAny_pure ?_
 have I4 : Inv X pins σ H3 { s3 with heap := s3.heap.push { cls := .type "slice", data := .fields #[vl, vu, .none] } } := I3.kept (t' := s3.toks) fun b ob q => Heap.get?_push_of_some _ q
 obtain ⟨T, id, hT, ht, hg⟩ := hr pins { s3 with heap := s3.heap.push { cls := .type "slice", data := .fields #[vl, vu, .none] } } σ H3 x v vl vu l u s3.heap.objs.size Q I4 r1 (Heap.IsSliceOf.new ..) pl pu q3
 show wpAny (model X.prog X.w) X.A (subscriptTail e (.Slice lo hi none p2) v (.ref s3.heap.objs.size)) (EP X pins σ Q) X.xe { s3 with heap := s3.heap.push { cls := .type "slice", data := .fields #[vl, vu, .none] } }
 exact tail_any (ops := [.ref s3.heap.objs.size, v]) ht hT hg (by with_unfolding_all rfl)
def cutV (xs : List V) (lo hi : Option Int) : List V := (xs.drop (HT.sIx xs.length 0 lo)).take (HT.sIx xs.length xs.length hi - HT.sIx xs.length 0 lo)
theorem cutV_length (xs : List V) (lo hi : Option Int) : (cutV xs lo hi).length ≤ xs.length := by
 unfold cutV
 rw [List.length_take, List.length_drop]
 omega
end
end L2
namespace L2
open PySem PySem.Spec PyProof.Rows
def ixN (n : Nat) (i : Int) : Option Nat := if 0 ≤ i then (if i < n then some i.toNat else none) else if -(n : Int) ≤ i then some (i + n).toNat else none
def atI {α : Type} (xs : List α) (i : Int) : Option α := (ixN xs.length i).bind fun j => xs[j]?
theorem ixN_seq {n : Nat} {i : Int} {j : Nat} (h : ixN n i = some j) : seqIndex? i n = some j ∧ j < n ∧ -(n : Int) ≤ i ∧ i < n := by
 unfold ixN at h
 by_cases h0 : 0 ≤ i
 ·rw [if_pos h0] at h
  by_cases h1 : i < n
  ·rw [if_pos h1] at h
   have e : i.toNat = j := Option.some.inj h
   exact ⟨by rw [seqIndex_of h0 h1, e], by omega, by omega, h1⟩
  ·rw [if_neg h1] at h; cases h
 ·rw [if_neg h0] at h
  by_cases h1 : -(n : Int) ≤ i
  ·rw [if_pos h1] at h
   have e : (i + n).toNat = j := Option.some.inj h
   exact ⟨by rw [seqIndex_neg (by omega) h1, e], by omega, h1, by omega⟩
  ·rw [if_neg h1] at h; cases h
theorem atI_get {α : Type} {xs : List α} {i : Int} {v : α} (h : atI xs i = some v) : ∃ j, seqIndex? i xs.length = some j ∧ xs[j]? = some v ∧ j < xs.length ∧ -(xs.length : Int) ≤ i ∧ i < xs.length := by
 unfold atI at h
 cases e : ixN xs.length i with
 | none => rw [e] at h; cases h
 | some j =>
  rw [e] at h
  obtain ⟨h1, h2, h3, h4⟩ := ixN_seq e
  exact ⟨j, h1, h, h2, h3, h4⟩
theorem atI_nat {α : Type} {xs : List α} {j : Nat} {v : α} (h : xs[j]? = some v) : atI xs (j : Int) = some v := by
 have hj : j < xs.length := (List.getElem?_eq_some_iff.mp h).1
 have e : ixN xs.length (j : Int) = some j := by
  unfold ixN
  rw [if_pos (by omega), if_pos (by omega)]; simp
 unfold atI; rw [e]; exact h
theorem atI_last {α : Type} (xs : List α) (v : α) : atI (xs ++ [v]) (-1) = some v := by
 have hl : (xs ++ [v]).length = xs.length + 1 := by simp
 have e : ixN (xs ++ [v]).length (-1) = some xs.length := by
  unfold ixN
  rw [hl, if_neg (by decide), if_pos (by omega)]
  congr 1
  omega
 unfold atI
 rw [e]
 show (xs ++ [v])[xs.length]? = some v
 simp
def PlainIx (b : Expr) : Prop := ∀ o i, subscripted b false o i = operate [o, i] (getItem o i)
def IxR (X : Cx) (r : R2) : Prop :=
 ∀ (value slice : Expr) (pins : List (Addr × Obj)) (s : Shared) (σ : St) (H : Hp) (x y : V) (v u : Value) (Q : VK), Inv X pins σ H s → RelV x v → RelV y u → r x y H Q →
  subscripted slice false v u = operate [v, u] (getItem v u) → wpAny (model X.prog X.w) X.A (subscriptTail value slice v u) (EP X pins σ Q) X.xe s
def MtR (X : Cx) (id : String) (r : V → List V → Hp → VK → Prop) : Prop :=
 ∀ (pins : List (Addr × Obj)) (s : Shared) (σ : St) (H : Hp) (x : V) (xs : List V) (v : Value) (us : List Value) (Q : VK), Inv X pins σ H s → RelV x v → Vals xs us → r x xs H Q →
  wpAny (model X.prog X.w) X.A (call (.builtin id) (v :: us)) (EP X pins σ Q) X.xe s
section
variable {X : Cx} {a b : Expr} {ta tb : TE} {pos : Pos}
theorem pe_ix {r : R2} (hr : IxR X r) (ha : PE X a ta) (hb : PE X b tb) (hs : PlainIx b) : PE X (.Subscript a b pos) (tOp r ta tb) := by
 intro pins s σ H Q I h
 exact Subscript_ (binT ha hb I h fun v u s2 x y H2 I2 rx ry q => hr a b pins s2 σ H2 x y v u Q I2 rx ry q (hs _ _))
def rIxL (K : PySem.W.Frag) : R2 := fun x y H Q => ∃ p xs i v, x = .ref p ∧ y = .int i ∧ SqL K H p xs ∧ atI xs i = some v ∧ Q v H
theorem ix_list : IxR X (rIxL X.K) := by
 intro value slice pins s σ H x y v u Q I rx ry h hs
 obtain ⟨p, xs, i, z, rfl, rfl, hq, he, q⟩ := h
 cases rx
 obtain ⟨t, rfl⟩ := ry
 obtain ⟨its, r, pl, hz⟩ := I.list hq
 obtain ⟨j, h1, h2, h3, h4, h5⟩ := atI_get he
 obtain ⟨w, ew, rw'⟩ := r.get h2
 have hl := r.length
 have hn := line63
 have fin : EP X pins σ Q w s := ⟨z, H, I, rw', q⟩
 by_cases h0 : 0 ≤ i
 ·have hj : i.toNat = j := by
   rw [seqIndex_of h0 h5] at h1
   exact Option.some.inj h1
  exact item_listR pl.isList h0 (by omega) (by rw [hj]; simpa using ew) fin hs
 ·have hj : (i + (its.toArray.size : Int)).toNat = j := by
   rw [seqIndex_neg (by omega) h4] at h1
   rw [List.size_toArray, ← hl]
   exact Option.some.inj h1
  exact subscriptTail_builtinR (x := w) pl.isList.typeIs slot_list_getitem.lookup
   (wpAny_getItem_list_neg (Q := fun r s' => r = w ∧ EP X pins σ Q r s') pl.isList (by omega) (by rw [List.size_toArray] <;> omega) (by omega) (by rw [hj]; simpa using ew) ⟨rfl, fin⟩) hs
theorem mapSeq_set (its : List Value) (n j : Nat) (u : Value) : Obj.mapSeq (·.setIfInBounds j u) { cls := .type "list", data := .seq its.toArray n } = { cls := .type "list", data := .seq (its.set j u).toArray n } := by
 simp [Obj.mapSeq]
theorem Inv.lst {pins : List (Addr × Obj)} {σ : St} {H : Hp} {s : Shared} {p : Addr} {xs : List V} (I : Inv X pins σ H s) (h : H p = some (.lst xs)) :
  ∃ (its : List Value) (n : Nat), Vals xs its ∧ s.heap.get? p = some { cls := .type "list", data := .seq its.toArray n } ∧ xs.length ≤ sizeLine := by
 obtain ⟨z, its, n, r, e⟩ := I.hok p _ h
 exact ⟨its, n, r, e, z⟩
theorem Inv.lstUpd {pins : List (Addr × Obj)} {σ : St} {H : Hp} {s : Shared} {p : Addr} {xs ys : List V} {its its' : List Value} {n n' : Nat} {f : Obj → Obj} (I : Inv X pins σ H s) (h : H p = some (.lst xs))
  (ho : s.heap.get? p = some { cls := .type "list", data := .seq its.toArray n }) (hf : f { cls := .type "list", data := .seq its.toArray n } = { cls := .type "list", data := .seq its'.toArray n' }) (r : Vals ys its') (hz : ys.length ≤ sizeLine) (t : Nat) :
  Inv X pins σ (upd H p (.lst ys)) { s with heap := s.heap.update p f, toks := t } := by
 have e : (s.heap.update p f).get? p = some { cls := .type "list", data := .seq its'.toArray n' } := by
  rw [Heap.get?_update_self f ho (by rw [hf] <;> rfl), hf]
 refine I.write (x := p) (e := p) (by rw [h]; trivial) (.inl rfl) (fun b u hb q => (Heap.get?_update_other _ _ (Ne.symm hb)).trans q) ⟨_, e⟩ ?_
 exact ⟨hz, its', n', r, e⟩
def rSetL : V → V → V → Hp → (Hp → Prop) → Prop := fun o i v H Q => ∃ p xs k j, o = .ref p ∧ i = .int k ∧ H p = some (.lst xs) ∧ ixN xs.length k = some j ∧ Q (upd H p (.lst (xs.set j v)))
theorem set_list : PSet X rSetL := by
 intro pins s σ H o i v ov iv u Q I ro ri rv h
 obtain ⟨p, xs, k, j, rfl, rfl, hp, hj, q⟩ := h
 cases ro
 obtain ⟨t, rfl⟩ := ri
 obtain ⟨its, n, r, ho, hz⟩ := I.lst hp
 obtain ⟨h1, h2, h3, h4⟩ := ixN_seq hj
 have hl := r.length
 have hn := line63
 have I' : Inv X pins σ (upd H p (.lst (xs.set j v))) { s with heap := s.heap.update p (Obj.mapSeq (·.setIfInBounds j u)) } :=
  I.lstUpd hp ho (mapSeq_set its n j u) (r.set rv j) (by rw [List.length_set]; exact hz) s.toks
 by_cases h0 : 0 ≤ k
 ·have hk : k.toNat = j := by
   rw [seqIndex_of h0 h4] at h1
   exact Option.some.inj h1
  exact PySem.W.ki_setAt ho h0 (by omega) (by rw [List.size_toArray, ← hl]; exact h4) (by rw [hk]; exact ⟨_, I', q⟩)
 ·have hk : (k + (its.toArray.size : Int)).toNat = j := by
   rw [seqIndex_neg (by omega) h3] at h1
   rw [List.size_toArray, ← hl]
   exact Option.some.inj h1
  exact PySem.W.ki_setBack ho (by omega) (by rw [List.size_toArray, ← hl]; exact h3) (by omega) (by rw [hk]; exact ⟨_, I', q⟩)
theorem slice_bounds (lo hi : Option Int) (n : Nat) : (sliceBounds lo hi none n).1 = ((HT.sIx n 0 lo : Nat) : Int) ∧ (sliceBounds lo hi none n).2.1 = ((HT.sIx n n hi : Nat) : Int) ∧ (sliceBounds lo hi none n).2.2 = 1 := by
 refine ⟨?_, ?_, rfl⟩
 ·cases lo with
  | none => simp [sliceBounds, HT.sIx]
  | some i =>
   simp only [sliceBounds, HT.sIx, Option.getD_none, show (1 : Int) > 0 by decide, if_true]
   by_cases h : i < 0
   ·simp only [h, if_true] <;> omega
   ·simp only [h, if_false] <;> omega
 ·cases hi with
  | none => simp [sliceBounds, HT.sIx]
  | some i =>
   simp only [sliceBounds, HT.sIx, Option.getD_none, show (1 : Int) > 0 by decide, if_true]
   by_cases h : i < 0
   ·simp only [h, if_true] <;> omega
   ·simp only [h, if_false] <;> omega
theorem slicePick_cut (its : List Value) (lo hi : Option Int) : slicePick its.toArray lo hi none = ((its.drop (HT.sIx its.length 0 lo)).take (HT.sIx its.length its.length hi - HT.sIx its.length 0 lo)).toArray := by
 obtain ⟨h1, h2, h3⟩ := slice_bounds lo hi its.toArray.size
 unfold slicePick
 rw [h1, h2, h3]
 simp only [sliceRange_one, pick_run, List.size_toArray] <;> rfl
def rSlL (K : PySem.W.Frag) : V → Option Int → Option Int → Hp → VK → Prop := fun x lo hi H Q => ∃ a xs, x = .ref a ∧ SqL K H a xs ∧ ∀ p, H p = none → Q (.ref p) (upd H p (.lst (cutV xs lo hi)))
theorem sl_list : SlR X (rSlL X.K) := by
 intro pins s σ H x v vl vu lo hi sl Q I rx hs pl pu h
 obtain ⟨a, xs, rfl, hx, q⟩ := h
 cases rx
 obtain ⟨its, r, ht, hz⟩ := I.list hx
 have hlen := r.length
 refine ⟨"list", _, slot_list_getitem.lookup, ht.isList.typeIs, ?_⟩
 refine wpAny_getItem_list_slice ht.isList hs pl pu .none (by simp) ?_ (by rw [List.size_toArray] <;> omega)
 rw [slicePick_cut, ← hlen]
 refine ⟨.ref s.heap.objs.size, _, I.laid (t' := s.toks) (o := .lst (cutV xs lo hi)) (fun b ob q => Heap.get?_push_of_some _ q) (Nat.le_refl _) ?_, rfl, q _ (I.hok.fresh (Nat.le_refl _))⟩
 exact ⟨Nat.le_trans (cutV_length xs lo hi) hz, _, 0, (r.drop (HT.sIx xs.length 0 lo)).take (HT.sIx xs.length xs.length hi - HT.sIx xs.length 0 lo), Heap.get?_push_size _ rfl⟩
def flatV : V → Bool
 | .non => true
 | .bl _ => true
 | .int _ => true
 | .str _ => true
 | _ => false
def eqV : V → V → Bool
 | .non, .non => true
 | .bl a, .bl b => a == b
 | .bl a, .int b => (if a then 1 else 0) == b
 | .int a, .bl b => a == (if b then 1 else 0)
 | .int a, .int b => a == b
 | .str a, .str b => a == b
 | _, _ => false
theorem eqAt_V {A : Around} {s : Shared} {y x : V} {u v : Value} (ry : RelV y u) (rx : RelV x v) (fy : flatV y = true) (fx : flatV x = true) : SeqAt.EqAt A s u v (eqV y x) := by
 cases y with
 | non =>
  cases ry
  cases x with
  | non => cases rx; exact SeqAt.EqAt.same _
  | bl b => cases rx; exact SeqAt.EqAt.none_bool b
  | int b => obtain ⟨t, rfl⟩ := rx; exact SeqAt.EqAt.none_int b t
  | str b => obtain ⟨t, rfl⟩ := rx; exact SeqAt.EqAt.none_str b t
  | _ => exact absurd (show false = true from fx) Bool.false_ne_true
 | bl a =>
  cases ry
  cases x with
  | non => cases rx; exact SeqAt.EqAt.bool_none a
  | bl b => cases rx; exact SeqAt.EqAt.bool_bool a b
  | int b => obtain ⟨t, rfl⟩ := rx; exact SeqAt.EqAt.bool_int a b t
  | str b => obtain ⟨t, rfl⟩ := rx; exact SeqAt.EqAt.bool_str a b t
  | _ => exact absurd (show false = true from fx) Bool.false_ne_true
 | int a =>
  obtain ⟨t', rfl⟩ := ry
  cases x with
  | non => cases rx; exact SeqAt.EqAt.int_none a t'
  | bl b => cases rx; exact SeqAt.EqAt.int_bool a t' b
  | int b => obtain ⟨t, rfl⟩ := rx; exact SeqAt.EqAt.int_int a t' b t
  | str b => obtain ⟨t, rfl⟩ := rx; exact SeqAt.EqAt.int_str a t' b t
  | _ => exact absurd (show false = true from fx) Bool.false_ne_true
 | str a =>
  obtain ⟨t', rfl⟩ := ry
  cases x with
  | non => cases rx; exact SeqAt.EqAt.str_none a t'
  | bl b => cases rx; exact SeqAt.EqAt.str_bool a t' b
  | int b => obtain ⟨t, rfl⟩ := rx; exact SeqAt.EqAt.str_int a t' b t
  | str b => obtain ⟨t, rfl⟩ := rx; exact SeqAt.EqAt.str_str a t' b t
  | _ => exact absurd (show false = true from fx) Bool.false_ne_true
 | _ => exact absurd (show false = true from fy) Bool.false_ne_true
def eqU (x : V) (u : Value) : Bool := match u with
 | .none => eqV .non x
 | .bool b => eqV (.bl b) x
 | .int i _ => eqV (.int i) x
 | .str z _ => eqV (.str z) x
 | _ => false
theorem eqU_of {x y : V} {u : Value} (r : RelV y u) (f : flatV y = true) : eqU x u = eqV y x := by
 cases y with
 | non => cases r; rfl
 | bl b => cases r; rfl
 | int i => obtain ⟨t, rfl⟩ := r; rfl
 | str z => obtain ⟨t, rfl⟩ := r; rfl
 | _ => exact absurd (show false = true from f) Bool.false_ne_true
theorem mem_eqAt {A : Around} {s : Shared} {x : V} {v : Value} (rx : RelV x v) (fx : flatV x = true) : ∀ {xs : List V} {us : List Value}, Vals xs us → xs.all flatV = true → ∀ u ∈ us, SeqAt.EqAt A s u v (eqU x u)
 | _, _, .nil, _ => fun u hu => by cases hu
 | y :: xs, u :: us, .cons r t, f => fun u' hu => by
  rw [List.all_cons, Bool.and_eq_true] at f
  rcases List.mem_cons.mp hu with rfl | hu
  ·rw [eqU_of r f.1]; exact eqAt_V r rx f.1 fx
  ·exact mem_eqAt rx fx t f.2 u' hu
theorem call_len_seq : CallR X (.builtin "len") (fun xs H Q => ∃ p ys, xs = [.ref p] ∧ (SqL X.K H p ys ∨ SqT X.K H p ys) ∧ Q (.int ys.length) H) := by
 intro pins s σ H xs us Q I r h
 obtain ⟨p, ys, rfl, hq, q⟩ := h
 obtain ⟨u, rfl, rx⟩ := vals1 r
 cases rx
 have hn := line63
 rcases hq with hq | hq
 ·obtain ⟨its, r', pl, hz⟩ := I.list hq
  have hlen := r'.length
  exact Calls.call_len_list pl.isList (by simp only [List.size_toArray] <;> omega) ⟨.int ys.length, H, I.tok _, ⟨s.toks + 1, by rw [List.size_toArray, hlen]⟩, q⟩
 ·obtain ⟨its, r', pl, hz⟩ := I.tuple hq
  have hlen := r'.length
  exact len_tuple pl (by simp only [List.size_toArray] <;> omega) ⟨.int ys.length, H, I.tok _, ⟨s.toks + 1, by rw [List.size_toArray, hlen]⟩, q⟩
theorem call_list_of : CallR X (.type "list") (fun xs H Q => ∃ p ys, xs = [.ref p] ∧ (SqL X.K H p ys ∨ SqT X.K H p ys) ∧ ∀ l, H l = none → Q (.ref l) (upd H l (.lst ys))) := by
 intro pins s σ H xs us Q I r h
 obtain ⟨p, ys, rfl, hq, q⟩ := h
 obtain ⟨u, rfl, rx⟩ := vals1 r
 cases rx
 have fin : ∀ (its : List Value), Vals ys its → ys.length ≤ sizeLine → ∀ (h' : Heap) (c' : Nat), (∀ b o', s.heap.get? b = some o' → h'.get? b = some o') →
   h'.get? s.heap.objs.size = some { cls := .type "list", dict := none, data := .seq its.toArray c', slots := #[] } → EP X pins σ Q (.ref s.heap.objs.size) { s with heap := h' } := fun its r' hz h' c' kp e =>
  ⟨.ref s.heap.objs.size, _, I.laid (t' := s.toks) kp (Nat.le_refl _) (show ObjOk X.prog X.w _ h' _ (.lst ys) from ⟨hz, its, c', r', e⟩), rfl, q _ (I.hok.fresh (Nat.le_refl _))⟩
 rcases hq with hq | hq
 ·obtain ⟨its, r', pl, hz⟩ := I.list hq
  have hlen := r'.length
  obtain ⟨o, ho, hc, n, hd⟩ := pl.isList
  exact call_list_seq p (.inl rfl) ho hc hd (fun h' c' kp e => fin its r' hz h' c' kp e) (by simp only [List.size_toArray] <;> omega)
 ·obtain ⟨its, r', pl, hz⟩ := I.tuple hq
  have hlen := r'.length
  obtain ⟨o, ho, hc, n, hd⟩ := pl
  exact call_list_seq p (.inr rfl) ho hc hd (fun h' c' kp e => fin its r' hz h' c' kp e) (by simp only [List.size_toArray] <;> omega)
def tyV (K : PySem.W.Frag) (T : String) (x : V) (H : Hp) : Prop := match x with
 | .str _ => T = "str"
 | .int _ => T = "int"
 | .ref p => (T = "list" ∧ ∃ xs, SqL K H p xs) ∨ (T = "tuple" ∧ ∃ o, K.lookup p = some o ∧ o.cls = .type "tuple" ∧ o.dict = none) ∨
   (T = "dict" ∧ ((∃ kvs, H p = some (.dK kvs)) ∨ ∃ kvs, H p = some (.dT kvs))) ∨ (T = "set" ∧ ∃ S n, H p = some (.set S n))
 | _ => False
theorem tyV_is {pins : List (Addr × Obj)} {σ : St} {H : Hp} {s : Shared} {T : String} {x : V} {v : Value} (I : Inv X pins σ H s) (r : RelV x v) (ty : tyV X.K T x H) :
  s.TypeIs v T ∧ ∀ a, v = .ref a → ∃ ob, s.heap.get? a = some ob ∧ ob.dict = none := by
 cases x with
 | str z =>
  obtain ⟨t, rfl⟩ := r
  cases (show T = "str" from ty)
  exact ⟨typeIs_str s z t, fun _ e => nomatch e⟩
 | int i =>
  obtain ⟨t, rfl⟩ := r
  cases (show T = "int" from ty)
  exact ⟨typeIs_int s i t, fun _ e => nomatch e⟩
 | ref p =>
  cases r
  rcases ty with ⟨rfl, xs, hq⟩ | ⟨rfl, o, hk, hc, hd⟩ | ⟨rfl, hk⟩ | ⟨rfl, S, n, hk⟩
  ·obtain ⟨its, _, pl, _⟩ := I.list hq
   refine ⟨pl.isList.typeIs, fun a e => ?_⟩
   cases e
   obtain ⟨o, n, e, c, hd, _⟩ := pl
   exact ⟨o, e, hd⟩
  ·refine ⟨⟨o, I.kIn p o hk, hc⟩, fun a e => ?_⟩
   cases e
   exact ⟨o, I.kIn _ o hk, hd⟩
  ·have z : ∃ o, s.heap.get? p = some o ∧ o.ExactDict := by
    rcases hk with ⟨kvs, hk⟩ | ⟨kvs, hk⟩
    ·obtain ⟨_, _, _, _, o, _, _, e, ex, _⟩ := I.hok p _ hk
     exact ⟨o, e, ex⟩
    ·obtain ⟨_, _, _, _, o, _, _, e, ex, _⟩ := I.hok p _ hk
     exact ⟨o, e, ex⟩
   obtain ⟨o, e, ex⟩ := z
   refine ⟨⟨o, e, ex.1⟩, fun a e2 => ?_⟩
   cases e2
   exact ⟨o, e, ex.2.1⟩
  ·obtain ⟨o, _, _, _, e, ex, _⟩ := I.hok p _ hk
   refine ⟨⟨o, e, ex.1⟩, fun a e2 => ?_⟩
   cases e2
   exact ⟨o, e, ex.2.1⟩
 | _ => exact False.elim ty
def tBM (K : PySem.W.Frag) (T : String) (r : V → List V → Hp → VK → Prop) (to : TE) (t : TA) : TE := fun σ H Q => to σ H fun x H1 => tyV K T x H1 ∧ t σ H1 fun xs H2 => r x xs H2 Q
variable {o e : Expr} {es : List Expr} {to : TE} {t : TA} {name : Str} {apos cpos : Pos} {T id : String} {r : V → List V → Hp → VK → Prop}
theorem pe_bm (pa : PlainAttrs T) (slot : Slot T name id) (hty : typeOf (.builtin id) = pure (.type "method_descriptor")) (hm : MtR X id r) (ho : PE X o to) (ha : PA X (e :: es) t)
  (hbase : attributeBase o name X.env (eval o X.env) = eval o X.env := by rfl)
  (hfew : ((backTo cpos (starEach (e :: es) X.env)).all (fun x => !x.1) && (backToKw cpos (keywordEach [] X.env)).all (fun x => x.1.isSome)
   && decide ((e :: es).length + ([] : List Keyword).length + (if ([] : List Keyword).isEmpty then 0 else 1) < 30)) = true := by rfl)
  (hline : (apos.endLine == cpos.line) = true := by rfl) (hs : starEach (e :: es) X.env = (false, eval e X.env) :: starEach es X.env := by rfl) (hplain : (backTo cpos (starEach es X.env)).any (·.1) = false := by rfl) :
  PE X (.Call (.Attribute o name apos) (e :: es) [] cpos) (tBM X.K T r to t) := by
 intro pins s σ H Q I h
 refine wpAny_Call_method_late hbase hfew hline rfl (thn (ho pins s σ H _ I h) fun v s1 ⟨x, H1, I1, r1, ty, q1⟩ => ?_)
 obtain ⟨h1, h2⟩ := tyV_is I1 r1 ty
 refine ⟨T, id, pa, slot, hty, h1, h2, ?_⟩
 have hA := ha cpos pins s1 σ H1 _ I1 q1
 rw [hs] at hA ⊢
 refine Calls.callWith_builtin (by show (false || (backTo cpos (starEach es X.env)).any (·.1)) = false; rw [hplain] <;> rfl) (Calls.evalArgs_plain ?_)
 exact thn hA fun us s2 ⟨vs, H2, I2, r2, q2⟩ => hm pins s2 σ H2 x vs v us Q I2 r1 r2 q2
end
end L2
namespace L2
open PySem PySem.Spec PyProof.Rows
def MtM (X : Cx) (id : String) (r : V → List V → Hp → VK → Prop) : Prop :=
 ∀ (pins : List (Addr × Obj)) (s : Shared) (σ : St) (H : Hp) (x : V) (xs : List V) (v : Value) (us : List Value) (Q : VK), Inv X pins σ H s → RelV x v → Vals xs us → r x xs H Q →
  wpAny (model X.prog X.w) X.A (call (.builtin id) (v :: us)) (EP X pins σ Q) X.xe s
theorem Vals.one : ∀ {x : V} {us : List Value}, Vals [x] us → ∃ u, us = [u] ∧ RelV x u
 | _, _, .cons r .nil => ⟨_, rfl, r⟩
theorem Vals.rep {xs : List V} {us : List Value} (h : Vals xs us) : ∀ k : Nat, Vals (List.replicate k xs).flatten (List.replicate k us).flatten
 | 0 => .nil
 | k + 1 => by
  rw [List.replicate_succ, List.replicate_succ, List.flatten_cons, List.flatten_cons]
  exact Vals.append h (Vals.rep h k)
theorem foldl_rep (its : List Value) : ∀ (k : Nat) (acc : List Value),
  List.foldl (fun x1 x2 => x1 ++ x2) acc.toArray (List.replicate k its.toArray) = (acc ++ (List.replicate k its).flatten).toArray
 | 0, acc => by simp
 | k + 1, acc => by
  have e : acc.toArray ++ its.toArray = (acc ++ its).toArray := by simp
  have e2 : (acc ++ its) ++ (List.replicate k its).flatten = acc ++ (List.replicate (k + 1) its).flatten := by
   rw [List.replicate_succ, List.flatten_cons, List.append_assoc]
  rw [← e2, ← foldl_rep its k (acc ++ its), ← e, List.replicate_succ, List.foldl_cons]
section
variable {X : Cx} {pins : List (Addr × Obj)} {σ : St} {H : Hp} {s : Shared} {l b : Addr} {xs ys zs : List V}
theorem Inv.lset {its its' : List Value} {n : Nat} {f : Array Value → Array Value} {t' : Nat} (I : Inv X pins σ H s) (hH : H l = some (.lst xs))
  (e : s.heap.get? l = some { cls := .type "list", data := .seq its.toArray n }) (hf : f its.toArray = its'.toArray) (hv : Vals ys its') (hz : ys.length ≤ sizeLine) :
  Inv X pins σ (upd H l (.lst ys)) { s with heap := s.heap.update l (Obj.mapSeq f), toks := t' } := by
 have q := PySem.IsL.update e f
 rw [hf] at q
 refine I.write (x := l) (e := l) (by rw [hH]; exact trivial) (.inl rfl) (fun b' u hb hu => (Heap.get?_update_other s.heap (Obj.mapSeq f) (Ne.symm hb)).trans hu) ⟨_, q⟩ ?_
 exact ⟨hz, its', _, hv, q⟩
theorem Inv.lnew {its : List Value} {t' : Nat} (I : Inv X pins σ H s) (hv : Vals ys its) (hz : ys.length ≤ sizeLine) :
  Inv X pins σ (upd H s.heap.objs.size (.lst ys)) { s with heap := s.heap.push { cls := .type "list", data := .seq its.toArray }, toks := t' } :=
 I.laid (fun _ _ q => Heap.get?_push_of_some _ q) (Nat.le_refl _) ⟨hz, its, 0, hv, Heap.get?_push_size _ rfl⟩
theorem Inv.fresh (I : Inv X pins σ H s) : H s.heap.objs.size = none := I.hok.fresh (Nat.le_refl _)
theorem Inv.lstM (I : Inv X pins σ H s) (hH : H l = some (.lst xs)) : xs.length ≤ sizeLine ∧ ∃ (its : List Value) (n : Nat), Vals xs its ∧ xs.length = its.length ∧ s.heap.get? l = some { cls := .type "list", data := .seq its.toArray n } := by
 obtain ⟨z, its, n, r, e⟩ := I.hok l _ hH
 exact ⟨z, its, n, r, r.length, e⟩
theorem notLongL {n : Nat} (h : n ≤ sizeLine) : Builtin.List.listTooLong n = false := by
 unfold Builtin.List.listTooLong
 exact decide_eq_false (by omega)
end
section
variable {X : Cx}
def rAppend : V → List V → Hp → VK → Prop := fun x vs H Q => ∃ l xs y, x = .ref l ∧ vs = [y] ∧ H l = some (.lst xs) ∧ xs.length < sizeLine ∧ Q .non (upd H l (.lst (xs ++ [y])))
theorem mt_append : MtM X "list.append" rAppend := by
 intro pins s σ H x vs v us Q I rx rv h
 obtain ⟨l, xs, y, rfl, rfl, hH, hz, q⟩ := h
 cases rx
 obtain ⟨u, rfl, ru⟩ := rv.one
 obtain ⟨z, its, n, r, hl, e⟩ := I.lstM hH
 refine call_meets F.slot_list_append ⟨_, e, rfl⟩ F.entry_list_append (F.args_list_append_2 _ _) (PySem.list_append l its.toArray n u (by rw [List.size_toArray]; omega)) ⟨e, ?_⟩
 refine ⟨.non, _, I.lset (its' := its ++ [u]) hH e (by simp) (r.append (.cons ru .nil)) ?_, rfl, q⟩
 rw [List.length_append, List.length_singleton]
 omega
def rExtend : V → List V → Hp → VK → Prop := fun x vs H Q => ∃ l b xs zs, x = .ref l ∧ vs = [.ref b] ∧ H l = some (.lst xs) ∧ H b = some (.lst zs) ∧ xs.length + zs.length ≤ sizeLine ∧ Q .non (upd H l (.lst (xs ++ zs)))
theorem mt_extend : MtM X "list.extend" rExtend := by
 intro pins s σ H x vs v us Q I rx rv h
 obtain ⟨l, b, xs, zs, rfl, rfl, hH, hB, hz, q⟩ := h
 cases rx
 obtain ⟨u, rfl, ru⟩ := rv.one
 cases ru
 obtain ⟨z, its, n, r, hl, e⟩ := I.lstM hH
 obtain ⟨z2, its2, n2, r2, hl2, e2⟩ := I.lstM hB
 have hsz : its.toArray.size + its2.toArray.size ≤ sizeLine := by rw [List.size_toArray, List.size_toArray]; omega
 have hlong : ¬ (!its.toArray.isEmpty && Builtin.List.listTooLong (its.toArray.size + its2.toArray.size)) = true := by
  rw [notLongL hsz, Bool.and_false]
  exact Bool.false_ne_true
 refine call_meets F.slot_list_extend ⟨_, e, rfl⟩ F.entry_list_extend (F.args_list_extend_2 _ _)
  (AutoSeq1.list_extend_list_list_0 l its.toArray n b its2.toArray n2 hlong (by rw [List.size_toArray]; omega) (by omega)) ⟨e, e2, ?_⟩
 refine ⟨.non, _, I.lset (its' := its ++ its2) hH e (by simp) (r.append r2) ?_, rfl, q⟩
 rw [List.length_append]
 omega
def rCat : R2 := fun x y H Q => ∃ l b xs zs, x = .ref l ∧ y = .ref b ∧ H l = some (.lst xs) ∧ H b = some (.lst zs) ∧ xs.length + zs.length ≤ sizeLine ∧ ∀ p, H p = none → Q (.ref p) (upd H p (.lst (xs ++ zs)))
theorem op_cat : OpR X (binaryOp .Add) rCat := by
 intro pins s σ H x y v u Q I rx ry h
 obtain ⟨l, b, xs, zs, rfl, rfl, hH, hB, hz, q⟩ := h
 cases rx
 cases ry
 obtain ⟨z, its, n, r, hl, e⟩ := I.lstM hH
 obtain ⟨z2, its2, n2, r2, hl2, e2⟩ := I.lstM hB
 refine PySem.P.add_list e e2 ?_ (by rw [List.size_toArray, List.size_toArray]; omega)
 have ea : its.toArray ++ its2.toArray = (its ++ its2).toArray := by simp
 rw [ea]
 exact ⟨.ref _, _, I.lnew (t' := s.toks) (r.append r2) (by rw [List.length_append]; omega), rfl, q _ I.fresh⟩
def rRep : R2 := fun x y H Q => ∃ l k xs, x = .ref l ∧ y = .int k ∧ H l = some (.lst xs) ∧ -(2 ^ 63) ≤ k ∧ k < 2 ^ 63 ∧ xs.length * k.toNat ≤ sizeLine ∧
 ∀ p, H p = none → Q (.ref p) (upd H p (.lst (List.replicate k.toNat xs).flatten))
theorem len_rep {α : Type} (xs : List α) (k : Nat) : (List.replicate k xs).flatten.length = k * xs.length := by
 induction k with
 | zero => simp
 | succ k ih => rw [List.replicate_succ, List.flatten_cons, List.length_append, ih, Nat.succ_mul, Nat.add_comm]
theorem op_rep : OpR X (binaryOp .Mult) rRep := by
 intro pins s σ H x y v u Q I rx ry h
 obtain ⟨l, k, xs, rfl, rfl, hH, h1, h2, hz, q⟩ := h
 cases rx
 obtain ⟨t, rfl⟩ := ry
 obtain ⟨z, its, n, r, hl, e⟩ := I.lstM hH
 have hlen : its.toArray.size * k.toNat ≤ sizeLine := by rw [List.size_toArray, ← hl]; exact hz
 have hcap : ¬ its.toArray.size * k.toNat > (2 ^ 63 - 1) / 8 := by
  have : (sizeLine : Nat) ≤ (2 ^ 63 - 1) / 8 := by decide
  omega
 have hfit : ¬ (!Builtin.List.listFitsIndex k) = true := by
  rw [fitsIndex_both h1 h2]
  exact Bool.false_ne_true
 have hlong : ¬ Builtin.List.listTooLong (its.toArray.size * k.toNat) = true := by
  rw [notLongL hlen]
  exact Bool.false_ne_true
 have hnew : List.foldl (fun x1 x2 => x1 ++ x2) #[] (List.replicate (if its.toArray.isEmpty = true then 0 else k.toNat) its.toArray) = (List.replicate k.toNat its).flatten.toArray := by
  have f0 : ∀ m : Nat, List.foldl (fun x1 x2 => x1 ++ x2) #[] (List.replicate m its.toArray) = (List.replicate m its).flatten.toArray := fun m => by
   have := foldl_rep its m []
   rw [List.nil_append] at this
   exact this
  rw [f0]
  cases its with
  | nil => simp
  | cons a r' => rw [if_neg (by simp)]
 refine wpAny_binaryOp_repeat_ref (T := "list") (U := "int") (by decide) ⟨_, e, rfl⟩ (fun s' => typeIs_int s' k t) noFill_list_mul F.fills_int_mul F.slot_int_rmul repeat_list F.slot_int_index.lookup
  (call_meets F.slot_int_rmul (typeIs_int s k t) F.entry_int_rmul (F.args_int_rmul_2 _ _) (int___rmul___int_list k t l its.toArray n)
   ⟨e, rfl, ⟨_, e, rfl⟩, call_meets F.slot_list_mul ⟨_, e, rfl⟩ F.entry_list_mul (F.args_list_mul_2 _ _) (AutoListH.list___mul___list_int_3 l its.toArray n k t hfit hcap hlong) ⟨e, ?_⟩⟩)
 rw [hnew]
 exact ⟨.ref _, _, I.lnew (t' := s.toks) (r.rep k.toNat) (by rw [len_rep, Nat.mul_comm]; exact hz), rfl, q _ I.fresh⟩
end
section
variable {prog : Program} {w : World} {A : Around} {E : Value → Shared → Prop} {s : Shared}
end
section
variable {X : Cx}
end
end L2
namespace Att
open PySem PySem.W PySem.Calls PyProof.Rows
theorem ints_of_wellAll {P : Params} {h : Heap} : ∀ (ns : List Int) (vs : List Value), WellAll P h vs (ns.map WData.int) → IntsAre vs ns := by
 intro ns
 induction ns with
 | nil =>
  intro vs w
  rw [List.map_nil] at w
  cases w
  exact .nil
 | cons n ns ih =>
  intro vs w
  rw [List.map_cons] at w
  cases w with
  | cons a b =>
   cases a
   exact .cons _ _ (ih _ b)
theorem script_of {l : OpenLaw} {n : Nat} (hn : l.most = some n) {P : Params} {h : Heap} {args : List WData} {vals : List Value}
  (hpre : l.row.toRowW.claim.pre args = true) (hwl : WellAll P h vals args) :
  ∃ a vs ns, vals = [Value.ref a] ∧ args = [WData.list (ns.map WData.int)] ∧ h.get? a = some { cls := .type "list", data := .seq vs.toArray } ∧ IntsAre vs ns ∧ ns.length ≤ n := by
 have hsh : WShape.hasAll [] args [.list .int] = true := (pre_splitW hpre).1
 have hc : l.pre.holds [] { args := args } = true := (pre_splitW hpre).2
 obtain ⟨d, r, rfl, h1, h2⟩ := hasAllW_cons hsh
 obtain rfl := hasAllW_nil h2
 obtain ⟨xs, rfl, h3⟩ := hasW_list h1
 obtain ⟨ns, rfl⟩ := items_int h3
 have hlen : ns.length ≤ n := by
  unfold OpenLaw.pre at hc
  have h4 : (WTm.not (.lt (.lit (.int (n : Int))) (.len (.arg 0)))).holds [] { args := [.list (ns.map .int)] } = true := by
   have h4 := (holds_andW hc).1
   rw [hn] at h4
   exact h4
  have h5 := condW_of h4 (w_not (w_lt w_lit (w_len_list (w_arg rfl))))
  rw [List.length_map] at h5
  refine Nat.le_of_not_lt fun q => ?_
  have q' : (n : Int) < ((ns.length : Nat) : Int) := by omega
  first
   | (rw [decide_eq_true q'] at h5; exact absurd h5 (by decide))
   | (simp at h5; omega)
 cases hwl with
 | cons w1 w2 =>
  cases w2
  cases w1 with
  | list ho hall => exact ⟨_, _, ns, rfl, rfl, ho, ints_of_wellAll ns _ hall, hlen⟩
theorem post_true (l : OpenLaw) (args : List WData) : l.row.toRowW.claim.post args (.bool true) args = true :=
 postW_of (r := l.row.toRowW) (X := (true == true))
  (show WShape.has [] (.bool true) .bool = true by first | rfl | decide | simp [WShape.has, WShape.arms, WShape.armsAll])
  (show (WTm.eq .res (.lit (.bool true))).value [] { args := args, res := some (.bool true), after := args } = some (.bool (true == true)) from w_eq_bool (w_res rfl) w_lit) rfl
theorem attach_call {l : OpenLaw} {n : Nat} {q : Program} {loose : List Str} {XP : (Str → Option Value) → Heap → Prop} {YP : World → Heap → Prop} {d : DefRec}
  (hn : l.most = some n) (hdf : d.params.defaults = [])
  (call : ∀ (w : World) (s₀ s₁ : Shared) (mg mb : Str → Option Value) (fa : Addr) (o : Obj) (pm cd doc : Value) (a : Addr) (vs : List Value) (ns : List Int),
   Ground q loose [] XP w s₀ mg mb s₁.heap → YP w s₁.heap →
   s₁.heap.get? fa = some o → o.data = .func (docDef d.name d.params d.body d.scope pm cd doc) → s₁.heap.CodeRec cd d.name → mg d.name = some (.ref fa) →
   s₁.heap.get? a = some { cls := .type "list", data := .seq vs.toArray } → IntsAre vs ns → ns.length ≤ n → s₁.gens = #[] →
   codeAny (model l.prog w) callerA (.call (.ref fa) ⟨[.ref a], []⟩) (fun r s' => r = .ok (.ret (.bool true)) ∧ OldK s₁.heap s'.heap ∧ s'.os = s₁.os ∧ AllBare s'.gens) s₁) :
  WalkO q loose XP YP l.row.toRowW d [] (fun f vs => PySem.call f vs) := by
 intro w s₀ s₁ mg mb G Y fa o pm cd doc dV kV ho hd hcd hD hmg hg args vals as hpre hlay hrd hwl hlo
 obtain rfl : dV = .none := Dflts.none hD hdf
 obtain rfl : kV = .none := Dflts.noKw hD
 obtain ⟨a, vs, ns, rfl, rfl, hobj, hints, hlen⟩ := script_of hn hpre hwl
 refine enter_call (codeAny_mono (call w s₀ s₁ mg mb fa o pm cd doc a vs ns G Y ho (fd_plain hd) hcd hmg hobj hints hlen hg) fun r s' hq => ?_)
 obtain ⟨rfl, h2, h3, h4⟩ := hq
 exact ⟨.inl ⟨.bool true, .bool true, [], rfl, fun _ => rfl, .bool true, post_true l _, fun _ => ⟨List.Pairwise.nil, fun _ hm => (nomatch hm)⟩⟩, h2, h3, h4⟩
section
variable {prog : Program} {w : World} {A : Around} {E : Value → Shared → Prop} {s : Shared} {K : Frag}
end
end Att
namespace L2
open PySem PySem.Spec PyProof.Rows
theorem vals_ints : ∀ {vs : List Value} {ns : List Int}, IntsAre vs ns → Vals (ns.map V.int) vs
 | _, _, .nil => .nil
 | _, _, .cons n t h => .cons ⟨t, rfl⟩ (vals_ints h)
def Only (H : Hp) : Prop := ∀ b, H b = none ∨ ∃ o xs, H b = some (.frz o (.lst xs))
theorem law_call {P : Program} {w : World} {K : PySem.W.Frag} {mg mb : Str → Option Value} {CX : CXT} {k : Nat} {fa a : Addr} {fd : FuncData} {x : Str} {sp : Sp} {s₁ : Shared} {vs : List Value} {ns : List Int}
  (KX : K.In s₁.heap) (hns : s₁.heap.Ns mainGlobals mg) (hb : s₁.heap.Ns builtinsNs mb) (hbb : ∀ x : Str, x ≠ "__name__" → mb x = bootBuiltins x) (hlim : s₁.heap.NoLimit) (hg : s₁.gens = #[])
  (ha : s₁.heap.get? a = some { cls := .type "list", data := .seq vs.toArray }) (hi : IntsAre vs ns) (hl : ns.length ≤ sizeLine) (hr : Room k callerA)
  (F : ∀ base : Heap, K.In base → base.Ns mainGlobals mg → FnOk P w K mg base CX k fa fd [x] sp) (hbind : ∀ (s : Shared) (u : Value), BindsTo s fd ⟨[u], []⟩ [(x, u)])
  (hsp : ∀ H : Hp, Only H → SqL K H a (ns.map V.int) → sp [.ref a] H (fun v _ => v = .bl true) fun _ _ _ => False)
  (hCX : ∀ H e s', CX [] H s₁ (fun _ _ _ => False) e s' → False) :
  codeAny (model P w) callerA (.call (.ref fa) ⟨[.ref a], []⟩) (fun r s' => r = .ok (.ret (.bool true)) ∧ OldK s₁.heap s'.heap ∧ s'.os = s₁.os ∧ AllBare s'.gens) s₁ := by
 have rv := vals_ints hi
 have lenV := hi.length
 have core : ∀ H : Hp, Only H → SqL K H a (ns.map V.int) → HOk P w H s₁.heap → (∀ b, H b ≠ none → b = a) → (H a ≠ none → K.lookup a = none) →
   codeAny (model P w) callerA (.call (.ref fa) ⟨[.ref a], []⟩) (fun r s' => r = .ok (.ret (.bool true)) ∧ OldK s₁.heap s'.heap ∧ s'.os = s₁.os ∧ AllBare s'.gens) s₁ := by
  intro H hO hS hok hA hK
  have base_of : ∀ {b : Addr} {o : Obj}, s₁.heap.get? b = some o → H b = none → (hidT s₁.heap H).get? b = some o := fun e n => hidT_get e n
  have noA : ∀ {b : Addr} {o : Obj} {es : Array DictEntry} {ep : Nat}, s₁.heap.get? b = some o → o.data = .dict es ep → H b = none := fun {b o es ep} e d => by
   cases q : H b with
   | none => rfl
   | some u =>
    have e' : b = a := hA b (by rw [q]; simp)
    subst e'
    rw [ha] at e; cases e
    have d' : Data.seq vs.toArray _ = Data.dict es ep := d
    cases d'
  have nsK : ∀ {b : Addr} {m : Str → Option Value}, s₁.heap.Ns b m → (hidT s₁.heap H).Ns b m := fun {b m} ⟨o, es, ep, e, d, r⟩ => ⟨o, es, ep, base_of e (noA e d), d, r⟩
  have hKb : K.In (hidT s₁.heap H) := fun b o e => base_of (KX b o e) (by
   cases q : H b with
   | none => rfl
   | some u =>
    have e' : b = a := hA b (by rw [q]; simp)
    subst e'
    rw [hK (by rw [q]; simp)] at e; cases e)
  have hM : Mod K mg (hidT s₁.heap H) := ⟨hKb, nsK hns, ⟨mb, nsK hb, hbb⟩, let ⟨mc, h1, h2⟩ := hlim; ⟨mc, nsK h1, h2⟩⟩
  have e0 : Env0 P w K mg (hidT s₁.heap H) callerA [] s₁ H := ⟨rfl, hM, fun b o e => of_hidT e, Nat.le_of_eq (hidT_size _ _), trivial, fun b hb => absurd (show b ∈ ([] : List Addr) from hb) (by simp), hok, .of_eq hg, .inl rfl⟩
  refine codeAny_mono ((F _ hKb (nsK hns)).run callerA [] s₁ H ⟨[.ref a], []⟩ [.ref a] [.ref a] _ _ hr (.inr rfl) e0 (hbind s₁ (.ref a)) (.cons rfl .nil) (hsp H hO hS)) fun r s' h => ?_
  cases r with
  | error e => exact (hCX H e s' h).elim
  | ok fl =>
   cases fl with
   | next => exact False.elim h
   | brk => exact False.elim h
   | cont => exact False.elim h
   | ret u =>
    obtain ⟨v, H', os, bare, un, hok', r', q⟩ := h
    have q' : v = .bl true := q
    subst q'
    obtain rfl : u = Value.bool true := r'
    refine ⟨rfl, OldK.of_keep fun b o e => ?_, os, bare⟩
    cases q : H b with
    | none => exact un.keep b o e q (by intro z; exact absurd (show b ∈ ([] : List Addr) from z) (by simp)) (by simp)
    | some u =>
     rcases hO b with z | ⟨ob, xs, z⟩
     ·rw [q] at z; cases z
     ·have z2 := un.frzs b ob _ z
      obtain ⟨e1, _⟩ := hok b _ z
      obtain ⟨e2, _⟩ := hok' b _ z2
      rw [e] at e1; cases e1
      exact e2
 cases hk : K.lookup a with
 | some o =>
  have e := KX a o hk
  rw [ha] at e
  cases e
  refine core (fun _ => none) (fun _ => .inl rfl) (.inr ⟨_, vs.toArray, _, hk, rfl, rfl, rfl, by rw [List.size_toArray, lenV]; exact hl, by simpa using rv⟩) (fun b u z => by have z' : (none : Option HO) = some u := z; cases z') (fun b z => absurd rfl z) fun z => absurd rfl z
 | none =>
  refine core (fun b => if b = a then some (.frz { cls := .type "list", data := .seq vs.toArray } (.lst (ns.map V.int))) else none) (fun b => ?_) (.inl (.inr ⟨{ cls := .type "list", data := .seq vs.toArray }, if_pos rfl⟩)) (fun b u z => ?_) (fun b z => ?_) fun _ => hk
  ·by_cases hb : b = a
   ·exact .inr ⟨_, _, if_pos hb⟩
   ·exact .inl (if_neg hb)
  ·by_cases hb : b = a
   ·have z' := (if_pos hb).symm.trans z
    cases z'
    subst hb
    exact ⟨ha, by rw [List.length_map]; exact hl, vs, _, rv, ha⟩
   ·have z' := (if_neg hb).symm.trans z
    cases z'
  ·by_cases hb : b = a
   ·exact hb
   ·exact absurd (if_neg hb) z
end L2
namespace L2
open PySem PySem.Spec PyProof.Rows
theorem walk_of {l : PySem.W.OpenLaw} {n k : Nat} {q : Program} {loose : List Str} {XP : (Str → Option Value) → Heap → Prop} {YP : World → Heap → Prop} {d : DefRec} {K : Params → PySem.W.Frag} {CX : World → CXT} {sp : World → Sp} {x : Str}
  (hn : l.most = some n) (hn2 : n ≤ sizeLine) (hdf : d.params.defaults = []) (hr : Room k callerA)
  (hY : ∀ (w : World) (h : Heap), YP w h → (K w.params).In h)
  (F : ∀ (w : World) (mg : Str → Option Value) (fa : Addr) (h : Heap), (K w.params).In h → h.Ns mainGlobals mg → mg d.name = some (.ref fa) →
   ∃ fd : FuncData, (∀ (s : Shared) (u : Value), BindsTo s fd ⟨[u], []⟩ [(x, u)]) ∧
    ∀ base : Heap, (K w.params).In base → base.Ns mainGlobals mg → FnOk l.prog w (K w.params) mg base (CX w) k fa fd [x] (sp w))
  (hsp : ∀ (w : World) (H : Hp) (a : Addr) (ns : List Int), ns.length ≤ n → Only H → SqL (K w.params) H a (ns.map V.int) → sp w [.ref a] H (fun v _ => v = .bl true) fun _ _ _ => False)
  (hCX : ∀ (w : World) (H : Hp) (s : Shared) (e : Value) (s' : Shared), CX w [] H s (fun _ _ _ => False) e s' → False) :
  PySem.W.WalkO q loose XP YP l.row.toRowW d [] (fun f vs => PySem.call f vs) := by
 refine Att.attach_call hn hdf fun w s₀ s₁ mg mb fa o pm cd doc a vs ns G Y ho hd hcd hmg hobj hints hlen hg => ?_
 have KX := hY w _ Y
 obtain ⟨fd, hb, hF⟩ := F w mg fa _ KX G.T.g hmg
 exact law_call KX G.T.g G.T.b G.T.builtins G.T.nolimit hg hobj hints (Nat.le_trans hlen hn2) hr hF hb (fun H hO hS => hsp w H a ns hlen hO hS) fun H e s' => hCX w H s₁ e s'
end L2
namespace L2
open PySem PySem.Spec PyProof.Rows
def inClass (s : Stmt) (j : Nat) : Stmt := match s with
 | .ClassDef _ _ _ body _ _ _ _ _ _ _ => body.getD j (.Pass ⟨0, 0, 0, 0⟩)
 | _ => .Pass ⟨0, 0, 0, 0⟩
def defArgs (s : Stmt) : Arguments := match s with
 | .FunctionDef _ a _ _ _ _ _ _ _ _ => a
 | _ => { posonlyargs := [], args := [], vararg := none, kwonlyargs := [], kw_defaults := [], kwarg := none, defaults := [] }
def defBody (s : Stmt) : List Stmt := match s with
 | .FunctionDef _ _ b _ _ _ _ _ _ _ => b
 | _ => []
def defScope (s : Stmt) : Scope := match s with
 | .FunctionDef _ _ _ _ _ _ sc _ _ _ => sc
 | _ => { kind := .function, names := [], isGenerator := false, isCoroutine := false }
abbrev E0 : XK := fun _ _ _ => False
theorem pass0 {X : Cx} : Passes CX0 X E0 := fun _ _ _ _ _ _ _ h => h.elim
structure Fun (K : PySem.W.Frag) (x qual : Str) (st : Stmt) (f : Addr) (fd : FuncData) : Prop where
 ex : ∃ (oc : Value) (od : Option Addr) (kV doc pm : Value) (an : Option Addr) (cdv ct : Value) (osl : Array (Option Value)),
  fd = PySem.W.fnOf x qual (defArgs st) (defBody st) (defScope st) .none kV doc pm an cdv ct ∧ K.lookup f = some ⟨oc, od, .func fd, osl⟩ ∧ PySem.W.codeIn K cdv qual = true
 kp : PySem.W.keepIn K (.ref f) = true
section
variable {P : Program} {w : World} {K : PySem.W.Frag} {mg : Str → Option Value} {base : Heap}
theorem Fun.ok {x qual : Str} {st : Stmt} {f : Addr} {fd : FuncData} {N ps : List Str} {k : Nat} {sp : Sp} (F : Fun K x qual st f fd) (S : FnScope N ps (defScope st)) (len : ∀ vs H Q E, sp vs H Q E → vs.length = ps.length)
  (hbody : ∀ (cdv : Value) (A : Around) (outer : List Env) (s : Shared) (H : Hp) (vs : List V) (Q : VK) (E : XK), Room k (A.deeper (envOfC qual (defScope st) s.heap.objs.size f cdv)) → sp vs H Q E →
   ∃ t, PSs (cxOf CX0 P w K mg base N qual (defScope st) f cdv A outer s H E).nox (defBody st) t ∧ t { nx := fun _ H' => Q .non H', rt := Q } (start N vs) H) : FnOk P w K mg base CX0 (k + 1) f fd ps sp := by
 obtain ⟨oc, od, kV, doc, pm, an, cdv, ct, osl, rfl, lk, hcd⟩ := F.ex
 refine fn_of lk hcd S len fun A outer s H vs Q E hr _ hsp => ?_
 obtain ⟨t, h, q⟩ := hbody cdv A outer s H vs Q E hr hsp
 exact ⟨t, h.nox, q⟩
theorem Fun.binds {x qual : Str} {st : Stmt} {f : Addr} {fd : FuncData} {ps : List Str} (F : Fun K x qual st f fd)
  (h : ∀ (kV doc pm : Value) (an : Option Addr) (cdv ct : Value) (us : List Value), us.length = ps.length → bindArgs (PySem.W.fnOf x qual (defArgs st) (defBody st) (defScope st) .none kV doc pm an cdv ct) ⟨us, []⟩ = pure (ps.zip us)) : Binds K fd ps [] := by
 obtain ⟨oc, od, kV, doc, pm, an, cdv, ct, osl, rfl, lk, hcd⟩ := F.ex
 exact .all (h kV doc pm an cdv ct)
theorem fun_mk {x qual : Str} {st : Stmt} {f : Addr} {oc : Value} {od an : Option Addr} {osl : Array (Option Value)} {kV doc pm cdv ct : Value} (l : K.lookup f = some ⟨oc, od, .func (PySem.W.fnOf x qual (defArgs st) (defBody st) (defScope st) .none kV doc pm an cdv ct), osl⟩)
  (c : PySem.W.codeIn K cdv qual = true) (k : PySem.W.keepIn K (.ref f) = true) : Fun K x qual st f (PySem.W.fnOf x qual (defArgs st) (defBody st) (defScope st) .none kV doc pm an cdv ct) := ⟨⟨oc, od, kV, doc, pm, an, cdv, ct, osl, rfl, l, c⟩, k⟩
end
theorem hu_of {A : Around} {k : Nat} (hr : Room k A) : A.units + 1 < cLine := Nat.lt_of_le_of_lt (Nat.add_le_add_left (by decide : 1 ≤ 64) _) hr.units
theorem small1000 {n : Nat} (h : n ≤ 1000) : n < sizeLine := Nat.lt_of_le_of_lt h (by decide)
section
variable {X : Cx}
theorem pv (i : Nat) {x : Str} {pos : Pos} (hN : X.N[i]? = some x := by rfl) (hv : Vis X.env.scope x := by first | exact Or.inl rfl | exact Or.inr (Or.inl rfl) | exact Or.inr (Or.inr rfl)) (hd : (x == ("__debug__" : Str)) = false := by decide)
  (hcd : (x == ("__classdict__" : Str)) = false := by decide) : PE X (.Name x pos) (tVar i) := pe_var hN hv hd hcd
end
theorem iteF {A B : Prop} (h : B) : if false = true then A else B := by
 rw [if_neg Bool.false_ne_true]
 exact h
theorem iteT {A B : Prop} (h : A) : if true = true then A else B := by
 rw [if_pos rfl]
 exact h
theorem ite2 {c A B : Prop} [Decidable c] (h1 : c → A) (h2 : ¬ c → B) : if c then A else B := by
 by_cases h : c
 ·rw [if_pos h]
  exact h1 h
 ·rw [if_neg h]
  exact h2 h
def Same (H H' : Hp) : Prop := ∀ b o, H b = some o → H' b = some o
theorem Same.refl (H : Hp) : Same H H := fun _ _ h => h
theorem Same.trans {H H1 H2 : Hp} (a : Same H H1) (b : Same H1 H2) : Same H H2 := fun c o h => b c o (a c o h)
theorem Same.free {H H' : Hp} (e : Same H H') {l : Addr} (h : H' l = Option.none) : H l = Option.none := by
 cases q : H l with
 | none => rfl
 | some o =>
  rw [e l o q] at h
  cases h
theorem Same.seq {K : PySem.W.Frag} {H H' : Hp} {a : Addr} {xs : List V} (e : Same H H') (h : SqL K H a xs) : SqL K H' a xs := by
 rcases h with (h | ⟨o, h⟩) | h
 ·exact .inl (.inl (e _ _ h))
 ·exact .inl (.inr ⟨o, e _ _ h⟩)
 ·exact .inr h
end L2
end
section
set_option Elab.async false
set_option linter.all false
set_option maxRecDepth 100000
set_option maxHeartbeats 4000000
namespace L2
open PySem PySem.Spec PyProof.Rows
def PF (X : Cx) (ifs : List Expr) (t : TT) : Prop :=
 ∀ (pins : List (Addr × Obj)) (s : Shared) (σ : St) (H : Hp) (Q : Bool → Hp → Prop), Inv X pins σ H s → t σ H Q →
  wpAny (model X.prog X.w) X.A (forIn ifs true fun c r => if r = true then do let ok ← isTrue c X.env (eval c X.env); pure (ForInStep.yield ok) else pure (ForInStep.yield r)) (TP X pins σ Q) X.xe s
def tYes : TT := fun _ H Q => Q true H
theorem pf_nil {X : Cx} : PF X [] tYes := fun pins s σ H Q I h => wpAny_tests_nil ⟨H, I, h⟩
theorem pf_one {X : Cx} {c : Expr} {t : TT} (hc : PT X c t) : PF X [c] t := fun pins s σ H Q I h => wpAny_tests_one (hc pins s σ H Q I h)
section
variable {prog : Program} {w : World} {A : Around} {R : Result → Shared → Prop} {s : Shared}
theorem compLoop_go {elt target iter : Expr} {ifs : List Expr} {scope : Scope} {pos : Pos} {it acc : Value} {env : Env} (I : Nat → Shared → Prop)
  (turn : ∀ n s, I n s → wpAny (model prog w) A (pyNext it) (fun r s₁ => match r with
   | none => R (.ok .next) s₁
   | some v => wpAny (model prog w) A (letOwnedTupleGo target it v) (fun _ s₁' => wpAny (model prog w) A (assign target env v) (fun _ s₂ =>
     wpAny (model prog w) A (forIn ifs true fun c r => if r = true then do let ok ← isTrue c env (eval c env); pure (ForInStep.yield ok) else pure (ForInStep.yield r)) (fun ok s₃ =>
      if ok = true then wpAny (model prog w) A (eval elt env) (fun x s₄ =>
       wpAny (model prog w) A (call (.builtin "list.append") [acc, x]) (fun _ s₅ => ∃ m, m < n ∧ I m s₅) (fun _ _ => False) s₄) (fun _ _ => False) s₃
      else ∃ m, m < n ∧ I m s₃) (fun _ _ => False) s₂) (fun _ _ => False) s₁') (fun _ _ => False) s₁) (fun _ _ => False) s)
  (n : Nat) (h : I n s) : codeAny (model prog w) A (.compLoop (.ListComp elt [⟨target, iter, ifs, 0⟩] scope pos) 0 it acc env) R s := by
 refine codeAny_loop rfl I (fun n s hI => ?_) n h
 show wpAny _ A ((compTurn (.ListComp elt [⟨target, iter, ifs, 0⟩] scope pos) 0 it acc env).onRaise (fun x => do noteFrame x env; theTreesLotGoes x)) _ _ s
 refine wpAny_noted ?_
 rw [compTurn_list]
 refine wpAny_bind (wpAny_standAt (wpAny_bind (wpAny_mono (turn n s hI) (fun r s₁ h₁ => ?_) fun _ _ f => f.elim)))
 cases r with
 | none => exact wpAny_pure h₁
 | some v =>
  refine wpAny_bind (wpAny_mono h₁ (fun _ s₁' h₁' => wpAny_bind (wpAny_mono h₁' (fun _ s₂ h₂ => wpAny_bind (wpAny_mono h₂ (fun ok s₃ h₃ => ?_) fun _ _ f => f.elim)) fun _ _ f => f.elim)) fun _ _ f => f.elim)
  cases ok with
  | false => exact wpAny_pure ⟨rfl, h₃⟩
  | true =>
   exact wpAny_bind (wpAny_bind (wpAny_mono h₃ (fun x s₄ h₄ => wpAny_bind (wpAny_mono h₄ (fun _ s₅ h₅ => wpAny_pure (wpAny_pure ⟨rfl, h₅⟩)) fun _ _ f => f.elim)) fun _ _ f => f.elim))
end
theorem relabel_in {env : Env} : ∀ {names : List (Str × NameKind)} {y : Str} {k : NameKind},
  (names.map fun (n, k) => if (k == NameKind.free && env.scope.kind == .function && env.kindOf n == some .cell) then (n, NameKind.cell) else (n, k)).lookup y = some k → (k = .cell ∨ k = .free) → ∃ k0, (y, k0) ∈ names ∧ (k0 = .cell ∨ k0 = .free)
 | [], _, _, h, _ => by simp at h
 | (n, k0) :: r, y, k, h, hk => by
  have ih := @relabel_in env r y k
  rw [List.map_cons] at h
  by_cases hc : (k0 == NameKind.free && env.scope.kind == .function && env.kindOf n == some .cell) = true
  ·simp only [hc, if_true] at h
   cases hy : y == n with
   | true =>
    have e : y = n := eq_of_beq hy
    subst e
    rw [Bool.and_eq_true, Bool.and_eq_true] at hc
    exact ⟨k0, List.mem_cons_self .., .inr (eq_of_beq hc.1.1)⟩
   | false =>
    rw [List.lookup_cons, hy] at h
    obtain ⟨k1, h1, h2⟩ := ih h hk
    exact ⟨k1, List.mem_cons_of_mem _ h1, h2⟩
  ·simp only [hc] at h
   cases hy : y == n with
   | true =>
    have e : y = n := eq_of_beq hy
    subst e
    simp only [List.lookup_cons, hy, Bool.false_eq_true, if_false] at h
    cases h
    exact ⟨k0, List.mem_cons_self .., hk⟩
   | false =>
    simp only [List.lookup_cons, hy, Bool.false_eq_true, if_false] at h
    obtain ⟨k1, h1, h2⟩ := ih h hk
    exact ⟨k1, List.mem_cons_of_mem _ h1, h2⟩
theorem relabel_free {env : Env} : ∀ {names : List (Str × NameKind)} {y : Str}, names.lookup y = some .free →
  (names.map fun (n, k) => if (k == NameKind.free && env.scope.kind == .function && env.kindOf n == some .cell) then (n, NameKind.cell) else (n, k)).lookup y = some .cell ∨
  (names.map fun (n, k) => if (k == NameKind.free && env.scope.kind == .function && env.kindOf n == some .cell) then (n, NameKind.cell) else (n, k)).lookup y = some .free
 | [], _, h => by simp at h
 | (n, k0) :: r, y, h => by
  have ih := @relabel_free env r y
  rw [List.map_cons]
  cases hy : y == n with
  | true =>
   simp only [List.lookup_cons, hy] at h
   cases h
   by_cases hc : (NameKind.free == NameKind.free && env.scope.kind == .function && env.kindOf n == some .cell) = true
   ·left; simp only [hc, if_true, List.lookup_cons, hy]
   ·right; simp only [hc, Bool.false_eq_true, if_false, List.lookup_cons, hy]
  | false =>
   simp only [List.lookup_cons, hy] at h
   by_cases hc : (k0 == NameKind.free && env.scope.kind == .function && env.kindOf n == some .cell) = true
   ·simp only [hc, if_true, List.lookup_cons, hy]; exact ih h
   ·simp only [hc, Bool.false_eq_true, if_false, List.lookup_cons, hy]; exact ih h
theorem mem_of_lookup {κ β : Type} [BEq κ] [LawfulBEq κ] : ∀ {l : List (κ × β)} {y : κ} {b : β}, l.lookup y = some b → (y, b) ∈ l
 | [], _, _, h => by simp at h
 | (n, k) :: r, y, b, h => by
  cases hy : y == n with
  | true =>
   have e : y = n := eq_of_beq hy
   subst e
   simp only [List.lookup_cons, hy] at h
   cases h
   exact List.mem_cons_self ..
  | false =>
   simp only [List.lookup_cons, hy] at h
   exact List.mem_cons_of_mem _ (mem_of_lookup h)
def blk (X : Cx) (sc : Scope) (cl : List (Str × Addr)) (fj : List (Str × Nat)) (x : Str) (s₃ : Shared) (H₃ : Hp) (ex : List Addr) : Cx where
 prog := X.prog
 w := X.w
 K := X.K
 mg := X.mg
 base := X.base
 A := X.A
 N := x :: fj.map (·.1)
 s₀ := s₃
 H₀ := H₃
 env := compEnvC sc cl s₃.heap.objs.size X.env
 outer := X.stack
 stack := X.stack
 ex := ex
 fn := fun _ => false
 calm := X.calm
 pn := []
 tr := []
 fx := []
 xe := fun _ _ => False
def frees (σ : St) (fj : List (Str × Nat)) : St := fj.map fun p => (σ[p.2]?).join
structure LcOk (X : Cx) (sc : Scope) (cl : List (Str × Addr)) (fj : List (Str × Nat)) (x : Str) : Prop where
 clos : closureFor sc X.env = pure cl
 cell : ∀ y ∈ sc.names, y.2 ≠ .cell
 kind : sc.kind = .function
 names : ∀ y ∈ sc.names, y.2 = .local → sc.names.lookup y.1 = some .local
 hx : sc.names.lookup x = some .local
 sub : ∀ p ∈ cl, X.env.cells.lookup p.1 = some p.2
 has : ∀ y ∈ sc.names, y.2 = .free → (cl.lookup y.1).isSome = true
 fr : ∀ p ∈ fj, X.N[p.2]? = some p.1 ∧ sc.names.lookup p.1 = some .free ∧ (X.env.scope.names.lookup p.1 = some .cell ∨ X.env.scope.names.lookup p.1 = some .free)
 nd : (x :: fj.map (·.1)).Nodup
section
variable {X : Cx} {sc : Scope} {cl : List (Str × Addr)} {fj : List (Str × Nat)} {x : Str} {pins : List (Addr × Obj)} {σ : St} {H : Hp} {s₃ : Shared} {ex : List Addr}
theorem LcOk.sub' (O : LcOk X sc cl fj x) {n : Str} {c : Addr} (h : cl.lookup n = some c) : X.env.cells.lookup n = some c := O.sub (n, c) (mem_of_lookup h)
theorem lookup_of_mem {κ β : Type} [BEq κ] [LawfulBEq κ] : ∀ {l : List (κ × β)} {y : κ}, y ∈ l.map (·.1) → (l.lookup y).isSome = true
 | [], _, h => by cases h
 | (n, k) :: r, y, h => by
  cases hy : y == n with
  | true => simp only [List.lookup_cons, hy, Option.isSome_some]
  | false =>
   simp only [List.lookup_cons, hy]
   rcases List.mem_cons.mp h with e | h
   ·exact absurd (beq_iff_eq.mpr (show y = n from e)) (by rw [hy]; exact Bool.false_ne_true)
   ·exact lookup_of_mem h
theorem LcOk.of (cn : List Str) (clos : closureFor sc X.env = pure cl) (cell : ∀ y ∈ sc.names, y.2 ≠ .cell) (kind : sc.kind = .function) (names : ∀ y ∈ sc.names, y.2 = .local → sc.names.lookup y.1 = some .local) (hx : sc.names.lookup x = some .local)
  (sub : ∀ p ∈ cl, X.env.cells.lookup p.1 = some p.2) (hcn : cl.map (·.1) = cn) (has : ∀ y ∈ sc.names, y.2 = .free → y.1 ∈ cn)
  (fr : ∀ p ∈ fj, X.N[p.2]? = some p.1 ∧ sc.names.lookup p.1 = some .free ∧ (X.env.scope.names.lookup p.1 = some .cell ∨ X.env.scope.names.lookup p.1 = some .free)) (nd : (x :: fj.map (·.1)).Nodup) : LcOk X sc cl fj x :=
 ⟨clos, cell, kind, names, hx, sub, fun y hy hf => lookup_of_mem (by rw [hcn]; exact has y hy hf), fr, nd⟩
theorem blk_ok (O : LcOk X sc cl fj x) (I : Inv X pins σ H s₃) (hx : ∀ b ∈ ex, FpOk X pins H b) (hb : ∀ b ∈ ex, ∃ o, s₃.heap.get? b = some o) : (blk X sc cl fj x s₃ H ex).Ok where
 mod := I.ok.mod
 kind := O.kind
 glob := I.ok.glob
 blt := I.ok.blt
 above := Nat.le_refl _
 inj := fun a b c h1 h2 => I.ok.inj a b c (O.sub' h1) (O.sub' h2)
 has := fun y h => by
  have h' : ∃ k, ((relabel sc X.env).names).lookup y = some k ∧ (k = .cell ∨ k = .free) := by
   rcases h with h | h
   ·exact ⟨_, h, .inl rfl⟩
   ·exact ⟨_, h, .inr rfl⟩
  obtain ⟨k, h1, h2⟩ := h'
  obtain ⟨k0, m, z⟩ := relabel_in h1 h2
  have z' : k0 = .free := z.resolve_left (O.cell _ m)
  subst z'
  have q := O.has _ m rfl
  cases e : cl.lookup y with
  | none => rw [show cl.lookup (y, NameKind.free).1 = cl.lookup y from rfl, e] at q; cases q
  | some c => exact ⟨c, e⟩
 cab := fun _ _ h => by cases h
 hd := by
  rcases I.hdE with z | ⟨e, c, z1, z2⟩
  ·exact .inl z
  ·exact .inr ⟨e, c, z1, .inl z2⟩
 frames := I.ok.frames
 stk := .inl rfl
 exf := fun b h => by
  obtain ⟨o, e⟩ := hb b h
  obtain ⟨_, _, _, _, h4, _⟩ := hx b h
  exact ⟨Nat.ne_of_lt (Heap.lt_size e), fun y c hc => h4 y c (O.sub' hc)⟩
 bs := fun b o e => I.bs b o e
 bsz := Nat.le_trans I.ok.bsz I.sz
 noex := fun b o e h => by
  obtain ⟨_, _, _, h3, _, _⟩ := hx b h
  rcases h3 with z | z
  ·exact I.ok.noex b o e z
  ·exact absurd (Nat.lt_of_lt_of_le (Heap.lt_size (I.ok.bs b o e).1) z) (Nat.lt_irrefl _)
 exfs := fun b h z => by
  obtain ⟨_, h1, h2, _, _, _⟩ := hx b h
  exact (List.mem_cons.mp (I.stkSub b z)).elim h1 h2
 funs := I.stack
 frf := I.stkFree
theorem blk_inv (O : LcOk X sc cl fj x) (I : Inv X pins σ H s₃) (hx : ∀ b ∈ ex, FpOk X pins H b) (hb : ∀ b ∈ ex, ∃ o, s₃.heap.get? b = some o) {h₁ : Heap} {m₀ : Str → Option Value} {t : Nat}
  (hns : h₁.Ns s₃.heap.objs.size m₀) (hk : ∀ b o, s₃.heap.get? b = some o → h₁.get? b = some o) : Inv (blk X sc cl fj x s₃ H ex) [] (none :: frees σ fj) H { s₃ with heap := h₁, toks := t } where
 ok := blk_ok O I hx hb
 os := rfl
 bare := I.bare
 base := Un.kept hk
 loc := by
  refine ⟨m₀, hns, fun i y v e1 e2 _ => ?_⟩
  cases i with
  | zero => simp at e2
  | succ i =>
   have e1' : (fj.map (·.1))[i]? = some y := by
    have e : (x :: fj.map (·.1))[i + 1]? = some y := e1
    rw [List.getElem?_cons_succ] at e
    exact e
   have e2' : (frees σ fj)[i]? = some (some v) := by simpa using e2
   rw [List.getElem?_map] at e1'
   cases hp : fj[i]? with
   | none => rw [hp] at e1'; cases e1'
   | some p =>
    rw [hp] at e1'
    have ey : p.1 = y := Option.some.inj e1'
    subst ey
    unfold frees at e2'
    rw [List.getElem?_map, hp] at e2'
    have e3 : (σ[p.2]?).join = some v := Option.some.inj e2'
    have e4 : σ[p.2]? = some (some v) := by
     cases q : σ[p.2]? with
     | none => rw [q] at e3; cases e3
     | some w => rw [q] at e3; cases w with
      | none => cases e3
      | some w => cases e3; rfl
    obtain ⟨f1, f2, f3⟩ := O.fr p (List.mem_of_getElem? hp)
    obtain ⟨m, hn, hl⟩ := I.loc
    obtain ⟨u, r, l⟩ := hl p.2 p.1 v f1 e4 (.inr f3)
    refine ⟨u, r, ?_⟩
    rcases l with ⟨k, _⟩ | ⟨k, c, e, z⟩
    ·exfalso
     have k' : X.env.scope.names.lookup p.1 = some .local := k
     rcases f3 with f3 | f3 <;> rw [f3] at k' <;> cases k'
    ·have q := O.has _ (mem_of_lookup f2) rfl
     cases ec : cl.lookup p.1 with
     | none => rw [show cl.lookup (p.1, NameKind.free).1 = cl.lookup p.1 from rfl, ec] at q; cases q
     | some c' =>
      have e' := O.sub' ec
      rw [e] at e'
      cases e'
      exact .inr ⟨relabel_free f2, c, ec, z.keeps hk⟩
 cell := fun y c e => let ⟨v, z⟩ := I.cell y c (O.sub' e); ⟨v, z.keeps hk⟩
 free := I.hok.fresh (Nat.le_refl _)
 freeC := fun y c e => I.freeC y c (O.sub' e)
 pin := fun p hp => by cases hp
 hok := I.hok.kept hk
 len := by
  show (none :: frees σ fj).length = (x :: fj.map (·.1)).length
  simp [frees]
 tr := fun p hp => by cases hp
 fix := fun p hp => by cases hp
end
def tLc (wi : TI) (fj : List (Str × Nat)) (tc : TT) (te : TE) : TE := fun σ H Q => wi σ H fun J H1 => ∀ acc, H1 acc = none →
 ∃ W : Nat → Nat → List V → Hp → Prop, (∃ m, W 0 m [] (upd H1 acc (.lst []))) ∧ ∀ i m ys H, W i m ys H →
  (J.stop i H ∧ Q (.ref acc) H) ∨ (J.go i H ∧ ∀ x H', J.yld i H x H' → tc (some x :: frees σ fj) H' fun b H2 =>
   if b = true then te (some x :: frees σ fj) H2 fun v H3 => H3 acc = some (.lst ys) ∧ ys.length < sizeLine ∧ ∃ m', m' < m ∧ W (i + 1) m' (ys ++ [v]) (upd H3 acc (.lst (ys ++ [v])))
   else ∃ m', m' < m ∧ W (i + 1) m' ys H2)
section
variable {X : Cx} {sc : Scope} {cl : List (Str × Addr)} {fj : List (Str × Nat)} {x : Str} {px pos : Pos} {elt iter : Expr} {ifs : List Expr} {wi : TI} {tc : TT} {te : TE}
theorem lc_core (O : LcOk X sc cl fj x) (hc : X.calm = true) (hi : PI X (.Name x px) iter wi)
  (hf : ∀ s₃ H₃ ex, PF (blk X sc cl fj x s₃ H₃ ex) ifs tc) (he : ∀ s₃ H₃ ex, PE (blk X sc cl fj x s₃ H₃ ex) elt te)
  {pins : List (Addr × Obj)} {s : Shared} {σ : St} {H : Hp} {Q : VK} (I : Inv X pins σ H s) (h : tLc wi fj tc te σ H Q) {RR : Value → Addr → Result → Shared → Prop}
  (hRR : ∀ a C s' H' m, Inv X pins σ H' s' → Q (.ref a) H' → s'.heap.Ns C m → H' C = none → C ≠ X.env.locals → X.s₀.heap.objs.size ≤ C →
   (∀ y c, X.env.cells.lookup y = some c → c ≠ C) → (∀ p ∈ X.pn ++ pins, p.1 ≠ C) → RR (.ref a) C (.ok .next) s') :
  wpAny (model X.prog X.w) X.A (eval iter X.env) (fun xv s₁ => wpAny (model X.prog X.w) X.A (pyIter xv) (fun it s₂ => wpAny (model X.prog X.w) X.A (newList []) (fun acc s₃ =>
   wpAny (model X.prog X.w) X.A (newFunctionEnv sc X.env.globals cl [] X.env.qual none .none (some X.env)) (fun cenv s₄ =>
    codeAny (model X.prog X.w) X.A (.compStart (.ListComp elt [⟨.Name x px, iter, ifs, 0⟩] sc pos) 0 it acc { cenv with scope := relabel sc X.env }) (RR acc cenv.locals) s₄) X.xe s₃) X.xe s₂) X.xe s₁) X.xe s := by
 refine thn (hi pins s σ H _ I h) fun v s1 h1 => thn h1 fun itv s2 h2 => ?_
 obtain ⟨it, fp, tn, J, H2, e, I2, T, st2, f2, hW⟩ := h2
 subst e
 have hacc : H2 s2.heap.objs.size = none := I2.hok.fresh (Nat.le_refl _)
 obtain ⟨W, ⟨m0, w0⟩, turn⟩ := hW _ hacc
 have I3 : Inv X pins σ (upd H2 s2.heap.objs.size (.lst [])) { s2 with heap := s2.heap.push { cls := .type "list", data := .seq ([] : List Value).toArray } } := I2.lnew (t' := s2.toks) (ys := []) (its := []) .nil (Nat.zero_le _)
 have old3 : ∀ b o, s2.heap.get? b = some o → (s2.heap.push { cls := .type "list", data := .seq ([] : List Value).toArray }).get? b = some o := fun b o q => Heap.get?_push_of_some _ q
 have st3 := T.keep _ _ _ st2 fun b _ o q => old3 b o q
 have ob3 := T.obj _ _ st3
 have ob2 := T.obj _ _ st2
 have f3 : ∀ b ∈ fp, FpOk X pins (upd H2 s2.heap.objs.size (.lst [])) b := fun b hb => by
  obtain ⟨o, q, _⟩ := ob2 b hb
  obtain ⟨g0, g⟩ := f2 b hb
  exact ⟨by rw [upd_ne (Nat.ne_of_lt (Heap.lt_size q))]; exact g0, g⟩
 refine wpAny_newObj_type ?_
 generalize hS3 : ({ s2 with heap := s2.heap.push { cls := .type "list", data := .seq ([] : List Value).toArray } } : Shared) = s3 at I3 ⊢
 have st3' : tn 0 s3.heap := by rw [← hS3]; exact st3
 have ob3' : ∀ b ∈ fp, ∃ o, s3.heap.get? b = some o ∧ ∀ v, o.data ≠ .cell v := by rw [← hS3]; exact ob3
 generalize hH3 : upd H2 s2.heap.objs.size (.lst []) = H3 at I3 w0 f3
 generalize hac : s2.heap.objs.size = ac at turn ⊢
 clear hS3 st3 ob3 old3
 refine wpAny_newFunctionEnv O.cell (by intro y hy; cases hy) (fun h₁ hns₁ hsb₁ => ?_) O.kind
 have hk1 : ∀ b o, s3.heap.get? b = some o → h₁.get? b = some o := fun b o q => (hsb₁.2 b (Nat.ne_of_lt (Heap.lt_size q))).trans (Heap.get?_push_of_some _ q)
 have B := blk_inv (t := s3.toks + ([] : List (Str × Value)).length) O I3 f3 (fun b hb => let ⟨o, q, _⟩ := ob3' b hb; ⟨o, q⟩) hns₁ hk1
 generalize hX : blk X sc cl fj x s3 H3 fp = X' at B
 have hPF := hf s3 H3 fp
 have hPE := he s3 H3 fp
 rw [hX] at hPF hPE
 have eA : X'.A = X.A := by rw [← hX]; rfl
 have eP : X'.prog = X.prog := by rw [← hX]; rfl
 have eW : X'.w = X.w := by rw [← hX]; rfl
 have eK : X'.K = X.K := by rw [← hX]; rfl
 have eC : X'.calm = true := by rw [← hX]; exact hc
 have eE : X'.env = compEnvC sc cl s3.heap.objs.size X.env := by rw [← hX]; rfl
 have eX : X'.xe = fun _ _ => False := by rw [← hX]; rfl
 have eex : X'.ex = fp := by rw [← hX]; rfl
 have epn : X'.pn = [] := by rw [← hX]; rfl
 have eO : X'.outer = X.stack := by rw [← hX]; rfl
 have eS : X'.s₀ = s3 := by rw [← hX]; rfl
 have eH : X'.H₀ = H3 := by rw [← hX]; rfl
 have eN : X'.N = x :: fj.map (·.1) := by rw [← hX]; rfl
 have eF : X'.fx = [] := by rw [← hX]; rfl
 have stat : ∀ {H' : Hp}, (∀ b ∈ fp, H' b = none) → ∀ b ∈ fp, FpOk X' [] H' b := fun {H'} hn b hb => by
  obtain ⟨o, q, _⟩ := ob3' b hb
  obtain ⟨_, g1, g2, g3, g4, g5⟩ := f3 b hb
  refine ⟨hn b hb, ?_, ?_, .inl (by rw [eex]; exact hb), ?_, ?_⟩
  ·rw [eE]; exact Nat.ne_of_lt (Heap.lt_size q)
  ·show b ∉ frs X'.outer
   rw [eO]
   exact fun z => (List.mem_cons.mp (I3.stkSub b z)).elim g1 g2
  ·rw [eE]; exact fun y c hc' => g4 y c (O.sub' hc')
  ·rw [epn]; intro p hp; cases hp
 have loop : codeAny (model X.prog X.w) X.A (.compLoop (.ListComp elt [⟨.Name x px, iter, ifs, 0⟩] sc pos) 0 (.ref it) (.ref ac) (compEnvC sc cl s3.heap.objs.size X.env)) (RR (.ref ac) s3.heap.objs.size)
   { s3 with heap := h₁, toks := s3.toks + ([] : List (Str × Value)).length } := by
  refine compLoop_go (fun n s' => ∃ i o ys H', Inv X' [] (o :: frees σ fj) H' s' ∧ tn i s'.heap ∧ (∀ b ∈ fp, H' b = none) ∧ W i n ys H') ?_ m0
   ⟨0, none, [], H3, B, T.keep _ _ _ st3' fun b _ o q => hk1 b o q, fun b hb => (f3 b hb).1, w0⟩
  rintro n s4 ⟨i, o4, ys, H4, J4, st4, fr4, w4⟩
  rw [← eE, ← eP, ← eW, ← eA]
  rcases turn i n ys H4 w4 with ⟨stop, q⟩ | ⟨go, step⟩
  ·have T' : Turn X'.prog X'.w X'.K (.Name x px) J fp it tn := by rw [eP, eW, eK]; exact T
   refine thn (T'.done X' rfl rfl rfl eC i [] s4 _ H4 _ J4 (stat fr4) st4 stop) fun r s5 ⟨hr, J5⟩ => ?_
   subst hr
   have hb5 := J5.base
   rw [eS, eH, eex, show X'.fs = frs X.stack by show frs X'.outer = _; rw [eO]] at hb5
   have ho5 := J5.os
   rw [eS] at ho5
   have hk5 := J5.hok
   rw [eP, eW] at hk5
   have I5 : Inv X pins σ H4 s5 := I3.call' (ch := fp) ho5 hb5 hk5 J5.bare fun b hb => by
    obtain ⟨_, g1, g2, g3, g4, g5⟩ := f3 b hb
    exact ⟨g3, g1, g4, g5⟩
   obtain ⟨m5, n5, _⟩ := J5.loc
   have fr5 := J5.free
   rw [eE] at n5 fr5
   refine hRR ac s3.heap.objs.size s5 H4 m5 I5 q n5 fr5 (Ne.symm (Nat.ne_of_lt I3.lt)) I3.sz (fun y c hc' => ?_) fun p hp => ?_
   ·obtain ⟨_, oc, q', _⟩ := I3.cell y c hc'
    exact Nat.ne_of_lt (Heap.lt_size q')
   ·exact Nat.ne_of_lt (Heap.lt_size (I3.pin p hp).1)
  ·have T' : Turn X'.prog X'.w X'.K (.Name x px) J fp it tn := by rw [eP, eW, eK]; exact T
   refine thn (T'.item X' rfl rfl rfl eC i [] s4 _ H4 _ J4 (stat fr4) st4 go) fun r s5 ⟨u, hr, h5⟩ => ?_
   subst hr
   refine thn h5 fun _ s6 ⟨xv, H6, J6, r6, y6, st6, fr6⟩ => ?_
   have J6' := J6.pinned (stat fr6) (T.obj _ _ st6)
   have lx : X'.env.scope.names.lookup x = some .local := by rw [eE]; exact lookup_relabel_local O.hx
   have pg : PG X' (.Name x px) (gName 0) := pg_name (by rw [eN]; exact O.nd) (by rw [eN]; rfl) (.inl lx) (.inr lx) (by rw [eF]; intro p hp; cases hp)
   have q6 := step xv H6 y6
   refine wpAny_mono (pg _ s6 _ H6 xv u (fun σ' H' => σ' = some xv :: frees σ fj ∧ H' = H6) J6' r6 ⟨rfl, rfl⟩) (fun _ s7 ⟨σ7, H7, J7, e7, e7'⟩ => ?_) (by rw [eX]; exact fun _ _ f => f)
   subst e7 e7'
   refine wpAny_mono (hPF _ s7 _ H7 _ J7 q6) (fun b s8 ⟨H8, J8, q8⟩ => ?_) (by rw [eX]; exact fun _ _ f => f)
   have back : ∀ {H9 : Hp} {s9 : Shared} {o9 : Option V}, Inv X' ([] ++ pinsAt fp s6.heap) (o9 :: frees σ fj) H9 s9 → Inv X' [] (o9 :: frees σ fj) H9 s9 ∧ tn (i + 1) s9.heap ∧ ∀ b ∈ fp, H9 b = none := fun {H9 s9 o9} J9 => by
    refine ⟨J9.unpinned, T.keep _ _ _ st6 fun b hb o q => (J9.pin (b, o) (List.mem_append_right _ (List.mem_append_right _ (mem_pinsAt hb q)))).1, fun b hb => ?_⟩
    obtain ⟨o, q, d⟩ := T.obj _ _ st6 b hb
    exact (J9.pin (b, o) (List.mem_append_right _ (List.mem_append_right _ (mem_pinsAt hb q)))).2.1
   cases b with
   | false =>
    obtain ⟨m', hm, w8⟩ : ∃ m', m' < n ∧ W (i + 1) m' ys H8 := q8
    obtain ⟨b1, b2, b3⟩ := back J8
    exact ⟨m', hm, i + 1, some xv, ys, H8, b1, b2, b3, w8⟩
   | true =>
    refine wpAny_mono (hPE _ s8 _ H8 _ J8 q8) (fun uv s9 ⟨v9, H9, J9, r9, ha9, hl9, m', hm, w9⟩ => ?_) (by rw [eX]; exact fun _ _ f => f)
    refine wpAny_mono (mt_append (X := X') _ s9 _ H9 (.ref ac) [v9] (.ref ac) [uv] (fun _ H' => H' = upd H9 ac (.lst (ys ++ [v9]))) J9 rfl (.cons r9 .nil) ⟨ac, ys, v9, rfl, rfl, ha9, hl9, rfl⟩)
     (fun _ s10 ⟨_, H10, J10, _, e10⟩ => ?_) (by rw [eX]; exact fun _ _ f => f)
    subst e10
    obtain ⟨b1, b2, b3⟩ := back J10
    exact ⟨m', hm, i + 1, some xv, ys ++ [v9], _, b1, b2, b3, w9⟩
 exact codeAny_compStart_list loop (T.self _ 0 _ _ _ (T.keep _ _ _ st3' fun b _ o q => hk1 b o q) loop)
theorem pe_lc (O : LcOk X sc cl fj x) (hc : X.calm = true) (hi : PI X (.Name x px) iter wi)
  (hf : ∀ s₃ H₃ ex, PF (blk X sc cl fj x s₃ H₃ ex) ifs tc) (he : ∀ s₃ H₃ ex, PE (blk X sc cl fj x s₃ H₃ ex) elt te)
  (hs : ∀ x, foldedSetIterable iter X.env x = pure x := by intro _; rfl) : PE X (.ListComp elt [⟨.Name x px, iter, ifs, 0⟩] sc pos) (tLc wi fj tc te) := by
 intro pins s σ H Q I h
 rw [eval_ListComp]
 refine wpAny_comprehension_free (use := none) rfl hs O.clos O.kind O.names (lc_core O hc hi hf he I h (RR := fun acc C => compPost (model X.prog X.w) X.A X.xe none (EP X pins σ Q) acc C) ?_)
 intro a C s' H' m I' q hn hC hL hz h2 h3
 exact ⟨m, hn, fun h' hs' => ⟨.ref a, H', I'.turned (t' := s'.toks) (fun b o hb e => (hs'.2 b hb).trans e) hC hL (.inr hz) h2 h3, rfl, q⟩⟩
theorem ps_setLc {j : Nat} {y : Str} {py spos : Pos} (O : LcOk X sc cl fj x) (hc : X.calm = true) (hN : X.N.Nodup) (hj : X.N[j]? = some y) (hy : Loc X.env.scope y) (hi : PI X (.Name x px) iter wi)
  (hf : ∀ s₃ H₃ ex, PF (blk X sc cl fj x s₃ H₃ ex) ifs tc) (he : ∀ s₃ H₃ ex, PE (blk X sc cl fj x s₃ H₃ ex) elt te)
  (hsw : swapsWith (.ListComp elt [⟨.Name x px, iter, ifs, 0⟩] sc pos) (some (.Name y py)) spos.line X.env = pure true := by rfl)
  (hfn : X.fn y = true ∨ X.env.scope.names.lookup y = some .local := by first | exact .inl rfl | exact .inr rfl | assumption)
  (hfx : ∀ p ∈ X.fx, p.1 ≠ y := by first | exact fun p h => absurd (show p ∈ ([] : List (Str × Value)) from h) (by simp) | assumption)
  (hs : ∀ x, foldedSetIterable iter X.env x = pure x := by intro _; rfl) : PS X (.Assign [.Name y py] (.ListComp elt [⟨.Name x px, iter, ifs, 0⟩] sc pos) spos) (tAsg (tLc wi fj tc te) (gName j)) := by
 intro pins s σ H D I h
 rw [exec_Assign_Name_used _ _ _ _ hsw]
 refine wpAny_bind (wpAny_standAt (wpAny_bind ?_))
 show wpAny _ X.A (do let _ ← comprehension (.ListComp elt [⟨.Name x px, iter, ifs, 0⟩] sc pos) sc X.env _ (newList []) false (eval iter X.env) (some (assign (.Name y py) X.env))) _ _ s
 refine wpAny_bind (thn (wpAny_comprehension_free (use := some (assign (.Name y py) X.env)) (Q := fun _ s' => ∃ σ' H', Inv X pins σ' H' s' ∧ D.nx σ' H') rfl hs O.clos O.kind O.names
  (lc_core O hc hi hf he I h (RR := fun acc C => compPost (model X.prog X.w) X.A X.xe (some (assign (.Name y py) X.env)) (fun _ s' => ∃ σ' H', Inv X pins σ' H' s' ∧ D.nx σ' H') acc C) ?_)) fun _ s' hq => wpAny_pure (wpAny_pure hq))
 intro a C s' H' m I' q hn hC hL hz h2 h3
 show wpAny _ X.A (assign (.Name y py) X.env (.ref a)) _ _ _
 refine wpAny_assign_Name (store_ok2 (v := .ref a) I' hN hj hy rfl (fun s'' I'' ⟨a', sb, ha⟩ => ?_) hfn hfx)
 have ne : C ≠ a' := by
  rcases ha with ha | ha
  ·rw [ha]; exact hL
  ·exact Ne.symm (h2 y a' ha)
 exact ⟨m, hn.sameBut sb ne, fun h' hs' => ⟨_, H', I''.turned (t' := s''.toks) (fun b o hb e => (hs'.2 b hb).trans e) hC hL (.inr hz) h2 h3, q⟩⟩
end
theorem lc_range {fj : List (Str × Nat)} {te : TE} {σ : St} {H1 : Hp} {Q : Addr → Hp → Prop} {lo : Int} {n : Nat} (hn : n ≤ 1000)
  (Pv : Addr → Nat → List V → Hp → Prop) (h0 : ∀ acc, H1 acc = none → Pv acc 0 [] (upd H1 acc (.lst [])))
  (hl : ∀ acc i ys H, i ≤ n → Pv acc i ys H → ys.length = i)
  (hs : ∀ acc i ys H (Qf : VK), i < n → Pv acc i ys H → (∀ v H3, H3 acc = some (.lst ys) → Pv acc (i + 1) (ys ++ [v]) (upd H3 acc (.lst (ys ++ [v]))) → Qf v H3) → te (some (.int (lo + i)) :: frees σ fj) H Qf)
  (hd : ∀ acc ys H, H1 acc = none → Pv acc n ys H → Q acc H) :
  ∀ acc, H1 acc = none → ∃ W : Nat → Nat → List V → Hp → Prop, (∃ m, W 0 m [] (upd H1 acc (.lst []))) ∧ ∀ i m ys H, W i m ys H →
   ((Itr lo n).stop i H ∧ Q acc H) ∨ ((Itr lo n).go i H ∧ ∀ x H', (Itr lo n).yld i H x H' → tYes (some x :: frees σ fj) H' fun b H2 =>
    if b = true then te (some x :: frees σ fj) H2 fun v H3 => H3 acc = some (.lst ys) ∧ ys.length < sizeLine ∧ ∃ m', m' < m ∧ W (i + 1) m' (ys ++ [v]) (upd H3 acc (.lst (ys ++ [v])))
    else ∃ m', m' < m ∧ W (i + 1) m' ys H2) := by
 intro acc hacc
 refine ⟨fun i m ys H => m = n - i ∧ i ≤ n ∧ Pv acc i ys H, ⟨n, rfl, Nat.zero_le _, h0 acc hacc⟩, ?_⟩
 rintro i m ys H ⟨rfl, hi, hp⟩
 by_cases e : i = n
 ·subst e; exact .inl ⟨Nat.le_refl _, hd acc ys H hacc hp⟩
 ·have hlt : i < n := by omega
  refine .inr ⟨hlt, ?_⟩
  rintro x H' ⟨rfl, rfl⟩
  refine (hs acc i ys _ (fun v H3 => H3 acc = some (.lst ys) ∧ ys.length < sizeLine ∧ ∃ m', m' < n - i ∧ (m' = n - (i + 1) ∧ i + 1 ≤ n ∧ Pv acc (i + 1) (ys ++ [v]) (upd H3 acc (.lst (ys ++ [v]))))) hlt hp fun v H3 q1 q2 => ⟨q1, ?_, n - (i + 1), by omega, rfl, by omega, q2⟩)
  have := hl acc i ys _ hi hp
  exact small1000 (by omega)
theorem lc_list {K : PySem.W.Frag} {a : Addr} {xs : List V} {fj : List (Str × Nat)} {te : TE} {σ : St} {H1 : Hp} {Q : Addr → Hp → Prop} (hn : xs.length ≤ 1000)
  (Pv : Addr → Nat → List V → Hp → Prop) (h0 : ∀ acc, H1 acc = none → Pv acc 0 [] (upd H1 acc (.lst [])))
  (hl : ∀ acc i ys H, i ≤ xs.length → Pv acc i ys H → ys.length = i ∧ SqL K H a xs)
  (hs : ∀ acc i x ys H (Qf : VK), xs[i]? = some x → Pv acc i ys H → (∀ v H3, H3 acc = some (.lst ys) → Pv acc (i + 1) (ys ++ [v]) (upd H3 acc (.lst (ys ++ [v]))) → Qf v H3) → te (some x :: frees σ fj) H Qf)
  (hd : ∀ acc ys H, H1 acc = none → Pv acc xs.length ys H → Q acc H) :
  ∀ acc, H1 acc = none → ∃ W : Nat → Nat → List V → Hp → Prop, (∃ m, W 0 m [] (upd H1 acc (.lst []))) ∧ ∀ i m ys H, W i m ys H →
   ((Itl K a).stop i H ∧ Q acc H) ∨ ((Itl K a).go i H ∧ ∀ x H', (Itl K a).yld i H x H' → tYes (some x :: frees σ fj) H' fun b H2 =>
    if b = true then te (some x :: frees σ fj) H2 fun v H3 => H3 acc = some (.lst ys) ∧ ys.length < sizeLine ∧ ∃ m', m' < m ∧ W (i + 1) m' (ys ++ [v]) (upd H3 acc (.lst (ys ++ [v])))
    else ∃ m', m' < m ∧ W (i + 1) m' ys H2) := by
 intro acc hacc
 refine ⟨fun i m ys H => m = xs.length - i ∧ i ≤ xs.length ∧ Pv acc i ys H, ⟨_, rfl, Nat.zero_le _, h0 acc hacc⟩, ?_⟩
 rintro i m ys H ⟨rfl, hi, hp⟩
 obtain ⟨l1, l2⟩ := hl acc i ys H hi hp
 by_cases e : i = xs.length
 ·subst e; exact .inl ⟨⟨xs, l2, Nat.le_refl _⟩, hd acc ys H hacc hp⟩
 ·have hlt : i < xs.length := by omega
  refine .inr ⟨⟨xs, xs[i], l2, List.getElem?_eq_getElem hlt⟩, ?_⟩
  rintro x H' ⟨rfl, hy⟩
  refine (hs acc i x ys _ (fun v H3 => H3 acc = some (.lst ys) ∧ ys.length < sizeLine ∧ ∃ m', m' < xs.length - i ∧ (m' = xs.length - (i + 1) ∧ i + 1 ≤ xs.length ∧ Pv acc (i + 1) (ys ++ [v]) (upd H3 acc (.lst (ys ++ [v]))))) (hy xs l2) hp fun v H3 q1 q2 => ⟨q1, ?_, xs.length - (i + 1), by omega, rfl, by omega, q2⟩)
  exact small1000 (by omega)
mutual
inductive DV (K : PySem.W.Frag) (H : Hp) : V → PyData → Prop
 | non : DV K H .non .none
 | bl (b : Bool) : DV K H (.bl b) (.bool b)
 | int (i : Int) : DV K H (.int i) (.int i)
 | str (x : Str) : DV K H (.str x) (.str x)
 | lst {a : Addr} {xs : List V} {ds : List PyData} : SqL K H a xs → DVs K H xs ds → DV K H (.ref a) (.list ds)
 | tup {a : Addr} {xs : List V} {ds : List PyData} : SqT K H a xs → DVs K H xs ds → DV K H (.ref a) (.tuple ds)
inductive DVs (K : PySem.W.Frag) (H : Hp) : List V → List PyData → Prop
 | nil : DVs K H [] []
 | cons {x : V} {xs : List V} {d : PyData} {ds : List PyData} : DV K H x d → DVs K H xs ds → DVs K H (x :: xs) (d :: ds)
end
section
variable {X : Cx} {pins : List (Addr × Obj)} {σ : St} {H : Hp} {s : Shared}
mutual
theorem DV.reads (I : Inv X pins σ H s) : ∀ {v : V} {d : PyData} {u : Value}, DV X.K H v d → RelV v u → ∃ as, Reads s.heap u d as
 | _, _, _, .non, r => by cases (show _ = Value.none from r); exact ⟨_, .none⟩
 | _, _, _, .bl b, r => by cases (show _ = Value.bool b from r); exact ⟨_, .bool b⟩
 | _, _, _, .int i, r => by obtain ⟨t, e⟩ := (show ∃ t, _ = Value.int i t from r); subst e; exact ⟨_, .int i t⟩
 | _, _, _, .str x, r => by obtain ⟨t, e⟩ := (show ∃ t, _ = Value.str x t from r); subst e; exact ⟨_, .str x t⟩
 | _, _, _, .lst (a := a) hq hd, r => by
  cases (show _ = Value.ref a from r)
  obtain ⟨its, rv, ⟨o, n, e, c, _, dt⟩, _⟩ := I.list hq
  obtain ⟨as, q⟩ := DVs.reads I hd rv
  exact ⟨_, .list e c dt (by simpa using q)⟩
 | _, _, _, .tup (a := a) hq hd, r => by
  cases (show _ = Value.ref a from r)
  obtain ⟨its, rv, p, _⟩ := I.tuple hq
  obtain ⟨o, e, c, n, dt⟩ := p
  obtain ⟨as, q⟩ := DVs.reads I hd rv
  exact ⟨_, .tuple e c dt (by simpa using q)⟩
theorem DVs.reads (I : Inv X pins σ H s) : ∀ {vs : List V} {ds : List PyData} {us : List Value}, DVs X.K H vs ds → Vals vs us → ∃ as, ReadsAll s.heap us ds as
 | _, _, _, .nil, r => by cases r; exact ⟨_, .nil⟩
 | _, _, _, .cons hd ht, r => by
  cases r with
  | cons r1 r2 =>
   obtain ⟨as, q⟩ := DV.reads I hd r1
   obtain ⟨bs, p⟩ := DVs.reads I ht r2
   exact ⟨_, .cons q p⟩
end
end
section
variable {X : Cx}
def rEqD (K : PySem.W.Frag) (neg : Bool) : R2 := fun x y H Q => ∃ d e, DV K H x d ∧ DV K H y e ∧ SeqAt.shaped d = true ∧ SeqAt.shaped e = true ∧ Q (.bl (if neg then !PyData.eqv d e else PyData.eqv d e)) H
theorem op_eqD (hu : X.A.units + 64 < cLine) : OpR X (compareOp .Eq) (rEqD X.K false) := by
 intro pins s σ H x y v u Q I rx ry ⟨d, e, hd, he, sd, se, q⟩
 obtain ⟨as, ra⟩ := hd.reads I rx
 obtain ⟨bs, rb⟩ := he.reads I ry
 exact SeqAt.compareEq_shaped ra rb sd se hu (fin_bl I q rfl)
theorem op_neD (hu : X.A.units + 64 < cLine) : OpR X (compareOp .NotEq) (rEqD X.K true) := by
 intro pins s σ H x y v u Q I rx ry ⟨d, e, hd, he, sd, se, q⟩
 obtain ⟨as, ra⟩ := hd.reads I rx
 obtain ⟨bs, rb⟩ := he.reads I ry
 exact SeqAt.compareNe_shaped ra rb sd se hu (fin_bl I q rfl)
def rIsin (K : PySem.W.Frag) (T : String) : List V → Hp → VK → Prop := fun xs H Q => ∃ x t b, xs = [x, .ty T] ∧ TyOf K H x t ∧ PySem.W.kitOne K t (.type T) = some b ∧ Q (.bl b) H
theorem call_isinst {T : String} : CallR X (.builtin "isinstance") (rIsin X.K T) := by
 intro pins s σ H xs us Q I r ⟨x, t, b, e, ty, ek, q⟩
 subst e
 obtain ⟨u, w', rfl, ru, rw'⟩ := vals2 r
 cases (show w' = Value.type T from rw')
 exact isinst_ok I ru ty ek fun tk => ⟨.bl b, H, I.tok tk, rfl, q⟩
theorem call_isinstC {C : Addr} : CallR X (.builtin "isinstance") (fun xs H Q => ∃ x t b, xs = [x, .ref C] ∧ TyOf X.K H x t ∧ PySem.W.kitOne X.K t (.ref C) = some b ∧ Q (.bl b) H) := by
 intro pins s σ H xs us Q I r ⟨x, t, b, e, ty, ek, q⟩
 subst e
 obtain ⟨u, w', rfl, ru, rw'⟩ := vals2 r
 cases (show w' = Value.ref C from rw')
 exact isinst_ok I ru ty ek fun tk => ⟨.bl b, H, I.tok tk, rfl, q⟩
theorem all_range : ∀ bs : List Bool, (List.range bs.length).all (fun i => bs.getD i true) = bs.all id
 | [] => rfl
 | b :: r => by
  rw [List.length_cons, List.range_succ_eq_map, List.all_cons, List.all_map, List.all_cons]
  have := all_range r
  simp only [List.getD_cons_zero, Function.comp_def, List.getD_cons_succ] at this ⊢
  rw [this]
  rfl
def HdIn (A : Around) (L : List Addr) (h : Heap) : Prop := A.handled = none ∨ ∃ (e : Addr) (oe : Obj) (vs : Array Value), A.handled = some (.ref e) ∧ e ∈ L ∧ h.get? e = some oe ∧ oe.data = .fields vs ∧
 (vs[2]? = some .none ∨ ∃ (b : Addr) (ob : Obj) (vb : Array Value), vs[2]? = some (.ref b) ∧ b ≠ e ∧ b ∈ L ∧ h.get? b = some ob ∧ ob.data = .fields vb ∧ vb[2]? = some .none)
theorem HdIn.at {A : Around} {L : List Addr} {h : Heap} (x : HdIn A L h) : HdAt A h := by
 rcases x with x | ⟨e, oe, vs, a, _, b, c, d⟩
 ·exact .inl x
 ·refine .inr ⟨e, oe, vs, a, b, c, ?_⟩
  rcases d with d | ⟨b, ob, vb, d1, d2, _, d3⟩
  ·exact .inl d
  ·exact .inr ⟨b, ob, vb, d1, d2, d3⟩
theorem HdAt.in {A : Around} {h : Heap} (x : HdAt A h) : ∃ L, HdIn A L h := by
 rcases x with x | ⟨e, oe, vs, a, b, c, d⟩
 ·exact ⟨[], .inl x⟩
 ·rcases d with d | ⟨b', ob, vb, d1, d2, d3⟩
  ·exact ⟨[e], .inr ⟨e, oe, vs, a, by simp, b, c, .inl d⟩⟩
  ·exact ⟨[e, b'], .inr ⟨e, oe, vs, a, by simp, b, c, .inr ⟨b', ob, vb, d1, d2, by simp, d3⟩⟩⟩
theorem HdIn.keepF {A : Around} {L : List Addr} {h h' : Heap} (x : HdIn A L h) (k : ∀ b ∈ L, ∀ o, h.get? b = some o → h'.get? b = some o) : HdIn A L h' := by
 rcases x with x | ⟨e, oe, vs, a, m, b, c, d⟩
 ·exact .inl x
 ·refine .inr ⟨e, oe, vs, a, m, k e m oe b, c, ?_⟩
  rcases d with d | ⟨b, ob, vb, d1, d2, d3, d4, d5⟩
  ·exact .inl d
  ·exact .inr ⟨b, ob, vb, d1, d2, d3, k b d3 ob d4, d5⟩
theorem walks_listH {prog : Program} {w : World} {A : Around} (I ax : Addr) (hne : ax ≠ I) (items : Array Value) (L : List Addr) :
  Walks prog w A I (I :: ax :: L) [I] items.size (fun i v => items[i]? = some v) (fun i h => h.IsListIter I ax i ∧ h.IsList ax items ∧ HdIn A L h) where
 sub := fun b hb => by rw [List.mem_singleton.mp hb]; exact List.mem_cons_self ..
 frame := fun _ _ _ st hk => ⟨st.1.at fun o e => hk I (List.mem_cons_self ..) o e, st.2.1.at fun o e => hk ax (List.mem_cons_of_mem _ (List.mem_cons_self ..)) o e, st.2.2.keepF fun b hb o e => hk b (List.mem_cons_of_mem _ (List.mem_cons_of_mem _ hb)) o e⟩
 item := fun i s Q E hi st hQ => by
  refine wpAny_pyNext_list_item st.1 st.2.1 (x := items[i]) (by simp [hi]) fun h' hit' hs' => ?_
  refine hQ _ h' s.toks (by simp [hi]) ⟨hit', st.2.1.extBut hs'.extBut hne, ?_⟩ fun b o hb e => hs'.extBut b o (fun h => hb (by simp [h])) e
  have nit : ∀ (c : Addr) (o : Obj) (vs : Array Value), s.heap.get? c = some o → o.data = .fields vs → (vs[2]? = some .none ∨ ∃ b, vs[2]? = some (.ref b)) → c ≠ I := fun c o vs b c' d z => by
   subst z
   obtain ⟨o', ho, _, hd⟩ := st.1
   rw [b] at ho; cases ho; rw [hd] at c'; cases c'
   rcases d with d | ⟨_, d⟩ <;> simp at d
  rcases st.2.2 with x | ⟨e, oe, vs, a, m, b, c, d⟩
  ·exact .inl x
  ·refine .inr ⟨e, oe, vs, a, m, hs'.extBut e oe (nit e oe vs b c ?_) b, c, ?_⟩
   ·rcases d with d | ⟨b, _, _, d, _⟩
    ·exact .inl d
    ·exact .inr ⟨b, d⟩
   ·rcases d with d | ⟨b, ob, vb, d1, d2, d3, d4, d5, d6⟩
    ·exact .inl d
    ·exact .inr ⟨b, ob, vb, d1, d2, d3, hs'.extBut b ob (nit b ob vb d4 d5 (.inl d6)) d4, d5, d6⟩
 done := fun s Q E st hQ => list_endH st.2.2.at st.1 st.2.1 (by simp) fun h' he => hQ h' s.toks fun b o hb e => he b o (fun h => hb (by simp [h])) e
 self := fun _ _ _ _ st h => wpAny_pyIter_listiter st.1 h
def rAll (K : PySem.W.Frag) : List V → Hp → VK → Prop := fun xs H Q => ∃ (p : Addr) (bs : List Bool), xs = [.ref p] ∧ SqL K H p (bs.map V.bl) ∧ Q (.bl (bs.all id)) H
theorem call_all (hc : X.calm = true) : CallR X (.builtin "all") (rAll X.K) := by
 intro pins s σ H xs us Q I r ⟨p, bs, e, hq, q⟩
 subst e
 obtain ⟨u, rfl, ru⟩ := vals1 r
 cases (show u = Value.ref p from ru)
 obtain ⟨its, rv, pl, hz⟩ := I.list hq
 have hp : p < s.heap.objs.size := by obtain ⟨o, n, e, _⟩ := pl; exact Heap.lt_size e
 have hlen : its.length = bs.length := by rw [← rv.length, List.length_map]
 refine call_all_walk (wpAny_pyIter_list pl.isList ?_)
 obtain ⟨HL, hHL⟩ := I.hd.in
 refine ⟨s.heap.objs.size, _, [s.heap.objs.size], its.toArray.size, _, _, (fun i => bs.getD i true), rfl, walks_listH s.heap.objs.size p (Nat.ne_of_lt hp) its.toArray HL,
  ⟨⟨_, Heap.get?_push_size _ rfl, rfl, rfl⟩, pl.isList.push _, hHL.keepF fun _ _ _ e => Heap.get?_push_of_some _ e⟩, ?_, fun h' tk hk => ?_⟩
 ·intro i v s' Q' E' hv hQ
  have hv' : its[i]? = some v := by simpa using hv
  have hi : i < bs.length := by rw [← hlen]; exact (List.getElem?_eq_some_iff.mp hv').1
  obtain ⟨w', e1, r1⟩ := rv.get (i := i) (x := .bl bs[i]) (by rw [List.getElem?_map, List.getElem?_eq_getElem hi]; rfl)
  rw [hv'] at e1
  cases e1
  cases (show v = Value.bool bs[i] from r1)
  refine wpAny_truthy_bool ?_
  rw [show bs[i] = bs.getD i true by rw [List.getD_eq_getElem?_getD, List.getElem?_eq_getElem hi]; rfl]
  exact hQ
 ·have ks : ∀ b o, s.heap.get? b = some o → h'.get? b = some o := fun b o e => hk b o (by
   intro z
   rcases List.mem_cons.mp z with z | z
   ·exact absurd (Heap.lt_size e) (by rw [z]; exact Nat.lt_irrefl _)
   ·cases z) (Heap.get?_push_of_some _ e)
  refine ⟨.bl _, H, I.kept (t' := tk) ks, rfl, ?_⟩
  rw [List.size_toArray, hlen, all_range]
  exact q
theorem Inv.bigX {pins : List (Addr × Obj)} {σ : St} {H : Hp} {s : Shared} (I : Inv X pins σ H s) : sysModules < s.heap.objs.size := by
 have h : mainGlobals < s.heap.objs.size := (I.mod.glob.keeps I.bk).lt
 exact Nat.lt_trans (by decide) h
def tDict0 : TE := fun _ H Q => ∀ p, H p = none → Q (.ref p) (upd H p (.dK []))
theorem pe_dict0 {pos : Pos} : PE X (.Dict [] [] pos) tDict0 := fun pins s σ H Q I h =>
 wpAny_Dict_empty ⟨.ref s.heap.objs.size, _, I.laid (a := s.heap.objs.size) (o := .dK []) (t' := s.toks) (fun _ _ q => Heap.get?_push_of_some _ q) (Nat.le_refl _)
  ⟨Nat.zero_le _, beq_eq_false_iff_ne.mpr (Ne.symm (Nat.ne_of_lt I.bigX)), [], .nil, Heap.DictOf.new _⟩, rfl, h _ (I.hok.fresh (Nat.le_refl _))⟩
end
section
variable {prog : Program} {w : World} {A : Around} {E : Value → Shared → Prop} {s : Shared}
end
section
variable {X : Cx}
end
end L2
end
section
set_option Elab.async false
set_option linter.all false
set_option maxRecDepth 100000
set_option maxHeartbeats 4000000
namespace L2
open PySem PySem.Spec PyProof.Rows
structure Mvd (fs ex : List Addr) (h h' : Heap) : Prop where
 keep : ∀ b o, b ∉ ex → b ∉ fs → h.get? b = some o → h'.get? b = some o
 slot : ∀ b o, b ∉ ex → h.get? b = some o → ∃ sl, h'.get? b = some { o with slots := sl }
 there : ∀ b o, h.get? b = some o → ∃ o', h'.get? b = some o'
theorem Mvd.trans {fs ex : List Addr} {h h1 h2 : Heap} (a : Mvd fs ex h h1) (b : Mvd fs ex h1 h2) : Mvd fs ex h h2 where
 keep := fun c o hx hf e => b.keep c o hx hf (a.keep c o hx hf e)
 slot := fun c o hx e => by
  obtain ⟨sl, e1⟩ := a.slot c o hx e
  obtain ⟨sl', e2⟩ := b.slot c _ hx e1
  exact ⟨sl', e2⟩
 there := fun c o e => by
  obtain ⟨o', e1⟩ := a.there c o e
  exact b.there c o' e1
theorem Mvd.mono {fs fs' ex ex' : List Addr} {h h' : Heap} (a : Mvd fs ex h h') (hf : ∀ b ∈ fs, b ∈ fs') (hx : ∀ b ∈ ex, b ∈ ex') : Mvd fs' ex' h h' :=
 ⟨fun c o nx nf e => a.keep c o (fun z => nx (hx c z)) (fun z => nf (hf c z)) e, fun c o nx e => a.slot c o (fun z => nx (hx c z)) e, a.there⟩
def Fly (e T : Addr) (cls fl cx : Value) (h : Heap) : Prop :=
 ∃ oe vs oT ts, h.get? e = some oe ∧ oe.cls = cls ∧ oe.dict = none ∧ oe.data = .fields vs ∧ vs[1]? = some (.ref T) ∧ vs[2]? = some cx ∧ T ≠ e ∧ h.get? T = some oT ∧ oT.data = .fields ts ∧ ts[3]? = some fl
section
variable {M : Model} {A : Around} {E : Value → Shared → Prop} {s : Shared}
theorem setField_mvd {a : Addr} {o : Obj} {vs : Array Value} {i : Nat} {x : Value} (h : Heap) (ho : h.get? a = some o) (hd : o.data = .fields vs) :
  Mvd [] [a] h (h.update a (Obj.mapFields (·.setIfInBounds i x))) ∧ (h.update a (Obj.mapFields (·.setIfInBounds i x))).get? a = some (Obj.mapFields (·.setIfInBounds i x) o) := by
 have self := Heap.get?_update_self (Obj.mapFields (·.setIfInBounds i x)) ho (Obj.isFreed_of_fields (Obj.data_mapFields hd _))
 have oth : ∀ b, b ∉ [a] → (h.update a (Obj.mapFields (·.setIfInBounds i x))).get? b = h.get? b := fun b hb => Heap.get?_update_other _ _ (fun z => hb (by simp [z]))
 refine ⟨⟨fun b ob hb _ e => (oth b hb).trans e, fun b ob hb e => ⟨ob.slots, (oth b hb).trans e⟩, fun b ob e => ?_⟩, self⟩
 by_cases hb : b ∈ [a]
 ·rw [List.mem_singleton.mp hb]; exact ⟨_, self⟩
 ·exact ⟨ob, (oth b hb).trans e⟩
theorem dict_mapFields (f : Array Value → Array Value) (o : Obj) : (Obj.mapFields f o).dict = o.dict := by
 unfold Obj.mapFields; split <;> rfl
theorem entry_new {cx : Value} {base : Heap} {env : Env} {outer : List Env} {L e : Addr} {oe : Obj} {vs : Array Value} {head : Value} {hadNext : Bool} {Q : Unit → Shared → Prop}
  (hfr : A.frames = some (env :: outer)) (hl : s.heap.FunFrames base (env :: outer)) (hf : env.frame = some L)
  (he : s.heap.get? e = some oe) (hdn : oe.dict = none) (hd : oe.data = .fields vs) (hsz : 1 < vs.size) (h2 : vs[2]? = some cx)
  (h : ∀ h' T, Mvd (frs (env :: outer)) [e] s.heap h' → Fly e T oe.cls (rawInt L) cx h' → s.heap.get? T = none → Q () { s with heap := h' }) :
  wpAny M A (do let a ← frameOf env; let pl ← entryPlaceOf L hadNext; let b ← EntryCells.newEntry head a .none (rawInt L) .none pl; setField (.ref e) 1 b) Q E s := by
 have hene : e ∉ (env :: outer).filterMap (·.frame) := fun hm => by
  obtain ⟨_, o, ho, hnf⟩ := hl.mem hm
  rw [he] at ho; injection ho with ho; subst ho; exact hnf vs hd
 refine wpAny_bind (wpAny_frameOf_fun hfr hl hf fun h₁ hs₁ => ?_)
 refine wpAny_bind (wpAny_entryPlaceOf fun pl hpl => ?_)
 unfold EntryCells.newEntry newFields
 refine wpAny_bind (wpAny_newObj_type ?_ (hpl.sizeOk5 _ _ _ _ _))
 have he₁ : h₁.get? e = some oe := (hs₁.2.1 e hene).trans he
 have he₂ := Heap.get?_push_of_some (h := h₁) { cls := .type "traceback", dict := none, data := .fields ([head, .ref L, .none, rawInt L, .none] ++ (if pl.isEmpty then List.replicate 6 Value.none else pl)).toArray } he₁
 obtain ⟨mv, self⟩ := setField_mvd (i := 1) (x := .ref h₁.objs.size) _ he₂ hd
 have hTe : h₁.objs.size ≠ e := Nat.ne_of_gt (Heap.lt_size he₁)
 have hT := (Heap.get?_update_other (h₁.push { cls := .type "traceback", dict := none, data := .fields ([head, .ref L, .none, rawInt L, .none] ++ (if pl.isEmpty then List.replicate 6 Value.none else pl)).toArray })
  (Obj.mapFields (·.setIfInBounds 1 (Value.ref h₁.objs.size))) (Ne.symm hTe)).trans (Heap.get?_push_size h₁ rfl)
 refine wpAny_setField he₂ hd hsz (h _ h₁.objs.size ⟨fun b o hx hb eo => ?_, fun b o hx eo => ?_, fun b o eo => ?_⟩ ⟨_, _, _, _, self, Obj.cls_mapFields _ _, (dict_mapFields _ _).trans hdn, Obj.data_mapFields hd _, by simp [hsz], by rw [Array.getElem?_setIfInBounds_ne (by decide)]; exact h2, hTe, hT, rfl, by simp⟩ ?_)
 ·exact mv.keep b o hx (by simp) (Heap.get?_push_of_some _ ((hs₁.2.1 b hb).trans eo))
 ·obtain ⟨sl, es⟩ := hs₁.2.2 b o eo
  obtain ⟨sl', es'⟩ := mv.slot b _ hx (Heap.get?_push_of_some _ es)
  exact ⟨sl', es'⟩
 ·obtain ⟨sl, es⟩ := hs₁.2.2 b o eo
  exact mv.there b _ (Heap.get?_push_of_some _ es)
 ·cases q : s.heap.get? h₁.objs.size with
  | none => rfl
  | some o =>
   obtain ⟨sl, es⟩ := hs₁.2.2 _ o q
   exact absurd (Heap.lt_size es) (Nat.lt_irrefl _)
theorem note_first {cx : Value} {base : Heap} {env : Env} {outer : List Env} {L e : Addr} {oe : Obj} {vs : Array Value} {Q : Unit → Shared → Prop}
  (hfr : A.frames = some (env :: outer)) (hl : s.heap.FunFrames base (env :: outer)) (hf : env.frame = some L)
  (he : s.heap.get? e = some oe) (hdn : oe.dict = none) (hd : oe.data = .fields vs) (h1 : vs[1]? = some .none) (h2 : vs[2]? = some cx)
  (h : ∀ h' T, Mvd (frs (env :: outer)) [e] s.heap h' → Fly e T oe.cls (rawInt L) cx h' → s.heap.get? T = none → Q () { s with heap := h' }) : wpAny M A (noteFrame (.ref e) env) Q E s := by
 unfold noteFrame
 simp only [hf]
 refine wpAny_bind (wpAny_field he hd h1 ?_)
 rw [if_neg (by decide)]
 exact entry_new hfr hl hf he hdn hd (Array.getElem?_eq_some_iff.mp h1).1 h2 h
theorem note_next {cx : Value} {base : Heap} {env : Env} {outer : List Env} {L e T : Addr} {cls : Value} {Q : Unit → Shared → Prop}
  (hfr : A.frames = some (env :: outer)) (hl : s.heap.FunFrames base (env :: outer)) (hf : env.frame = some L) (ht : Fly e T cls .none cx s.heap)
  (h : ∀ h' T', Mvd (frs (env :: outer)) [e, T] s.heap h' → Fly e T' cls (rawInt L) cx h' → s.heap.get? T' = none → Q () { s with heap := h' }) : wpAny M A (noteFrame (.ref e) env) Q E s := by
 obtain ⟨oe, vs, oT, ts, he, hcls, hdn, hd, h1, h2, hTe, hT, hdT, h3⟩ := ht
 subst hcls
 unfold noteFrame
 simp only [hf]
 refine wpAny_bind (wpAny_field he hd h1 ?_)
 rw [if_pos (show (Value.ref T != Value.none) = true from by simp)]
 refine wpAny_bind (wpAny_field hT hdT h3 ?_)
 rw [if_neg (show ¬ ((Value.none == rawInt L) = true) from by simp [rawInt])]
 refine wpAny_bind (wpAny_setField hT hdT (Array.getElem?_eq_some_iff.mp h3).1 ?_)
 obtain ⟨mv, self⟩ := setField_mvd (i := 3) (x := Value.none) _ hT hdT
 have hl' : (s.heap.update T (Obj.mapFields (·.setIfInBounds 3 Value.none))).FunFrames base (env :: outer) := hl.of_keeps fun b o hb hnf => by
  have hbT : b ∉ [T] := fun z => by rw [List.mem_singleton.mp z, hT] at hb; cases hb; exact hnf ts hdT
  exact ⟨o, mv.keep b o hbT (by simp) hb, rfl⟩
 refine entry_new (s := { s with heap := s.heap.update T (Obj.mapFields (·.setIfInBounds 3 Value.none)) }) hfr hl' hf (mv.keep e oe (by simp [Ne.symm hTe]) (by simp) he) hdn hd (Array.getElem?_eq_some_iff.mp h1).1 h2 fun h' T' mv' fl' fr' => ?_
 refine h h' T' ((mv.mono (by simp) (by simp)).trans (mv'.mono (fun _ z => z) (by simp))) fl' ?_
 cases q : s.heap.get? T' with
 | none => rfl
 | some o =>
  obtain ⟨o', q'⟩ := mv.there T' o q
  rw [show (({ s with heap := s.heap.update T (Obj.mapFields (·.setIfInBounds 3 Value.none)) } : Shared).heap.get? T') = none from fr'] at q'
  cases q'
theorem flight_none {e T : Addr} {cls fl cx : Value} {Q : Unit → Shared → Prop} (ht : Fly e T cls fl cx s.heap)
  (h : ∀ h', Mvd [] [T] s.heap h' → Fly e T cls .none cx h' → Q () { s with heap := h' }) : wpAny M A (setFlight (.ref e) none) Q E s := by
 obtain ⟨oe, vs, oT, ts, he, hcls, hdn, hd, h1, h2, hTe, hT, hdT, h3⟩ := ht
 unfold setFlight
 refine wpAny_bind (wpAny_field he hd h1 ?_)
 rw [if_pos (show (Value.ref T != Value.none) = true from by simp)]
 obtain ⟨mv, self⟩ := setField_mvd (i := 3) (x := (none : Option Addr).elim Value.none fun f => rawInt f) _ hT hdT
 have hsz := (Array.getElem?_eq_some_iff.mp h3).1
 refine wpAny_setField hT hdT hsz (h _ mv ⟨oe, vs, _, _, mv.keep e oe (by simp [Ne.symm hTe]) (by simp) he, hcls, hdn, hd, h1, h2, hTe, self, Obj.data_mapFields hdT _, by simp [hsz]⟩)
theorem note_here {env : Env} {L e T : Addr} {cls cx : Value} {Q : Unit → Shared → Prop} (hf : env.frame = some L) (ht : Fly e T cls (rawInt L) cx s.heap) (h : Q () s) : wpAny M A (noteFrame (.ref e) env) Q E s := by
 obtain ⟨oe, vs, oT, ts, he, hcls, hdn, hd, h1, h2, hTe, hT, hdT, h3⟩ := ht
 unfold noteFrame
 simp only [hf]
 refine wpAny_bind (wpAny_field he hd h1 ?_)
 rw [if_pos (show (Value.ref T != Value.none) = true from by simp)]
 refine wpAny_bind (wpAny_field hT hdT h3 ?_)
 rw [if_pos (show ((rawInt L == rawInt L) = true) from by simp)]
 exact wpAny_pure h
end
end L2
end
section
set_option Elab.async false
set_option linter.all false
set_option maxRecDepth 100000
set_option maxHeartbeats 4000000
namespace L2
open PySem PySem.Spec PyProof.Rows
theorem ObjOk.is {P : Program} {w : World} {H : Hp} {h : Heap} {a : Addr} {o : HO} (x : ObjOk P w H h a o) : ∃ ob, h.get? a = some ob := by
 cases o with
 | lst xs => obtain ⟨_, _, _, _, e⟩ := x; exact ⟨_, e⟩
 | tup xs => obtain ⟨_, _, _, o, e, _⟩ := x; exact ⟨_, e⟩
 | dK kvs => obtain ⟨_, _, _, _, o, _, _, e, _⟩ := x; exact ⟨_, e⟩
 | dT kvs => obtain ⟨_, _, _, _, o, _, _, e, _⟩ := x; exact ⟨_, e⟩
 | set S n => obtain ⟨o, _, _, _, e, _⟩ := x; exact ⟨_, e⟩
 | ins C dx fs => obtain ⟨_, _, _, e, _⟩ := x; exact ⟨_, e⟩
 | own y => obtain ⟨_, e⟩ := x; exact ⟨_, e⟩
 | xd fs => obtain ⟨_, ⟨_, _, _, e, _⟩, _⟩ := x; exact ⟨_, e⟩
 | rng lo hi => obtain ⟨_, _, _, e⟩ := x; exact ⟨_, e⟩
 | frz ob u => obtain ⟨e, _⟩ := x; exact ⟨_, e⟩
 | tbl ps => exact ⟨_, (show h.get? a = some _ from x)⟩
 | met f y => exact ⟨_, (show h.get? a = some _ from x)⟩
 | ext φ => obtain ⟨_, ⟨_, e⟩, _⟩ := x; exact ⟨_, e⟩
 | exc c => obtain ⟨_, _, e, _⟩ := x; exact ⟨_, e⟩
theorem HOk.none_of {P : Program} {w : World} {H : Hp} {h : Heap} (x : HOk P w H h) {a : Addr} (n : h.get? a = none) : H a = none := by
 cases q : H a with
 | none => rfl
 | some u => obtain ⟨o, e⟩ := (x a u q).is; rw [n] at e; cases e
theorem HOk.put {P : Program} {w : World} {H : Hp} {h : Heap} {a : Addr} {o : HO} (x : HOk P w H h) (hn : H a = none) (new : ObjOk P w (upd H a o) h a o) : HOk P w (upd H a o) h := fun b u e => by
 by_cases hb : b = a
 ·subst hb; rw [upd_same] at e; cases e; exact new
 ·rw [upd_ne hb] at e
  exact (x b u e).stay (fun c v _ q => q) (fun c q => by rw [upd_ne (ne_of_none q hn)]; exact q) fun c xs q => by rw [upd_ne (ne_of_none q hn)]; exact q
section
variable {X : Cx} {pins : List (Addr × Obj)} {σ σ' : St} {H H' : Hp} {s : Shared} {h' : Heap}
theorem Inv.stepN {g' : Array GenState} {t' : Nat} {d' : Drawn} {ch : List Addr} (I : Inv X pins σ H s)
  (hch : ∀ b ∈ ch, X.s₀.heap.get? b = none ∧ b ≠ X.env.locals ∧ (∀ x c, X.env.cells.lookup x = some c → c ≠ b) ∧ ∀ p ∈ X.pn ++ pins, p.1 ≠ b)
  (keep : ∀ b o, b ≠ X.env.locals → b ∉ X.fs → b ∉ ch → s.heap.get? b = some o → H b = none → h'.get? b = some o)
  (slot : ∀ b o, b ≠ X.env.locals → b ∈ X.fs → b ∉ ch → s.heap.get? b = some o → H b = none → ∃ sl, h'.get? b = some { o with slots := sl }) (free : ∀ b o, b ∉ ch → s.heap.get? b = some o → H b = none → H' b = none)
  (there : ∀ b o, b ∉ ch → s.heap.get? b = some o → ∃ o', h'.get? b = some o')
  (tups : ∀ b xs, H b = some (.tup xs) → H' b = some (.tup xs)) (frzs : ∀ b o u, H b = some (.frz o u) → H' b = some (.frz o u)) (tbls : ∀ b ps, H b = some (.tbl ps) → ∃ more, H' b = some (.tbl (ps ++ more))) (excs : ∀ b c, H b = some (.exc c) → H' b = some (.exc c))
  (loc : (∀ x c, X.env.cells.lookup x = some c → ∀ v, s.heap.IsCell c v → h'.IsCell c v) → ∃ m, h'.Ns X.env.locals m ∧ ∀ (i : Nat) (x : Str) (v : V), X.N[i]? = some x → σ'[i]? = some (some v) → Vis X.env.scope x → ∃ u, RelV v u ∧ Look X.env h' m x u)
  (fix : (∀ x c, X.env.cells.lookup x = some c → ∀ v, s.heap.IsCell c v → h'.IsCell c v) → ∀ p ∈ X.fx, ∃ m, h'.Ns X.env.locals m ∧ Look X.env h' m p.1 p.2)
  (len : σ'.length = σ.length) (hok : HOk X.prog X.w H' h') (hg : AllBare g') :
  Inv X pins σ' H' { s with heap := h', gens := g', drawn := d', toks := t' } := by
 have neL : ∀ b o, X.s₀.heap.get? b = some o → b ≠ X.env.locals := fun b o e => Nat.ne_of_lt (Nat.lt_of_lt_of_le (Heap.lt_size e) I.ok.above)
 have neC : ∀ b o, X.s₀.heap.get? b = some o → b ∉ ch := fun b o e hb => by
  rw [(hch b hb).1] at e; cases e
 have cellK : ∀ x c, X.env.cells.lookup x = some c → ∀ v, s.heap.IsCell c v → h'.IsCell c v := fun x c e v ⟨o, ho, hd⟩ => by
  have nch : c ∉ ch := fun z => (hch c z).2.2.1 x c e rfl
  by_cases hc : c ∈ X.fs
  ·obtain ⟨sl, q⟩ := slot c o (I.cne x c e) hc nch ho (I.freeC x c e)
   exact ⟨_, q, hd⟩
  ·exact ⟨o, keep c o (I.cne x c e) hc nch ho (I.freeC x c e), hd⟩
 refine ⟨I.ok, I.os, hg, ⟨fun b o e n hb hx => ?_, fun b o e n hb hx => ?_, fun b o e n hx => ?_, fun b o e hx => ?_, fun b xs e => tups b xs (I.base.tups b xs e), fun b o xs e => frzs b o xs (I.base.frzs b o xs e), fun b ps e => ?_, fun b c e => excs b c (I.base.excs b c e)⟩, loc cellK, fun x c e => ?_, ?_, fun x c e => ?_, fun p hp => ?_, hok, len.trans I.len, fun p hp => excs _ _ (I.tr p hp), fix cellK⟩
 ·exact keep b o (neL b o e) hb (neC b o e) (I.base.keep b o e n hb hx) (I.base.free b o e n hx)
 ·obtain ⟨sl, e1⟩ := I.base.slot b o e n hb hx
  obtain ⟨sl', e2⟩ := slot b _ (neL b o e) hb (neC b o e) e1 (I.base.free b o e n hx)
  exact ⟨sl', e2⟩
 ·obtain ⟨o', e1⟩ := I.base.there b o e hx
  exact free b o' (neC b o e) e1 (I.base.free b o e n hx)
 ·obtain ⟨o', e1⟩ := I.base.there b o e hx
  exact there b o' (neC b o e) e1
 ·obtain ⟨m1, e1⟩ := I.base.tbls b ps e
  obtain ⟨m2, e2⟩ := tbls b _ e1
  exact ⟨m1 ++ m2, by rw [e2, Array.append_assoc]⟩
 ·obtain ⟨v, z⟩ := I.cell x c e
  exact ⟨v, cellK x c e v z⟩
 ·obtain ⟨m, ⟨o, _, _, ho, _⟩, _⟩ := I.loc
  exact free _ o (fun z => (hch _ z).2.1 rfl) ho I.free
 ·obtain ⟨v, o, ho, hd⟩ := I.cell x c e
  exact free c o (fun z => (hch c z).2.2.1 x c e rfl) ho (I.freeC x c e)
 ·obtain ⟨e, n, ne, nf, d⟩ := I.pin p hp
  have nch : p.1 ∉ ch := fun z => (hch p.1 z).2.2.2 p hp rfl
  exact ⟨keep p.1 p.2 ne nf nch e n, free p.1 p.2 nch e n, ne, nf, d⟩
structure Nw (X : Cx) (pins : List (Addr × Obj)) (H : Hp) (b : Addr) : Prop where
 free : H b = none
 new : X.s₀.heap.get? b = none
 loc : b ≠ X.env.locals
 cel : ∀ x c, X.env.cells.lookup x = some c → c ≠ b
 pin : ∀ p ∈ X.pn ++ pins, p.1 ≠ b
theorem Nw.of (I : Inv X pins σ H s) (hex : X.ex = []) {b : Addr} (n : s.heap.get? b = none) (f : H' b = none) : Nw X pins H' b where
 free := f
 new := by
  cases q : X.s₀.heap.get? b with
  | none => rfl
  | some o => obtain ⟨o', e⟩ := I.base.there b o q (by rw [hex]; simp); rw [n] at e; cases e
 loc := fun z => by obtain ⟨m, ⟨o, _, _, ho, _⟩, _⟩ := I.loc; rw [← z, n] at ho; cases ho
 cel := fun x c e z => by obtain ⟨v, o, ho, _⟩ := I.cell x c e; rw [z, n] at ho; cases ho
 pin := fun p hp z => by obtain ⟨e, _⟩ := I.pin p hp; rw [z, n] at e; cases e
theorem Inv.mvd {ex : List Addr} (I : Inv X pins σ H s) (mv : Mvd (frs X.stack) ex s.heap h') (hex : ∀ b ∈ ex, Nw X pins H b) : Inv X pins σ H { s with heap := h' } := by
 have nx : ∀ b u, H b = some u → b ∉ ex := fun b u e z => by rw [(hex b z).free] at e; cases e
 have nf : ∀ b u, H b = some u → b ∉ frs X.stack := fun b u e z => by rw [I.stkFree b z] at e; cases e
 refine I.stepN (g' := s.gens) (d' := s.drawn) (t' := s.toks) (ch := ex) (fun b hb => ⟨(hex b hb).new, (hex b hb).loc, (hex b hb).cel, (hex b hb).pin⟩) (fun b o hL hf hc e _ => mv.keep b o hc (fun z => (List.mem_cons.mp (I.stkSub b z)).elim hL hf) e) (fun b o _ _ hc e _ => mv.slot b o hc e)
  (fun _ _ _ _ n => n) (fun b o _ e => mv.there b o e) (fun _ _ e => e) (fun _ _ _ e => e) (fun b ps e => ⟨#[], by rw [e]; simp⟩) (fun _ _ e => e) (fun cellK => ?_) (fun cellK p hp => ?_) rfl (fun a o e => (I.hok a o e).stay (fun b u hb q => ?_) (fun _ q => q) fun _ _ q => q) I.bare
 ·obtain ⟨m, ⟨o, es, ep, ho, r⟩, hl⟩ := I.loc
  obtain ⟨sl, hL⟩ := mv.slot _ o (fun z => (hex _ z).loc rfl) ho
  refine ⟨m, ⟨_, es, ep, hL, r⟩, fun i x v e1 e2 e3 => ?_⟩
  obtain ⟨u, r, l⟩ := hl i x v e1 e2 e3
  refine ⟨u, r, ?_⟩
  rcases l with l | ⟨k, c, e, z⟩
  ·exact .inl l
  ·exact .inr ⟨k, c, e, cellK x c e _ z⟩
 ·obtain ⟨m, ⟨o, es, ep, ho, r⟩, lk⟩ := I.fix p hp
  obtain ⟨sl, hL⟩ := mv.slot _ o (fun z => (hex _ z).loc rfl) ho
  exact ⟨m, ⟨_, es, ep, hL, r⟩, lk.elim .inl fun ⟨k, c, e, z⟩ => .inr ⟨k, c, e, cellK p.1 c e _ z⟩⟩
 ·rcases hb with rfl | hb
  ·exact mv.keep b u (nx b _ e) (nf b _ e) q
  ·exact mv.keep b u (nx b _ hb) (nf b _ hb) q
end
def Raw (e : Addr) (cls cx : Value) (h : Heap) : Prop := ∃ oe vs, h.get? e = some oe ∧ oe.cls = cls ∧ oe.dict = none ∧ oe.data = .fields vs ∧ vs[1]? = some .none ∧ vs[2]? = some cx
def Chn (H : Hp) (h : Heap) (e : Addr) (cx : Value) (d : Option Addr) : Prop := (d = none ∧ cx = .none) ∨ ∃ (b : Addr) (ob : Obj) (vb : Array Value), d = some b ∧ cx = .ref b ∧ b ≠ e ∧ H b = some (.own e) ∧ h.get? b = some ob ∧ ob.data = .fields vb ∧ vb[2]? = some .none
theorem Chn.keep {H H' : Hp} {h h' : Heap} {e : Addr} {cx : Value} {d : Option Addr} (x : Chn H h e cx d) (k : ∀ b ob, H b = some (.own e) → h.get? b = some ob → H' b = some (.own e) ∧ h'.get? b = some ob) : Chn H' h' e cx d := by
 rcases x with x | ⟨b, ob, vb, x1, x2, x3, x4, x5, x6⟩
 ·exact .inl x
 ·obtain ⟨y1, y2⟩ := k b ob x4 x5
  exact .inr ⟨b, ob, vb, x1, x2, x3, y1, y2, x6⟩
def Air (X : Cx) (pins : List (Addr × Obj)) (H : Hp) (e : Addr) (cls : Value) (d : Option Addr) (h : Heap) : Prop := Nw X pins H e ∧ ∃ cx, Chn H h e cx d ∧ (Raw e cls cx h ∨ ∃ T fl, Fly e T cls fl cx h ∧ (fl = .none ∨ fl = rawInt X.env.locals) ∧ Nw X pins H T)
def Out (X : Cx) (E : XK) : Prop := ∀ (pins : List (Addr × Obj)) (σ : St) (H : Hp) (s : Shared) (e : Addr) (cls : Value) (d : Option Addr), Inv X pins σ H s → Air X pins H e cls d s.heap → E cls d H → X.xe (.ref e) s
def CXE (P : Program) (w : World) : CXT := fun outer H s E e s' => (outer = [] ∧ E = fun _ _ _ => True) ∨ ∃ (a T : Addr) (cls cx : Value) (d : Option Addr) (H' : Hp), e = .ref a ∧ s'.os = s.os ∧ AllBare s'.gens ∧ Un (frs outer) [] H H' s.heap s'.heap ∧ HOk P w H' s'.heap ∧
 H' a = none ∧ s.heap.get? a = none ∧ Fly a T cls .none cx s'.heap ∧ Chn H' s'.heap a cx d ∧ H' T = none ∧ s.heap.get? T = none ∧ E cls d H'
theorem calm_of {P : Program} {w : World} {A : Around} (s : Shared) (h : Calm (CXE P w) A) : A.handled = none := by
 rcases h with h | h
 ·have q : CXE P w [] (fun _ => none) s (fun _ _ _ => True) .none s := .inl ⟨rfl, rfl⟩
  rw [h] at q
  exact q.elim
 ·exact h
section
variable {X : Cx} {pins : List (Addr × Obj)} {σ : St} {H : Hp} {s : Shared} {E : XK} {M : Model} {e : Addr} {cls : Value}
theorem passes_out (O : Out X E) (hst : X.stack = X.env :: X.outer) (hex : X.ex = []) : Passes (CXE X.prog X.w) X E := by
 intro pins σ H s e s' I h
 rcases h with ⟨h, _⟩ | ⟨a, T, cls, cx, d, H', rfl, os, bare, un, hok, f1, n1, fl, ch, f2, n2, q⟩
 ·rw [hst] at h; cases h
 ·have I' : Inv X pins σ H' s' := I.call' (ch := []) os un hok bare (fun b z => absurd z (by simp))
  exact O pins σ H' s' a cls d I' ⟨Nw.of I hex n1 f1, cx, ch, .inr ⟨T, _, fl, .inl rfl, Nw.of I hex n2 f2⟩⟩ q
theorem Inv.own_kept {ex : List Addr} {h' : Heap} (I : Inv X pins σ H s) (mv : Mvd (frs X.stack) ex s.heap h') (hex : ∀ b ∈ ex, Nw X pins H b) : ∀ b ob, H b = some (.own e) → s.heap.get? b = some ob → H b = some (.own e) ∧ h'.get? b = some ob := fun b ob hb q =>
 ⟨hb, mv.keep b ob (fun z => by rw [(hex b z).free] at hb; cases hb) (fun z => by rw [I.stkFree b z] at hb; cases hb) q⟩
theorem look_note {A : Around} {Ex : Value → Shared → Prop} {d : Option Addr} {Q : Unit → Shared → Prop} (I : Inv X pins σ H s) (hA : A.frames = X.A.frames) (hst : X.stack = X.env :: X.outer) (hfr : X.env.frame = some X.env.locals) (hex : X.ex = []) (a : Air X pins H e cls d s.heap)
  (h : ∀ h' T cx, Inv X pins σ H { s with heap := h' } → Fly e T cls (rawInt X.env.locals) cx h' → Chn H h' e cx d → Nw X pins H T → Nw X pins H e → Q () { s with heap := h' }) :
  wpAny M A (noteFrame (.ref e) X.env) Q Ex s := by
 have hl := I.stack
 have hf := I.ok.frames
 rw [hst] at hl hf
 rw [← hA] at hf
 obtain ⟨ne, cx, ch, a⟩ := a
 have fin : ∀ (h1 : Heap) (T : Addr) (ex : List Addr), Mvd (frs (X.env :: X.outer)) ex s.heap h1 → (∀ b ∈ ex, Nw X pins H b) → Fly e T cls (rawInt X.env.locals) cx h1 → s.heap.get? T = none →
   Q () { s with heap := h1 } := fun h1 T ex mv hx fl nT => by
  have mv' : Mvd (frs X.stack) ex s.heap h1 := by rw [hst]; exact mv
  exact h h1 T cx (I.mvd mv' hx) fl (ch.keep (I.own_kept mv' hx)) (Nw.of I hex nT (I.hok.none_of nT)) ne
 rcases a with ⟨oe, vs, he, hc, hdn, hd, h1, h2⟩ | ⟨T0, fl0, fl, hfl, nT0⟩
 ·subst hc
  refine note_first hf hl hfr he hdn hd h1 h2 fun h' T mv fl nT => fin h' T [e] mv (fun b hb => by rw [List.mem_singleton.mp hb]; exact ne) fl nT
 ·rcases hfl with rfl | rfl
  ·refine note_next hf hl hfr fl fun h' T mv fl nT => fin h' T [e, T0] mv (fun b hb => ?_) fl nT
   rcases List.mem_cons.mp hb with rfl | hb
   ·exact ne
   ·rw [List.mem_singleton.mp hb]; exact nT0
  ·exact note_here hfr fl (h s.heap T0 cx I fl ch nT0 ne)
theorem look_land {A : Around} {Ex : Value → Shared → Prop} {d : Option Addr} {Q : Unit → Shared → Prop} (I : Inv X pins σ H s) (hA : A.frames = X.A.frames) (hst : X.stack = X.env :: X.outer) (hfr : X.env.frame = some X.env.locals) (hex : X.ex = []) (a : Air X pins H e cls d s.heap)
  (h : ∀ h' T cx, Inv X pins σ H { s with heap := h' } → Fly e T cls .none cx h' → Chn H h' e cx d → Nw X pins H T → Nw X pins H e → Q () { s with heap := h' }) :
  wpAny M A (noteFrame (.ref e) X.env) (fun _ s2 => wpAny M A (setFlight (.ref e) none) Q Ex s2) Ex s := by
 refine look_note I hA hst hfr hex a fun h1 T cx I1 fl ch nT ne => ?_
 refine flight_none (s := { s with heap := h1 }) fl fun h2 mv2 fl2 => ?_
 have mv' : Mvd (frs X.stack) [T] h1 h2 := mv2.mono (fun b z => nomatch z) fun b z => z
 have hx : ∀ b ∈ [T], Nw X pins H b := fun b hb => by rw [List.mem_singleton.mp hb]; exact nT
 exact h h2 T cx (I1.mvd mv' hx) fl2 (ch.keep (I1.own_kept mv' hx)) nT ne
end
theorem out_fn {P : Program} {w : World} {K : PySem.W.Frag} {mg : Str → Option Value} {base : Heap} {N : List Str} {qual : Str} {scope : Scope} {f : Addr} {cd : Value} {A : Around} {outer : List Env} {s : Shared} {H : Hp} {E E' : XK} (hE : ∀ c d H, E' c d H → E c d H) :
  Out (cxOf (CXE P w) P w K mg base N qual scope f cd A outer s H E) E' := by
 intro pins σ H' s' e cls d I a q
 show wpAny _ _ (leaving _ (.ref e)) _ _ _
 unfold leaving
 refine wpAny_bind (look_land I rfl rfl rfl rfl a fun h' T cx I' fl ch nT ne => ?_)
 exact .inr ⟨e, T, cls, cx, d, H', rfl, I'.os, I'.bare, I'.base, I'.hok, ne.free, ne.new, fl, ch, nT.free, nT.new, hE _ _ _ q⟩
theorem passes_fn {P : Program} {w : World} {K : PySem.W.Frag} {mg : Str → Option Value} {base : Heap} {N : List Str} {qual : Str} {scope : Scope} {f : Addr} {cd : Value} {A : Around} {outer : List Env} {s : Shared} {H : Hp} {E E' : XK} (hE : ∀ c d H, E' c d H → E c d H) :
  Passes (CXE P w) (cxOf (CXE P w) P w K mg base N qual scope f cd A outer s H E) E' := passes_out (X := cxOf (CXE P w) P w K mg base N qual scope f cd A outer s H E) (out_fn hE) rfl rfl
theorem cxe0 {P : Program} {w : World} {l : List Env} {H : Hp} {s : Shared} {e : Value} {s' : Shared} (h : CXE P w l H s (fun _ _ _ => False) e s') : False := by
 rcases h with ⟨_, h⟩ | ⟨a, T, cls, cx, d, H', _, _, _, _, _, _, _, _, _, _, _, q⟩
 ·have := congrFun (congrFun (congrFun h .none) none) H
  rw [this]; trivial
 ·exact q
theorem passesE0 {X : Cx} : Passes (CXE X.prog X.w) X E0 := fun _ _ _ _ _ _ _ h => (cxe0 h).elim
theorem own_obj {K : PySem.W.Frag} {h : Heap} {C : Addr} {bmB : List Value} {newId : String} (X : K.In h) (q : PySem.W.excIn K C bmB newId = true) :
  ∃ bm N nm qn bs hdct sn sub ab col dd k0 k1 k2 k3 k5 mN, h.get? C = some (excClassObj nm qn C N bs bm hdct sn sub ab col dd k0 k1 k2 k3 k5 newId) ∧ h.Ns N mN ∧ mN "__init__" = none ∧ OwnTail h bmB bm := by
 unfold PySem.W.excIn at q
 split at q
 ·rename_i dd cd sl ho
  split at q
  ·rename_i C' bm k0 k1 k2 k3 n k5 hm hs
   simp only [Bool.and_eq_true, beq_iff_eq, Bool.not_eq_true'] at q
   obtain ⟨⟨⟨⟨⟨rfl, rfl⟩, hdel⟩, ht⟩, hok⟩, hni⟩ := q
   obtain ⟨nm, bs, mro, ns, qn, hd, sn, sub, ab, col, del⟩ := cd
   dsimp only at hm hdel hok hni
   subst hm hdel
   have hsl : sl = #[k0, k1, k2, k3, some (.builtin n), k5] := by
    obtain ⟨l⟩ := sl
    simp only at hs
    rw [hs]
   subst hsl
   exact ⟨bm, ns, nm, qn, bs, hd, sn, sub, ab, col, dd, k0, k1, k2, k3, k5, _, X _ _ ho, .of_isNs (PySem.W.isNs_of_in X hok), PySem.W.nsMap_none_of_in X hok hni, PySem.W.tail_of_in X ht⟩
  ·cases q
 ·cases q
abbrev veMro : List Value := [.type "ValueError", .type "Exception", .type "BaseException", .type "object"]
def tRaise (E : XK) (C : Addr) (t : TA) : TS := fun _ σ H => t σ H fun vs H1 => vs.length ≤ 1000 ∧ E (.ref C) none H1
theorem ps_raise {X : Cx} {E : XK} {C : Addr} {x : Str} {np cpos pos : Pos} {e : Expr} {es : List Expr} {t : TA} (O : Out X E) (hex : X.ex = []) (hh : X.A.handled = none) (hg : Gl X x) (hm : X.mg x = some (.ref C)) (hc : PySem.W.excIn X.K C veMro "ValueError.__new__" = true)
  (ha : PA X (e :: es) t) (hdb : (x == ("__debug__" : Str)) = false := by decide) (he : starEach (e :: es) X.env = (false, eval e X.env) :: starEach es X.env := by rfl) (hpl : (backTo cpos (starEach es X.env)).any (·.1) = false := by rfl) :
  PS X (.Raise (some (.Call (.Name x np) (e :: es) [] cpos)) none pos) (tRaise E C t) := by
 intro pins s σ H D I h
 obtain ⟨bm, N, nm, q, bs, hdct, sn, sub, ab, col, dd, k0, k1, k2, k3, k5, mN, hC, hN, hni, T⟩ := own_obj I.ok.mod.kin hc
 refine wpAny_Raise_call_subT (C := C) (nm := nm) (q := q) (N := N) (bs := bs) (bm := bm) (hdct := hdct) (sn := sn) (sub := sub) (ab := ab) (col := col) (dd := dd) (k0 := k0) (k1 := k1) (k2 := k2) (k3 := k3) (k5 := k5)
  PySem.F.excBase_ValueError (mN := mN) (T.hasType PySem.F.excBase_ValueError.hasBase) hh (by rw [he]; show (false || (backTo cpos (starEach es X.env)).any (·.1)) = false; rw [hpl]; rfl) hni (ld_glob I hg hm ⟨rfl, ?_⟩ hdb)
 have h2 := ha cpos pins s σ H _ I h
 rw [he] at h2 ⊢
 refine Calls.evalArgs_plain (wpAny_mono h2 (fun us s2 ⟨vs, H1, I1, r, z, q⟩ => ?_) fun _ _ y => y)
 refine ⟨rfl, ?_, I1.bk _ _ hC, hN.keeps I1.bk, T.keeps I1.bk, fun h' e hm => ?_⟩
 ·have e := r.length
  show us.length ≤ _
  rw [← e]
  exact Nat.le_of_lt (small1000 z)
 ·have I2 : Inv X pins σ H1 { s2 with heap := h' } := I1.kept (t' := s2.toks) hm.keeps
  obtain ⟨t, h1, h2, h3⟩ := hm.there
  exact O pins σ H1 { s2 with heap := h' } e (.ref C) none I2 ⟨Nw.of I1 hex hm.new (I1.hok.none_of hm.new), .none, .inl ⟨rfl, rfl⟩, .inl ⟨_, _, h1, rfl, rfl, rfl, rfl, rfl⟩⟩ q
end L2
end
section
set_option Elab.async false
set_option linter.all false
set_option maxRecDepth 100000
set_option maxHeartbeats 4000000
namespace L2
open PySem PySem.Spec PyProof.Rows
structure CatK (K : PySem.W.Frag) (C : Addr) : Prop where
 cls : (match K.lookup C with | some ⟨.type "type", _, .cls _, _⟩ => true | _ => false) = true
 bx : PySem.W.mroIn K C (.type "BaseException") = some true
open PySem.W in
theorem exc_matches {M : Model} {A : Around} {E : Value → Shared → Prop} {s : Shared} {K : PySem.W.Frag} {C0 C e : Addr} {oe : Obj} {b : Bool} {Q : Bool → Shared → Prop} (X : K.In s.heap) (k : CatK K C0) (he : s.heap.get? e = some oe) (hcls : oe.cls = .ref C)
  (hm : mroIn K C (.ref C0) = some b) (h : Q b s) : wpAny M A (excMatches (.ref e) (.ref C0)) Q E s := by
 obtain ⟨hp, g, d, t, os⟩ := s
 have L1 := looks_mroIn (M := M) X k.bx
 have L2 := looks_mroIn (M := M) X hm
 have kc := k.cls
 split at kc
 ·rename_i dd cd sl ho
  have hC : hp.get? C0 = some ⟨.type "type", dd, .cls cd, sl⟩ := X _ _ ho
  have f := tc_notTuple
  unfold excMatches
  repeat (first | (with_reducible refine wpAny_loadPart_at he ?_; rw [hcls]) | with_reducible refine wpAny_loadPart_at hC ?_ | (with_reducible refine L1.here ?_) | (with_reducible refine L2.here ?_) | wp_step)
  cases b <;> (wp_walk; exact h)
 ·cases kc
end L2
namespace L2
open PySem PySem.Spec PyProof.Rows
abbrev Cx.bod (X : Cx) (pn : List (Addr × Obj)) (fx : List (Str × Value)) (xe : Value → Shared → Prop) : Cx := { X with pn := pn, fx := fx, xe := xe }
abbrev Cx.hnd (X : Cx) (e : Addr) (c : Value) (pn : List (Addr × Obj)) : Cx := { X with A := X.A.mark (some (.ref e)), pn := pn, tr := (e, c) :: X.tr, xe := fun _ _ => False }
theorem Cx.Ok.bod {X : Cx} (ok : X.Ok) (pn : List (Addr × Obj)) (fx : List (Str × Value)) (xe : Value → Shared → Prop) : (X.bod pn fx xe).Ok :=
 ⟨ok.mod, ok.kind, ok.glob, ok.blt, ok.above, ok.inj, ok.has, ok.cab, ok.hd, ok.frames, ok.stk, ok.exf, ok.bs, ok.bsz, ok.noex, ok.exfs, ok.funs, ok.frf⟩
theorem Cx.Ok.hnd {X : Cx} (ok : X.Ok) (e : Addr) (c : Value) (pn : List (Addr × Obj)) : (X.hnd e c pn).Ok :=
 ⟨ok.mod, ok.kind, ok.glob, ok.blt, ok.above, ok.inj, ok.has, ok.cab, .inr ⟨e, c, rfl, .inr (List.mem_cons_self ..)⟩, ok.frames, ok.stk, ok.exf, ok.bs, ok.bsz, ok.noex, ok.exfs, ok.funs, ok.frf⟩
def mask (W : List Str) : List Str → St → St
 | n :: N, v :: σ => (if W.contains n = true then none else v) :: mask W N σ
 | _, σ => σ
theorem mask_len (W : List Str) : ∀ (N : List Str) (σ : St), (mask W N σ).length = σ.length
 | [], _ => rfl
 | _ :: _, [] => rfl
 | _ :: N, _ :: σ => by simp [mask, mask_len W N σ]
theorem mask_get {W : List Str} : ∀ {N : List Str} {σ : St} {i : Nat} {x : Str} {v : V}, N[i]? = some x → (mask W N σ)[i]? = some (some v) → σ[i]? = some (some v) ∧ x ∉ W
 | [], _, _, _, _, h, _ => by simp at h
 | _ :: _, [], _, _, _, _, h => by simp [mask] at h
 | n :: N, u :: σ, 0, x, v, h1, h2 => by
  simp only [List.getElem?_cons_zero, Option.some.injEq] at h1
  subst h1
  simp only [mask, List.getElem?_cons_zero, Option.some.injEq] at h2
  split at h2
  ·cases h2
  ·rename_i hc
   exact ⟨by simp [h2], fun z => hc (by simpa using z)⟩
 | n :: N, u :: σ, i + 1, x, v, h1, h2 => by
  have := mask_get (N := N) (σ := σ) (i := i) (x := x) (v := v) (by simpa using h1) (by simpa [mask] using h2)
  simpa using this
section
variable {X : Cx} {pins : List (Addr × Obj)} {σ : St} {H : Hp} {s : Shared} {e : Addr} {c : Value}
theorem Inv.fixed (I : Inv X pins σ H s) (W : List Str) : ∃ fx : List (Str × Value), (∀ p ∈ fx, p.1 ∉ W) ∧ (∀ p ∈ fx, ∃ m, s.heap.Ns X.env.locals m ∧ Look X.env s.heap m p.1 p.2) ∧
  ∀ (i : Nat) (x : Str) (v : V), X.N[i]? = some x → σ[i]? = some (some v) → Vis X.env.scope x → x ∉ W → ∃ u, RelV v u ∧ (x, u) ∈ fx := by
 obtain ⟨m, hn, hl⟩ := I.loc
 have key : ∀ n : Nat, ∃ fx : List (Str × Value), (∀ p ∈ fx, p.1 ∉ W) ∧ (∀ p ∈ fx, ∃ m, s.heap.Ns X.env.locals m ∧ Look X.env s.heap m p.1 p.2) ∧
   ∀ (i : Nat) (x : Str) (v : V), i < n → X.N[i]? = some x → σ[i]? = some (some v) → Vis X.env.scope x → x ∉ W → ∃ u, RelV v u ∧ (x, u) ∈ fx := by
  intro n
  induction n with
  | zero => exact ⟨[], fun p h => (by cases h), fun p h => (by cases h), fun i x v h => absurd h (Nat.not_lt_zero _)⟩
  | succ n ih =>
   obtain ⟨fx, h1, h2, h3⟩ := ih
   by_cases hx : ∃ x v, X.N[n]? = some x ∧ σ[n]? = some (some v) ∧ Vis X.env.scope x ∧ x ∉ W
   ·obtain ⟨x, v, a1, a2, a3, a4⟩ := hx
    obtain ⟨u, r, lk⟩ := hl n x v a1 a2 a3
    refine ⟨(x, u) :: fx, fun p hp => ?_, fun p hp => ?_, fun i y v' hi b1 b2 b3 b4 => ?_⟩
    ·rcases List.mem_cons.mp hp with rfl | hp
     ·exact a4
     ·exact h1 p hp
    ·rcases List.mem_cons.mp hp with rfl | hp
     ·exact ⟨m, hn, lk⟩
     ·exact h2 p hp
    ·by_cases hin : i = n
     ·subst hin
      rw [a1] at b1; cases b1
      rw [a2] at b2; cases b2
      exact ⟨u, r, List.mem_cons_self ..⟩
     ·obtain ⟨u', r', z⟩ := h3 i y v' (by omega) b1 b2 b3 b4
      exact ⟨u', r', List.mem_cons_of_mem _ z⟩
   ·refine ⟨fx, h1, h2, fun i y v' hi b1 b2 b3 b4 => ?_⟩
    by_cases hin : i = n
    ·subst hin
     exact absurd ⟨y, v', b1, b2, b3, b4⟩ hx
    ·exact h3 i y v' (by omega) b1 b2 b3 b4
 obtain ⟨fx, h1, h2, h3⟩ := key X.N.length
 exact ⟨fx, h1, h2, fun i x v a1 a2 a3 a4 => h3 i x v (List.getElem?_eq_some_iff.mp a1).1 a1 a2 a3 a4⟩
theorem Inv.bod (I : Inv X pins σ H s) (hfx0 : X.fx = []) {fx : List (Str × Value)} (hf : ∀ p ∈ fx, ∃ m, s.heap.Ns X.env.locals m ∧ Look X.env s.heap m p.1 p.2) (xe : Value → Shared → Prop) : Inv (X.bod (X.pn ++ pins) fx xe) [] σ H s :=
 ⟨I.ok.bod _ _ _, I.os, I.bare, I.base, I.loc, I.cell, I.free, I.freeC, fun p hp => I.pin p (by simpa using hp), I.hok, I.len, I.tr, hf⟩
theorem Inv.unbod {fx : List (Str × Value)} {xe : Value → Shared → Prop} (J : Inv X pins σ H s) (hfx0 : X.fx = []) {ps : List (Addr × Obj)} {σ' : St} {H' : Hp} {s' : Shared} (I : Inv (X.bod (X.pn ++ pins) fx xe) ps σ' H' s') : Inv X pins σ' H' s' :=
 ⟨J.ok, I.os, I.bare, I.base, I.loc, I.cell, I.free, I.freeC, fun p hp => I.pin p (List.mem_append_left _ hp), I.hok, I.len, I.tr, fun p hp => by rw [hfx0] at hp; cases hp⟩
theorem Nw.unbod {fx : List (Str × Value)} {xe : Value → Shared → Prop} {ps : List (Addr × Obj)} {b : Addr} (n : Nw (X.bod (X.pn ++ pins) fx xe) ps H b) : Nw X pins H b := ⟨n.free, n.new, n.loc, n.cel, fun p hp => n.pin p (List.mem_append_left _ hp)⟩
theorem Nw.hnd {e' : Addr} {b : Addr} (n : Nw X pins H b) (hb : b ≠ e') (c : Value) (o : HO) : Nw (X.hnd e' c (X.pn ++ pins)) [] (upd H e' o) b := ⟨by rw [upd_ne hb]; exact n.free, n.new, n.loc, n.cel, fun p hp => n.pin p (by simpa using hp)⟩
theorem Inv.hnd (I : Inv X pins σ H s) (hfx0 : X.fx = []) (n : Nw X pins H e) {T : Addr} {cx : Value} {dd : Option Addr} (fl : Fly e T c .none cx s.heap) (ch : Chn H s.heap e cx dd) : Inv (X.hnd e c (X.pn ++ pins)) [] σ (upd H e (.exc c)) s := by
 obtain ⟨oe, vs, oT, ts, h1, h2, h3, h4, _, h5, _⟩ := fl
 refine ⟨I.ok.hnd _ _ _, I.os, I.bare, ⟨I.base.keep, I.base.slot, fun b o q nb hx => ?_, I.base.there, fun b xs q => ?_, fun b o u q => ?_, fun b ps q => ?_, fun b k q => ?_⟩, I.loc, I.cell, ?_, fun x k q => ?_, fun p hp => ?_, I.hok.put n.free ⟨oe, vs, h1, h2, h3, h4, ?_⟩, I.len, fun p hp => ?_, fun p hp => ?_⟩
 case refine_9 =>
  rcases ch with ⟨_, rfl⟩ | ⟨b, ob, vb, _, rfl, d2, d3, d4, d5⟩
  ·exact .inl h5
  ·exact .inr ⟨b, ob, vb, h5, d2, by rw [upd_ne d2]; exact d3, d4, d5⟩
 ·have hb : b ≠ e := fun z => by rw [z] at q; rw [show X.s₀.heap.get? e = none from n.new] at q; cases q
  rw [upd_ne hb]; exact I.base.free b o q nb hx
 ·have := I.base.tups b xs q; rw [upd_ne (ne_of_none this n.free)]; exact this
 ·have := I.base.frzs b o u q; rw [upd_ne (ne_of_none this n.free)]; exact this
 ·obtain ⟨more, z⟩ := I.base.tbls b ps q; exact ⟨more, by rw [upd_ne (ne_of_none z n.free)]; exact z⟩
 ·have := I.base.excs b k q; rw [upd_ne (ne_of_none this n.free)]; exact this
 ·rw [upd_ne (Ne.symm n.loc)]; exact I.free
 ·rw [upd_ne (n.cel x k q)]; exact I.freeC x k q
 ·have hp' : p ∈ X.pn ++ pins := by simpa using hp
  obtain ⟨a1, a2, a3⟩ := I.pin p hp'
  exact ⟨a1, by rw [upd_ne (n.pin p hp')]; exact a2, a3⟩
 ·rcases List.mem_cons.mp hp with rfl | hp
  ·exact upd_same
  ·have := I.tr p hp; rw [upd_ne (ne_of_none this n.free)]; exact this
 ·have hp' : p ∈ X.fx := hp
  rw [hfx0] at hp'; cases hp'
theorem Inv.offh (J : Inv X pins σ H s) (hfx0 : X.fx = []) {σ' : St} {H' : Hp} {s' : Shared} (I : Inv (X.hnd e c (X.pn ++ pins)) [] σ' H' s') : Inv X pins σ' H' s' :=
 ⟨J.ok, I.os, I.bare, I.base, I.loc, I.cell, I.free, I.freeC, fun p hp => I.pin p (List.mem_append_left _ hp), I.hok, I.len, fun p hp => I.tr p (List.mem_cons_of_mem _ hp), fun p hp => by rw [hfx0] at hp; cases hp⟩
theorem Inv.unhnd (J : Inv X pins σ H s) (hfx0 : X.fx = []) {i : Nat} {n : Str} (hi : X.N[i]? = some n) {σ' : St} {H' : Hp} {s' : Shared} {m : Str → Option Value} {u : Option Value} {h' : Heap} {t' : Nat} (I : Inv (X.hnd e c (X.pn ++ pins)) [] σ' H' s') (hm : s'.heap.Ns X.env.locals m)
  (hn : h'.Ns X.env.locals (fun x => if x = n then u else m x)) (sb : Heap.SameBut X.env.locals s'.heap h') (hN : X.N.Nodup) : Inv X pins (σ'.set i none) H' { s' with heap := h', toks := t' } := by
 have K0 : ∀ b o, b ≠ X.env.locals → s'.heap.get? b = some o → h'.get? b = some o := fun b o hb e => (sb.2 b hb).trans e
 have hL : H' X.env.locals = none := I.free
 have I' : Inv X pins σ' H' s' := J.offh hfx0 I
 refine I'.stepN (g' := s'.gens) (d' := s'.drawn) (ch := []) (fun b hb => nomatch hb) (fun b o hb _ _ q _ => K0 b o hb q) (fun b o hb _ _ q _ => ⟨o.slots, K0 b o hb q⟩) (fun _ _ _ _ n => n) (fun b o _ q => ?_) (fun _ _ q => q) (fun _ _ _ q => q) (fun b ps q => ⟨#[], by rw [q]; simp⟩) (fun _ _ q => q)
  (fun cellK => ?_) (fun _ p hp => by rw [hfx0] at hp; cases hp) (by simp) (fun a o q => (I.hok a o q).stay (fun b u hb z => K0 b u ?_ z) (fun _ z => z) fun _ _ z => z) I.bare
 ·by_cases hb : b = X.env.locals
  ·obtain ⟨ol, _, _, ho, _⟩ := hn
   exact ⟨ol, by rw [hb]; exact ho⟩
  ·exact ⟨o, K0 b o hb q⟩
 ·obtain ⟨m1, hn1, hl1⟩ := I'.loc
  have em := ns_uniq hn1 hm
  subst em
  refine ⟨_, hn, fun j y v a1 a2 a3 => ?_⟩
  have hji : j ≠ i := fun z => by
   subst z
   by_cases hlt : j < σ'.length
   ·rw [List.getElem?_set_self hlt] at a2; cases a2
   ·rw [List.getElem?_eq_none (by simp; omega)] at a2; cases a2
  rw [List.getElem?_set_ne (Ne.symm hji)] at a2
  obtain ⟨u', r, lk⟩ := hl1 j y v a1 a2 a3
  refine ⟨u', r, ?_⟩
  rcases lk with ⟨k, e'⟩ | ⟨k, c', e', z⟩
  ·have : y ≠ n := fun z => hji (nodup_ix hN a1 (z ▸ hi))
   exact .inl ⟨k, by simp [this, e']⟩
  ·exact .inr ⟨k, c', e', cellK y c' e' _ z⟩
 ·intro zb
  rcases hb with hb | hb
  ·rw [← hb, zb, hL] at q; cases q
  ·rw [zb, hL] at hb; cases hb
theorem Inv.known {fx : List (Str × Value)} {xe : Value → Shared → Prop} {W : List Str} (J : Inv X pins σ H s) (hfx0 : X.fx = []) (hk : ∀ (i : Nat) (x : Str) (v : V), X.N[i]? = some x → σ[i]? = some (some v) → Vis X.env.scope x → x ∉ W → ∃ u, RelV v u ∧ (x, u) ∈ fx)
  {ps : List (Addr × Obj)} {σ' : St} {H' : Hp} {s' : Shared} (I : Inv (X.bod (X.pn ++ pins) fx xe) ps σ' H' s') : Inv X pins (mask W X.N σ) H' s' := by
 have I' := J.unbod hfx0 I
 obtain ⟨m, hn, _⟩ := I'.loc
 refine ⟨I'.ok, I'.os, I'.bare, I'.base, ⟨m, hn, fun i x v a1 a2 a3 => ?_⟩, I'.cell, I'.free, I'.freeC, I'.pin, I'.hok, by rw [mask_len]; exact J.len, I'.tr, I'.fix⟩
 obtain ⟨b1, b2⟩ := mask_get a1 a2
 obtain ⟨u, r, hm⟩ := hk i x v a1 b1 a3 b2
 obtain ⟨m1, hn1, lk⟩ := I.fix (x, u) hm
 have em := ns_uniq hn1 hn
 subst em
 exact ⟨u, r, lk⟩
end
def Ends.dim (D : Ends) (i : Nat) : Ends := { nx := fun σ H => D.nx (σ.set i none) H, rt := D.rt, bk := fun σ H => D.bk (σ.set i none) H, ct := fun σ H => D.ct (σ.set i none) H }
def xTry (X : Cx) (C0 : Addr) (i : Nat) (W : List Str) (th : TS) (D : Ends) (σ : St) : XK := fun c _ H => (∃ C, c = .ref C ∧ PySem.W.mroIn X.K C (.ref C0) = some true) ∧ ∀ e, H e = none → th (D.dim i) ((mask W X.N σ).set i (some (.ref e))) (upd H e (.exc c))
def tTry (X : Cx) (C0 : Addr) (i : Nat) (W : List Str) (tb : XK → TS) (th : TS) : TS := fun D σ H => tb (xTry X C0 i W th D σ) D σ H
section
variable {X : Cx} {C0 : Addr} {x n : Str} {np hpos pos : Pos} {i : Nat} {W : List Str} {body suite : List Stmt} {b₀ : Stmt} {tb : XK → TS} {th : TS}
def TryQ (X : Cx) (pins : List (Addr × Obj)) (D : Ends) (hpos : Pos) : Option Str → Flow → Shared → Prop
 | none, f, s => SP X pins D f s
 | some n, f, s => wpAny (model X.prog X.w) X.A (do bindName X.env n .none; unbindBehindTheSuite X.env n hpos) (fun _ s₃ => SP X pins D f s₃) X.xe s
theorem try_core {name : Option Str} {pins : List (Addr × Obj)} {s : Shared} {σ : St} {H : Hp} {D : Ends} {E : XK} (hst : X.stack = X.env :: X.outer) (hfr : X.env.frame = some X.env.locals) (hex : X.ex = []) (hfx0 : X.fx = [])
  (hg : Gl X x) (hm : X.mg x = some (.ref C0)) (hk : CatK X.K C0) (hE : ∀ c d H, E c d H → ∃ C, c = .ref C ∧ PySem.W.mroIn X.K C (.ref C0) = some true)
  (hb : ∀ Ex pn fx xe, (∀ p ∈ fx, p.1 ∉ W) → Out (X.bod pn fx xe) Ex → PSs (X.bod pn fx xe) body (tb Ex)) (hdb : (x == ("__debug__" : Str)) = false) (I : Inv X pins σ H s) (h : tb E D σ H)
  (hs : ∀ (e T C : Addr) (cx : Value) (d : Option Addr) (H' : Hp) (s3 : Shared), Inv X pins (mask W X.N σ) H' s3 → Nw X pins H' e → Nw X pins H' T → T ≠ e → E (.ref C) d H' → Fly e T (.ref C) .none cx s3.heap → Chn H' s3.heap e cx d →
   codeAny (model X.prog X.w) (X.A.mark (some (.ref e))) (.handlers (.ref e) [.ExceptHandler none name (b₀ :: suite) hpos] X.env) (fun r s₂ => match r with
     | .ok f => TryQ X pins D hpos name f s₂
     | .error x => cameBackBy (model X.prog X.w) X.A X.env X.xe x s₂) s3) :
  wpAny (model X.prog X.w) X.A (exec (.Try body [.ExceptHandler (some (.Name x np)) name (b₀ :: suite) hpos] [] [] pos) X.env) (SP X pins D) X.xe s := by
 obtain ⟨fx, fx1, fx2, fx3⟩ := I.fixed W
 have O : Out (X.bod (X.pn ++ pins) fx fun v s1 => ∃ a cls d H', v = .ref a ∧ Inv X pins (mask W X.N σ) H' s1 ∧ Air X pins H' a cls d s1.heap ∧ E cls d H') E := by
  intro ps σ' H' s' a cls d J air q
  obtain ⟨air1, cx, ch, air2⟩ := air
  refine ⟨a, cls, d, H', rfl, I.known hfx0 fx3 J, ⟨air1.unbod, cx, ch, ?_⟩, q⟩
  rcases air2 with z | ⟨T, fl, z1, z3, z2⟩
  ·exact .inl z
  ·exact .inr ⟨T, fl, z1, z3, z2.unbod⟩
 refine wpAny_Try_except (wpAny_mono (hb _ _ _ _ fx1 O [] s σ H D (I.bod hfx0 fx2 _) h) (fun f s1 q => ?_) fun v s1 q => ?_)
 ·cases f with
  | next => obtain ⟨σ', H', J, q⟩ := q; exact wpAny_execs_nil ⟨σ', H', I.unbod hfx0 J, q⟩
  | brk => obtain ⟨σ', H', J, q⟩ := q; exact ⟨σ', H', I.unbod hfx0 J, q⟩
  | cont => obtain ⟨σ', H', J, q⟩ := q; exact ⟨σ', H', I.unbod hfx0 J, q⟩
  | ret u => obtain ⟨v, σ', H', J, r, q⟩ := q; exact ⟨v, σ', H', I.unbod hfx0 J, r, q⟩
 ·obtain ⟨e, c, d, H', rfl, J, air, qE⟩ := q
  obtain ⟨C, rfl, hmro⟩ := hE _ _ _ qE
  refine look_land J rfl hst hfr hex air fun h' T cx J1 fl ch nT ne => ?_
  have hTe : T ≠ e := by obtain ⟨_, _, _, _, _, _, _, _, _, _, z, _⟩ := id fl; exact z
  have Ih := J1.hnd hfx0 ne fl ch
  refine wpAny_handleBy_cons (codeAny_handlers_test (ld_glob (X := X.hnd e (.ref C) (X.pn ++ pins)) Ih hg hm ?_ hdb)) (by intro q; cases q)
  obtain ⟨oe, _, _, _, h1, h2, _⟩ := id fl
  refine exc_matches Ih.kIn hk h1 h2 hmro ?_
  show codeAny _ _ (.handlers _ [.ExceptHandler none name (b₀ :: suite) hpos] _) _ _
  refine codeAny_mono (hs e T C cx d H' _ J1 ne nT hTe qE fl ch) fun r s2 hq => ?_
  cases r with
  | error x => exact hq
  | ok f => cases name <;> exact hq
theorem ps_try (W : List Str) (hst : X.stack = X.env :: X.outer) (hfr : X.env.frame = some X.env.locals) (hex : X.ex = []) (hfx0 : X.fx = [])
  (hN : X.N.Nodup) (hi : X.N[i]? = some n) (hl : X.env.scope.names.lookup n = some .local) (hg : Gl X x) (hm : X.mg x = some (.ref C0)) (hk : CatK X.K C0)
  (hb : ∀ Ex pn fx xe, (∀ p ∈ fx, p.1 ∉ W) → Out (X.bod pn fx xe) Ex → PSs (X.bod pn fx xe) body (tb Ex)) (hh : ∀ e c pn, PSs (X.hnd e c pn) (b₀ :: suite) th) (hdb : (x == ("__debug__" : Str)) = false := by decide) :
  PS X (.Try body [.ExceptHandler (some (.Name x np)) (some n) (b₀ :: suite) hpos] [] [] pos) (tTry X C0 i W tb th) := by
 intro pins s σ H D I h
 refine try_core hst hfr hex hfx0 hg hm hk (fun c d H z => z.1) hb hdb I h fun e T C cx d H' s3 J1 ne nT hTe qE fl ch => ?_
 have Ih := J1.hnd hfx0 ne fl ch
 refine codeAny_handlers_suite_as ?_
 refine flight_none fl fun h2 mv2 fl2 => ?_
 have Ih2 := Ih.mvd (mv2.mono (fun b z => nomatch z) fun b z => z) fun b hb => by rw [List.mem_singleton.mp hb]; exact nT.hnd hTe _ _
 refine store_ok (X := X.hnd e (.ref C) (X.pn ++ pins)) (v := .ref e) Ih2 hN hi (.inl hl) rfl (fun s3 I3 => ?_) (.inr hl) (fun p hp => by have hp' : p ∈ X.fx := hp; rw [hfx0] at hp'; cases hp')
 refine wpAny_mono (hh e (.ref C) (X.pn ++ pins) [] s3 _ _ (D.dim i) I3 (qE.2 e ne.free)) (fun f s4 q => ?_) fun _ _ z => z.elim
 have gone : ∀ {σ4 : St} {H4 : Hp}, Inv (X.hnd e (.ref C) (X.pn ++ pins)) [] σ4 H4 s4 → (∀ s5, Inv X pins (σ4.set i none) H4 s5 → SP X pins D f s5) →
   wpAny (model X.prog X.w) X.A (do bindName X.env n .none; unbindBehindTheSuite X.env n hpos) (fun _ s5 => SP X pins D f s5) X.xe s4 := fun {σ4 H4} I4 k => by
  obtain ⟨m, hn, _⟩ := I4.loc
  exact wpAny_nameGoes_keeps hl hn (by rw [J1.ok.kind]; rfl) fun h5 v5 hn5 sb => k _ (J1.unhnd hfx0 hi I4 hn hn5 sb hN)
 cases f with
 | next => obtain ⟨σ4, H4, I4, q⟩ := q; exact gone I4 fun s5 I5 => ⟨_, _, I5, q⟩
 | brk => obtain ⟨σ4, H4, I4, q⟩ := q; exact gone I4 fun s5 I5 => ⟨_, _, I5, q⟩
 | cont => obtain ⟨σ4, H4, I4, q⟩ := q; exact gone I4 fun s5 I5 => ⟨_, _, I5, q⟩
 | ret u => obtain ⟨v, σ4, H4, I4, r, q⟩ := q; exact gone I4 fun s5 I5 => ⟨v, _, _, I5, r, q⟩
end
end L2
namespace L2
open PySem PySem.Spec PyProof.Rows
theorem Fun.okE {P : Program} {w : World} {K : PySem.W.Frag} {mg : Str → Option Value} {base : Heap} {x qual : Str} {st : Stmt} {f : Addr} {fd : FuncData} {N ps : List Str} {k : Nat} {sp : Sp} (F : Fun K x qual st f fd) (S : FnScope N ps (defScope st)) (len : ∀ vs H Q E, sp vs H Q E → vs.length = ps.length)
  (hbody : ∀ (cdv : Value) (A : Around) (outer : List Env) (s : Shared) (H : Hp) (vs : List V) (Q : VK) (E : XK), Room k (A.deeper (envOfC qual (defScope st) s.heap.objs.size f cdv)) → A.handled = none → sp vs H Q E →
   ∃ t, PSs (cxOf (CXE P w) P w K mg base N qual (defScope st) f cdv A outer s H E) (defBody st) t ∧ t { nx := fun _ H' => Q .non H', rt := Q } (start N vs) H) : FnOk P w K mg base (CXE P w) (k + 1) f fd ps sp := by
 obtain ⟨oc, od, kV, doc, pm, an, cdv, ct, osl, rfl, lk, hcd⟩ := F.ex
 exact fn_of lk hcd S len fun A outer s H vs Q E hr hc hsp => hbody cdv A outer s H vs Q E hr (calm_of s hc) hsp
end L2
end
section
set_option Elab.async false
set_option linter.all false
set_option maxRecDepth 100000
set_option maxHeartbeats 4000000
namespace L2
open PySem PySem.Spec PyProof.Rows
section
variable {M : Model} {A : Around} {E : Value → Shared → Prop} {s : Shared}
end
section
variable {prog : Program} {w : World} {A : Around} {E : Value → Shared → Prop} {s : Shared} {env : Env}
variable {nm q : Str} {C N : Addr} {bs bm bmB : List Value} {hdct : Bool} {sn : List Str} {sub : List Value} {ab : Bool} {col : Option Bool} {dd : Option Addr} {k0 k1 k2 k3 k5 : Option Value} {B newId initId : String}
end
section
variable {X : Cx} {C0 C1 : Addr} {x x1 z : Str} {np np1 hpos pos cpos pos1 cp zp : Pos} {j j2 : Nat} {W : List Str} {body : List Stmt} {tb : XK → TS} {E : XK}
end
end L2
end
section
set_option Elab.async false
set_option linter.all false
set_option maxRecDepth 100000
set_option maxHeartbeats 4000000
namespace L2
open PySem PySem.Spec PyProof.Rows
section
variable {κ : Type} [DecidableEq κ]
def valV (kvs : List (κ × V)) (k : κ) : Option V := (kvs.find? fun kv => decide (kv.1 = k)).map (·.2)
def putK (kvs : List (κ × V)) (k : κ) (v : V) : List (κ × V) :=
 if (kvs.any fun kv => decide (kv.1 = k)) = true then kvs.map (fun kv => if kv.1 = k then (kv.1, v) else kv) else kvs ++ [(k, v)]
def dropK (kvs : List (κ × V)) (k : κ) : List (κ × V) := kvs.filter fun kv => decide (kv.1 ≠ k)
theorem valV_pos {p : κ × V} {r : List (κ × V)} {k : κ} (e : p.1 = k) : valV (p :: r) k = some p.2 := by simp [valV, List.find?_cons, e]
theorem valV_neg {p : κ × V} {r : List (κ × V)} {k : κ} (e : ¬ p.1 = k) : valV (p :: r) k = valV r k := by simp [valV, List.find?_cons, e]
theorem valV_any (k : κ) : ∀ kvs : List (κ × V), (kvs.any fun kv => decide (kv.1 = k)) = (valV kvs k).isSome
 | [] => rfl
 | p :: r => by
  rw [List.any_cons]
  by_cases e : p.1 = k
  ·simp only [valV_pos e, decide_eq_true e, Bool.true_or, Option.isSome_some]
  ·rw [valV_neg e, decide_eq_false e, Bool.false_or]; exact valV_any k r
theorem valV_map (k j : κ) (y : V) : ∀ kvs : List (κ × V), valV (kvs.map fun kv => if kv.1 = k then (kv.1, y) else kv) j = (valV kvs j).map fun x => if j = k then y else x
 | [] => rfl
 | p :: r => by
  have ih := valV_map k j y r
  rw [List.map_cons]
  by_cases h : p.1 = k
  ·rw [if_pos h]
   by_cases e : p.1 = j
   ·rw [valV_pos (p := (p.1, y)) e, valV_pos e, Option.map_some, if_pos (e.symm.trans h)]
   ·rw [valV_neg (p := (p.1, y)) e, valV_neg e, ih]
  ·rw [if_neg h]
   by_cases e : p.1 = j
   ·rw [valV_pos (p := p) e, valV_pos e, Option.map_some, if_neg (fun z => h (e.trans z))]
   ·rw [valV_neg (p := p) e, valV_neg e, ih]
theorem valV_snoc (k j : κ) (y : V) : ∀ kvs : List (κ × V), valV kvs k = none → valV (kvs ++ [(k, y)]) j = if j = k then some y else valV kvs j
 | [], _ => by
  by_cases e : k = j
  ·rw [if_pos e.symm]; exact valV_pos (p := (k, y)) e
  ·rw [if_neg (fun z => e z.symm)]; exact valV_neg (p := (k, y)) e
 | p :: r, hn => by
  rw [List.cons_append]
  have hk : ¬ p.1 = k := fun z => by rw [valV_pos z] at hn; cases hn
  rw [valV_neg hk] at hn
  have ih := valV_snoc k j y r hn
  by_cases e : p.1 = j
  ·rw [valV_pos e, valV_pos e, if_neg (fun z => hk (e.trans z))]
  ·rw [valV_neg e, valV_neg e, ih]
theorem valV_put (kvs : List (κ × V)) (k j : κ) (y : V) : valV (putK kvs k y) j = if j = k then some y else valV kvs j := by
 unfold putK
 by_cases a : (kvs.any fun kv => decide (kv.1 = k)) = true
 ·rw [if_pos a, valV_map]
  rw [valV_any] at a
  by_cases e : j = k
  ·obtain ⟨x, hx⟩ := Option.isSome_iff_exists.mp a
   rw [if_pos e, e, hx, Option.map_some, if_pos rfl]
  ·rw [if_neg e]
   cases valV kvs j with
   | none => rfl
   | some x => rw [Option.map_some, if_neg e]
 ·rw [if_neg a]
  refine valV_snoc k j y kvs ?_
  rw [valV_any] at a
  cases q : valV kvs k with
  | none => rfl
  | some x => rw [q] at a; exact (a rfl).elim
theorem length_putK (kvs : List (κ × V)) (k : κ) (v : V) : (putK kvs k v).length ≤ kvs.length + 1 := by
 unfold putK
 split
 ·rw [List.length_map]; omega
 ·rw [List.length_append, List.length_cons, List.length_nil]; omega
theorem RelO.isSome_eq {o : Option V} {u : Option Value} (r : RelO o u) : o.isSome = u.isSome := by
 cases o with
 | none => cases u with
  | none => rfl
  | some _ => exact (show False from r).elim
 | some _ => cases u with
  | none => exact (show False from r).elim
  | some _ => rfl
theorem KV.val {kvs : List (κ × V)} {vs : List (κ × Value)} (r : KV kvs vs) (k : κ) : RelO (valV kvs k) (valueAt vs k) := by
 unfold KV at r
 induction r with
 | nil => exact True.intro
 | @cons p q ps qs h t ih =>
  obtain ⟨h1, h2⟩ := h
  by_cases e : p.1 = k
  ·have e' : q.1 = k := h1.symm.trans e
   have b : valueAt (q :: qs) k = some q.2 := by simp [valueAt, List.find?_cons, e']
   rw [valV_pos e, b]; exact h2
  ·have e' : ¬ q.1 = k := fun z => e (h1.trans z)
   have b : valueAt (q :: qs) k = valueAt qs k := by simp [valueAt, List.find?_cons, e']
   rw [valV_neg e, b]; exact ih
theorem KV.any {kvs : List (κ × V)} {vs : List (κ × Value)} (r : KV kvs vs) (k : κ) : (kvs.any fun kv => decide (kv.1 = k)) = vs.any fun kv => decide (kv.1 = k) := by
 unfold KV at r
 induction r with
 | nil => rfl
 | cons h t ih => rw [List.any_cons, List.any_cons, ih, h.1]
theorem KV.repl {kvs : List (κ × V)} {vs : List (κ × Value)} (r : KV kvs vs) (k : κ) {y : V} {u : Value} (ry : RelV y u) :
  KV (kvs.map fun kv => if kv.1 = k then (kv.1, y) else kv) (vs.map fun kv => if kv.1 = k then (kv.1, u) else kv) := by
 unfold KV at r ⊢
 induction r with
 | nil => exact .nil
 | @cons p q ps qs h t ih =>
  rw [List.map_cons, List.map_cons]
  refine .cons ?_ ih
  obtain ⟨h1, h2⟩ := h
  by_cases e : p.1 = k
  ·rw [if_pos e, if_pos (h1.symm.trans e)]; exact ⟨h1, ry⟩
  ·rw [if_neg e, if_neg (fun z => e (h1.trans z))]; exact ⟨h1, h2⟩
theorem KV.put {kvs : List (κ × V)} {vs : List (κ × Value)} (r : KV kvs vs) (k : κ) {y : V} {u : Value} (ry : RelV y u) : KV (putK kvs k y) (stored vs k u) := by
 unfold putK stored
 rw [r.any k]
 by_cases e : (vs.any fun kv => decide (kv.1 = k)) = true
 ·rw [if_pos e, if_pos e]; exact r.repl k ry
 ·rw [if_neg e, if_neg e]; exact Paired.snoc r ⟨rfl, ry⟩
theorem KV.drop {kvs : List (κ × V)} {vs : List (κ × Value)} (r : KV kvs vs) (k : κ) : KV (dropK kvs k) (without vs k) := by
 unfold KV at r ⊢
 unfold dropK without
 induction r with
 | nil => exact .nil
 | @cons p q ps qs h t ih =>
  obtain ⟨h1, h2⟩ := h
  rw [List.filter_cons, List.filter_cons]
  by_cases e : p.1 = k
  ·have a : ¬ decide (p.1 ≠ k) = true := by simp [e]
   have b : ¬ decide (q.1 ≠ k) = true := by simp [h1.symm.trans e]
   rw [if_neg a, if_neg b]; exact ih
  ·have e' : ¬ q.1 = k := fun z => e (h1.trans z)
   have a : decide (p.1 ≠ k) = true := by simp [e]
   have b : decide (q.1 ≠ k) = true := by simp [e']
   rw [if_pos a, if_pos b]; exact .cons ⟨h1, h2⟩ ih
theorem KV.keys {kvs : List (κ × V)} {vs : List (κ × Value)} (r : KV kvs vs) : kvs.map (·.1) = vs.map (·.1) := by
 unfold KV at r
 induction r with
 | nil => rfl
 | cons h t ih => rw [List.map_cons, List.map_cons, ih, h.1]
theorem KV.length {kvs : List (κ × V)} {vs : List (κ × Value)} (r : KV kvs vs) : kvs.length = vs.length := Paired.length r
theorem dropK_le (kvs : List (κ × V)) (k : κ) : (dropK kvs k).length ≤ kvs.length := List.length_filter_le _ _
end
theorem kV_is {P : Program} {w : World} {k : Key} {u : Value} (r : RelV (kV k) u) : (mixKind P w).is k u = true := by
 cases k with
 | inl i => obtain ⟨t, e⟩ := (show ∃ t, u = Value.int i t from r); subst e; exact mixKind_int P w i t
 | inr x => obtain ⟨t, e⟩ := (show ∃ t, u = Value.str x t from r); subst e; exact mixKind_str P w x t
theorem items_are {P : Program} {w : World} : ∀ {ks : List Key} {us : List Value}, Vals (ks.map kV) us → ItemsAre (mixKind P w) ks us
 | [], _, r => by rw [List.map_nil] at r; cases r; exact .nil
 | k :: ks, _, r => by
  rw [List.map_cons] at r
  cases r with
  | cons h t => exact .cons (kV_is h) (items_are t)
abbrev KT (H : Hp) : List (List Key × V) → List (List Key × Addr × Value) → Prop := Paired fun p q => p.1 = q.1 ∧ H q.2.1 = some (.tup (p.1.map kV)) ∧ RelV p.2 q.2.2
theorem KT.val {H : Hp} {kvs : List (List Key × V)} {xs : List (List Key × Addr × Value)} (r : KT H kvs xs) (k : List Key) : RelO (valV kvs k) ((atKey xs k).map (·.2)) := by
 induction r with
 | nil => exact True.intro
 | @cons p q ps qs h t ih =>
  obtain ⟨h1, _, h2⟩ := h
  by_cases e : p.1 = k
  ·have e' : q.1 = k := h1.symm.trans e
   have b : atKey (q :: qs) k = some q.2 := by simp [atKey, List.find?_cons, e']
   rw [valV_pos e, b]; exact h2
  ·have e' : ¬ q.1 = k := fun z => e (h1.trans z)
   have b : atKey (q :: qs) k = atKey qs k := by simp [atKey, List.find?_cons, e']
   rw [valV_neg e, b]; exact ih
theorem KT.repl {H : Hp} {kvs : List (List Key × V)} {xs : List (List Key × Addr × Value)} (r : KT H kvs xs) (k : List Key) {y : V} {u : Value} (ry : RelV y u) :
  KT H (kvs.map fun kv => if kv.1 = k then (kv.1, y) else kv) (xs.map (putAt k u)) := by
 induction r with
 | nil => exact .nil
 | @cons p q ps qs h t ih =>
  rw [List.map_cons, List.map_cons]
  refine .cons ?_ ih
  obtain ⟨h1, h2, h3⟩ := h
  unfold putAt
  by_cases e : p.1 = k
  ·rw [if_pos e, if_pos (h1.symm.trans e)]; exact ⟨h1, h2, ry⟩
  ·rw [if_neg e, if_neg (fun z => e (h1.trans z))]; exact ⟨h1, h2, h3⟩
theorem KT.put {H : Hp} {kvs : List (List Key × V)} {xs : List (List Key × Addr × Value)} (r : KT H kvs xs) (k : List Key) {b : Addr} {y : V} {u : Value} (hb : H b = some (.tup (k.map kV))) (ry : RelV y u) :
  KT H (putK kvs k y) (storedH xs k b u) := by
 have e : (kvs.any fun kv => decide (kv.1 = k)) = (atKey xs k).isSome := by
  rw [valV_any, (r.val k).isSome_eq, Option.isSome_map]
 unfold putK storedH
 rw [e]
 by_cases q : (atKey xs k).isSome = true
 ·rw [if_pos q, if_pos q]; exact r.repl k ry
 ·rw [if_neg q, if_neg q]; exact Paired.snoc r ⟨rfl, hb, ry⟩
theorem KT.keeps {H H' : Hp} {kvs : List (List Key × V)} {xs : List (List Key × Addr × Value)} (r : KT H kvs xs) (ht : ∀ b ys, H b = some (.tup ys) → H' b = some (.tup ys)) : KT H' kvs xs :=
 Paired.mapP r fun _ _ z => ⟨z.1, ht _ _ z.2.1, z.2.2⟩
section
variable {P : Program} {w : World} {H : Hp} {h : Heap} {a : Addr}
theorem rd_of {u : HO} (ok : HOk P w H h) (e : Rd H a u) : ObjOk P w H h a u := e.ok ok
theorem dk_rd {kvs : List (Key × V)} (ok : HOk P w H h) (e : Rd H a (.dK kvs)) : kvs.length ≤ sizeLine ∧ (a == sysModules) = false ∧ ∃ vs, KV kvs vs ∧ h.DictOf (mixKind P w) a vs :=
 show ObjOk P w H h a (.dK kvs) from rd_of ok e
theorem dk_of {kvs : List (Key × V)} (ok : HOk P w H h) (e : H a = some (.dK kvs)) : kvs.length ≤ sizeLine ∧ (a == sysModules) = false ∧ ∃ vs, KV kvs vs ∧ h.DictOf (mixKind P w) a vs := dk_rd ok (.inl e)
theorem key_of {ks : List Key} (ok : HOk P w H h) (e : H a = some (.tup (ks.map kV))) : (tupleKind (mixKind P w)).is h ks a := by
 obtain ⟨_, its, r, o, h1, h2, n, h3⟩ := (show ObjOk P w H h a (.tup (ks.map kV)) from ok a _ e)
 exact ⟨o, its.toArray, n, h1, h2, h3, by simpa using items_are r⟩
theorem dt_rd {kvs : List (List Key × V)} (ok : HOk P w H h) (e : Rd H a (.dT kvs)) : kvs.length ≤ sizeLine ∧ (a == sysModules) = false ∧
  ∃ xs, KT H kvs xs ∧ h.DictOfH (tupleKind (mixKind P w)) a xs := by
 obtain ⟨z, y, xs, r, o, es, ep, h1, h2, h3, h4, h5⟩ := (show ObjOk P w H h a (.dT kvs) from rd_of ok e)
 refine ⟨z, y, xs, r, o, es, ep, h1, h2, h3, h4, fun x hx => ?_, h5⟩
 have all : ∀ {l : List (List Key × V)} {m : List (List Key × Addr × Value)}, KT H l m → ∀ x ∈ m, (tupleKind (mixKind P w)).is h x.1 x.2.1 := by
  intro l m q
  induction q with
  | nil => intro x hx; exact nomatch hx
  | @cons p q ps qs hq t ih =>
   intro x hx
   rcases List.mem_cons.mp hx with e | hx
   ·subst e
    exact key_of ok (by rw [← hq.1]; exact hq.2.1)
   ·exact ih x hx
 exact all r x hx
theorem dt_of {kvs : List (List Key × V)} (ok : HOk P w H h) (e : H a = some (.dT kvs)) : kvs.length ≤ sizeLine ∧ (a == sysModules) = false ∧
  ∃ xs, KT H kvs xs ∧ h.DictOfH (tupleKind (mixKind P w)) a xs := dt_rd ok (.inl e)
end
def DGet (H : Hp) (a : Addr) (y : V) (r : Option V) : Prop :=
 (∃ kvs k, Rd H a (.dK kvs) ∧ y = kV k ∧ r = valV kvs k) ∨ ∃ kvs k b, Rd H a (.dT kvs) ∧ y = .ref b ∧ H b = some (.tup (k.map kV)) ∧ r = valV kvs k
def DPut (H : Hp) (a : Addr) (y v : V) (H' : Hp) : Prop :=
 (∃ kvs k, H a = some (.dK kvs) ∧ y = kV k ∧ kvs.length < sizeLine ∧ H' = upd H a (.dK (putK kvs k v))) ∨
 ∃ kvs k b, H a = some (.dT kvs) ∧ y = .ref b ∧ H b = some (.tup (k.map kV)) ∧ kvs.length < sizeLine ∧ H' = upd H a (.dT (putK kvs k v))
theorem DGet.k {H : Hp} {a : Addr} {kvs : List (Key × V)} {k : Key} (e : H a = some (.dK kvs)) : DGet H a (kV k) (valV kvs k) := .inl ⟨kvs, k, .inl e, rfl, rfl⟩
theorem DPut.k {H : Hp} {a : Addr} {kvs : List (Key × V)} {k : Key} {v : V} (e : H a = some (.dK kvs)) (hl : kvs.length < sizeLine) : DPut H a (kV k) v (upd H a (.dK (putK kvs k v))) := .inl ⟨kvs, k, e, rfl, hl, rfl⟩
section
variable {X : Cx} {pins : List (Addr × Obj)} {σ : St} {H : Hp} {s : Shared} {a : Addr} {y v : V} {u r : Value} {o : Option V} {A : Around} {E : Value → Shared → Prop}
theorem d_getItem {Q : Value → Shared → Prop} (hu : A.units + 1 < cLine) (I : Inv X pins σ H s) (g : DGet H a y (some v)) (ry : RelV y u) (h : ∀ w' s', Inv X pins σ H s' → RelV v w' → Q w' s') :
  wpAny (model X.prog X.w) A (getItem (.ref a) u) Q E s := by
 rcases g with ⟨kvs, k, e, ey, l⟩ | ⟨kvs, k, b, e, ey, eb, l⟩
 ·subst ey
  obtain ⟨z, hd, vs, rel, dd⟩ := dk_rd I.hok e
  obtain ⟨w', hw, rw'⟩ := RelO.some_of (v := v) (o := valueAt vs k) (by rw [l]; exact rel.val k)
  exact wpAny_getItem_of (kV_is ry) dd.mapOf hw (h w' _ (I.tok _) rw')
 ·subst ey
  cases (show u = Value.ref b from ry)
  obtain ⟨z, hd, xs, rel, dd⟩ := dt_rd I.hok e
  obtain ⟨w', hw, rw'⟩ := RelO.some_of (v := v) (o := (atKey xs k).map (·.2)) (by rw [l]; exact rel.val k)
  obtain ⟨p, hp, hp2⟩ := Option.map_eq_some_iff.mp hw
  refine wpAny_getItem_heap (tupleKind_room_in1 hu) (key_of I.hok eb) dd hp ?_
  rw [hp2]
  exact h w' _ (I.tok _) rw'
theorem d_in {Q : Value → Shared → Prop} (hu : A.units + 1 < cLine) (I : Inv X pins σ H s) (g : DGet H a y o) (ry : RelV y u) (h : ∀ s', Inv X pins σ H s' → Q (.bool o.isSome) s') :
  wpAny (model X.prog X.w) A (compareOp .In u (.ref a)) Q E s := by
 rcases g with ⟨kvs, k, e, ey, l⟩ | ⟨kvs, k, b, e, ey, eb, l⟩
 ·subst ey
  obtain ⟨z, hd, vs, rel, dd⟩ := dk_rd I.hok e
  refine wpAny_in_of (kV_is ry) hd dd.mapOf ?_
  rw [← (rel.val k).isSome_eq, ← l]
  exact h _ (I.tok _)
 ·subst ey
  cases (show u = Value.ref b from ry)
  obtain ⟨z, hd, xs, rel, dd⟩ := dt_rd I.hok e
  refine wpAny_in_heap (tupleKind_room_in1 hu) (key_of I.hok eb) hd dd ?_
  have q := (rel.val k).isSome_eq
  rw [Option.isSome_map] at q
  rw [← q, ← l]
  exact h _ (I.tok _)
theorem d_notIn {Q : Value → Shared → Prop} (hu : A.units + 1 < cLine) (I : Inv X pins σ H s) (g : DGet H a y o) (ry : RelV y u) (h : ∀ s', Inv X pins σ H s' → Q (.bool (!o.isSome)) s') :
  wpAny (model X.prog X.w) A (compareOp .NotIn u (.ref a)) Q E s := by
 rcases g with ⟨kvs, k, e, ey, l⟩ | ⟨kvs, k, b, e, ey, eb, l⟩
 ·subst ey
  obtain ⟨z, hd, vs, rel, dd⟩ := dk_rd I.hok e
  refine wpAny_notIn_of (kV_is ry) hd dd.mapOf ?_
  rw [← (rel.val k).isSome_eq, ← l]
  exact h _ (I.tok _)
 ·subst ey
  cases (show u = Value.ref b from ry)
  obtain ⟨z, hd, xs, rel, dd⟩ := dt_rd I.hok e
  refine wpAny_notIn_heap (tupleKind_room_in1 hu) (key_of I.hok eb) hd dd ?_
  have q := (rel.val k).isSome_eq
  rw [Option.isSome_map] at q
  rw [← q, ← l]
  exact h _ (I.tok _)
theorem d_write {h' : Heap} {t' : Nat} {ob : HO} (I : Inv X pins σ H s) (mu : Mut (H a)) (hs : Heap.SameBut a s.heap h') (he : ∃ q, h'.get? a = some q) (new : ObjOk X.prog X.w (upd H a ob) h' a ob) :
  Inv X pins σ (upd H a ob) { s with heap := h', toks := t' } :=
 I.write (x := a) (e := a) mu (.inl rfl) (fun b q hb z => (hs.2 b hb).trans z) he new
theorem dk_new {P : Program} {w : World} {H' : Hp} {h' : Heap} {kvs : List (Key × V)} {vs : List (Key × Value)} (z : kvs.length ≤ sizeLine) (hd : (a == sysModules) = false) (rel : KV kvs vs) (dd : h'.DictOf (mixKind P w) a vs) :
  ObjOk P w H' h' a (.dK kvs) := ⟨z, hd, vs, rel, dd⟩
theorem d_setItem {H' : Hp} {Q : Unit → Shared → Prop} (hu : A.units + 1 < cLine) (I : Inv X pins σ H s) (g : DPut H a y v H') (ry : RelV y u) (rv : RelV v r) (h : ∀ s', Inv X pins σ H' s' → Q () s') :
  wpAny (model X.prog X.w) A (setItem (.ref a) u r) Q E s := by
 rcases g with ⟨kvs, k, e, ey, l, eH⟩ | ⟨kvs, k, b, e, ey, eb, l, eH⟩
 ·subst ey eH
  obtain ⟨z, hd, vs, rel, dd⟩ := dk_of I.hok e
  have hz : vs.length ≤ sizeLine := by rw [← rel.length]; exact z
  have hl : (putK kvs k v).length ≤ sizeLine := by have := length_putK kvs k v; omega
  refine wpAny_setItem_pairs (hsz := hz) (kV_is ry) dd fun h' dd' hs => h _ ?_
  have he : ∃ q, h'.get? a = some q := let ⟨q, _, _, hq, _⟩ := dd'; ⟨q, hq⟩
  exact d_write I (by rw [e]; exact True.intro) hs he (dk_new hl hd (rel.put k rv) dd')
 ·subst ey eH
  cases (show u = Value.ref b from ry)
  obtain ⟨z, hd, xs, rel, dd⟩ := dt_of I.hok e
  have hz : xs.length ≤ sizeLine := by rw [← Paired.length rel]; exact z
  have hl : (putK kvs k v).length ≤ sizeLine := by have := length_putK kvs k v; omega
  refine wpAny_setItem_heap (hsz := hz) (tupleKind_room_in1 hu) (key_of I.hok eb) dd fun h' dd' hs => h _ ?_
  obtain ⟨q, es, ep, hq, h2, h3, h4, _, h5⟩ := dd'
  refine d_write I (by rw [e]; exact True.intro) hs ⟨q, hq⟩ ⟨hl, hd, _, (rel.put k eb rv).keeps fun c ys ec => ?_, q, es, ep, hq, h2, h3, h4, h5⟩
  rw [upd_ne (ne_of ec e (fun z => nomatch z))]
  exact ec
end
section
variable {X : Cx} {pins : List (Addr × Obj)} {σ : St} {H : Hp} {s : Shared} {a : Addr} {kvs : List (Key × V)} {k : Key} {u : Value} {A : Around} {E : Value → Shared → Prop}
theorem d_pop {v : V} {more : List Value} {Q : Value → Shared → Prop} (I : Inv X pins σ H s) (e : H a = some (.dK kvs)) (ry : RelV (kV k) u) (l : valV kvs k = some v) (hm : more = [] ∨ ∃ x, more = [x])
  (h : ∀ w' s', Inv X pins σ (upd H a (.dK (dropK kvs k))) s' → RelV v w' → Q w' s') : wpAny (model X.prog X.w) A (call (.builtin "dict.pop") (.ref a :: u :: more)) Q E s := by
 obtain ⟨z, hd, vs, rel, dd⟩ := dk_of I.hok e
 obtain ⟨w', hw, rw'⟩ := RelO.some_of (v := v) (o := valueAt vs k) (by rw [← l]; exact rel.val k)
 have hp : (keyPart u).isSome = true := by
  cases k with
  | inl i => obtain ⟨t, q⟩ := (show ∃ t, u = Value.int i t from ry); subst q; rfl
  | inr x => obtain ⟨t, q⟩ := (show ∃ t, u = Value.str x t from ry); subst q; rfl
 have ha : argsOk "dict.pop" ⟨.ref a :: u :: more, []⟩ := by
  rcases hm with q | ⟨x, q⟩
  ·subst q; exact PySem.F.args_dict_pop_2 _ _
  ·subst q; exact PySem.F.args_dict_pop_3 _ _ _
 refine call_meetsIn PySem.F.slot_dict_pop dd.typeIs PySem.F.entry_dict_pop ha (meets_dict_pop_there (mixKind X.prog X.w) a (kV_is ry) more hm hp)
  ⟨vs, w', dd, by rw [← rel.length]; exact z, hw, fun h' dd' hs => h w' _ ?_ rw'⟩
 have he : ∃ q, h'.get? a = some q := let ⟨q, _, _, hq, _⟩ := dd'; ⟨q, hq⟩
 exact d_write I (by rw [e]; exact True.intro) hs he (dk_new (Nat.le_trans (dropK_le kvs k) z) hd (rel.drop k) dd')
end
def NoSl (i : Expr) : Prop := ∀ ov iv, subscripted i false ov iv = operate [ov, iv] (getItem ov iv)
theorem subD_of {prog : Program} {w : World} {A : Around} {E : Value → Shared → Prop} {s : Shared} {env : Env} {value slice : Expr} {pos : Pos} {T id : String} {Q : Value → Shared → Prop}
  (hl : typeLookup (.type T) "__getitem__" = pure (some (.builtin id))) (hs : NoSl slice)
  (h : wpAny (model prog w) A (eval value env) (fun o s₁ => wpAny (model prog w) A (eval slice env) (fun i s₂ => s₂.TypeIs o T ∧ wpAny (model prog w) A (getItem o i) Q E s₂) E s₁) E s) :
  wpAny (model prog w) A (eval (.Subscript value slice pos) env) Q E s := by
 refine Subscript_ (wpAny_mono h (fun o s₁ h₁ => wpAny_mono h₁ (fun i s₂ h₂ => ?_) fun _ _ x => x) fun _ _ x => x)
 obtain ⟨hT, h₂⟩ := h₂
 unfold subscriptTail
 refine wpAny_bind ?_
 rw [getitemInPython_of_ne hT.not_modules]
 refine wpAny_bind (wpAny_specialOf hT hl ?_)
 have fin : wpAny (model prog w) A (subscripted slice false o i) (fun r s₃ => wpAny (model prog w) A (letTemporaryGo value o r >>= fun _ => pure r) Q E s₃) E s₂ := by
  rw [hs o i]
  exact wpAny_operating (wpAny_mono h₂ (fun r s₃ h₃ => wpAny_bind (wpAny_letTemporaryGo (wpAny_pure h₃))) fun _ _ x => x)
 first
  | exact wpAny_pure (wpAny_bind fin)
  | exact wpAny_bind (wpAny_pure (wpAny_bind fin))
  | exact wpAny_bind fin
theorem dict_typeIs {X : Cx} {pins : List (Addr × Obj)} {σ : St} {H : Hp} {s : Shared} {a : Addr} {y : V} {o : Option V} (I : Inv X pins σ H s) (g : DGet H a y o) : s.TypeIs (.ref a) "dict" := by
 rcases g with ⟨kvs, k, e, _, _⟩ | ⟨kvs, k, b, e, _, _, _⟩
 ·obtain ⟨_, _, vs, _, dd⟩ := dk_rd I.hok e
  exact dd.typeIs
 ·obtain ⟨_, _, xs, _, dd⟩ := dt_rd I.hok e
  exact dd.typeIs
def tDGet (td ty : TE) : TE := fun σ H Q => td σ H fun x H1 => ty σ H1 fun y H2 => ∃ a v, x = .ref a ∧ DGet H2 a y (some v) ∧ Q v H2
def tDIn (ty td : TE) : TE := fun σ H Q => ty σ H fun y H1 => td σ H1 fun x H2 => ∃ a o, x = .ref a ∧ DGet H2 a y o ∧ Q (.bl o.isSome) H2
def tDNotIn (ty td : TE) : TE := fun σ H Q => ty σ H fun y H1 => td σ H1 fun x H2 => ∃ a o, x = .ref a ∧ DGet H2 a y o ∧ Q (.bl (!o.isSome)) H2
def sDPut (td ty tv : TE) : TS := fun D σ H => tv σ H fun v H1 => td σ H1 fun x H2 => ty σ H2 fun y H3 => ∃ a H4, x = .ref a ∧ DPut H3 a y v H4 ∧ D.nx σ H4
section
variable {X : Cx} {o i e value : Expr} {pos pos' tpos : Pos} {td ty tv : TE}
theorem pe_dget (hu : X.A.units + 1 < cLine) (ho : PE X o td) (hi : PE X i ty) (hs : NoSl i) : PE X (.Subscript o i pos) (tDGet td ty) := by
 intro pins s σ H Q I h
 refine subD_of PySem.F.slot_dict_getitem.lookup hs (thn (ho pins s σ H _ I h) fun u s1 ⟨x, H1, I1, rx, q1⟩ => thn (hi pins s1 σ H1 _ I1 q1) fun iv s2 ⟨y, H2, I2, ry, a, v, ex, g, q2⟩ => ?_)
 subst ex
 obtain rfl : u = Value.ref a := rx
 exact ⟨dict_typeIs I2 g, d_getItem hu I2 g ry fun w' s3 I3 rw' => ⟨v, H2, I3, rw', q2⟩⟩
theorem pc_din (hu : X.A.units + 1 < cLine) (hi : PE X i ty) (ho : PE X o td) : PC X .In i o (tDIn ty td) := by
 intro pins s σ H Q I h
 refine thn (hi pins s σ H _ I h) fun iv s1 ⟨y, H1, I1, ry, q1⟩ => thn (ho pins s1 σ H1 _ I1 q1) fun u s2 ⟨x, H2, I2, rx, a, ov, ex, g, q2⟩ => ?_
 subst ex
 obtain rfl : u = Value.ref a := rx
 exact d_in hu I2 g ry fun s3 I3 => ⟨.bl ov.isSome, H2, I3, rfl, q2⟩
theorem pc_dnotin (hu : X.A.units + 1 < cLine) (hi : PE X i ty) (ho : PE X o td) : PC X .NotIn i o (tDNotIn ty td) := by
 intro pins s σ H Q I h
 refine thn (hi pins s σ H _ I h) fun iv s1 ⟨y, H1, I1, ry, q1⟩ => thn (ho pins s1 σ H1 _ I1 q1) fun u s2 ⟨x, H2, I2, rx, a, ov, ex, g, q2⟩ => ?_
 subst ex
 obtain rfl : u = Value.ref a := rx
 exact d_notIn hu I2 g ry fun s3 I3 => ⟨.bl (!ov.isSome), H2, I3, rfl, q2⟩
theorem ps_dput (hu : X.A.units + 1 < cLine) (ho : PE X o td) (hi : PE X i ty) (hv : PE X value tv) (hs : swapsWith value (some (.Subscript o i pos')) pos.line X.env = pure false) :
  PS X (.Assign [.Subscript o i pos'] value pos) (sDPut td ty tv) := by
 intro pins s σ H D I h
 refine wpAny_Assign_Subscript (thn (hv pins s σ H _ I h) fun r s1 ⟨v, H1, I1, rv, q1⟩ => thn (ho pins s1 σ H1 _ I1 q1) fun u s2 ⟨x, H2, I2, rx, q2⟩ => thn (hi pins s2 σ H2 _ I2 q2) fun iv s3 ⟨y, H3, I3, ry, a, H4, ex, g, q3⟩ => ?_) hs
 subst ex
 obtain rfl : u = Value.ref a := rx
 exact d_setItem hu I3 g ry rv fun s4 I4 => ⟨σ, H4, I4, q3⟩
end
section
variable {X : Cx} {pos : Pos}
end
structure M1 (X : Cx) (o : Expr) (m : Str) (apos : Pos) (e : Expr) (cpos : Pos) : Prop where
 base : attributeBase o m X.env (eval o X.env) = eval o X.env
 few : ((backTo cpos (starEach [e] X.env)).all (fun x => !x.1) && (backToKw cpos (keywordEach [] X.env)).all (fun x => x.1.isSome)
  && decide (([e] : List Expr).length + ([] : List Keyword).length + (if ([] : List Keyword).isEmpty then 0 else 1) < 30)) = true
 line : (apos.endLine == cpos.line) = true
 trees : backTo cpos (starEach [e] X.env) = [(false, eval e X.env)]
def IsD (H : Hp) (a : Addr) : Prop := (∃ kvs, Rd H a (.dK kvs)) ∨ ∃ kvs, Rd H a (.dT kvs)
theorem isD_at {X : Cx} {pins : List (Addr × Obj)} {σ : St} {H : Hp} {s : Shared} {a : Addr} (I : Inv X pins σ H s) (d : IsD H a) :
  s.TypeIs (.ref a) "dict" ∧ (∀ b, Value.ref a = .ref b → ∃ ob, s.heap.get? b = some ob ∧ ob.dict = none) ∧ (a == sysModules) = false := by
 rcases d with ⟨kvs, e⟩ | ⟨kvs, e⟩
 ·obtain ⟨_, hd, vs, _, dd⟩ := dk_rd I.hok e
  refine ⟨dd.typeIs, fun b q => ?_, hd⟩
  cases q
  obtain ⟨ob, _, _, h1, h2, _⟩ := dd
  exact ⟨ob, h1, h2.2.1⟩
 ·obtain ⟨_, hd, xs, _, dd⟩ := dt_rd I.hok e
  refine ⟨dd.typeIs, fun b q => ?_, hd⟩
  cases q
  obtain ⟨ob, _, _, h1, h2, _⟩ := dd
  exact ⟨ob, h1, h2.2.1⟩
section
variable {X : Cx} {pins : List (Addr × Obj)} {σ : St} {H : Hp} {s : Shared} {a : Addr} {y d : V} {u r : Value} {o : Option V} {A : Around} {E : Value → Shared → Prop}
end
def tDPop1 (td ty : TE) : TE := fun σ H Q => td σ H fun x H1 => ∃ a, x = .ref a ∧ IsD H1 a ∧ ty σ H1 fun y H2 => ∃ kvs k v, H2 a = some (.dK kvs) ∧ y = kV k ∧ valV kvs k = some v ∧ Q v (upd H2 a (.dK (dropK kvs k)))
section
variable {X : Cx} {o e f : Expr} {apos cpos : Pos} {td ty tx : TE}
theorem pe_dpop1 (ho : PE X o td) (he : PE X e ty) (m : M1 X o "pop" apos e cpos) : PE X (.Call (.Attribute o "pop" apos) [e] [] cpos) (tDPop1 td ty) := by
 intro pins s σ H Q I h
 refine wpAny_Call_method m.base m.few m.line PySem.F.plainAttrs_dict PySem.F.slot_dict_pop PySem.F.type_dict_pop (thn (ho pins s σ H _ I h) fun u s1 ⟨x, H1, I1, rx, a, ex, d, q1⟩ => ?_)
 subst ex
 obtain rfl : u = Value.ref a := rx
 obtain ⟨t1, t2, _⟩ := isD_at I1 d
 refine ⟨t1, t2, ?_⟩
 rw [m.trees]
 refine Calls.callWith_builtin rfl (Calls.evalArgs_plain (Calls.spliced_cons (thn (he pins s1 σ H1 _ I1 q1) fun iv s2 ⟨y, H2, I2, ry, kvs, k, v, ea, ey, l, q2⟩ => Calls.spliced_nil ?_)))
 subst ey
 exact d_pop I2 ea ry l (.inl rfl) fun w' s3 I3 rw' => ⟨v, _, I3, rw', q2⟩
end
section
variable {X : Cx} {pins : List (Addr × Obj)} {σ : St} {H : Hp} {s : Shared} {a : Addr} {kvs : List (Key × V)} {A : Around} {E : Value → Shared → Prop}
end
section
variable {X : Cx} {pins : List (Addr × Obj)} {σ : St} {H : Hp} {s : Shared} {a : Addr} {y : V} {u : Value} {A : Around} {E : Value → Shared → Prop}
end
end L2
namespace L2
open PySem PySem.Spec PyProof.Rows
section
variable {κ : Type} [DecidableEq κ]
theorem valV_not {kvs : List (κ × V)} {k : κ} (h : valV kvs k = none) : ¬ k ∈ kvs.map (·.1) := by
 intro m
 obtain ⟨p, hp, e⟩ := List.mem_map.mp m
 have q : (kvs.any fun kv => decide (kv.1 = k)) = true := List.any_eq_true.mpr ⟨p, hp, decide_eq_true e⟩
 rw [valV_any, h] at q
 exact absurd q (by simp)
theorem valV_in {kvs : List (κ × V)} {k : κ} {v : V} (h : valV kvs k = some v) : k ∈ kvs.map (·.1) := by
 have q : (kvs.any fun kv => decide (kv.1 = k)) = true := by
  rw [valV_any, h]
  all_goals rfl
 obtain ⟨p, hp, e⟩ := List.any_eq_true.mp q
 exact List.mem_map.mpr ⟨p, hp, of_decide_eq_true e⟩
end
end L2
end
section
set_option Elab.async false
set_option linter.all false
set_option maxRecDepth 100000
set_option maxHeartbeats 4000000
namespace BK
open PySem L2
theorem bt_int : bootBuiltins "int" = some (.type "int") := by decide +kernel
theorem bt_bool : bootBuiltins "bool" = some (.type "bool") := by decide +kernel
theorem bt_list : bootBuiltins "list" = some (.type "list") := by decide +kernel
theorem bt_ValueError : bootBuiltins "ValueError" = some (.type "ValueError") := by decide +kernel
theorem bt_isinstance : bootBuiltins "isinstance" = some (.builtin "isinstance") := by decide +kernel
theorem bt_all : bootBuiltins "all" = some (.builtin "all") := by decide +kernel
theorem bt_min : bootBuiltins "min" = some (.builtin "min") := by decide +kernel
theorem bt_len : bootBuiltins "len" = some (.builtin "len") := by decide +kernel
theorem bt_sorted : bootBuiltins "sorted" = some (.builtin "sorted") := by decide +kernel
def isI : V → Bool
 | .int _ => true
 | .bl _ => true
 | _ => false
def isB : V → Bool
 | .bl _ => true
 | _ => false
def isLH : Option HO → Bool
 | some (.lst _) => true
 | _ => false
def isL (H : Hp) : V → Bool
 | .ref a => isLH (H a)
 | _ => false
structure Kd (K : PySem.W.Frag) (H : Hp) (v : V) : Prop where
 ex : ∃ t, TyOf K H v t ∧ PySem.W.kitOne K t (.type "int") = some (isI v) ∧ PySem.W.kitOne K t (.type "bool") = some (isB v) ∧ PySem.W.kitOne K t (.type "list") = some (isL H v)
section
variable {K : PySem.W.Frag} {H H' : Hp}
theorem Kd.int (i : Int) : Kd K H (.int i) := ⟨_, .int i, by kernel_rfl, by kernel_rfl, by kernel_rfl⟩
theorem Kd.bl (b : Bool) : Kd K H (.bl b) := ⟨_, .bl b, by kernel_rfl, by kernel_rfl, by kernel_rfl⟩
theorem Kd.non : Kd K H .non := ⟨_, .non, by kernel_rfl, by kernel_rfl, by kernel_rfl⟩
theorem Kd.str (x : Str) : Kd K H (.str x) := ⟨_, .str x, by kernel_rfl, by kernel_rfl, by kernel_rfl⟩
theorem Kd.lst {a : Addr} {xs : List V} (e : H a = some (.lst xs)) : Kd K H (.ref a) := ⟨_, .lst e, by kernel_rfl, by kernel_rfl, by rw [show isL H (.ref a) = true by show isLH (H a) = _; rw [e]; rfl]; kernel_rfl⟩
theorem tyof_same {v : V} {t : Value} (e : Same H H') (h : TyOf K H v t) : TyOf K H' v t := by
 cases h with
 | non => exact .non
 | bl b => exact .bl b
 | int i => exact .int i
 | str i => exact .str i
 | flt i => exact .flt i
 | lst q => exact .lst (e _ _ q)
 | frz q => exact .frz (e _ _ q)
 | tup q => exact .tup (e _ _ q)
 | dK q => exact .dK (e _ _ q)
 | dT q => exact .dT (e _ _ q)
 | ins q c1 c2 c3 c4 c5 => exact .ins (e _ _ q) c1 c2 c3 c4 c5
 | exc q F => exact .exc (e _ _ q) F
theorem isL_same {v : V} {t : Value} (e : Same H H') (h : TyOf K H v t) : isL H' v = isL H v := by
 cases h with
 | lst q => show isLH _ = isLH _; rw [e _ _ q, q]
 | frz q => show isLH _ = isLH _; rw [e _ _ q, q]
 | tup q => show isLH _ = isLH _; rw [e _ _ q, q]
 | dK q => show isLH _ = isLH _; rw [e _ _ q, q]
 | dT q => show isLH _ = isLH _; rw [e _ _ q, q]
 | ins q c1 c2 c3 c4 c5 => show isLH _ = isLH _; rw [e _ _ q, q]
 | exc q F => show isLH _ = isLH _; rw [e _ _ q, q]
 | _ => rfl
theorem Kd.same {v : V} (e : Same H H') (h : Kd K H v) : Kd K H' v := by
 obtain ⟨t, ty, e1, e2, e3⟩ := h
 exact ⟨t, tyof_same e ty, e1, e2, by rw [isL_same e ty]; exact e3⟩
theorem same_new {H : Hp} {p : Addr} (h : H p = none) (o : HO) : Same H (upd H p o) := fun b u q => by rw [upd_ne (ne_of_none q h)]; exact q
theorem same_upd {H H' : Hp} {p : Addr} (h : H p = none) (s : Same H H') (o : HO) : Same H (upd H' p o) := fun b u q => by rw [upd_ne (ne_of_none q h)]; exact s b u q
theorem sqT_same {a : Addr} {xs : List V} (e : Same H H') (h : SqT K H a xs) : SqT K H' a xs := by
 rcases h with h | h
 ·rcases h with h | ⟨o, h⟩
  ·exact .inl (.inl (e _ _ h))
  ·exact .inl (.inr ⟨o, e _ _ h⟩)
 ·exact .inr h
end
def wholeV (v : V) (lo hi : Int) : Bool := match v with
 | .int i => decide (lo ≤ i) && decide (i ≤ hi)
 | _ => false
def goodV (v : V) : Bool := wholeV v 0 999999999
section
variable {P : Program} {w : World} {K : PySem.W.Frag} {mg : Str → Option Value} {base : Heap} {f : Addr} {fd : FuncData} {H H' : Hp}
theorem iteF' {c : Bool} {A B : Prop} (hc : c = false) (h : B) : if c = true then A else B := by subst hc; exact iteF h
theorem iteT' {c : Bool} {A B : Prop} (hc : c = true) (h : A) : if c = true then A else B := by subst hc; exact iteT h
theorem small {n : Nat} (h : n ≤ 1000) : n ≤ sizeLine := Nat.le_of_lt (small1000 h)
theorem all_good (xs : List V) : (xs.map goodV).all id = xs.all goodV := by rw [List.all_map]; rfl
theorem dec_V {i j : Int} : decide (V.int i = V.int j) = decide (i = j) := by
 by_cases h : i = j
 ·subst h; simp
 ·rw [decide_eq_false h, decide_eq_false (fun q => h (V.int.inj q))]
theorem cut_to (xs : List V) (k : Nat) : cutV xs none (some (k : Int)) = xs.take k := by
 unfold cutV
 rw [HT.sIx_none, HT.sIx_nat]
 simp
theorem cut_from (xs : List V) (k : Nat) : cutV xs (some (k : Int)) none = xs.drop k := by
 unfold cutV
 rw [HT.sIx_none, HT.sIx_nat]
 by_cases h : k ≤ xs.length
 ·rw [Nat.min_eq_left h]
  rw [List.take_of_length_le (by rw [List.length_drop]; exact Nat.le_refl _)]
 ·rw [Nat.min_eq_right (by omega)]
  simp [List.drop_eq_nil_of_le (show xs.length ≤ k by omega)]
mutual
theorem dv_same (e : Same H H') : ∀ {v : V} {d : PyData}, DV K H v d → DV K H' v d
 | _, _, .non => .non
 | _, _, .bl b => .bl b
 | _, _, .int i => .int i
 | _, _, .str x => .str x
 | _, _, .lst q r => .lst (e.seq q) (dvs_same e r)
 | _, _, .tup q r => .tup (sqT_same e q) (dvs_same e r)
theorem dvs_same (e : Same H H') : ∀ {vs : List V} {ds : List PyData}, DVs K H vs ds → DVs K H' vs ds
 | _, _, .nil => .nil
 | _, _, .cons q r => .cons (dv_same e q) (dvs_same e r)
end
theorem dvs_ints : ∀ R : List Int, DVs K H (R.map V.int) (R.map PyData.int)
 | [] => .nil
 | i :: r => .cons (.int i) (dvs_ints r)
theorem shaped_list {ds : List PyData} (c : PyData.canLayAll0 ds = true) (l : PyData.depthAll ds ≤ 1) : SeqAt.shaped (.list ds) = true := by
 have l' : (PyData.list ds).depth ≤ 64 := by simp only [PyData.depth]; omega
 have c' : (PyData.list ds).canLay0 = true := by simp only [PyData.canLay0]; exact c
 unfold SeqAt.shaped
 rw [c', Bool.true_and]
 exact decide_eq_true l'
theorem eqv_same {d : PyData} (h : SeqAt.shaped d = true) : PyData.eqv d d = true := SeqAt.eqv_refl d (SeqAt.canLay_of_shaped h)
theorem atI_mem (xs : List V) (i : Int) (h0 : 0 ≤ i) (h1 : i < xs.length) : ∃ v, atI xs i = some v ∧ v ∈ xs := by
 have hk : i.toNat < xs.length := by omega
 have e : atI xs ((i.toNat : Nat) : Int) = some xs[i.toNat] := atI_nat (List.getElem?_eq_getElem hk)
 rw [show ((i.toNat : Nat) : Int) = i by omega] at e
 exact ⟨_, e, List.getElem_mem hk⟩
theorem good_ints (R : List Int) (h : ∀ r ∈ R, 0 ≤ r ∧ r ≤ 999999999) : (R.map V.int).all goodV = true := by
 rw [List.all_eq_true]
 intro x hx
 obtain ⟨i, hi, rfl⟩ := List.mem_map.mp hx
 have := h i hi
 show (decide ((0 : Int) ≤ i) && decide (i ≤ 999999999)) = true
 simp [this]
theorem lc_ints {fj : List (Str × Nat)} {te : TE} {σ : St} {H : Hp} {Q : Addr → Hp → Prop} {n : Nat} (hn : n ≤ 1000) (g : Nat → Int)
  (hs : ∀ (i : Nat) (H' : Hp) (Qf : VK), i < n → Same H H' → (∀ H3, Same H' H3 → Qf (.int (g i)) H3) → te (some (.int (0 + (i : Int))) :: frees σ fj) H' Qf)
  (hd : ∀ acc H', H acc = none → Same H H' → H' acc = some (.lst (((List.range n).map g).map V.int)) → Q acc H') :
  ∀ acc, H acc = none → ∃ W : Nat → Nat → List V → Hp → Prop, (∃ m, W 0 m [] (upd H acc (.lst []))) ∧ ∀ i m ys H, W i m ys H →
   ((Itr 0 n).stop i H ∧ Q acc H) ∨ ((Itr 0 n).go i H ∧ ∀ x H', (Itr 0 n).yld i H x H' → tYes (some x :: frees σ fj) H' fun b H2 =>
    if b = true then te (some x :: frees σ fj) H2 fun v H3 => H3 acc = some (.lst ys) ∧ ys.length < sizeLine ∧ ∃ m', m' < m ∧ W (i + 1) m' (ys ++ [v]) (upd H3 acc (.lst (ys ++ [v])))
    else ∃ m', m' < m ∧ W (i + 1) m' ys H2) := by
 refine lc_range hn (fun acc i ys H' => ys = (((List.range i).map g).map V.int) ∧ H' acc = some (.lst ys) ∧ H acc = none ∧ Same H H') ?_ ?_ ?_ ?_
 ·exact fun acc h => ⟨rfl, upd_same, h, same_new h _⟩
 ·rintro acc i ys H' hi ⟨rfl, h1, h2, h3⟩
  simp
 ·rintro acc i ys H' Qf hi ⟨rfl, h1, h2, h3⟩ k
  refine hs i H' Qf hi h3 fun H3 h4 => k _ _ (h4 _ _ h1) ⟨?_, upd_same, h2, same_upd h2 (h3.trans h4) _⟩
  rw [List.range_succ]
  simp
 ·rintro acc ys H' h ⟨rfl, h1, h2, h3⟩
  exact hd acc H' h2 h3 h1
def Chg (S : List Addr) (H H' : Hp) : Prop := ∀ b o, H b = some o → b ∉ S → H' b = some o
theorem Chg.of {S : List Addr} (s : Same H H') : Chg S H H' := fun b o q _ => s b o q
theorem Chg.trans {S : List Addr} {H1 H2 : Hp} (a : Chg S H H1) (b : Chg S H1 H2) : Chg S H H2 := fun c o q n => b c o (a c o q n) n
theorem Chg.mono {S S' : List Addr} (c : Chg S H H') (h : ∀ b ∈ S, b ∈ S') : Chg S' H H' := fun b o q n => c b o q fun z => n (h b z)
theorem Chg.upd {S : List Addr} {a : Addr} (c : Chg S H H') (ha : a ∈ S) (o : HO) : Chg S H (L2.upd H' a o) := fun b u q n => by rw [L2.upd_ne (fun z => n (by rw [z]; exact ha))]; exact c b u q n
theorem Chg.new {S : List Addr} {a : Addr} (c : Chg S H H') (n : H' a = none) (o : HO) : Chg S H (L2.upd H' a o) := fun b u q m => by rw [upd_ne (ne_of_none (c b u q m) n)]; exact c b u q m
theorem Chg.upd0 {S : List Addr} {a : Addr} (c : Chg S H H') (n : H a = none) (o : HO) : Chg S H (L2.upd H' a o) := fun b u q m => by rw [L2.upd_ne (ne_of_none q n)]; exact c b u q m
theorem lc_vals {fj : List (Str × Nat)} {te : TE} {σ : St} {H : Hp} {Q : Addr → Hp → Prop} {n : Nat} (hn : n ≤ 1000) (G : Addr → Hp → Nat → V → Prop) (mono : ∀ {acc : Addr} {H H' : Hp} {i : Nat} {v : V}, (∀ b o, b ≠ acc → H b = some o → H' b = some o) → G acc H i v → G acc H' i v)
  (hs : ∀ (acc : Addr) (i : Nat) (H' : Hp) (Qf : VK), i < n → H acc = none → Same H H' → H' acc ≠ none → (∀ v H3, Same H' H3 → G acc H3 i v → Qf v H3) → te (some (.int (0 + (i : Int))) :: frees σ fj) H' Qf)
  (hd : ∀ acc vs H', H acc = none → Same H H' → H' acc = some (.lst vs) → vs.length = n → (∀ i v, vs[i]? = some v → G acc H' i v) → Q acc H') :
  ∀ acc, H acc = none → ∃ W : Nat → Nat → List V → Hp → Prop, (∃ m, W 0 m [] (upd H acc (.lst []))) ∧ ∀ i m ys H, W i m ys H →
   ((Itr 0 n).stop i H ∧ Q acc H) ∨ ((Itr 0 n).go i H ∧ ∀ x H', (Itr 0 n).yld i H x H' → tYes (some x :: frees σ fj) H' fun b H2 =>
    if b = true then te (some x :: frees σ fj) H2 fun v H3 => H3 acc = some (.lst ys) ∧ ys.length < sizeLine ∧ ∃ m', m' < m ∧ W (i + 1) m' (ys ++ [v]) (upd H3 acc (.lst (ys ++ [v])))
    else ∃ m', m' < m ∧ W (i + 1) m' ys H2) := by
 refine lc_range hn (fun acc i ys H' => ys.length = i ∧ H' acc = some (.lst ys) ∧ H acc = none ∧ Same H H' ∧ ∀ j v, ys[j]? = some v → G acc H' j v) ?_ ?_ ?_ ?_
 ·exact fun acc h => ⟨rfl, upd_same, h, same_new h _, fun j v z => by simp at z⟩
 ·rintro acc i ys H' hi ⟨h0, h1, h2, h3, _⟩
  exact h0
 ·rintro acc i ys H' Qf hi ⟨h0, h1, h2, h3, h4⟩ k
  refine hs acc i H' Qf hi h2 h3 (by rw [h1]; simp) fun v H3 s3 g => k v H3 (s3 _ _ h1) ⟨by simp [h0], upd_same, h2, same_upd h2 (h3.trans s3) _, fun j u hj => ?_⟩
  have up : ∀ b o, b ≠ acc → H3 b = some o → upd H3 acc (.lst (ys ++ [v])) b = some o := fun b o hb q => by rw [upd_ne hb]; exact q
  by_cases hji : j < ys.length
  ·rw [List.getElem?_append_left hji] at hj
   exact mono up (mono (fun b o _ q => s3 b o q) (h4 j u hj))
  ·rw [List.getElem?_append_right (by omega)] at hj
   have e : j = i := by
    rcases Nat.lt_or_ge (j - ys.length) 1 with z | z
    ·omega
    ·rw [List.getElem?_eq_none (by simpa using z)] at hj; cases hj
   subst e
   rw [show j - ys.length = 0 by omega] at hj
   cases hj
   exact mono up g
 ·rintro acc ys H' h ⟨h0, h1, h2, h3, h4⟩
  exact hd acc ys H' h2 h3 h1 h0 h4
theorem lc_valsL {fj : List (Str × Nat)} {te : TE} {σ : St} {H : Hp} {Q : Addr → Hp → Prop} {a : Addr} {xs : List V} (hn : xs.length ≤ 1000) (ha : H a = some (.lst xs)) (G : Addr → Hp → Nat → V → Prop) (mono : ∀ {acc : Addr} {H H' : Hp} {i : Nat} {v : V}, (∀ b o, b ≠ acc → H b = some o → H' b = some o) → G acc H i v → G acc H' i v)
  (hs : ∀ (acc : Addr) (i : Nat) (x : V) (H' : Hp) (Qf : VK), xs[i]? = some x → H acc = none → Same H H' → H' acc ≠ none → (∀ v H3, Same H' H3 → G acc H3 i v → Qf v H3) → te (some x :: frees σ fj) H' Qf)
  (hd : ∀ acc vs H', H acc = none → Same H H' → H' acc = some (.lst vs) → vs.length = xs.length → (∀ i v, vs[i]? = some v → G acc H' i v) → Q acc H') :
  ∀ acc, H acc = none → ∃ W : Nat → Nat → List V → Hp → Prop, (∃ m, W 0 m [] (upd H acc (.lst []))) ∧ ∀ i m ys H, W i m ys H →
   ((Itl K a).stop i H ∧ Q acc H) ∨ ((Itl K a).go i H ∧ ∀ x H', (Itl K a).yld i H x H' → tYes (some x :: frees σ fj) H' fun b H2 =>
    if b = true then te (some x :: frees σ fj) H2 fun v H3 => H3 acc = some (.lst ys) ∧ ys.length < sizeLine ∧ ∃ m', m' < m ∧ W (i + 1) m' (ys ++ [v]) (upd H3 acc (.lst (ys ++ [v])))
    else ∃ m', m' < m ∧ W (i + 1) m' ys H2) := by
 refine lc_list (xs := xs) hn (fun acc i ys H' => ys.length = i ∧ H' acc = some (.lst ys) ∧ H acc = none ∧ Same H H' ∧ ∀ j v, ys[j]? = some v → G acc H' j v) ?_ ?_ ?_ ?_
 ·exact fun acc h => ⟨rfl, upd_same, h, same_new h _, fun j v z => by simp at z⟩
 ·rintro acc i ys H' hi ⟨h0, h1, h2, h3, _⟩
  exact ⟨h0, SqL.of (h3 _ _ ha)⟩
 ·rintro acc i x ys H' Qf hx ⟨h0, h1, h2, h3, h4⟩ k
  refine hs acc i x H' Qf hx h2 h3 (by rw [h1]; simp) fun v H3 s3 g => k v H3 (s3 _ _ h1) ⟨by simp [h0], upd_same, h2, same_upd h2 (h3.trans s3) _, fun j u hj => ?_⟩
  have up : ∀ b o, b ≠ acc → H3 b = some o → upd H3 acc (.lst (ys ++ [v])) b = some o := fun b o hb q => by rw [upd_ne hb]; exact q
  by_cases hji : j < ys.length
  ·rw [List.getElem?_append_left hji] at hj
   exact mono up (mono (fun b o _ q => s3 b o q) (h4 j u hj))
  ·rw [List.getElem?_append_right (by omega)] at hj
   have e : j = i := by
    rcases Nat.lt_or_ge (j - ys.length) 1 with z | z
    ·omega
    ·rw [List.getElem?_eq_none (by simpa using z)] at hj; cases hj
   subst e
   rw [show j - ys.length = 0 by omega] at hj
   cases hj
   exact mono up g
 ·rintro acc ys H' h ⟨h0, h1, h2, h3, h4⟩
  exact hd acc ys H' h2 h3 h1 h0 h4
theorem lc_test {K : PySem.W.Frag} {σ : St} {H : Hp} {a : Addr} {xs : List V} {Q : Addr → Hp → Prop} {sp : Sp} {g : V → Bool} (hsp : ∀ x (H' : Hp) (Qf : VK), Kd K H' x → Qf (.bl (g x)) H' → sp [x] H' Qf E0) (ha : H a = some (.lst xs)) (hz : xs.length ≤ 1000) (hk : ∀ x ∈ xs, Kd K H x)
  (hq : ∀ acc H', H acc = none → Same H H' → H' acc = some (.lst ((xs.map g).map V.bl)) → Q acc H') :
  ∀ acc, H acc = none → ∃ W : Nat → Nat → List V → Hp → Prop, (∃ m, W 0 m [] (upd H acc (.lst []))) ∧ ∀ i m ys H, W i m ys H →
   ((Itl K a).stop i H ∧ Q acc H) ∨ ((Itl K a).go i H ∧ ∀ x H', (Itl K a).yld i H x H' → tYes (some x :: frees σ []) H' fun b H2 =>
    if b = true then tCall sp [] E0 (tCons (tVar 0) tNil) (some x :: frees σ []) H2 fun v H3 => H3 acc = some (.lst ys) ∧ ys.length < sizeLine ∧ ∃ m', m' < m ∧ W (i + 1) m' (ys ++ [v]) (upd H3 acc (.lst (ys ++ [v])))
    else ∃ m', m' < m ∧ W (i + 1) m' ys H2) := by
 refine lc_list (xs := xs) hz (fun acc i ys H' => ys = ((xs.take i).map g).map V.bl ∧ H' acc = some (.lst ys) ∧ H acc = none ∧ Same H H') ?_ ?_ ?_ ?_
 ·exact fun acc h => ⟨rfl, upd_same, h, same_new h _⟩
 ·rintro acc i ys H' hi ⟨rfl, h1, h2, h3⟩
  refine ⟨?_, SqL.of (h3 _ _ ha)⟩
  rw [List.length_map, List.length_map, List.length_take]
  omega
 ·rintro acc i x ys H' Qf hx ⟨rfl, h1, h2, h3⟩ k
  refine ⟨x, rfl, hsp x H' _ ((hk x (List.mem_of_getElem? hx)).same h3) (k _ _ h1 ⟨?_, upd_same, h2, same_upd h2 h3 _⟩)⟩
  rw [List.take_add_one, hx]
  simp
 ·rintro acc ys H' h ⟨rfl, h1, h2, h3⟩
  rw [List.take_length] at h1
  exact hq acc H' h2 h3 h1
def RowsAt (H : Hp) (rs : List Addr) (R : List (List Int)) : Prop := rs.length = R.length ∧ ∀ (i : Nat) (r : Addr) (row : List Int), rs[i]? = some r → R[i]? = some row → H r = some (.lst (row.map V.int))
def GoodRow (row : List Int) : Prop := row.length = 16 ∧ ∀ x ∈ row, 0 ≤ x ∧ x ≤ 999999999
def lv : Option Int → V
 | none => .non
 | some k => .int k
structure DiskAt (C : Addr) (H : Hp) (d kr : Addr) (R : List (List Int)) (n : Int) (l : Option Int) : Prop where
 ex : ∃ dx rs, H d = some (.ins C dx [("kept_rows", .ref kr), ("writes_done", .int n), ("writes_left", lv l)]) ∧ H kr = some (.lst (rs.map V.ref)) ∧ RowsAt H rs R
 lo : 24 ≤ R.length
 hi : R.length ≤ 96
 good : ∀ row ∈ R, GoodRow row
theorem RowsAt.chg {rs : List Addr} {R : List (List Int)} {S : List Addr} (h : RowsAt H rs R) (c : Chg S H H') (n : ∀ r ∈ rs, r ∉ S) : RowsAt H' rs R :=
 ⟨h.1, fun i r row h1 h2 => c r _ (h.2 i r row h1 h2) (n r (List.mem_of_getElem? h1))⟩
theorem RowsAt.set {rs : List Addr} {R : List (List Int)} (h : RowsAt H rs R) (i : Nat) {p : Addr} {row : List Int} (hp : H p = some (.lst (row.map V.int))) : RowsAt H (rs.set i p) (R.set i row) := by
 refine ⟨by simp [h.1], fun j r q h1 h2 => ?_⟩
 rw [List.getElem?_set] at h1 h2
 by_cases e : i = j
 ·subst e
  rw [if_pos rfl] at h1 h2
  split at h1
  ·split at h2
   ·cases h1; cases h2; exact hp
   ·cases h2
  ·cases h1
 ·rw [if_neg e] at h1 h2
  exact h.2 j r q h1 h2
theorem RowsAt.get {rs : List Addr} {R : List (List Int)} (h : RowsAt H rs R) {i : Nat} (hi : i < R.length) : ∃ r, rs[i]? = some r ∧ H r = some (.lst ((R[i]).map V.int)) := by
 have hi' : i < rs.length := by rw [h.1]; exact hi
 exact ⟨rs[i], List.getElem?_eq_getElem hi', h.2 i _ _ (List.getElem?_eq_getElem hi') (List.getElem?_eq_getElem hi)⟩
theorem RowsAt.all {rs : List Addr} {R : List (List Int)} (h : RowsAt H rs R) {r : Addr} (hr : r ∈ rs) : ∃ row ∈ R, H r = some (.lst (row.map V.int)) := by
 obtain ⟨i, hi, e⟩ := List.mem_iff_getElem.mp hr
 have hi' : i < R.length := by rw [← h.1]; exact hi
 exact ⟨R[i], List.getElem_mem hi', h.2 i r _ (by rw [← e]; exact List.getElem?_eq_getElem hi) (List.getElem?_eq_getElem hi')⟩
theorem ref_ne_row {rs : List Addr} {row : List Int} (h : row.length = 16) : (HO.lst (rs.map V.ref)) ≠ HO.lst (row.map V.int) := by
 intro z
 cases rs with
 | nil => cases row with
  | nil => cases h
  | cons => cases z
 | cons => cases row with
  | nil => cases h
  | cons => cases z
variable {C d kr : Addr} {R : List (List Int)} {n : Int} {l : Option Int}
theorem DiskAt.chg {S : List Addr} (h : DiskAt C H d kr R n l) (c : Chg S H H') (hd : d ∉ S) (hk : kr ∉ S) (hr : ∀ r row, H r = some (.lst (row.map V.int)) → GoodRow row → r ∉ S) : DiskAt C H' d kr R n l := by
 obtain ⟨dx, rs, h1, h2, h3⟩ := h.ex
 refine ⟨⟨dx, rs, c _ _ h1 hd, c _ _ h2 hk, h3.chg c fun r hm => ?_⟩, h.lo, h.hi, h.good⟩
 obtain ⟨row, hrow, e⟩ := h3.all hm
 exact hr r row e (h.good row hrow)
theorem DiskAt.same (h : DiskAt C H d kr R n l) (s : Same H H') : DiskAt C H' d kr R n l := h.chg (S := []) (Chg.of s) (by simp) (by simp) (by simp)
theorem DiskAt.put {n' : Int} {l' : Option Int} (D : DiskAt C H d kr R n l) {dx : Addr} {fs : List (Str × V)} (h1 : H d = some (.ins C dx fs)) : DiskAt C (L2.upd H d (.ins C dx [("kept_rows", .ref kr), ("writes_done", .int n'), ("writes_left", lv l')])) d kr R n' l' := by
 obtain ⟨dx', rs, h1', h2, h3⟩ := D.ex
 refine ⟨⟨dx, rs, upd_same, ?_, h3.1, fun i r row e1 e2 => ?_⟩, D.lo, D.hi, D.good⟩
 ·rw [upd_ne (ne_of h2 h1 (fun z => by cases z))]; exact h2
 ·have hr := h3.2 i r row e1 e2
  rw [upd_ne (ne_of hr h1 (fun z => by cases z))]; exact hr
theorem DiskAt.at {C d kr : Addr} (h : DiskAt C H d kr R n l) : ∃ dx, H d = some (.ins C dx [("kept_rows", .ref kr), ("writes_done", .int n), ("writes_left", lv l)]) := let ⟨dx, _, e, _⟩ := h.ex; ⟨dx, e⟩
end
section
variable {X : Cx} {K : PySem.W.Frag}
def rListK (K : PySem.W.Frag) : List V → Hp → VK → Prop := fun xs H Q => ∃ p ys, xs = [.ref p] ∧ (SqL K H p ys ∨ SqT K H p ys) ∧ ∀ l, H l = none → Q (.ref l) (upd H l (.lst ys))
theorem call_listK (h : X.K = K) : CallR X (.type "list") (rListK K) := by subst h; exact call_list_of
theorem ix_listK (h : X.K = K) : IxR X (rIxL K) := by subst h; exact ix_list
theorem sl_listK (h : X.K = K) : SlR X (rSlL K) := by subst h; exact sl_list
theorem call_isinstK {T : String} (h : X.K = K) : CallR X (.builtin "isinstance") (rIsin K T) := by subst h; exact call_isinst
end
section
variable {X : Cx}
def rIndex : V → List V → Hp → VK → Prop := fun x vs H Q => ∃ (l : Addr) (xs : List V) (y : V) (j : Nat), x = .ref l ∧ vs = [y] ∧ H l = some (.lst xs) ∧ flatV y = true ∧ xs.all flatV = true ∧ (∃ z, xs[j]? = some z ∧ eqV z y = true) ∧ (∀ (m : Nat) z, m < j → xs[m]? = some z → eqV z y = false) ∧ Q (.int j) H
theorem mt_index : MtR X "list.index" rIndex := by
 intro pins s σ H x vs v us Q I rx rv h
 obtain ⟨l, xs, y, j, rfl, rfl, hH, fy, fs, ⟨z, hz, ez⟩, hno, q⟩ := h
 cases rx
 obtain ⟨u, rfl, ry⟩ := rv.one
 obtain ⟨zl, its, n, r, hl, e⟩ := I.lstM hH
 have get : ∀ (m : Nat) (hm : m < its.toArray.size), ∃ z', xs[m]? = some z' ∧ eqU y its.toArray[m] = eqV z' y := fun m hm => by
  have hm' : m < its.length := by simpa using hm
  have hx : m < xs.length := by rw [r.length]; exact hm'
  obtain ⟨u', hu, rz⟩ := r.get (List.getElem?_eq_getElem hx)
  have fz : flatV xs[m] = true := List.all_eq_true.mp fs _ (List.getElem_mem hx)
  refine ⟨_, List.getElem?_eq_getElem hx, ?_⟩
  have e1 : its.toArray[m] = u' := by
   have : its[m]? = some its[m] := List.getElem?_eq_getElem hm'
   rw [this] at hu
   simpa using Option.some.inj hu
  rw [e1]
  exact eqU_of rz fz
 have hj : j < its.toArray.size := by have := (List.getElem?_eq_some_iff.mp hz).1; rw [r.length] at this; simpa using this
 refine call_meets PySem.F.slot_list_index ⟨_, e, rfl⟩ PySem.F.entry_list_index (PySem.F.args_list_index_2 _ _) (SeqAt.list_indexAt l its.toArray n none #[] u (eqU y) j hj ?_ ?_ ?_)
  ⟨e, fun w hw => mem_eqAt ry fy r fs w (by simpa using hw), ⟨.int j, H, I.tok _, ⟨_, rfl⟩, q⟩⟩
 ·have : j < xs.length := (List.getElem?_eq_some_iff.mp hz).1
  have h2 : sizeLine ≤ 2 ^ 62 := by decide
  omega
 ·obtain ⟨z', h1, h2⟩ := get j hj
  rw [hz] at h1; cases h1
  rw [h2]; exact ez
 ·intro m hm hlt
  obtain ⟨z', h1, h2⟩ := get m hm
  rw [h2]; exact hno m z' hlt h1
end
section
variable {X : Cx} {K : PySem.W.Frag}
def rIsinC (K : PySem.W.Frag) (C : Addr) : List V → Hp → VK → Prop := fun xs H Q => ∃ x t b, xs = [x, .ref C] ∧ TyOf K H x t ∧ PySem.W.kitOne K t (.ref C) = some b ∧ Q (.bl b) H
theorem call_isinstCK {C : Addr} (h : X.K = K) : CallR X (.builtin "isinstance") (rIsinC K C) := by subst h; exact call_isinstC
theorem pe_fldK {e : Expr} {f : Str} {pos : Pos} {ta : TE} (h : X.K = K) (he : PE X e ta) (hb : attributeBase e f X.env (eval e X.env) = eval e X.env) : PE X (.Attribute e f pos) (tFld K ta f) := by subst h; exact pe_fld he hb
variable {o e : Expr} {es : List Expr} {to : TE} {t : TA} {name : Str} {apos cpos : Pos} {T id : String} {r : V → List V → Hp → VK → Prop}
theorem pe_bmK (h : X.K = K) (pa : PySem.PlainAttrs T) (slot : PySem.Slot T name id) (hty : typeOf (.builtin id) = pure (.type "method_descriptor")) (hm : MtR X id r) (ho : PE X o to) (ha : PA X (e :: es) t)
  (hbase : attributeBase o name X.env (eval o X.env) = eval o X.env := by rfl)
  (hfew : ((backTo cpos (starEach (e :: es) X.env)).all (fun x => !x.1) && (backToKw cpos (keywordEach [] X.env)).all (fun x => x.1.isSome)
   && decide ((e :: es).length + ([] : List Keyword).length + (if ([] : List Keyword).isEmpty then 0 else 1) < 30)) = true := by rfl)
  (hline : (apos.endLine == cpos.line) = true := by rfl) (hs : starEach (e :: es) X.env = (false, eval e X.env) :: starEach es X.env := by rfl) (hplain : (backTo cpos (starEach es X.env)).any (·.1) = false := by rfl) :
  PE X (.Call (.Attribute o name apos) (e :: es) [] cpos) (tBM K T r to t) := by subst h; exact pe_bm pa slot hty hm ho ha hbase hfew hline hs hplain
end
section
variable {σ : St} {H : Hp} {Q : Bool → Hp → Prop} {i : Nat} {c : Int}
theorem t_modeq {n b : Int} (hσ : σ[i]? = some (some (.int c))) (hn : 0 < n) (h : Q (decide (c % n = b)) H) : tTest (tOp rEq (tOp (rI (fun _ j => 0 < j) fun i j => .int (i % j)) (tVar i) (tC (.int n))) (tC (.int b))) σ H Q :=
 ⟨_, hσ, _, _, rfl, rfl, hn, rfl, _, rfl, by rw [dec_V]; exact h⟩
end
theorem whole_get {v : V} {m : Nat} (h : wholeV v 0 ((m : Int) - 1) = true) : ∃ b : Nat, v = .int b ∧ b < m := by
 cases v with
 | int i =>
  have h' : (decide ((0 : Int) ≤ i) && decide (i ≤ (m : Int) - 1)) = true := h
  rw [Bool.and_eq_true, decide_eq_true_eq, decide_eq_true_eq] at h'
  exact ⟨i.toNat, by rw [show ((i.toNat : Nat) : Int) = i by omega], by omega⟩
 | _ => cases h
section
variable {C d kr p : Addr} {H H' : Hp} {R : List (List Int)} {n : Int} {l : Option Int}
def NoRowAt (H : Hp) (kr p : Addr) : Prop := ∀ rs : List Addr, H kr = some (.lst (rs.map V.ref)) → p ∉ rs
theorem refs_inj : ∀ {xs ys : List Addr}, xs.map V.ref = ys.map V.ref → xs = ys
 | [], [], _ => rfl
 | [], _ :: _, h => by cases h
 | _ :: _, [], h => by cases h
 | x :: xs, y :: ys, h => by
  rw [List.map_cons, List.map_cons] at h
  injection h with h1 h2
  injection h1 with h1
  rw [h1, refs_inj h2]
theorem DiskAt.noRow (D : DiskAt C H d kr R n l) (hp : H p = none) : NoRowAt H kr p := fun rs hrs hm => by
 obtain ⟨dx, rs', _, h2, h3⟩ := D.ex
 rw [h2] at hrs
 have e : rs' = rs := refs_inj (by injection hrs with z; injection z)
 subst e
 obtain ⟨row, _, e⟩ := h3.all hm
 rw [hp] at e; cases e
theorem NoRowAt.chg {S : List Addr} (h : NoRowAt H kr p) (D : DiskAt C H d kr R n l) (c : Chg S H H') (hk : kr ∉ S) : NoRowAt H' kr p := fun rs hrs => by
 obtain ⟨dx, rs', _, h2, _⟩ := D.ex
 have := c _ _ h2 hk
 rw [this] at hrs
 have e : rs' = rs := refs_inj (by injection hrs with z; injection z)
 subst e
 exact h rs' h2
theorem DiskAt.off (D : DiskAt C H d kr R n l) (np : NoRowAt H kr p) (h1 : p ≠ d) (h2 : p ≠ kr) (o : HO) : DiskAt C (L2.upd H p o) d kr R n l := by
 obtain ⟨dx, rs, g1, g2, g3⟩ := D.ex
 refine ⟨⟨dx, rs, by rw [upd_ne (Ne.symm h1)]; exact g1, by rw [upd_ne (Ne.symm h2)]; exact g2, g3.1, fun i r row e1 e2 => ?_⟩, D.lo, D.hi, D.good⟩
 rw [upd_ne (fun z => np rs g2 (by rw [← z]; exact List.mem_of_getElem? e1))]
 exact g3.2 i r row e1 e2
end
end BK
end
section
set_option Elab.async false
set_option linter.all false
set_option maxRecDepth 100000
set_option maxHeartbeats 4000000
namespace BK
open PySem L2
theorem eqvAll_ints : ∀ ns ms : List Int, PyData.eqvAll (ns.map PyData.int) (ms.map PyData.int) = decide (ns = ms)
 | [], [] => by simp [PyData.eqvAll]
 | [], _ :: _ => by simp [PyData.eqvAll]
 | _ :: _, [] => by simp [PyData.eqvAll]
 | a :: r, b :: t => by
  have e : PyData.eqv (.int a) (.int b) = decide (a = b) := by rw [Bool.eq_iff_iff]; simp [PyData.eqv]
  simp only [List.map_cons, PyData.eqvAll, e, eqvAll_ints r t]
  by_cases h : a = b <;> by_cases h' : r = t <;> simp [h, h']
theorem eqv_ints (ns ms : List Int) : PyData.eqv (.list (ns.map PyData.int)) (.list (ms.map PyData.int)) = decide (ns = ms) := by
 rw [PyData.eqv]; exact eqvAll_ints ns ms
end BK
end
section
set_option Elab.async false
set_option linter.all false
set_option maxRecDepth 100000
namespace L2
open PySem PySem.Spec PySem.Calls PyProof.Rows PySem.W
section
variable {prog : Program} {w : World} {A : Around} {E : Value → Shared → Prop} {s : Shared} {T : String} {r d : Addr} {n : Nat} {P : Nat → Value → Prop} {OK : Heap → Prop}
end
theorem ints_vals {ns : List Int} : ∀ {us : List Value}, IntsAre us ns → Vals (ns.map V.int) us := by
 intro us h
 induction h with
 | nil => exact .nil
 | cons => exact .cons ⟨_, rfl⟩ (by assumption)
theorem ints_len {ns : List Int} {us : List Value} (h : IntsAre us ns) : ns.length = us.length := by
 have := (ints_vals h).length
 simpa using this
theorem ints_items {P : Program} {w : World} : ∀ {ks : List Int} {kvs : List (Key × Value)} (vs : List Value), kvs.map (·.1) = ks.map Sum.inl → vs.length = kvs.length →
  (∀ (j : Nat) (v : Value), vs[j]? = some v → ∃ (k : Key) (x : Value), kvs[j]? = some (k, x) ∧ (mixKind P w).is k v = true) → IntsAre vs ks
 | [], [], [], _, _, _ => .nil
 | k :: ks, q :: r, v :: vs, e, hl, hv => by
  simp only [List.map_cons, List.cons.injEq] at e
  obtain ⟨k', x, hk, hi⟩ := hv 0 v rfl
  simp only [List.getElem?_cons_zero, Option.some.injEq] at hk
  subst hk
  obtain ⟨e1, e2⟩ := e
  have e1 : k' = Sum.inl k := e1
  subst e1
  rcases keyIs_shape (show keyIs (Sum.inl k) v = true from hi) with ⟨i, t, ei, ev⟩ | ⟨y, t, ei, ev⟩
  ·cases ei
   subst ev
   exact .cons _ _ (ints_items vs e2 (by simpa using hl) fun j u hu => by simpa using hv (j + 1) u (by simpa using hu))
  ·cases ei
 | [], _ :: _, _, e, _, _ => by simp at e
 | _ :: _, [], _, e, _, _ => by simp at e
 | _, [], _ :: _, _, hl, _ => by simp at hl
 | _, _ :: _, [], _, hl, _ => by simp at hl
section
variable {X : Cx}
def rSortedD (xs : List V) (H : Hp) (Q : VK) : Prop := ∃ (a : Addr) (kvs : List (Key × V)) (ks : List Int), xs = [.ref a] ∧ H a = some (.dK kvs) ∧ kvs.map (·.1) = ks.map (Sum.inl : Int → Key) ∧ kvs.length < 64 ∧
 ∀ l (ns : List Int), H l = none → ns.Perm ks → ns.Pairwise (· ≤ ·) → Q (.ref l) (upd H l (.lst (ns.map V.int)))
def rListD (xs : List V) (H : Hp) (Q : VK) : Prop := ∃ (a : Addr) (kvs : List (Key × V)) (ks : List Int), xs = [.ref a] ∧ H a = some (.dK kvs) ∧ kvs.map (·.1) = ks.map (Sum.inl : Int → Key) ∧
 ∀ l, H l = none → Q (.ref l) (upd H l (.lst (ks.map V.int)))
theorem call_listD (hc : X.A.handled = none) : CallR X (.type "list") rListD := by
 intro pins s σ H xs us Q I r h
 obtain ⟨a, kvs, ks, rfl, e, hk, q⟩ := h
 obtain ⟨u, rfl, rx⟩ := vals1 r
 cases rx
 obtain ⟨z, hd, vs, rel, dd⟩ := dk_of I.hok e
 obtain ⟨ep, hat⟩ := dd.dictAt
 have hks := rel.keys
 have hlen := rel.length
 refine kdl_call (kdl_dict (knd := mixKind X.prog X.w) (kvs := vs) (ep := ep) hd) hc hat (by omega) fun h' tk acc c' kp he hacc => ?_
 have hi : IntsAre acc.toList ks := by
  refine ints_items (P := X.prog) (w := X.w) (kvs := vs) acc.toList (hks.symm.trans hk) (by rw [Array.length_toList]; exact hacc.1) fun j v hv => ?_
  exact hacc.2 j v (by rw [← Array.getElem?_toList]; exact hv)
 have hl : ks.length = kvs.length := by
  have h2 := congrArg List.length hk
  simp only [List.length_map] at h2
  omega
 exact ⟨.ref s.heap.objs.size, _, I.laid (t' := tk) kp (Nat.le_refl _) (show ObjOk X.prog X.w _ h' _ (.lst (ks.map V.int)) from ⟨by rw [List.length_map, hl]; exact z, acc.toList, c', ints_vals hi, by simpa using he⟩), rfl, q _ (I.hok.fresh (Nat.le_refl _))⟩
def rEqD0 : R2 := fun x y H Q => ∃ (a b : Addr) (kvs : List (Key × V)), x = .ref a ∧ y = .ref b ∧ H a = some (.dK kvs) ∧ H b = some (.dK []) ∧ Q (.bl kvs.isEmpty) H
theorem hits0 {prog : Program} {w : World} {A : Around} {s : Shared} {ka : List (Key × Value)} (h : ka.length = ([] : List (Key × Value)).length) : KeqHits A s ([] : List (Key × Value)) ka true := by
 cases ka with
 | nil => exact .nil
 | cons _ _ => simp at h
theorem op_eqD0 (hu : X.A.units < cLine) : OpR X (compareOp .Eq) rEqD0 := by
 intro pins s σ H x y v u Q I rx ry h
 obtain ⟨a, b, kvs, rfl, rfl, ea, eb, q⟩ := h
 cases rx
 cases ry
 obtain ⟨z, hd, vs, rel, dd⟩ := dk_of I.hok ea
 obtain ⟨z2, hd2, vs2, rel2, dd2⟩ := dk_of I.hok eb
 cases rel2
 refine keq_eq hd hd2 dd dd2 hu (fun h => hits0 (prog := X.prog) (w := X.w) h) ⟨.bl kvs.isEmpty, H, I, ?_, q⟩
 cases rel <;> rfl
end
end L2
end
section
set_option Elab.async false
set_option linter.all false
set_option maxRecDepth 100000
set_option maxHeartbeats 4000000
namespace BK
open PySem L2
structure DS where
 R : List (List Int)
 n : Int
 l : Option Int
def DS.stop (S : DS) : Bool := match S.l with
 | some k => decide (k < 1)
 | none => false
def DS.put (S : DS) (x : Nat × List Int) : DS := ⟨S.R.set x.1 x.2, S.n + 1, S.l.map (· - 1)⟩
def runW (S : DS) : List (Nat × List Int) → DS × Bool
 | [] => (S, false)
 | x :: r => if S.stop = true then (S, true) else runW (S.put x) r
theorem runW_app (S : DS) (xs ys : List (Nat × List Int)) : runW S (xs ++ ys) = if (runW S xs).2 = true then runW S xs else runW (runW S xs).1 ys := by
 induction xs generalizing S with
 | nil => rfl
 | cons x r ih =>
  show (if S.stop = true then (S, true) else runW (S.put x) (r ++ ys)) = _
  by_cases h : S.stop = true
  ·rw [if_pos h]
   have : runW S (x :: r) = (S, true) := if_pos h
   rw [this]; rfl
  ·rw [if_neg h, ih]
   have : runW S (x :: r) = runW (S.put x) r := if_neg h
   rw [this]
theorem runW_len (S : DS) (xs : List (Nat × List Int)) : (runW S xs).1.R.length = S.R.length := by
 induction xs generalizing S with
 | nil => rfl
 | cons x r ih =>
  show ((if S.stop = true then (S, true) else runW (S.put x) r).1).R.length = _
  split
  ·rfl
  ·rw [ih]; exact List.length_set
theorem stop_iff {S : DS} (h : S.stop = true) : ∃ k, S.l = some k ∧ k < 1 := by
 unfold DS.stop at h
 split at h
 ·rename_i k e; exact ⟨k, e, of_decide_eq_true h⟩
 ·cases h
theorem stop_not {S : DS} (h : ¬ S.stop = true) : ∀ k, S.l = some k → ¬ k < 1 := fun k e z => h (by unfold DS.stop; rw [e]; exact decide_eq_true z)
theorem runW_free {S : DS} (h : S.l = none) (xs : List (Nat × List Int)) : runW S xs = (⟨xs.foldl (fun R x => R.set x.1 x.2) S.R, S.n + xs.length, none⟩, false) := by
 induction xs generalizing S with
 | nil => obtain ⟨R, n, l⟩ := S; cases h; simp [runW]
 | cons x r ih =>
  have e : S.stop = false := by unfold DS.stop; rw [h]
  show (if S.stop = true then (S, true) else runW (S.put x) r) = _
  rw [e, if_neg (by decide), ih (by show S.l.map _ = none; rw [h]; rfl)]
  simp only [DS.put, List.foldl_cons, List.length_cons]
  congr 2
  omega
abbrev DkAt (C : Addr) (H : Hp) (d kr : Addr) (S : DS) : Prop := DiskAt C H d kr S.R S.n S.l
def PairsV (K : PySem.W.Frag) (RA : Hp → V → Bool → Prop) (H : Hp) (ps : Addr) (L : List (V × V × Bool)) : Prop := ∃ ts : List Addr, H ps = some (.lst (ts.map V.ref)) ∧ ts.length = L.length ∧ ∀ (i : Nat) (t : Addr) (x : V × V × Bool), ts[i]? = some t → L[i]? = some x → H t = some (.tup [x.1, x.2.1]) ∧ Kd K H x.1 ∧ RA H x.2.1 x.2.2
def PL (H : Hp) (ts rs : List Addr) (L : List (Nat × List Int)) : Prop := ts.length = L.length ∧ rs.length = L.length ∧ ∀ (i : Nat) (h1 : i < ts.length) (h2 : i < rs.length) (h3 : i < L.length), H ts[i] = some (.tup [.int L[i].1, .ref rs[i]]) ∧ H rs[i] = some (.lst (L[i].2.map V.int))
theorem PL.same {H H' : Hp} {ts rs : List Addr} {L : List (Nat × List Int)} (h : PL H ts rs L) (s : Same H H') : PL H' ts rs L := ⟨h.1, h.2.1, fun i a b c => ⟨s _ _ (h.2.2 i a b c).1, s _ _ (h.2.2 i a b c).2⟩⟩
def PairsTs (H : Hp) (ps : Addr) (ts rs : List Addr) (L : List (Nat × List Int)) : Prop := H ps = some (.lst (ts.map V.ref)) ∧ PL H ts rs L
def PairsAt (H : Hp) (ps : Addr) (L : List (Nat × List Int)) : Prop := ∃ ts rs, PairsTs H ps ts rs L
theorem PairsTs.same {H H' : Hp} {ps : Addr} {ts rs : List Addr} {L : List (Nat × List Int)} (h : PairsTs H ps ts rs L) (s : Same H H') : PairsTs H' ps ts rs L :=
 ⟨s _ _ h.1, h.2.same s⟩
theorem PairsAt.same {H H' : Hp} {ps : Addr} {L : List (Nat × List Int)} (h : PairsAt H ps L) (s : Same H H') : PairsAt H' ps L := let ⟨ts, rs, z⟩ := h; ⟨ts, rs, z.same s⟩
theorem pairs_ne {C d kr : Addr} {H : Hp} {S : DS} (D : DkAt C H d kr S) {ps : Addr} {ts : List Addr} (h1 : H ps = some (.lst (ts.map V.ref))) (h2 : ∀ t ∈ ts, ∃ xs, H t = some (.tup xs)) : ps ≠ kr := by
 obtain ⟨dx, rs, _, g2, g3⟩ := D.ex
 intro z
 subst z
 rw [h1] at g2
 have e : ts = rs := refs_inj (by injection g2 with z; injection z)
 subst e
 have hlo := D.lo
 have hp : 0 < ts.length := by rw [g3.1]; omega
 obtain ⟨xs, q⟩ := h2 ts[0] (List.getElem_mem hp)
 obtain ⟨row, _, q2⟩ := g3.all (List.getElem_mem hp)
 rw [q] at q2; cases q2
theorem PairsTs.chg {C d kr : Addr} {H H' : Hp} {S : DS} {ps : Addr} {ts rs : List Addr} {L : List (Nat × List Int)} (h : PairsTs H ps ts rs L) (D : DkAt C H d kr S) (g : ∀ x ∈ L, GoodRow x.2) (c : Chg [d, kr] H H') : PairsTs H' ps ts rs L := by
 obtain ⟨h1, h2, h2', h3⟩ := h
 obtain ⟨dx, rs', g1, g2, _⟩ := D.ex
 have nk : ps ≠ kr := pairs_ne D h1 fun t ht => by
  obtain ⟨i, hi, e⟩ := List.mem_iff_getElem.mp ht
  exact ⟨_, by rw [← e]; exact (h3 i hi (by omega) (by omega)).1⟩
 refine ⟨c _ _ h1 ?_, h2, h2', fun i a1 a2 a3 => ?_⟩
 ·simp only [List.mem_cons, List.not_mem_nil, or_false, not_or]
  exact ⟨ne_of h1 g1 (fun z => by cases z), nk⟩
 ·obtain ⟨a, b⟩ := h3 i a1 a2 a3
  refine ⟨c _ _ a ?_, c _ _ b ?_⟩ <;> simp only [List.mem_cons, List.not_mem_nil, or_false, not_or]
  ·exact ⟨ne_of a g1 (fun z => by cases z), ne_of a g2 (fun z => by cases z)⟩
  ·exact ⟨ne_of b g1 (fun z => by cases z), ne_of b g2 (fun z => ref_ne_row (g _ (List.getElem_mem a3)).1 z.symm)⟩
def Rises (m : Int) : Option Int → List (Nat × List Int) → Prop
 | _, [] => True
 | h, x :: r => 17 ≤ x.1 ∧ (x.1 : Int) ≤ m - 1 ∧ (∀ j, h = some j → j < (x.1 : Int)) ∧ Rises m (some (x.1 : Int)) r
theorem Rises.all {m : Int} {h : Option Int} {L : List (Nat × List Int)} (r : Rises m h L) : ∀ x ∈ L, 17 ≤ x.1 ∧ (x.1 : Int) ≤ m - 1 := by
 induction L generalizing h with
 | nil => intro x hx; cases hx
 | cons y L ih =>
  obtain ⟨r1, r2, _, r4⟩ := r
  intro x hx
  rcases List.mem_cons.mp hx with e | hx
  ·subst e; exact ⟨r1, r2⟩
  ·exact ih r4 x hx
theorem valV_keys {kvs : List (Key × V)} {k : Key} (h : k ∈ kvs.map (·.1)) : ∃ v, valV kvs k = some v := by
 cases e : valV kvs k with
 | none => exact absurd h (valV_not e)
 | some v => exact ⟨v, rfl⟩
structure Homes (H : Hp) (a : Addr) (m : Int) (ks : List Int) (ρ : Int → List Int) : Prop where
 ex : ∃ kvs, H a = some (.dK kvs) ∧ kvs.map (·.1) = ks.map (Sum.inl : Int → Key) ∧ ∀ k ∈ ks, ∃ r, valV kvs (.inl k) = some (.ref r) ∧ H r = some (.lst ((ρ k).map V.int))
 nd : ks.Nodup
 inn : ∀ k ∈ ks, 17 ≤ k ∧ k ≤ m - 1
 good : ∀ k ∈ ks, GoodRow (ρ k)
theorem Homes.same {H H' : Hp} {a : Addr} {m : Int} {ks : List Int} {ρ : Int → List Int} (h : Homes H a m ks ρ) (s : Same H H') : Homes H' a m ks ρ := by
 obtain ⟨⟨kvs, h1, h2, h3⟩, h4, h5, h6⟩ := h
 refine ⟨⟨kvs, s _ _ h1, h2, fun k hk => ?_⟩, h4, h5, h6⟩
 obtain ⟨r, a, b⟩ := h3 k hk
 exact ⟨r, a, s _ _ b⟩
theorem choose2 {P : Nat → Addr → Addr → Prop} : ∀ (n : Nat), (∀ i, i < n → ∃ t r, P i t r) → ∃ ts rs : List Addr, ts.length = n ∧ rs.length = n ∧ ∀ (i : Nat) (h1 : i < ts.length) (h2 : i < rs.length), P i ts[i] rs[i]
 | 0, _ => ⟨[], [], rfl, rfl, fun i h _ => absurd h (Nat.not_lt_zero _)⟩
 | n + 1, h => by
  obtain ⟨ts, rs, h1, h2, h3⟩ := choose2 n fun i hi => h i (by omega)
  obtain ⟨t, r, hp⟩ := h n (by omega)
  refine ⟨ts ++ [t], rs ++ [r], by simp [h1], by simp [h2], fun i a b => ?_⟩
  by_cases hi : i < n
  ·rw [List.getElem_append_left (by omega), List.getElem_append_left (by omega)]
   exact h3 i (by omega) (by omega)
  ·have e : i = n := by simp at a; omega
   subst e
   rw [List.getElem_append_right (by omega), List.getElem_append_right (by omega)]
   simpa [h1, h2] using hp
theorem rises_of {m : Int} {ρ : Int → List Int} : ∀ {ns : List Int} {h : Option Int}, ns.Pairwise (· < ·) → (∀ k ∈ ns, 17 ≤ k ∧ k ≤ m - 1) → (∀ j, h = some j → ∀ k ∈ ns, j < k) → Rises m h (ns.map fun k => (k.toNat, ρ k))
 | [], _, _, _, _ => trivial
 | k :: ns, h, hp, hi, hh => by
  obtain ⟨h1, h2⟩ := hi k (by simp)
  have hp' := List.pairwise_cons.mp hp
  refine ⟨by show 17 ≤ k.toNat; omega, by show (k.toNat : Int) ≤ m - 1; omega, fun j e => by show j < (k.toNat : Int); have := hh j e k (by simp); omega, rises_of hp'.2 (fun x hx => hi x (by simp [hx])) fun j e x hx => ?_⟩
  have e' : ((k.toNat : Nat) : Int) = j := Option.some.inj e
  have := hp'.1 x hx
  omega
theorem lt_of_le_nodup {ns : List Int} (h1 : ns.Pairwise (· ≤ ·)) (h2 : ns.Nodup) : ns.Pairwise (· < ·) := by
 refine (h1.and h2).imp fun ⟨a, b⟩ => ?_
 omega
theorem DiskAt.offs {C d kr : Addr} {H H' : Hp} {R : List (List Int)} {n : Int} {l : Option Int} {S : List Addr} (D : DiskAt C H d kr R n l) (c : Chg S H H') (hd : d ∉ S) (hk : kr ∉ S) (hr : ∀ u ∈ S, NoRowAt H kr u) : DiskAt C H' d kr R n l := by
 obtain ⟨dx, rs, g1, g2, g3⟩ := D.ex
 exact ⟨⟨dx, rs, c _ _ g1 hd, c _ _ g2 hk, g3.chg c fun r hm z => hr r z rs g2 hm⟩, D.lo, D.hi, D.good⟩
theorem dvs_rows {K : PySem.W.Frag} {H : Hp} : ∀ {R : List (List Int)} {qs : List Addr}, RowsAt H qs R → DVs K H (qs.map V.ref) (R.map fun row => PyData.list (row.map PyData.int))
 | [], [], _ => .nil
 | [], _ :: _, h => by cases h.1
 | _ :: _, [], h => by cases h.1
 | row :: R, r :: qs, h => by
  have h0 : H r = some (.lst (row.map V.int)) := h.2 0 r row rfl rfl
  refine .cons (.lst (SqL.of h0) (dvs_ints row)) (dvs_rows ⟨by have := h.1; simpa using this, fun i r' row' h1 h2 => h.2 (i + 1) r' row' (by simpa using h1) (by simpa using h2)⟩)
theorem shaped_rows (R : List (List Int)) : SeqAt.shaped (.list (R.map fun row => PyData.list (row.map PyData.int))) = true := by
 have h : PyData.canLayAll0 (R.map fun row => PyData.list (row.map PyData.int)) = true ∧ PyData.depthAll (R.map fun row => PyData.list (row.map PyData.int)) ≤ 1 := by
  induction R with
  | nil => exact ⟨rfl, Nat.zero_le _⟩
  | cons row R ih =>
   constructor
   ·simp [PyData.canLayAll0, PyData.canLay0, PySem.W.ke_canLayAll0] at ih ⊢
    exact ih.1
   ·have e := PySem.W.ke_depthAll row
    simp only [List.map_cons, PyData.depthAll, PyData.depth]
    rw [e]
    have := ih.2
    omega
 exact shaped_list h.1 h.2
theorem foldl_len (W : List (Nat × List Int)) : ∀ R : List (List Int), (W.foldl (fun R x => R.set x.1 x.2) R).length = R.length := by
 induction W with
 | nil => intro R; rfl
 | cons x W ih => intro R; rw [List.foldl_cons, ih, List.length_set]
end BK
end
section
set_option Elab.async false
set_option linter.all false
set_option maxRecDepth 100000
set_option maxHeartbeats 4000000
namespace BK
open PySem L2
def insK (ks : List Int) (k : Int) : List Int := if k ∈ ks then ks else ks ++ [k]
theorem insK_mem {ks : List Int} {k x : Int} : x ∈ insK ks k ↔ x ∈ ks ∨ x = k := by
 unfold insK
 split
 ·rename_i h; exact ⟨.inl, fun z => z.elim id fun e => by rw [e]; exact h⟩
 ·simp
theorem insK_nd {ks : List Int} {k : Int} (h : ks.Nodup) : (insK ks k).Nodup := by
 unfold insK
 split
 ·exact h
 ·rename_i hk
  rw [List.nodup_append]
  exact ⟨h, by simp, fun x hx y hy z => hk (by rw [List.mem_singleton.mp hy] at z; rw [← z]; exact hx)⟩
theorem insK_len {ks : List Int} {k : Int} : (insK ks k).length ≤ ks.length + 1 := by
 unfold insK; split <;> simp
theorem putK_ins {kvs : List (Key × V)} {ks : List Int} (h : kvs.map (·.1) = ks.map (Sum.inl : Int → Key)) (k : Int) (v : V) : (putK kvs (.inl k) v).map (·.1) = (insK ks k).map (Sum.inl : Int → Key) := by
 by_cases hk : k ∈ ks
 ·have hany : (kvs.any fun kv => decide (kv.1 = Sum.inl k)) = true := by
   have : (Sum.inl k : Key) ∈ kvs.map (·.1) := by rw [h]; exact List.mem_map.mpr ⟨k, hk, rfl⟩
   obtain ⟨kv, hkv, e⟩ := List.mem_map.mp this
   exact List.any_eq_true.mpr ⟨kv, hkv, decide_eq_true e⟩
  unfold putK insK
  rw [if_pos hany, if_pos hk, List.map_map, ← h]
  refine List.map_congr_left fun kv _ => ?_
  show (if kv.1 = Sum.inl k then (kv.1, v) else kv).1 = kv.1
  split <;> rfl
 ·have hany : ¬ (kvs.any fun kv => decide (kv.1 = Sum.inl k)) = true := fun z => hk (by
   obtain ⟨kv, hkv, e⟩ := List.any_eq_true.mp z
   have : kv.1 ∈ kvs.map (·.1) := List.mem_map.mpr ⟨kv, hkv, rfl⟩
   rw [of_decide_eq_true e, h] at this
   obtain ⟨j, hj, e⟩ := List.mem_map.mp this
   cases e; exact hj)
  unfold putK insK
  rw [if_neg hany, if_neg hk, List.map_append, h, List.map_append]; rfl
def OffD (H : Hp) (a p : Addr) : Prop := ∀ kvs : List (Key × V), H a = some (.dK kvs) → ∀ (k : Key) (r : Addr), valV kvs k = some (.ref r) → r ≠ p
section
variable {H H' : Hp} {a p : Addr} {m : Int} {ks : List Int} {ρ : Int → List Int}
theorem Homes.at (h : Homes H a m ks ρ) : ∃ kvs, H a = some (.dK kvs) := let ⟨kvs, e, _⟩ := h.ex; ⟨kvs, e⟩
theorem Homes.row (h : Homes H a m ks ρ) {kvs : List (Key × V)} (e : H a = some (.dK kvs)) {k : Key} {r : Addr} (hv : valV kvs k = some (.ref r)) : ∃ j ∈ ks, k = .inl j ∧ H r = some (.lst ((ρ j).map V.int)) := by
 obtain ⟨kvs', e1, e2, e3⟩ := h.ex
 rw [e] at e1
 cases e1
 have := valV_in hv
 rw [e2] at this
 obtain ⟨j, hj, rfl⟩ := List.mem_map.mp this
 obtain ⟨r', z1, z2⟩ := e3 j hj
 rw [hv] at z1
 cases z1
 exact ⟨j, hj, rfl, z2⟩
theorem Homes.offo (h : Homes H a m ks ρ) {o : HO} (hp : H p = some o) (no : ∀ row : List Int, row.length = 16 → o ≠ .lst (row.map V.int)) : OffD H a p := fun kvs e k r hv z => by
 obtain ⟨j, hj, _, q⟩ := h.row e hv
 rw [z, hp] at q
 exact no _ (h.good j hj).1 (Option.some.inj q)
theorem Homes.chg {S : List Addr} (h : Homes H a m ks ρ) (c : Chg S H H') (ha : a ∉ S) (hs : ∀ p ∈ S, OffD H a p) : Homes H' a m ks ρ := by
 obtain ⟨⟨kvs, h1, h2, h3⟩, h4, h5, h6⟩ := h
 refine ⟨⟨kvs, c _ _ h1 ha, h2, fun k hk => ?_⟩, h4, h5, h6⟩
 obtain ⟨r, q1, q2⟩ := h3 k hk
 exact ⟨r, q1, c _ _ q2 fun z => hs r z kvs h1 _ _ q1 rfl⟩
theorem OffD.chg {S : List Addr} (o : OffD H a p) (h : Homes H a m ks ρ) (c : Chg S H H') (ha : a ∉ S) : OffD H' a p := fun kvs e k r hv => by
 obtain ⟨kvs', e1⟩ := h.at
 have := c _ _ e1 ha
 rw [this] at e
 cases e
 exact o _ e1 k r hv
theorem OffD.same (o : OffD H a p) (h : Homes H a m ks ρ) (s : Same H H') : OffD H' a p := o.chg h (Chg.of s (S := [])) (by simp)
theorem Homes.put2 (h : Homes H a m ks ρ) (hz : ks.length < 900) {k : Int} (h1 : 17 ≤ k) (h2 : k ≤ m - 1) {r : Addr} {row : List Int} (hr : H r = some (.lst (row.map V.int))) (g : GoodRow row) :
  ∃ H', DPut H a (.int k) (.ref r) H' ∧ Chg [a] H H' ∧ Homes H' a m (insK ks k) (fun j => if j = k then row else ρ j) ∧ ∀ u, OffD H a u → r ≠ u → OffD H' a u := by
 obtain ⟨⟨kvs, e1, e2, e3⟩, nd, inn, gd⟩ := h
 have hlen : kvs.length = ks.length := by have := congrArg List.length e2; simpa using this
 refine ⟨_, DPut.k (k := .inl k) e1 (small1000 (by omega)), (Chg.of (Same.refl _)).upd (by simp) _, ⟨⟨_, upd_same, putK_ins e2 k _, fun j hj => ?_⟩, insK_nd nd, fun j hj => ?_, fun j hj => ?_⟩, fun u ou hru kvs' ek k' r' hv => ?_⟩
 ·have off : ∀ {r : Addr} {xs : List V}, H r = some (.lst xs) → ∀ o : HO, (upd H a o) r = some (.lst xs) := fun z o => by rw [upd_ne (ne_of z e1 (fun z => by cases z))]; exact z
  by_cases hjk : j = k
  ·subst hjk
   exact ⟨r, by rw [valV_put, if_pos rfl], by rw [if_pos rfl]; exact off hr _⟩
  ·have hj' : j ∈ ks := (insK_mem.mp hj).resolve_right hjk
   obtain ⟨r', z1, z2⟩ := e3 j hj'
   exact ⟨r', by rw [valV_put, if_neg (fun z => hjk (Sum.inl.inj z))]; exact z1, by rw [if_neg hjk]; exact off z2 _⟩
 ·rcases insK_mem.mp hj with z | z
  ·exact inn j z
  ·rw [z]; exact ⟨h1, h2⟩
 ·by_cases hjk : j = k
  ·rw [if_pos hjk]; exact g
  ·rw [if_neg hjk]; exact gd j ((insK_mem.mp hj).resolve_right hjk)
 ·rw [upd_same] at ek
  cases ek
  rw [valV_put] at hv
  split at hv
  ·cases hv; exact hru
  ·exact ou kvs e1 k' r' hv
theorem homes_nil (h : H a = some (.dK [])) : Homes H a m [] ρ := ⟨⟨[], h, rfl, fun k hk => (by cases hk)⟩, .nil, fun k hk => (by cases hk), fun k hk => (by cases hk)⟩
theorem Homes.get (h : Homes H a m ks ρ) {k : Int} (hk : k ∈ ks) : ∃ r, DGet H a (.int k) (some (.ref r)) ∧ H r = some (.lst ((ρ k).map V.int)) := by
 obtain ⟨kvs, e1, _, e3⟩ := h.ex
 obtain ⟨r, z1, z2⟩ := e3 k hk
 have := DGet.k (k := .inl k) e1
 rw [z1] at this
 exact ⟨r, this, z2⟩
theorem Homes.getN (h : Homes H a m ks ρ) {k : Int} (hk : k ∉ ks) : DGet H a (.int k) none := by
 obtain ⟨kvs, e1, e2, _⟩ := h.ex
 have := DGet.k (k := .inl k) e1
 cases e : valV kvs (.inl k) with
 | none => rw [e] at this; exact this
 | some v =>
  have z := valV_in e
  rw [e2] at z
  obtain ⟨j, hj, q⟩ := List.mem_map.mp z
  cases q; exact absurd hj hk
end
theorem rising_uniq : ∀ {xs ys : List Int}, xs.Pairwise (· < ·) → ys.Pairwise (· < ·) → (∀ x, x ∈ xs ↔ x ∈ ys) → xs = ys
 | [], [], _, _, _ => rfl
 | [], y :: ys, _, _, h => by have := (h y).mpr (by simp); cases this
 | x :: xs, [], _, _, h => by have := (h x).mp (by simp); cases this
 | x :: xs, y :: ys, hx, hy, h => by
  obtain ⟨x1, x2⟩ := List.pairwise_cons.mp hx
  obtain ⟨y1, y2⟩ := List.pairwise_cons.mp hy
  have e : x = y := by
   rcases List.mem_cons.mp ((h x).mp (by simp)) with z | z
   ·exact z
   ·rcases List.mem_cons.mp ((h y).mpr (by simp)) with z' | z'
    ·exact z'.symm
    ·have := y1 x z; have := x1 y z'; omega
  subst e
  refine congrArg _ (rising_uniq x2 y2 fun z => ⟨fun hz => ?_, fun hz => ?_⟩)
  ·rcases List.mem_cons.mp ((h z).mp (by simp [hz])) with e | e
   ·have := x1 z hz; omega
   ·exact e
  ·rcases List.mem_cons.mp ((h z).mpr (by simp [hz])) with e | e
   ·have := y1 z hz; omega
   ·exact e
def Sorted (ks ns : List Int) : Prop := ns.Perm ks ∧ ns.Pairwise (· < ·)
def byKeys (ns : List Int) (ρ : Int → List Int) : List (Nat × List Int) := ns.map fun k => (k.toNat, ρ k)
structure Bat (C : Addr) (H : Hp) (b d nr : Addr) (m : Int) (ks : List Int) (ρ : Int → List Int) : Prop where
 ex : ∃ dx, H b = some (.ins C dx [("disk", .ref d), ("new_rows", .ref nr)])
 ho : Homes H nr m ks ρ
section
variable {C CD b d kr nr : Addr} {H H' : Hp} {m : Int} {ks : List Int} {ρ : Int → List Int} {S : DS}
theorem Bat.chg {T : List Addr} (h : Bat C H b d nr m ks ρ) (c : Chg T H H') (hb : b ∉ T) (hn : nr ∉ T) (ho : ∀ p ∈ T, OffD H nr p) : Bat C H' b d nr m ks ρ :=
 ⟨let ⟨dx, e⟩ := h.ex; ⟨dx, c _ _ e hb⟩, h.ho.chg c hn ho⟩
theorem Bat.same (h : Bat C H b d nr m ks ρ) (s : Same H H') : Bat C H' b d nr m ks ρ := h.chg (Chg.of s (S := [])) (by simp) (by simp) (by simp)
theorem homes_disk {a : Addr} (h : Homes H a m ks ρ) (D : DkAt CD H d kr S) (c : Chg [d, kr] H H') : Homes H' a m ks ρ := by
 obtain ⟨dx, rs, g1, g2, _⟩ := D.ex
 obtain ⟨kvs, e1⟩ := h.at
 refine h.chg c ?_ fun p hp => ?_
 ·simp only [List.mem_cons, List.not_mem_nil, or_false, not_or]
  exact ⟨ne_of e1 g1 (fun z => by cases z), ne_of e1 g2 (fun z => by cases z)⟩
 ·simp only [List.mem_cons, List.not_mem_nil, or_false] at hp
  rcases hp with z | z
  ·subst z; exact h.offo g1 fun row _ z => by cases z
  ·subst z; exact h.offo g2 fun row h16 z => ref_ne_row h16 z
theorem Bat.disk (h : Bat C H b d nr m ks ρ) (D : DkAt CD H d kr S) (c : Chg [d, kr] H H') : Bat C H' b d nr m ks ρ := by
 obtain ⟨dx, rs, g1, g2, _⟩ := D.ex
 obtain ⟨bx, e⟩ := h.ex
 refine ⟨⟨bx, c _ _ e ?_⟩, homes_disk h.ho D c⟩
 simp only [List.mem_cons, List.not_mem_nil, or_false, not_or]
 refine ⟨fun z => ?_, ne_of e g2 (fun z => by cases z)⟩
 subst z
 rw [e] at g1
 injection g1 with g1
 injection g1 with _ _ g1
 injection g1 with g1
 injection g1 with g1
 exact absurd g1 (by decide)
theorem disk_dict {a : Addr} (D : DkAt CD H d kr S) (h : ∃ kvs, H a = some (.dK kvs)) (c : Chg [a] H H') : DkAt CD H' d kr S := by
 obtain ⟨dx, rs, g1, g2, g3⟩ := D.ex
 obtain ⟨kvs, e1⟩ := h
 exact D.chg c (by simp only [List.mem_singleton]; exact ne_of g1 e1 (fun z => by cases z)) (by simp only [List.mem_singleton]; exact ne_of g2 e1 (fun z => by cases z)) fun r row hr _ => by simp only [List.mem_singleton]; exact ne_of hr e1 (fun z => by cases z)
end
theorem lc_rangeF {fj : List (Str × Nat)} {tc : TT} {te : TE} {σ : St} {H : Hp} {Q : Addr → Hp → Prop} {lo : Int} {n : Nat} (hn : n ≤ 1000) (g : Nat → Bool) (val : Nat → V)
  (hc : ∀ (i : Nat) (H' : Hp) (Qb : Bool → Hp → Prop), i < n → Same H H' → (∀ H3, Same H' H3 → Qb (g i) H3) → tc (some (.int (lo + (i : Int))) :: frees σ fj) H' Qb)
  (he : ∀ (i : Nat) (H' : Hp) (Qf : VK), i < n → g i = true → Same H H' → (∀ H3, Same H' H3 → Qf (val i) H3) → te (some (.int (lo + (i : Int))) :: frees σ fj) H' Qf)
  (hd : ∀ acc H', H acc = none → Same H H' → H' acc = some (.lst (((List.range n).filter g).map val)) → Q acc H') :
  ∀ acc, H acc = none → ∃ W : Nat → Nat → List V → Hp → Prop, (∃ m, W 0 m [] (upd H acc (.lst []))) ∧ ∀ i m ys H, W i m ys H →
   ((Itr lo n).stop i H ∧ Q acc H) ∨ ((Itr lo n).go i H ∧ ∀ x H', (Itr lo n).yld i H x H' → tc (some x :: frees σ fj) H' fun b H2 =>
    if b = true then te (some x :: frees σ fj) H2 fun v H3 => H3 acc = some (.lst ys) ∧ ys.length < sizeLine ∧ ∃ m', m' < m ∧ W (i + 1) m' (ys ++ [v]) (upd H3 acc (.lst (ys ++ [v])))
    else ∃ m', m' < m ∧ W (i + 1) m' ys H2) := by
 intro acc hacc
 refine ⟨fun i m ys H' => m = n - i ∧ i ≤ n ∧ ys = ((List.range i).filter g).map val ∧ H' acc = some (.lst ys) ∧ Same H H', ⟨n, rfl, Nat.zero_le _, rfl, upd_same, same_new hacc _⟩, ?_⟩
 rintro i m ys H' ⟨rfl, hi, rfl, h1, s1⟩
 by_cases hlt : i < n
 ·refine .inr ⟨hlt, ?_⟩
  rintro x H2 ⟨rfl, rfl⟩
  refine hc i _ _ hlt s1 fun H3 s3 => ?_
  have hl : (((List.range i).filter g).map val).length < sizeLine := by
   have := List.length_filter_le g (List.range i)
   rw [List.length_map]
   rw [List.length_range] at this
   exact small1000 (by omega)
  cases hg : g i with
  | true =>
   refine iteT (he i H3 _ hlt hg (s1.trans s3) fun H4 s4 => ⟨s4 _ _ (s3 _ _ h1), hl, n - (i + 1), by omega, rfl, hlt, ?_, upd_same, same_upd hacc ((s1.trans s3).trans s4) _⟩)
   rw [List.range_succ, List.filter_append, List.map_append]
   simp [hg]
  | false =>
   refine iteF ⟨n - (i + 1), by omega, rfl, hlt, ?_, s3 _ _ h1, s1.trans s3⟩
   rw [List.range_succ, List.filter_append, List.map_append]
   simp [hg]
 ·have e : i = n := by omega
  subst e
  exact .inl ⟨Nat.le_refl _, hd acc H' hacc s1 h1⟩
theorem lc_listN {K : PySem.W.Frag} {a : Addr} {xs : List V} {fj : List (Str × Nat)} {tc : TT} {te : TE} {σ : St} {H : Hp} {Q : Addr → Hp → Prop} (ha : H a = some (.lst xs))
  (hc : ∀ (i : Nat) (x : V) (H' : Hp) (Qb : Bool → Hp → Prop), xs[i]? = some x → Same H H' → Qb false H' → tc (some x :: frees σ fj) H' Qb)
  (hd : ∀ acc H', H acc = none → Same H H' → H' acc = some (.lst []) → Q acc H') :
  ∀ acc, H acc = none → ∃ W : Nat → Nat → List V → Hp → Prop, (∃ m, W 0 m [] (upd H acc (.lst []))) ∧ ∀ i m ys H, W i m ys H →
   ((Itl K a).stop i H ∧ Q acc H) ∨ ((Itl K a).go i H ∧ ∀ x H', (Itl K a).yld i H x H' → tc (some x :: frees σ fj) H' fun b H2 =>
    if b = true then te (some x :: frees σ fj) H2 fun v H3 => H3 acc = some (.lst ys) ∧ ys.length < sizeLine ∧ ∃ m', m' < m ∧ W (i + 1) m' (ys ++ [v]) (upd H3 acc (.lst (ys ++ [v])))
    else ∃ m', m' < m ∧ W (i + 1) m' ys H2) := by
 intro acc hacc
 refine ⟨fun i m ys H' => m = xs.length - i ∧ i ≤ xs.length ∧ ys = [] ∧ H' acc = some (.lst []) ∧ Same H H', ⟨_, rfl, Nat.zero_le _, rfl, upd_same, same_new hacc _⟩, ?_⟩
 rintro i m ys H' ⟨rfl, hi, rfl, h1, s1⟩
 have hq := SqL.of (K := K) (s1 _ _ ha)
 by_cases hlt : i < xs.length
 ·refine .inr ⟨⟨xs, xs[i], hq, List.getElem?_eq_getElem hlt⟩, ?_⟩
  rintro x H2 ⟨rfl, hx⟩
  exact hc i x _ _ (hx _ hq) s1 (iteF ⟨_, by omega, rfl, hlt, rfl, h1, s1⟩)
 ·exact .inl ⟨⟨xs, hq, by omega⟩, hd acc H' hacc s1 h1⟩
end BK
end
section
set_option Elab.async false
set_option linter.all false
set_option maxRecDepth 100000
set_option maxHeartbeats 4000000
namespace L2
open PySem PySem.Spec PySem.Calls PyProof.Rows PySem.W
section
variable {Κ : Type} [DecidableEq Κ] {prog : Program} {w : World} {knd : PySem.KeyKind prog w Κ} {A : Around} {E : Value → Shared → Prop} {s : Shared}
theorem keys_endH {it d : Addr} {i ep : Nat} {kvs : List (Κ × Value)} {Q : Option Value → Shared → Prop} (hd0 : HdAt A s.heap) (kit : s.heap.IsKeyIter it d i kvs.length ep) (dat : s.heap.DictAt knd d kvs ep) (over : kvs[i]? = none)
  (post : ∀ h', Heap.ExtBut it s.heap h' → Q none { s with heap := h' }) : wpAny (model prog w) A (pyNext (.ref it)) Q E s := by
 obtain ⟨oi, e1, e2, e3⟩ := id kit
 obtain ⟨od, es, f1, f2, f3, f4, f5, f6⟩ := id dat
 have ls : es.size = kvs.length := by rw [← f5.length]; simp
 have past : es.size ≤ i := by rw [ls]; simpa using over
 unfold pyNext
 refine wpAny_bind (wpAny_attempt (wpAny_callSpecial?_slot (name := Str.ofString "__next__") kit.typeIs F.slot_dict_keyiterator_next (wpAny_call_entry F.slot_dict_keyiterator_next kit.typeIs F.entry_dict_keyiterator_next ?_ (F.args_dict_keyiterator_next_1 _))))
 refine wpAny_bind (wpAny_pure (wpAny_bind (wpAny_bind ?_)))
 first | refine wpAny_bind (wpAny_typeNameOfWhole_keyiter kit.typeIs (wpAny_pure ?_)) | refine wpAny_bind (wpAny_typeNameOf_keyiter kit.typeIs (wpAny_pure ?_))
 refine wpAny_bind (wpAny_fieldsOf e1 e3 ?_)
 simp only [show Builtin.Dict_items.ownsTuple "dict_keyiterator" = false by decide, Bool.false_eq_true, if_false]
 show wpAny _ _ (if (Value.ref d == Value.none) = true then _ else _) _ _ s
 rw [if_neg (by simp)]
 refine wpAny_bind (wpAny_pure (wpAny_bind (wpAny_dictEntries f1 f3 ?_)))
 rw [if_neg (by rw [ls]; simp)]
 refine wpAny_bind (wpAny_pure (wpAny_bind (wpAny_dictEpoch f1 f3 ?_)))
 rw [if_neg (by simp)]
 refine wpAny_pure ?_
 simp only [if_neg (show ¬ ((i : Int) < 0) by omega), Int.toNat_natCast, Array.getElem?_eq_none past]
 refine wpAny_bind ?_
 first | refine wpAny_bind (wpAny_typeNameOfWhole_keyiter kit.typeIs (wpAny_pure ?_)) | refine wpAny_bind (wpAny_typeNameOf_keyiter kit.typeIs (wpAny_pure ?_))
 show wpAny _ _ (setField (.ref it) 0 .none >>= _) _ _ s
 refine wpAny_bind (wpAny_setField e1 e3 (by simp) ?_)
 show wpAny _ _ (newExc (.type "StopIteration") [] >>= _) _ _ _
 refine wpAny_bind ?_
 simp only [newExc, newTuple]
 refine wpAny_bind (wpAny_newObj_type ?_ (by size_fits))
 refine wpAny_bind (m := firstArgMember _ _) (wpAny_of_eq (a := Value.none) (by first | rfl | (simp only [firstArgMember]; rfl)) ?_)
 refine wpAny_newObj_type ?_ (by size_fits)
 refine raiseNew_hd (HdAt.two (A := A.in1) (it := it) hd0 (fun b o' hb e => (Heap.SameBut.update ..).extBut b o' hb e) (fun oe vs e e' => by rw [e1] at e; cases e; rw [e3] at e'; cases e'; exact ⟨by simp, by simp⟩)) (Heap.get?_push_size _ rfl) rfl (by simp; omega) fun h' sb ⟨o', _, ho', hc', _⟩ => ?_
 refine wpAny_bind (wpAny_isInstance (T := "StopIteration") (b := true) ⟨_, ho', hc'⟩ isSubtype_stop ?_)
 refine wpAny_pure (post _ fun b ob hb e => (sb.2 b ?_).trans (((Heap.SameBut.update ..).extBut.push _).push _ b ob hb e))
 exact Nat.ne_of_lt (Nat.lt_of_lt_of_le (Heap.lt_size e) (by rw [Heap.size_push, Heap.size_after_update]; exact Nat.le_succ _))
theorem HdAt.in2 {A : Around} {h : Heap} (x : HdAt A h) : ∃ L, HdIn A L h ∧ ∀ b ∈ L, ∃ o, h.get? b = some o := by
 rcases x with x | ⟨e, oe, vs, a, b, c, d⟩
 ·exact ⟨[], .inl x, fun b hb => by cases hb⟩
 ·rcases d with d | ⟨b', ob, vb, d1, d2, d3, d4⟩
  ·exact ⟨[e], .inr ⟨e, oe, vs, a, by simp, b, c, .inl d⟩, fun z hz => by rw [List.mem_singleton.mp hz]; exact ⟨_, b⟩⟩
  ·refine ⟨[e, b'], .inr ⟨e, oe, vs, a, by simp, b, c, .inr ⟨b', ob, vb, d1, d2, by simp, d3, d4⟩⟩, fun z hz => ?_⟩
   simp only [List.mem_cons, List.not_mem_nil, or_false] at hz
   rcases hz with e | e
   ·rw [e]; exact ⟨_, b⟩
   ·rw [e]; exact ⟨_, d3⟩
theorem walks_keysH (I d : Addr) (hne : d ≠ I) (kvs : List (Κ × Value)) (ep : Nat) (L : List Addr) :
  Walks prog w A I (I :: d :: L) [I] kvs.length (fun i v => ∃ k x, kvs[i]? = some (k, x) ∧ knd.is k v = true) (fun i h => h.IsKeyIter I d i kvs.length ep ∧ h.DictAt knd d kvs ep ∧ HdIn A L h) where
 sub := fun b hb => by rw [List.mem_singleton.mp hb]; exact List.mem_cons_self ..
 frame := fun _ _ _ st hk => ⟨st.1.at fun o e => hk I (List.mem_cons_self ..) o e, st.2.1.at' fun o e => hk d (List.mem_cons_of_mem _ (List.mem_cons_self ..)) o e, st.2.2.keepF fun b hb o e => hk b (List.mem_cons_of_mem _ (List.mem_cons_of_mem _ hb)) o e⟩
 item := fun i s Q E hi st hQ => by
  have hx : kvs[i]? = some (kvs[i].1, kvs[i].2) := List.getElem?_eq_getElem hi
  refine wpAny_pyNext_dict_item st.1 st.2.1 hx fun key h' hkey hit' hs' => ?_
  refine hQ key h' s.toks ⟨_, _, hx, hkey⟩ ⟨hit', st.2.1.extBut hs'.extBut hne, ?_⟩ fun b o hb e => hs'.extBut b o (fun z => hb (by simp [z])) e
  have nit : ∀ (c : Addr) (o : Obj) (vs : Array Value), s.heap.get? c = some o → o.data = .fields vs → (vs[2]? = some .none ∨ ∃ b, vs[2]? = some (.ref b)) → c ≠ I := fun c o vs b c' dd z => by
   subst z
   obtain ⟨o', ho, _, hd⟩ := st.1
   rw [b] at ho; cases ho; rw [hd] at c'; cases c'
   rcases dd with dd | ⟨_, dd⟩ <;> simp at dd
  rcases st.2.2 with x | ⟨e, oe, vs, a, m, b, c, dd⟩
  ·exact .inl x
  ·refine .inr ⟨e, oe, vs, a, m, hs'.extBut e oe (nit e oe vs b c ?_) b, c, ?_⟩
   ·rcases dd with dd | ⟨b, _, _, dd, _⟩
    ·exact .inl dd
    ·exact .inr ⟨b, dd⟩
   ·rcases dd with dd | ⟨b, ob, vb, d1, d2, d3, d4, d5, d6⟩
    ·exact .inl dd
    ·exact .inr ⟨b, ob, vb, d1, d2, d3, hs'.extBut b ob (nit b ob vb d4 d5 (.inl d6)) d4, d5, d6⟩
 done := fun s Q E st hQ => keys_endH st.2.2.at st.1 st.2.1 (by simp) fun h' he => hQ h' s.toks fun b o hb e => he b o (fun z => hb (by simp [z])) e
 self := fun _ _ _ _ st h => wpAny_pyIter_keyiter st.1 h
end
section
variable {prog : Program} {w : World} {A : Around} {E : Value → Shared → Prop} {s : Shared} {T : String} {r d : Addr} {n : Nat} {P : Nat → Value → Prop} {OK : Heap → Prop}
theorem takes_up {R : Result → Shared → Prop} (K : KdlSrc prog w T r d n P OK) {oI : Obj} {F : List Addr} {St : Nat → Heap → Prop} (good : OK s.heap) (made : ∀ (E' : Value → Shared → Prop) (Q' : Value → Shared → Prop), Q' (.ref s.heap.objs.size) { s with heap := s.heap.push oI } → wpAny (model prog w) A.in1 (pyIter (.ref r)) Q' E' s)
  (W : Walks prog w A.in1 s.heap.objs.size F [s.heap.objs.size] n P St) (st0 : St 0 (s.heap.push oI)) (l : Addr) (lr : l ≠ r) (lF : l ∉ F) (res : Value) (c0 : Nat) (hl : s.heap.get? l = some { cls := .type "list", data := .seq #[] c0 }) (hn : n ≤ sizeLine)
  (post : ∀ h' tk acc c, (∀ b o, b ≠ l → s.heap.get? b = some o → h'.get? b = some o) → h'.get? l = some { cls := .type "list", dict := none, data := .seq acc c, slots := #[] } → ItemsOf P acc n → R (.ok (.ret res)) { s with heap := h', toks := tk }) :
  wpAny (model prog w) A.in1 (Builtin.List.listExtendWith (.ref l) (.ref r) res) (fun fin s' => match fin with | .done f => R (.ok f) s' | .again c' => c'.quiet = true ∧ codeAny (model prog w) A c' R s') (fun e s' => R (.error e) s') s := by
 have walk : ∀ (h : Heap) (c tk : Nat), St 0 h → (∀ b o, b ≠ l → s.heap.get? b = some o → h.get? b = some o) → h.get? l = some { cls := .type "list", data := .seq #[] c } → codeAny (model prog w) A (.builtin "list.extend.loop" ⟨[.ref l, .ref s.heap.objs.size, res], []⟩) R { s with heap := h, toks := tk } := by
  intro h c tk q1 q2 q3
  refine codeAny_extend_loopS W.toS hn l lF res n 0 _ #[] c rfl (Nat.zero_le _) q1 q3 (ItemsOf.nil _) fun s' acc c' mv q4 q5 => ?_
  rw [Moved.eq_with mv]
  refine post s'.heap s'.toks acc c' (fun b o nb e => mv.heap b o (fun z => ?_) (q2 b o nb e)) q4 q5
  rcases List.mem_cons.mp z with z | z
  ·exact nb z
  ·rw [List.mem_singleton.mp z] at e; exact absurd (Heap.lt_size e) (Nat.lt_irrefl _)
 have apart : Builtin.List.listSameRef (.ref l) (.ref r) = false := by simp [Builtin.List.listSameRef, lr]
 have hl1 := Heap.get?_push_of_some oI hl
 unfold Builtin.List.listExtendWith
 refine wpAny_bind (wpAny_typeOf (T := T) (K.type s good) ?_)
 simp only [apart, K.notList, K.notTuple, Bool.or_false, Bool.false_eq_true, if_false]
 refine wpAny_bind (made _ _ (wpAny_bind (wpAny_holding (K.hint _ _ _ _ (K.keep _ _ good fun b _ o e => Heap.get?_push_of_some _ e) ?_))))
 refine wpAny_ite_split (fun _ => ?_) (fun _ => wpAny_pure ⟨plainId_quiet PySem.F.plain_extend_loop _, walk _ c0 _ st0 (fun b o _ e => Heap.get?_push_of_some _ e) hl1⟩)
 refine wpAny_bind (wpAny_rule (wpAny_bind ?_))
 show wpAny _ _ (updateSeq l (·.push .none) >>= fun _ => updateSeq l (·.pop)) _ _ _
 refine wpAny_bind (wpAny_updateSeq hl1 rfl ?_)
 have hl2 := Heap.get?_update_self (Obj.mapSeq (·.push Value.none)) hl1 rfl
 have hl3 := Heap.get?_update_self (Obj.mapSeq (·.pop)) hl2 rfl
 have far : ∀ b, b ≠ l → ∀ o, (s.heap.push oI).get? b = some o → (((s.heap.push oI).update l (Obj.mapSeq (·.push Value.none))).update l (Obj.mapSeq (·.pop))).get? b = some o := fun b nb o e => by
  rw [Heap.get?_update_other _ _ (Ne.symm nb), Heap.get?_update_other _ _ (Ne.symm nb)]; exact e
 refine wpAny_updateSeq (hz := by seq_fits) hl2 rfl (wpAny_pure ⟨plainId_quiet PySem.F.plain_extend_loop _, walk _ _ _ (W.frame 0 _ _ st0 fun b hb o e => far b (fun z => lF (z ▸ hb)) o e) (fun b o nb e => far b nb o (Heap.get?_push_of_some _ e)) hl3⟩)
end
section
variable {Κ : Type} [DecidableEq Κ] {prog : Program} {w : World} {knd : PySem.KeyKind prog w Κ} {A : Around} {E : Value → Shared → Prop} {s : Shared} {d : Addr} {kvs : List (Κ × Value)} {ep : Nat}
theorem code_keysH {R : Result → Shared → Prop} (lo : (d == sysModules) = false) (hd0 : HdAt A s.heap) (dat : s.heap.DictAt knd d kvs ep) (hn : kvs.length ≤ sizeLine)
  (post : ∀ h' tk (acc : Array Value) c, (∀ b o, s.heap.get? b = some o → h'.get? b = some o) → h'.get? s.heap.objs.size = some { cls := .type "list", dict := none, data := .seq acc c, slots := #[] } → ItemsOf (fun i v => ∃ k x, kvs[i]? = some (k, x) ∧ knd.is k v = true) acc kvs.length → R (.ok (.ret (.ref s.heap.objs.size))) { s with heap := h', toks := tk }) :
  codeAny (model prog w) A (.builtin "proto.collect" ⟨[.ref d], []⟩) R s := by
 have Kd := kdl_dict (prog := prog) (w := w) (knd := knd) (kvs := kvs) (ep := ep) lo
 obtain ⟨L, hL, hLt⟩ := hd0.in2
 refine codeAny_builtin PySem.F.entry_proto_collect ?_
 rw [Around.under_plainId PySem.F.plain_proto_collect _]
 show wpAny _ A.in1 (newList [] >>= fun l => again (.builtin "list.__iadd__" ⟨[l, .ref d], []⟩)) _ _ s
 refine wpAny_bind (wpAny_newObj_type (wpAny_pure ⟨plainId_quiet PySem.F.plain_list_iadd _, codeAny_builtin PySem.F.entry_list_iadd ?_⟩))
 rw [Around.under_plainId PySem.F.plain_list_iadd _]
 have hl : (s.heap.push { cls := .type "list", data := .seq ([] : List Value).toArray }).get? s.heap.objs.size = some { cls := .type "list", data := .seq ([] : List Value).toArray } := Heap.get?_push_size _ rfl
 show wpAny _ A.in1 (Builtin.List.listExtendWith (.ref s.heap.objs.size) (.ref d) (.ref s.heap.objs.size)) _ _ _
 have dat1 : (s.heap.push { cls := .type "list", data := .seq ([] : List Value).toArray }).DictAt knd d kvs ep := dat.push _
 have dlt := dat.lt_size
 refine takes_up (R := R) (A := A) (s := { s with heap := s.heap.push { cls := .type "list", data := .seq ([] : List Value).toArray } }) (F := _ :: d :: L) (St := fun i h => h.IsKeyIter _ d i kvs.length ep ∧ h.DictAt knd d kvs ep ∧ HdIn A.in1 L h) Kd dat1 (fun E' Q' hq => wpAny_pyIter_dict lo dat1 hq) (walks_keysH _ d (Nat.ne_of_lt dat1.lt_size) kvs ep L)
  ⟨⟨_, Heap.get?_push_size _ rfl, rfl, rfl⟩, dat1.push _, HdIn.keepF (show HdIn A.in1 L s.heap from hL) fun b _ o e => Heap.get?_push_of_some _ (Heap.get?_push_of_some _ e)⟩ s.heap.objs.size (Nat.ne_of_gt dlt) (fun z => ?_) _ 0 hl hn fun h' tk acc c kp hs hacc => ?_
 ·rcases List.mem_cons.mp z with z | z
  ·exact absurd z (Nat.ne_of_lt (by rw [Heap.size_push]; exact Nat.lt_succ_self _))
  ·rcases List.mem_cons.mp z with z | z
   ·exact absurd z (Nat.ne_of_gt dlt)
   ·obtain ⟨o, ho⟩ := hLt _ z
    exact absurd (Heap.lt_size ho) (Nat.lt_irrefl _)
 ·exact post h' tk acc c (fun b o e => kp b o (Nat.ne_of_lt (Heap.lt_size e)) (Heap.get?_push_of_some _ e)) hs hacc
theorem collect_keysH {Q : List Value → Shared → Prop} (lo : (d == sysModules) = false) (hd0 : HdAt A s.heap) (dat : s.heap.DictAt knd d kvs ep) (hn : kvs.length ≤ sizeLine)
  (post : ∀ h' tk (acc : Array Value), (∀ b o, s.heap.get? b = some o → h'.get? b = some o) → s.heap.objs.size < h'.objs.size → ItemsOf (fun i v => ∃ k x, kvs[i]? = some (k, x) ∧ knd.is k v = true) acc kvs.length → Q acc.toList { s with heap := h', toks := tk }) :
  wpAny (model prog w) A (collect (.ref d)) Q E s := by
 unfold collect
 refine wpAny_bind (wpAny_runValue (code_keysH lo hd0 dat hn fun h' tk acc c kp hs hacc => ?_))
 show wpAny _ A (load s.heap.objs.size >>= _) _ _ _
 exact wpAny_bind (wpAny_load hs (wpAny_pure (post h' tk acc kp (Heap.lt_size hs) hacc)))
theorem sorted_keysH {ns : List Int} {Q : Value → Shared → Prop} (lo : (d == sysModules) = false) (hd0 : HdAt A s.heap) (dat : s.heap.DictAt knd d kvs ep) (hI : ∀ acc : Array Value, ItemsOf (fun i v => ∃ k x, kvs[i]? = some (k, x) ∧ knd.is k v = true) acc kvs.length → IntsAre acc.toList ns) (h64 : kvs.length < 64)
  (h : ∀ (h' : Heap) (tk e : Nat) (a : Addr) (out : Array Value) (ns' : List Int), (∀ b o, s.heap.get? b = some o → h'.get? b = some o) → s.heap.objs.size ≤ a → h'.get? a = some (seqObj "list" out e) →
   IntsAre out.toList ns' → ns'.Perm ns → ns'.Pairwise (· ≤ ·) → Q (.ref a) { s with heap := h', toks := tk }) :
  wpAny (model prog w) A (call (.builtin "sorted") [.ref d]) Q E s := by
 refine Calls.call_function_entry kind_sorted plain_sorted entry_sorted (args_sorted1 _) ?_
 unfold Builtin.«sorted»
 refine wpAny_bind (m := checkCount "sorted" 1 1 _) (wpAny_pure ?_)
 refine wpAny_bind (collect_keysH (A := A.in1) lo hd0 dat (by rw [sizeLine_eq]; omega) fun h1 tk acc kp hs hacc => ?_)
 have hl : acc.toList.length < 64 := by rw [Array.length_toList, hacc.1]; exact h64
 refine wpAny_bind (wpAny_newList ?_)
 have hoL : (h1.push (seqObj "list" acc.toList.toArray 0)).get? h1.objs.size = some (seqObj "list" acc.toList.toArray 0) := Heap.get?_push_size _ rfl
 show wpAny _ _ _ _ _ { s with heap := h1.push (seqObj "list" acc.toList.toArray 0), toks := tk }
 refine wpAny_bind (wpAny_holding (wpAny_call_entry slot_list_sort ⟨_, hoL, rfl⟩ entry_list_sort (list_sort_tree hoL (hI acc hacc) hl fun out ns' a1 a2 a3 => ⟨_, rfl, ?_⟩) (args_list_sort _)))
 obtain ⟨e, he⟩ := sortedHeap_at (out := out) hoL
 refine wpAny_pure ⟨_, rfl, h _ tk e h1.objs.size out ns' (fun b o q => ?_) (Nat.le_of_lt hs) he a1 a2 a3⟩
 have hb := Heap.lt_size (kp b o q)
 rw [sortedHeap_old (Nat.ne_of_lt hb) (by rw [size_push']; exact Nat.lt_succ_of_lt hb)]
 exact Heap.get?_push_of_some _ (kp b o q)
end
theorem call_sortedDH {X : Cx} : CallR X (.builtin "sorted") rSortedD := by
 intro pins s σ H xs us Q I r h
 obtain ⟨a, kvs, ks, rfl, e, hk, h64, q⟩ := h
 obtain ⟨u, rfl, rx⟩ := vals1 r
 cases rx
 obtain ⟨z, hd, vs, rel, dd⟩ := dk_of I.hok e
 obtain ⟨ep, hat⟩ := dd.dictAt
 have hks := rel.keys
 have hlen := rel.length
 refine sorted_keysH (knd := mixKind X.prog X.w) (kvs := vs) (ep := ep) hd I.hd hat (ns := ks) (fun acc hacc => ?_) (by omega) fun h' tk e' a' out ns' kp ha he hi hp hs => ?_
 ·refine ints_items (P := X.prog) (w := X.w) (kvs := vs) acc.toList (hks.symm.trans hk) (by rw [Array.length_toList]; exact hacc.1) fun j v hv => ?_
  exact hacc.2 j v (by rw [← Array.getElem?_toList]; exact hv)
 ·have hl : ns'.length = kvs.length := by
   have := hp.length_eq
   have h2 := congrArg List.length hk
   simp only [List.length_map] at h2
   omega
  exact ⟨.ref a', _, I.laid (t' := tk) kp ha (show ObjOk X.prog X.w _ h' _ (.lst (ns'.map V.int)) from ⟨by rw [List.length_map, hl]; exact z, out.toList, e', ints_vals hi, by simpa using he⟩), rfl, q _ _ (I.hok.fresh ha) hp hs⟩
end L2
end
section
set_option Elab.async false
set_option linter.all false
set_option maxRecDepth 100000
namespace L2
open PySem PySem.Spec PySem.Calls PyProof.Rows
def Its (lo st : Int) (n : Nat) : It := ⟨fun i _ => i < n, fun i H x H' => H' = H ∧ x = .int (lo + i * st), fun i _ => n ≤ i⟩
theorem turn_step {P : Program} {w : World} {K : PySem.W.Frag} {tg : Expr} (it : Addr) (lo c : Int) (n : Nat) : Turn P w K tg (Its lo c n) [it] it (fun i h => IsRangeIter h it (lo + (i : Nat) * c) ((n : Int) - (i : Nat)) c) where
 mem := by simp
 obj := fun i h st b hb => by
  have e : b = it := by simpa using hb
  subst e
  exact ⟨_, st, fun v z => by
   have z' : Data.fields _ = Data.cell v := z
   cases z'⟩
 keep := fun i h h' st k => k it (by simp) _ st
 item := by
  intro X hP hw hK hc i pins s σ H E I hf st hg
  subst hP hw hK
  obtain ⟨f0, f1, f2, f3, f4, f5⟩ := hf it (by simp)
  have hlt : i < n := hg
  refine wpAny_pyNext_range_item st (by omega) fun h' st' sb => ?_
  have I1 : Inv X pins σ H { s with heap := h', toks := s.toks + 1 } := I.turned (fun b o hb e => (sb.2 b hb).trans e) f0 f1 f3 f4 f5
  have e1 : lo + (i : Int) * c + c = lo + ((i + 1 : Nat) : Int) * c := by push_cast; rw [Int.add_mul]; omega
  have e2 : (n : Int) - (i : Int) - 1 = (n : Int) - ((i + 1 : Nat) : Int) := by omega
  rw [e1, e2] at st'
  exact ⟨_, rfl, go_of (s := { s with heap := h', toks := s.toks + 1 }) (n := "range_iterator") st' rfl rfl (by decide) ⟨.int (lo + i * c), H, I1, ⟨s.toks, rfl⟩, ⟨rfl, rfl⟩, st', fun b hb => (hf b hb).1⟩⟩
 done := by
  intro X hP hw hK hc i pins s σ H E I hf st hg
  subst hP hw hK
  obtain ⟨f0, f1, f2, f3, f4, f5⟩ := hf it (by simp)
  exact range_endH I.hd st (by have : n ≤ i := hg; omega) fun h' eb => ⟨rfl, I.turned (t' := s.toks) (fun b o hb e => eb b o hb e) f0 f1 f3 f4 f5⟩
 self := fun _ _ _ _ _ st h => wpAny_pyIter_rangeiter st h
section
variable {X : Cx} {tg : Expr}
theorem step_it {pins : List (Addr × Obj)} {σ : St} {H : Hp} {s : Shared} {R : It → Hp → Prop} {E : Value → Shared → Prop} {lo hi c : Int} {n : Nat} {t u v : Tok} {tk : Nat} (I : Inv X pins σ H s) (hs : Builtin.Range.small lo hi c = true) (hn : Builtin.Range.rangeSize lo hi c = n)
  (q : R (Its lo c n) H) : wpAny (model X.prog X.w) X.A (pyIter (.ref s.heap.objs.size)) (PIE X pins σ tg R) E { s with heap := s.heap.push { cls := .type "range", data := .fields #[.int lo t, .int hi u, .int c v] }, toks := tk } := by
 refine wpAny_pyIter_range (IsRange.new ..) hs ?_
 have I1 : Inv X pins σ H { s with heap := s.heap.push { cls := .type "range", data := .fields #[.int lo t, .int hi u, .int c v] }, toks := tk } := I.kept fun b o e => Heap.get?_push_of_some _ e
 refine ⟨(s.heap.push { cls := .type "range", data := .fields #[.int lo t, .int hi u, .int c v] }).objs.size, [(s.heap.push { cls := .type "range", data := .fields #[.int lo t, .int hi u, .int c v] }).objs.size], _, _, H, rfl,
  I1.kept (t' := tk) fun b o e => Heap.get?_push_of_some _ e, turn_step _ lo c n, ?_, fun b hb => ?_, q⟩
 ·have e1 : lo + ((0 : Nat) : Int) * c = lo := by simp
  have e2 : ((n : Nat) : Int) - ((0 : Nat) : Int) = Builtin.Range.rangeSize lo hi c := by rw [hn]; simp
  show IsRangeIter _ _ (lo + ((0 : Nat) : Int) * c) (((n : Nat) : Int) - ((0 : Nat) : Int)) c
  rw [e1, e2]
  exact Heap.get?_push_size _ rfl
 ·have e : b = (s.heap.push { cls := .type "range", data := .fields #[.int lo t, .int hi u, .int c v] }).objs.size := by simpa using hb
  subst e
  exact I1.fpOk (Nat.le_refl _) (I1.hok.fresh (Nat.le_refl _))
def iRng3 (ta : TA) : TI := fun σ H R => ta σ H fun vs H1 => ∃ (i j c : Int) (n : Nat), vs = [.int i, .int j, .int c] ∧ c ≠ 0 ∧ c.natAbs < 1073741824 ∧ Builtin.Range.small i j c = true ∧ Builtin.Range.rangeSize i j c = n ∧ R (Its i c n) H1
theorem pi_range3 {a b c : Expr} {ta : TA} {p pos : Pos} (hg : Gl X "range") (hm : X.mg "range" = none) (ha : PA X [a, b, c] ta) (he : starEach [a, b, c] X.env = (false, eval a X.env) :: starEach [b, c] X.env := by rfl) (hpl : (backTo pos (starEach [b, c] X.env)).any (·.1) = false := by rfl) :
  PI X tg (.Call (.Name "range" p) [a, b, c] [] pos) (iRng3 ta) := by
 intro pins s σ H R I h
 refine Call_ (ld_blt I hg hm boot_range (PyProof.Rows.callWith_type1 (thn (ha pos pins s σ H _ I h) fun us s1 ⟨vs, H1, I1, r1, q1⟩ => ?_) he hpl))
 obtain ⟨i, j, c, n, e, h0, h1, h2, h3, q⟩ := q1
 subst e
 cases r1 with
 | cons r rr =>
  cases rr with
  | cons r' rr =>
   cases rr with
   | cons r'' rr =>
    cases rr
    obtain ⟨t, rfl⟩ := r
    obtain ⟨t', rfl⟩ := r'
    obtain ⟨t'', rfl⟩ := r''
    exact call_range_3 h0 (step_it I1 h2 h3 q) (Or.inl (PyProof.noPylong_small h1))
theorem small_up {a b c : Int} (hc : 1 ≤ c) (hc2 : c < 2 ^ 30) (ha : -(2 ^ 30) ≤ a) (ha' : a < 2 ^ 30) (hb : -(2 ^ 30) ≤ b) (hb' : b < 2 ^ 30) :
  Builtin.Range.small a b c = true ∧ Builtin.Range.rangeSize a b c = (((b - a + c - 1) / c).toNat : Int) := by
 have hs : Builtin.Range.rangeSize a b c = if a < b then (b - a - 1) / c + 1 else 0 := by
  unfold Builtin.Range.rangeSize
  rw [if_pos (by omega)]
 have e : ∀ x : Int, (x + c) / c = x / c + 1 := fun x => by rw [Int.add_ediv_of_dvd_right (Int.dvd_refl c), Int.ediv_self (by omega)]
 have hb2 : ∀ x : Int, 0 ≤ x → 0 ≤ x / c ∧ x / c ≤ x := fun x hx => ⟨Int.ediv_nonneg hx (by omega), Int.ediv_le_self _ hx⟩
 constructor
 ·unfold Builtin.Range.small
  rw [hs]
  simp only [Builtin.Range.rangeFitsLong, Bool.and_eq_true, Bool.or_eq_true, decide_eq_true_eq, beq_iff_eq]
  split
  ·have := hb2 (b - a - 1) (by omega)
   rw [if_pos (show c > 0 by omega)]
   simp only [Bool.and_eq_true, decide_eq_true_eq]
   omega
  ·omega
 ·rw [hs]
  split
  ·have h1 : (b - a + c - 1) / c = (b - a - 1) / c + 1 := by rw [← e]; congr 1; omega
   have := hb2 (b - a - 1) (by omega)
   rw [h1]
   omega
  ·by_cases h0 : b = a
   ·subst h0
    have : (b - b + c - 1) / c = 0 := Int.ediv_eq_zero_of_lt (by omega) (by omega)
    rw [this]; rfl
   ·have : (b - a + c - 1) / c ≤ 0 := by
     have h1 : (b - a + c - 1) / c = (b - a - 1) / c + 1 := by rw [← e]; congr 1; omega
     have h2 : (b - a - 1) / c < 0 := Int.ediv_neg_of_neg_of_pos (by omega) (by omega)
     omega
    omega
def rCount : V → List V → Hp → VK → Prop := fun x vs H Q => ∃ (l : Addr) (xs : List V) (y : V), x = .ref l ∧ vs = [y] ∧ H l = some (.lst xs) ∧ flatV y = true ∧ xs.all flatV = true ∧ Q (.int (xs.countP fun z => eqV z y)) H
theorem countP_vals {y : V} : ∀ {xs : List V} {its : List Value}, Vals xs its → xs.all flatV = true → its.countP (eqU y) = xs.countP fun z => eqV z y
 | _, _, .nil, _ => rfl
 | _, _, .cons (a := x) (b := u) r1 r2, h => by
  rw [List.all_cons, Bool.and_eq_true] at h
  rw [List.countP_cons, List.countP_cons, countP_vals r2 h.2, eqU_of r1 h.1]
theorem mt_count : MtR X "list.count" rCount := by
 intro pins s σ H x vs v us Q I rx rv h
 obtain ⟨l, xs, y, rfl, rfl, hH, fy, fs, q⟩ := h
 cases rx
 obtain ⟨u, rfl, ry⟩ := rv.one
 obtain ⟨zl, its, n, r, hl, e⟩ := I.lstM hH
 refine call_meets PySem.F.slot_list_count ⟨_, e, rfl⟩ PySem.F.entry_list_count (PySem.F.args_list_count_2 _ _) (SeqAt.list_countAt l its.toArray n none #[] u (eqU y))
  ⟨e, fun w hw => mem_eqAt ry fy r fs w (by simpa using hw), ?_⟩
 have e1 : its.toArray.toList.countP (eqU y) = xs.countP fun z => eqV z y := countP_vals r fs
 rw [e1]
 exact ⟨.int _, H, I.tok _, ⟨_, rfl⟩, q⟩
def rMinL (K : PySem.W.Frag) (xs : List V) (H : Hp) (Q : VK) : Prop := ∃ (p : Addr) (ks : List Int) (k : Int), xs = [.ref p] ∧ SqL K H p (ks.map V.int) ∧ k ∈ ks ∧ (∀ j ∈ ks, k ≤ j) ∧ Q (.int k) H
theorem call_minL (hc : X.A.handled = none) : CallR X (.builtin "min") (rMinL X.K) := by
 intro pins s σ H xs us Q I r h
 obtain ⟨p, ks, k, rfl, hq, hk, hle, q⟩ := h
 obtain ⟨u, rfl, rx⟩ := vals1 r
 cases rx
 obtain ⟨its, r', pl, hz⟩ := I.list hq
 have hi := intsAre_of r'
 obtain ⟨ys, e⟩ := hi.allInts.items
 have hns : ks = ys.toList.map (·.1) := by rw [← hi.numsOf, ← nums_intItems, ← e]
 have hne : 0 < ks.length := List.length_pos_of_mem hk
 have hsz : 0 < ys.size := by have h3 := hne; rw [hns, List.length_map, Array.length_toList] at h3; exact h3
 have hl := pl.isList
 rw [e] at hl
 refine min_intList hc hl hsz fun v h' tk hv hkp => ?_
 obtain ⟨t, rfl⟩ := intItems_at hv
 obtain ⟨h1, h2⟩ := argBest_lt (numAt ys) (ys.size - 1)
 have hm : numAt ys (argBest (fun i j => decide (numAt ys i < numAt ys j)) (ys.size - 1)) = k := by
  apply Int.le_antisymm
  ·rw [hns] at hk
   obtain ⟨j, hj, e'⟩ := mem_getD hk
   rw [List.length_map, Array.length_toList] at hj
   rw [← e', ← numAt_eq]
   exact h2 j (by omega)
  ·refine hle _ ?_
   rw [hns, numAt_eq]
   exact getD_mem (by rw [List.length_map, Array.length_toList]; omega)
 rw [hm]
 exact ⟨.int k, H, I.kept (t' := tk) hkp, ⟨t, rfl⟩, q⟩
end
end L2
end
section
set_option Elab.async false
set_option linter.all false
set_option maxRecDepth 100000
set_option maxHeartbeats 4000000
namespace BK
open PySem L2
end BK
end
section
set_option Elab.async false
set_option linter.all false
set_option maxRecDepth 100000
namespace L2
open PySem PySem.Spec PySem.Calls PyProof.Rows
section
variable {prog : Program} {w : World} {A : Around} {E : Value → Shared → Prop} {s : Shared}
theorem nextOf_endH {it l : Addr} {i : Nat} {items : Array Value} {Q : Value → Shared → Prop} (hh : HdAt A s.heap) (hit : s.heap.IsListIter it l i) (hl : s.heap.IsList l items) (hx : items[i]? = none)
  (hE : ∀ h' e, Heap.ExtBut it s.heap h' → (∃ o, h'.get? e = some o ∧ o.cls = .type "StopIteration") → E (.ref e) { s with heap := h' }) :
  wpAny (model prog w) A (Builtin.SmallTypes.nextOf (.ref it)) Q E s := by
 obtain ⟨o, ho, hc, hd⟩ := id hit
 obtain ⟨ol, hol, _, nl, hdl⟩ := hl
 unfold Builtin.SmallTypes.nextOf
 refine wpAny_bind (wpAny_callSpecial?_slot (name := Str.ofString "__next__") hit.typeIs slot_listiter_next
  (wpAny_call_entry slot_listiter_next hit.typeIs entry_listiter_next ?_ (args_listiter_next _)))
 show wpAny _ _ (field (.ref it) 0 >>= _) _ _ s
 refine wpAny_bind (wpAny_field ho hd (x := .ref l) rfl ?_)
 show wpAny _ _ (if (Value.ref l == Value.none) = true then _ else _) _ _ s
 rw [if_neg (show ¬ ((Value.ref l == Value.none) = true) from Bool.false_ne_true)]
 show wpAny _ _ (field (.ref it) 1 >>= _) _ _ s
 refine wpAny_bind (wpAny_field ho hd (x := .int i 0) rfl ?_)
 show wpAny _ _ (seqItems? (.ref l) >>= _) _ _ s
 refine wpAny_bind (wpAny_seqItems hol hdl ?_)
 simp only [Int.toNat_natCast, hx]
 refine wpAny_bind (wpAny_rule (wpAny_bind (wpAny_setField ho hd (by simp) ?_)))
 show wpAny _ _ (newExc (.type "StopIteration") [] >>= _) _ _ _
 refine wpAny_bind ?_
 simp only [newExc, newTuple]
 refine wpAny_bind (wpAny_newObj_type ?_ (by size_fits))
 refine wpAny_bind (m := firstArgMember _ _) (wpAny_of_eq (a := Value.none) (by first | rfl | (simp only [firstArgMember]; rfl)) ?_)
 refine wpAny_newObj_type ?_ (by size_fits)
 refine raiseNew_hd (HdAt.two (A := A.in1) (it := it) hh (fun b o' hb e => (Heap.SameBut.update ..).extBut b o' hb e) (fun oe vs e e2 => by rw [ho] at e; cases e; rw [hd] at e2; cases e2; exact ⟨by simp, by simp⟩)) (Heap.get?_push_size _ rfl) rfl (by simp; omega) fun h' sb ⟨o', _, ho', hc', _⟩ => ?_
 refine hE _ _ (fun b ob hb e => (sb.2 b ?_).trans (((Heap.SameBut.update ..).extBut.push _).push _ b ob hb e)) ⟨o', ho', hc'⟩
 exact Nat.ne_of_lt (Nat.lt_of_lt_of_le (Heap.lt_size e) (by rw [Heap.size_push, Heap.size_after_update]; exact Nat.le_succ _))
theorem enum_endH {e it l : Addr} {i : Nat} {items : Array Value} {old : Value} {Q : Option Value → Shared → Prop} (hh : HdAt A s.heap)
  (he : IsEnum s.heap e it i old) (hit : s.heap.IsListIter it l i) (hl : s.heap.IsList l items) (hx : items[i]? = none)
  (hQ : ∀ h', Heap.ExtBut it s.heap h' → Q none { s with heap := h' }) : wpAny (model prog w) A (pyNext (.ref e)) Q E s := by
 have hT : s.TypeIs (.ref e) "enumerate" := ⟨_, he, rfl⟩
 unfold pyNext
 refine wpAny_bind (wpAny_attempt (wpAny_callSpecial?_slot (name := Str.ofString "__next__") hT PySem.F.slot_enumerate_next
  (wpAny_call_entry PySem.F.slot_enumerate_next hT PySem.F.entry_enumerate_next ?_ (PySem.F.args_enumerate_next_1 _))))
 show wpAny _ _ (field (.ref e) 2 >>= _) _ _ _
 refine wpAny_bind (wpAny_field he rfl (x := .ref it) rfl ?_)
 refine wpAny_bind (nextOf_endH (A := A.in1) hh hit hl hx fun h' x he' hx' => ?_)
 obtain ⟨o, ho, hc⟩ := hx'
 refine wpAny_bind (wpAny_isInstance (T := "StopIteration") (b := true) ⟨o, ho, hc⟩ isSubtype_stop ?_)
 exact wpAny_pure (hQ _ he')
end
def Ite (K : PySem.W.Frag) (a : Addr) : It :=
 ⟨fun i H => ∃ xs x, SqL K H a xs ∧ xs[i]? = some x, fun i H x H' => ∃ p y, x = .ref p ∧ H p = none ∧ H' = upd H p (.tup [.int i, y]) ∧ ∀ xs, SqL K H a xs → xs[i]? = some y, fun i H => ∃ xs, SqL K H a xs ∧ xs.length ≤ i⟩
theorem turn_enum {P : Program} {w : World} {K : PySem.W.Frag} {elts : List Expr} {x1} {pos : Pos} (a e it : Addr) (hne : e ≠ it) :
  Turn P w K (.Tuple elts x1 pos) (Ite K a) [e, it] e (fun i h => (∃ old, IsEnum h e it (i : Nat) old) ∧ h.IsListIter it a i) where
 mem := by simp
 obj := fun i h st b hb => by
  obtain ⟨⟨old, he⟩, hit⟩ := st
  rcases List.mem_cons.mp hb with rfl | hb
  ·exact ⟨_, he, fun v z => by
    have z' : Data.fields _ = Data.cell v := z
    cases z'⟩
  ·have q : b = it := by simpa using hb
   subst q
   obtain ⟨o, e, c, d⟩ := hit
   exact ⟨o, e, fun v z => by rw [d] at z; cases z⟩
 keep := fun i h h' ⟨⟨old, he⟩, hit⟩ k => ⟨⟨old, k e (by simp) _ he⟩, hit.at fun o q => k it (by simp) o q⟩
 item := by
  intro X hP hw hK hc i pins s σ H E I hf st hg
  subst hP hw hK
  obtain ⟨⟨old, he⟩, hit⟩ := st
  obtain ⟨xs, x, hq, hx⟩ := hg
  obtain ⟨its, rv, p, hz⟩ := I.list hq
  obtain ⟨u, hu, ru⟩ := rv.get hx
  obtain ⟨f0, f1, f2, f3, f4, f5⟩ := hf e (by simp)
  obtain ⟨g0, g1, g2, g3, g4, g5⟩ := hf it (by simp)
  refine wpAny_pyNext_enum_item he hit p.isList (x := u) (by simpa using hu) hne fun h' heo hit' ht hsz hk => ⟨_, rfl, wpAny_letOwnedTupleGo_enum heo fun h2 he2 hs2 => ?_⟩
  replace hs2 : Heap.SameBut e h' h2 := hs2
  have hel : e < s.heap.objs.size := Heap.lt_size he
  have hit2 : h2.IsListIter it a (i + 1) := hit'.extBut hs2.extBut (Ne.symm hne)
  have ht2 : h2.get? s.heap.objs.size = some { cls := .type "tuple", data := .seq #[.int i s.toks, u] } := (hs2.2 _ (Nat.ne_of_gt hel)).trans ht
  obtain ⟨oi, hoi, ci, di⟩ := id hit
  obtain ⟨oi2, hoi2, ci2, di2⟩ := id hit2
  have hil : it < s.heap.objs.size := Heap.lt_size hoi
  have m1 := Heap.get?_update_self (fun _ => ({ cls := .type "enumerate", dict := none, data := .fields #[.none, .bool false, .ref it, rawInt ((i : Int) + 1), .none, u], slots := #[] } : Obj)) he rfl
  generalize hmid : s.heap.update e (fun _ => ({ cls := .type "enumerate", dict := none, data := .fields #[.none, .bool false, .ref it, rawInt ((i : Int) + 1), .none, u], slots := #[] } : Obj)) = hm at m1
  have o1 : ∀ b o, b ≠ e → s.heap.get? b = some o → hm.get? b = some o := fun b o hb q => by rw [← hmid]; exact (Heap.get?_update_other _ _ (Ne.symm hb)).trans q
  have o1r : ∀ b o, b ≠ e → hm.get? b = some o → s.heap.get? b = some o := fun b o hb q => by rw [← hmid, Heap.get?_update_other _ _ (Ne.symm hb)] at q; exact q
  have z1 : hm.objs.size = s.heap.objs.size := by rw [← hmid, Heap.size_update]
  have m2 := Heap.get?_update_self (fun _ => oi2) (o1 it oi (Ne.symm hne) hoi) (Obj.isFreed_of_fields di2)
  generalize hmid2 : hm.update it (fun _ => oi2) = hn at m2
  have o2 : ∀ b o, b ≠ it → hm.get? b = some o → hn.get? b = some o := fun b o hb q => by rw [← hmid2]; exact (Heap.get?_update_other _ _ (Ne.symm hb)).trans q
  have o2r : ∀ b o, b ≠ it → hn.get? b = some o → hm.get? b = some o := fun b o hb q => by rw [← hmid2, Heap.get?_update_other _ _ (Ne.symm hb)] at q; exact q
  have z2 : hn.objs.size = s.heap.objs.size := by rw [← hmid2, Heap.size_update, z1]
  have I1 : Inv X pins σ H { s with heap := hm } := I.turned (t' := s.toks) o1 f0 f1 f3 f4 f5
  have I2 : Inv X pins σ H { s with heap := hn } := I1.turned (t' := s.toks) o2 g0 g1 g3 g4 g5
  have fin : ∀ b o, hn.get? b = some o → h2.get? b = some o := fun b o q => by
   by_cases be : b = it
   ·subst be; rw [m2] at q; cases q; exact hoi2
   ·have q := o2r b o be q
    by_cases bi : b = e
    ·subst bi; rw [m1] at q; cases q; exact he2
    ·exact hs2.extBut b o bi (hk b o bi be (o1r b o bi q))
  have hfr : H s.heap.objs.size = none := I.hok.fresh (Nat.le_refl _)
  have I3 : Inv X pins σ (upd H s.heap.objs.size (.tup [.int i, x])) { s with heap := h2, toks := s.toks + 1 } :=
   I2.laid (a := s.heap.objs.size) (t' := s.toks + 1) fin (by show hn.objs.size ≤ _; rw [z2]; exact Nat.le_refl _)
    (show ObjOk X.prog X.w _ h2 _ (.tup [.int i, x]) from ⟨by rw [sizeLine_eq]; simp, [.int i s.toks, u], .cons ⟨_, rfl⟩ (.cons ru .nil), ⟨_, ht2, rfl, _, rfl⟩⟩)
  refine ⟨.ref s.heap.objs.size, _, I3, rfl, ⟨_, x, rfl, hfr, rfl, fun ys hy => by rw [I.list_inj hy hq]; exact hx⟩, ⟨⟨u, by simpa using he2⟩, hit2⟩, fun b hb => ?_⟩
  have hb' : b ≠ s.heap.objs.size := by
   rcases List.mem_cons.mp hb with rfl | hb
   ·exact Nat.ne_of_lt hel
   ·have q : b = it := by simpa using hb
    subst q; exact Nat.ne_of_lt hil
  show upd H s.heap.objs.size _ b = none
  rw [upd_ne hb']
  exact (hf b hb).1
 done := by
  intro X hP hw hK hc i pins s σ H E I hf st hg
  subst hP hw hK
  obtain ⟨⟨old, he⟩, hit⟩ := st
  obtain ⟨xs, hq, hx⟩ := hg
  obtain ⟨its, rv, p, hz⟩ := I.list hq
  obtain ⟨g0, g1, g2, g3, g4, g5⟩ := hf it (by simp)
  have hl := rv.length
  exact enum_endH I.hd he hit p.isList (by simp; omega) fun h' eb => ⟨rfl, I.turned (t' := s.toks) (fun b o hb q => eb b o hb q) g0 g1 g3 g4 g5⟩
 self := fun _ _ _ _ _ ⟨⟨old, he⟩, _⟩ h => wpAny_pyIter_enum he h
section
variable {X : Cx} {elts : List Expr} {pos : Pos}
def iEnum (K : PySem.W.Frag) (ta : TA) : TI := fun σ H R => ta σ H fun vs H1 => ∃ a, vs = [.ref a] ∧ (∃ xs, SqL K H1 a xs) ∧ R (Ite K a) H1
theorem pi_enum {l : Expr} {ta : TA} {x1} {p cpos : Pos} (hg : Gl X "enumerate") (hm : X.mg "enumerate" = none) (ha : PA X [l] ta) (hs : starEach [l] X.env = [(false, eval l X.env)] := by rfl) :
  PI X (.Tuple elts x1 pos) (.Call (.Name "enumerate" p) [l] [] cpos) (iEnum X.K ta) := by
 intro pins s σ H R I h
 refine Call_ (ld_blt I hg hm boot_enumerate (PyProof.Rows.callWith_type1 (thn (ha cpos pins s σ H _ I h) fun us s1 ⟨vs, H1, I1, r1, q1⟩ => ?_) hs rfl))
 obtain ⟨a, e, ⟨xs, hq⟩, q⟩ := q1
 subst e
 obtain ⟨u, rfl, rx⟩ := vals1 r1
 cases rx
 obtain ⟨its, rv, pl, hz⟩ := I1.list hq
 refine call_enumerate_list pl.isList fun h' he hit hsz hk => ?_
 refine wpAny_pyIter_enum he ?_
 have hne : s1.heap.objs.size + 1 ≠ s1.heap.objs.size := Nat.succ_ne_self _
 refine ⟨s1.heap.objs.size + 1, [s1.heap.objs.size + 1, s1.heap.objs.size], _, _, H1, rfl, I1.kept (t' := s1.toks) hk, turn_enum a _ _ hne, ⟨⟨_, by simpa using he⟩, hit⟩, fun b hb => ?_, q⟩
 rcases List.mem_cons.mp hb with e | hb
 ·subst e
  exact I1.fpOk (Nat.le_succ _) (I1.hok.fresh (Nat.le_succ _))
 ·have e : b = s1.heap.objs.size := by simpa using hb
  subst e
  exact I1.fpOk (Nat.le_refl _) (I1.hok.fresh (Nat.le_refl _))
theorem for_enum {K : PySem.W.Frag} {a : Addr} {xs : List V} {g : TG} {tb : TS} {D : Ends} {σ : St} {H : Hp} (Pv : Nat → St → Hp → Prop) (h0 : Pv 0 σ H) (hl : ∀ i σ H, i ≤ xs.length → Pv i σ H → SqL K H a xs)
  (hs : ∀ i y σ H p, xs[i]? = some y → Pv i σ H → H p = none → g (.ref p) σ (upd H p (.tup [.int i, y])) fun σ2 H2 => tb { D with nx := Pv (i + 1), ct := Pv (i + 1), bk := D.nx } σ2 H2) (hd : ∀ σ H, Pv xs.length σ H → D.nx σ H) :
  ∃ W : Nat → Nat → St → Hp → Prop, (∃ m, W 0 m σ H) ∧ ∀ i m σ H, W i m σ H →
   ((Ite K a).stop i H ∧ D.nx σ H) ∨ ((Ite K a).go i H ∧ ∃ N : St → Hp → Prop, (∀ σ' H', N σ' H' → ∃ m', m' < m ∧ W (i + 1) m' σ' H') ∧ ∀ x H', (Ite K a).yld i H x H' → g x σ H' fun σ2 H2 => tb { D with nx := N, ct := N, bk := D.nx } σ2 H2) := by
 refine ⟨fun i m σ H => m = xs.length - i ∧ i ≤ xs.length ∧ Pv i σ H, ⟨xs.length, by simp, Nat.zero_le _, h0⟩, ?_⟩
 rintro i m σ H ⟨rfl, hi, p⟩
 have q := hl i σ H hi p
 by_cases hlt : i < xs.length
 ·refine .inr ⟨⟨xs, xs[i], q, by simp [hlt]⟩, Pv (i + 1), fun σ' H' p' => ⟨xs.length - (i + 1), by omega, rfl, hlt, p'⟩, fun x H' y => ?_⟩
  obtain ⟨b, z, e1, e2, e3, e4⟩ := y
  subst e1 e3
  exact hs i z σ H b (e4 xs q) p e2
 ·have e : i = xs.length := by omega
  subst e
  exact .inl ⟨⟨xs, q, Nat.le_refl _⟩, hd σ H p⟩
end
end L2
end
section
set_option Elab.async false
set_option linter.all false
set_option maxRecDepth 100000
namespace L2
open PySem PySem.Spec PySem.Calls PyProof.Rows
section
variable {X : Cx} {pins : List (Addr × Obj)} {σ : St} {H : Hp} {s : Shared}
theorem kit_of {x : V} {u t : Value} (I : Inv X pins σ H s) (rx : RelV x u) (ty : TyOf X.K H x t) : ∃ P : Heap → Prop, PySem.W.KitX X.K u t P ∧ P s.heap ∧ u ≠ .builtin "__main__.__loader__#opaque" := by
 cases ty with
 | non => cases (show u = Value.none from rx); exact ⟨_, PySem.W.kitx_none, True.intro, fun z => nomatch z⟩
 | bl y => cases (show u = Value.bool y from rx); exact ⟨_, PySem.W.kitx_bool, True.intro, fun z => nomatch z⟩
 | int i => obtain ⟨t, q⟩ := (show ∃ t, u = Value.int i t from rx); cases q; exact ⟨_, PySem.W.kitx_int, True.intro, fun z => nomatch z⟩
 | str y => obtain ⟨t, q⟩ := (show ∃ t, u = Value.str y t from rx); cases q; exact ⟨_, PySem.W.kitx_str, True.intro, fun z => nomatch z⟩
 | flt y => obtain ⟨t, q⟩ := (show ∃ t, u = Value.float y t from rx); cases q; exact ⟨_, PySem.W.kitx_float, True.intro, fun z => nomatch z⟩
 | @lst a xs ea =>
  cases (show u = Value.ref a from rx)
  obtain ⟨_, _, n, _, h1⟩ := (show ObjOk X.prog X.w H s.heap a (.lst xs) from I.hok a _ ea)
  exact ⟨_, PySem.W.kitx_list, ⟨_, h1, rfl⟩, fun z => nomatch z⟩
 | @frz a ob xs ea =>
  cases (show u = Value.ref a from rx)
  obtain ⟨_, _, _, n, _, h1⟩ := (show ObjOk X.prog X.w H s.heap a (.frz ob (.lst xs)) from I.hok a _ ea)
  exact ⟨_, PySem.W.kitx_list, ⟨_, h1, rfl⟩, fun z => nomatch z⟩
 | @tup a xs ea =>
  cases (show u = Value.ref a from rx)
  obtain ⟨_, _, _, p⟩ := (show ObjOk X.prog X.w H s.heap a (.tup xs) from I.hok a _ ea)
  obtain ⟨o, h1, h2, _⟩ := p
  exact ⟨_, PySem.W.kitx_tuple, ⟨o, h1, h2⟩, fun z => nomatch z⟩
 | @dK a kvs ea =>
  cases (show u = Value.ref a from rx)
  obtain ⟨_, _, vs, _, p⟩ := (show ObjOk X.prog X.w H s.heap a (.dK kvs) from I.hok a _ ea)
  obtain ⟨o, es, ep, h1, h2, _⟩ := p
  exact ⟨_, PySem.W.kitx_dict, ⟨o, h1, h2.1⟩, fun z => nomatch z⟩
 | @dT a kvs ea =>
  cases (show u = Value.ref a from rx)
  obtain ⟨_, _, xs, _, o, es, ep, h1, h2, _⟩ := (show ObjOk X.prog X.w H s.heap a (.dT kvs) from I.hok a _ ea)
  exact ⟨_, PySem.W.kitx_dict, ⟨o, h1, h2.1⟩, fun z => nomatch z⟩
 | @exc a C ea F =>
  cases (show u = Value.ref a from rx)
  obtain ⟨oe, vs, h1, h2, h3, h4, _⟩ := (show ObjOk X.prog X.w H s.heap a (.exc (.ref C)) from I.hok a _ ea)
  refine ⟨_, kitx_exc F, ⟨oe, h1, h2, ?_, ?_⟩, fun z => nomatch z⟩
  ·unfold PySem.W.notCls; rw [h4]
  ·rw [h3]; trivial
 | @ins a C dx fs ea cl ha hn htk hm =>
  cases (show u = Value.ref a from rx)
  obtain ⟨mA, O, _⟩ := ins_get I.hok ea
  obtain ⟨od, J, _⟩ := O.look
  exact ⟨_, PySem.W.kitx_own (cl.get _) cl.hd ha hn htk hm, J, fun z => nomatch z⟩
theorem refs_of : ∀ {cs : List Addr} {us : List Value}, Vals (cs.map V.ref) us → us = cs.map Value.ref
 | [], _, .nil => rfl
 | c :: cs, _, .cons (b := u) r1 r2 => by rw [List.map_cons, ← refs_of r2, show u = Value.ref c from r1]
def rIsinT (K : PySem.W.Frag) : List V → Hp → VK → Prop := fun xs H Q => ∃ (x : V) (p : Addr) (cs : List Addr) (t : Value) (b : Bool), xs = [x, .ref p] ∧ H p = some (.tup (cs.map V.ref)) ∧ TyOf K H x t ∧ PySem.W.kitAny K t (cs.map Value.ref) = some b ∧ Q (.bl b) H
theorem call_isinstT : CallR X (.builtin "isinstance") (rIsinT X.K) := by
 intro pins s σ H xs us Q I r ⟨x, p, cs, t, b, e, ep, ty, ek, q⟩
 subst e
 obtain ⟨u, w', rfl, ru, rw'⟩ := vals2 r
 cases (show w' = Value.ref p from rw')
 obtain ⟨P, Z, hp, hx⟩ := kit_of I ru ty
 obtain ⟨_, its, rv, ot, h1, h2, n, h3⟩ := (show ObjOk X.prog X.w H s.heap p (.tup (cs.map V.ref)) from I.hok p _ ep)
 have e := refs_of rv
 subst e
 obtain ⟨c0, dd, dt, sl⟩ := ot
 have h2 : c0 = .type "tuple" := h2
 have h3 : dt = .seq _ n := h3
 subst h2 h3
 exact PySem.W.kia_tup Z I.kIn hp h1 ek hx fun tk => ⟨.bl b, H, I.tok tk, rfl, q⟩
theorem call_isinstTK {K : PySem.W.Frag} (h : X.K = K) : CallR X (.builtin "isinstance") (rIsinT K) := by subst h; exact call_isinstT
end
end L2
end
section
set_option Elab.async false
set_option linter.all false
set_option maxRecDepth 100000
namespace So
open PySem PyProof.Rows
structure SG (a₀ : Array Keyed) (st : SortSt) : Prop where
 perm : (arrOf st).Perm a₀
 kind : kindOf st = oneType'
 failed : failedOf st = none
def key (p : Keyed) : Int := numOf p.1
def IntK (p : Keyed) : Prop := ∃ n t, p.1 = .int n t
section
variable {prog : Program} {w : World} {A : Around} {E : Value → Shared → Prop} {s : Shared} {a₀ : Array Keyed}
theorem wpS_lt {st : SortSt} {x y : Keyed} {Q : Option Bool → SortSt → Prop} (hk : kindOf st = oneType') (hx : IntK x) (hy : IntK y) (h : Q (some (decide (key x < key y))) st) :
  wpS (model prog w) A E s (lt' x y) Q st := by
 obtain ⟨a, p⟩ := x
 obtain ⟨b, q⟩ := y
 obtain ⟨n, t, e1⟩ := hx
 obtain ⟨m, u, e2⟩ := hy
 simp only at e1 e2
 subst e1 e2
 rw [lt'_eq]
 refine wpS_bind (wpS_get ?_)
 rw [hk, keyLt'_oneType]
 refine wpS_bind (wpS_lift (wpAny_attempt (oneLt_int ⟨rfl, ?_⟩)))
 exact wpS_pure h
theorem wpS_elem {st : SortSt} {xs : Array Keyed} {i : Nat} {Q : Keyed → SortSt → Prop} (hi : i < xs.size) (h : Q xs[i] st) : wpS (model prog w) A E s (elem' xs i) Q st := by
 rw [elem'_eq, getElem?_pos xs i hi]
 exact wpS_pure h
end
def gallop' : Bool → Keyed → Array Keyed → Nat → Nat → Nat → StateT SortSt Sem (Option Nat) := sortPriv% PySem.Builtin.gallop
def beyond' (left : Bool) (k : Keyed) (arr : Array Keyed) (base i : Nat) : StateT SortSt Sem (Option Bool) := do
 let x ← elem' arr (base + i)
 if left then lt' x k else return (← lt' k x).map (!·)
def Bey (left : Bool) (k : Int) (x : Int) : Prop := if left then x < k else x ≤ k
instance (left : Bool) (k x : Int) : Decidable (Bey left k x) := by unfold Bey; infer_instance
section
variable {prog : Program} {w : World} {A : Around} {E : Value → Shared → Prop} {s : Shared} {a₀ : Array Keyed}
theorem wpS_beyond {st : SortSt} {left : Bool} {k : Keyed} {arr : Array Keyed} {base i : Nat} {Q : Option Bool → SortSt → Prop} (hk : kindOf st = oneType') (hi : base + i < arr.size) (h1 : IntK k) (h2 : IntK arr[base + i])
  (h : Q (some (decide (Bey left (key k) (key arr[base + i])))) st) : wpS (model prog w) A E s (beyond' left k arr base i) Q st := by
 unfold beyond'
 refine wpS_bind (wpS_elem hi ?_)
 cases left with
 | true => exact wpS_lt hk h2 h1 h
 | false =>
  refine wpS_bind (wpS_lt hk h1 h2 (wpS_pure ?_))
  have e : (Option.map (fun x => !x) (some (decide (key k < key arr[base + i])))) = some (decide (Bey false (key k) (key arr[base + i]))) := by
   unfold Bey
   simp only [Option.map_some, Bool.false_eq_true, if_false]
   congr 1
   rw [← decide_not]
   exact decide_eq_decide.mpr (by omega)
  rw [e]
  exact h
end
end So
end
section
set_option Elab.async false
set_option linter.all false
set_option maxRecDepth 100000
namespace So
open PySem PyProof.Rows
section
variable {prog : Program} {w : World} {A : Around} {E : Value → Shared → Prop} {s : Shared} {a₀ : Array Keyed}
theorem wpS_gallop {st : SortSt} {left : Bool} {k : Keyed} {arr : Array Keyed} {base n hint : Nat} {Q : Option Nat → SortSt → Prop} (hk : kindOf st = oneType') (hn : base + n ≤ arr.size) (hh : hint < n) (h1 : IntK k) (h2 : ∀ (i : Nat) (hi : i < arr.size), IntK arr[i])
  (P : Nat → Prop) (hP : ∀ (i : Nat) (hi : base + i < arr.size), P i ↔ Bey left (key k) (key arr[base + i])) (anti : ∀ i j, i ≤ j → j < n → P j → P i)
  (h : ∀ m, m ≤ n → (∀ i, i < m → P i) → (∀ i, m ≤ i → i < n → ¬ P i) → Q (some m) st) : wpS (model prog w) A E s (gallop' left k arr base n hint) Q st := by
 have beyond : ∀ {i : Nat} {Q' : Option Bool → SortSt → Prop}, i < n → (P i → Q' (some true) st) → (¬ P i → Q' (some false) st) → wpS (model prog w) A E s (beyond' left k arr base i) Q' st := by
  intro i Q' hi ht hf
  refine wpS_beyond hk (by omega) h1 (h2 _ (by omega)) ?_
  have e := hP i (by omega)
  by_cases p : P i
  ·rw [decide_eq_true (e.mp p)]; exact ht p
  ·rw [decide_eq_false (fun q => p (e.mpr q))]; exact hf p
 delta gallop'
 try dsimp only
 refine wpS_bind (beyond hh (fun p => ?_) (fun p => ?_))
 ·dsimp only
  rw [if_pos rfl]
  refine wpS_bind (wpS_mono (wpS_forRange (I := fun x c st' => st' = st ∧ ∃ lf o, c = (none, lf, o) ∧ x + 1 ≤ o ∧ lf < o ∧ lf < n - hint ∧ P (hint + lf))
   (Q := fun c st' => st' = st ∧ ∃ lf o, c = (none, lf, o) ∧ lf < o ∧ lf < n - hint ∧ P (hint + lf) ∧ (n - hint ≤ o ∨ ¬ P (hint + o))) ?_ ?_ ⟨rfl, 0, 1, rfl, by omega, by omega, by omega, p⟩) ?_)
  ·rintro x c st' - hx ⟨rfl, lf, o, rfl, h3, h4, h5, h6⟩
   dsimp only
   by_cases hge : o ≥ n - hint
   ·rw [if_pos hge]
    exact wpS_pure ⟨rfl, lf, o, rfl, h4, h5, h6, .inl hge⟩
   ·rw [if_neg hge]
    refine wpS_bind (beyond (by omega) (fun p => ?_) (fun p => ?_))
    ·dsimp only
     rw [if_neg (by decide)]
     exact wpS_pure ⟨rfl, _, _, rfl, by omega, by omega, by omega, p⟩
    ·dsimp only
     rw [if_pos (by decide)]
     exact wpS_pure ⟨rfl, _, _, rfl, h4, h5, h6, .inr p⟩
  ·rintro c st' ⟨rfl, lf, o, rfl, h3, h4, h5, h6⟩
   exact ⟨rfl, lf, o, rfl, h4, h5, h6, .inl (by omega)⟩
  ·rintro c st' ⟨rfl, lf, o, rfl, h4, h5, h6, h7⟩
   dsimp only
   have hlh : hint + lf + 1 ≤ hint + min o (n - hint) := by omega
   have hhn : hint + min o (n - hint) ≤ n := by omega
   have b1 : ∀ i, i < hint + lf + 1 → P i := fun i hi => anti i (hint + lf) (by omega) (by omega) h6
   have b2 : ∀ i, hint + min o (n - hint) ≤ i → i < n → ¬ P i := fun i h1' h2' q => by
    rcases h7 with h7 | h7
    ·omega
    ·by_cases ho : o < n - hint
     ·exact h7 (anti (hint + o) i (by omega) h2' q)
     ·omega
   refine wpS_bind (wpS_forRange (I := fun x c sx => sx = st' ∧ ∃ lo hi, c = (none, lo, hi) ∧ lo ≤ hi ∧ hi ≤ n ∧ hi - lo ≤ n - x ∧ (∀ i, i < lo → P i) ∧ (∀ i, hi ≤ i → i < n → ¬ P i)) ?_ ?_ ⟨rfl, _, _, rfl, hlh, hhn, by omega, b1, b2⟩)
   ·rintro x c st' - hx ⟨rfl, lo, hi, rfl, hlh, hhn, hm, b1, b2⟩
    dsimp only
    by_cases hge : lo ≥ hi
    ·rw [if_pos hge]
     have : lo = hi := by omega
     subst this
     exact wpS_pure (wpS_pure (h lo hhn b1 b2))
    ·rw [if_neg hge]
     refine wpS_bind (beyond (by omega) (fun p => ?_) (fun p => ?_))
     ·dsimp only
      rw [if_pos rfl]
      exact wpS_pure ⟨rfl, _, _, rfl, by omega, hhn, by omega, fun i hi' => anti i _ (by omega) (by omega) p, b2⟩
     ·dsimp only
      rw [if_neg (by decide)]
      exact wpS_pure ⟨rfl, _, _, rfl, by omega, by omega, by omega, b1, fun i h1' h2' q => p (anti _ i (by omega) h2' q)⟩
   ·rintro c st' ⟨rfl, lo, hi, rfl, hlh, hhn, hm, b1, b2⟩
    have : lo = hi := by omega
    subst this
    exact wpS_pure (h lo hhn b1 b2)
 ·dsimp only
  rw [if_neg (by decide)]
  refine wpS_bind (wpS_mono (wpS_forRange (I := fun x c st' => st' = st ∧ ∃ lf o, c = (none, lf, o) ∧ x + 1 ≤ o ∧ lf < o ∧ lf < hint + 1 ∧ ¬ P (hint - lf))
   (Q := fun c st' => st' = st ∧ ∃ lf o, c = (none, lf, o) ∧ lf < o ∧ lf < hint + 1 ∧ ¬ P (hint - lf) ∧ (hint + 1 ≤ o ∨ P (hint - o))) ?_ ?_ ⟨rfl, 0, 1, rfl, by omega, by omega, by omega, p⟩) ?_)
  ·rintro x c st' - hx ⟨rfl, lf, o, rfl, h3, h4, h5, h6⟩
   dsimp only
   by_cases hge : o ≥ hint + 1
   ·rw [if_pos hge]
    exact wpS_pure ⟨rfl, lf, o, rfl, h4, h5, h6, .inl hge⟩
   ·rw [if_neg hge]
    refine wpS_bind (beyond (by omega) (fun p => ?_) (fun p => ?_))
    ·dsimp only
     rw [if_pos rfl]
     exact wpS_pure ⟨rfl, _, _, rfl, h4, h5, h6, .inr p⟩
    ·dsimp only
     rw [if_neg (by decide)]
     exact wpS_pure ⟨rfl, _, _, rfl, by omega, by omega, by omega, p⟩
  ·rintro c st' ⟨rfl, lf, o, rfl, h3, h4, h5, h6⟩
   exact ⟨rfl, lf, o, rfl, h4, h5, h6, .inl (by omega)⟩
  ·rintro c st' ⟨rfl, lf, o, rfl, h4, h5, h6, h7⟩
   dsimp only
   have hlh : hint + 1 - min o (hint + 1) ≤ hint - lf := by omega
   have hhn : hint - lf ≤ n := by omega
   have b1 : ∀ i, i < hint + 1 - min o (hint + 1) → P i := fun i hi => by
    rcases h7 with h7 | h7
    ·omega
    ·by_cases ho : o < hint + 1
     ·exact anti i (hint - o) (by omega) (by omega) h7
     ·omega
   have b2 : ∀ i, hint - lf ≤ i → i < n → ¬ P i := fun i h1' h2' q => h6 (anti (hint - lf) i (by omega) h2' q)
   refine wpS_bind (wpS_forRange (I := fun x c sx => sx = st' ∧ ∃ lo hi, c = (none, lo, hi) ∧ lo ≤ hi ∧ hi ≤ n ∧ hi - lo ≤ n - x ∧ (∀ i, i < lo → P i) ∧ (∀ i, hi ≤ i → i < n → ¬ P i)) ?_ ?_ ⟨rfl, _, _, rfl, hlh, hhn, by omega, b1, b2⟩)
   ·rintro x c st' - hx ⟨rfl, lo, hi, rfl, hlh, hhn, hm, b1, b2⟩
    dsimp only
    by_cases hge : lo ≥ hi
    ·rw [if_pos hge]
     have : lo = hi := by omega
     subst this
     exact wpS_pure (wpS_pure (h lo hhn b1 b2))
    ·rw [if_neg hge]
     refine wpS_bind (beyond (by omega) (fun p => ?_) (fun p => ?_))
     ·dsimp only
      rw [if_pos rfl]
      exact wpS_pure ⟨rfl, _, _, rfl, by omega, hhn, by omega, fun i hi' => anti i _ (by omega) (by omega) p, b2⟩
     ·dsimp only
      rw [if_neg (by decide)]
      exact wpS_pure ⟨rfl, _, _, rfl, by omega, by omega, by omega, b1, fun i h1' h2' q => p (anti _ i (by omega) h2' q)⟩
   ·rintro c st' ⟨rfl, lo, hi, rfl, hlh, hhn, hm, b1, b2⟩
    have : lo = hi := by omega
    subst this
    exact wpS_pure (h lo hhn b1 b2)
end
end So
end
section
set_option Elab.async false
set_option linter.all false
set_option maxRecDepth 100000
namespace So
open PySem PyProof.Rows
abbrev setG (st : SortSt) (g : Nat) : SortSt := SortSt.mk' (kindOf st) (arrOf st) (pendingOf st) g (failedOf st)
def mergeLo' : Array Keyed → Array Keyed → StateT SortSt Sem (Array Keyed) := sortPriv% PySem.Builtin.mergeLo
def Srt (l : List Keyed) : Prop := l.Pairwise fun p q => key p ≤ key q
def Res (a b m : Array Keyed) : Prop := m.toList.Perm (a.toList ++ b.toList) ∧ Srt m.toList
structure LoI (a b out : Array Keyed) (ia ib : Nat) : Prop where
 perm : (out.toList ++ (a.toList.drop ia ++ b.toList.drop ib)).Perm (a.toList ++ b.toList)
 sa : Srt (out.toList ++ a.toList.drop ia)
 sb : Srt (out.toList ++ b.toList.drop ib)
theorem srt_app {x y : List Keyed} : Srt (x ++ y) ↔ Srt x ∧ Srt y ∧ ∀ p ∈ x, ∀ q ∈ y, key p ≤ key q := List.pairwise_append
theorem ext_toList (a : Array Keyed) (i j : Nat) : (a.extract i j).toList = (a.toList.drop i).take (j - i) := by
 rw [Array.toList_extract, List.extract_eq_drop_take]
theorem ext_rest (a : Array Keyed) (i : Nat) : (a.extract i a.size).toList = a.toList.drop i := by
 rw [ext_toList, List.take_of_length_le (by simp)]
theorem drop_at {a : Array Keyed} {i : Nat} (h : i < a.size) : a.toList.drop i = a[i] :: a.toList.drop (i + 1) := by
 rw [List.drop_eq_getElem_cons (by simpa using h)]; simp
section
variable {a b out : Array Keyed} {ia ib : Nat}
theorem LoI.moveA {x ra : List Keyed} {o : Array Keyed} {ia' : Nat} (h : LoI a b out ia ib) (e : a.toList.drop ia = x ++ ra) (eo : o.toList = out.toList ++ x) (er : a.toList.drop ia' = ra) (hx : ∀ p ∈ x, ∀ q ∈ b.toList.drop ib, key p ≤ key q) : LoI a b o ia' ib := by
 obtain ⟨h1, h2, h3⟩ := h
 rw [e] at h1 h2
 refine ⟨?_, ?_, ?_⟩
 ·rw [eo, er]; simpa [List.append_assoc] using h1
 ·rw [eo, er]; simpa [List.append_assoc] using h2
 ·rw [eo]
  rw [srt_app] at h2 h3 ⊢
  obtain ⟨a1, a2, a3⟩ := h2
  obtain ⟨b1, b2, b3⟩ := h3
  refine ⟨srt_app.mpr ⟨a1, (srt_app.mp a2).1, fun p hp q hq => a3 p hp q (List.mem_append_left _ hq)⟩, b2, fun p hp q hq => ?_⟩
  rcases List.mem_append.mp hp with hp | hp
  ·exact b3 p hp q hq
  ·exact hx p hp q hq
theorem LoI.moveB {x rb : List Keyed} {o : Array Keyed} {ib' : Nat} (h : LoI a b out ia ib) (e : b.toList.drop ib = x ++ rb) (eo : o.toList = out.toList ++ x) (er : b.toList.drop ib' = rb) (hx : ∀ p ∈ x, ∀ q ∈ a.toList.drop ia, key p ≤ key q) : LoI a b o ia ib' := by
 obtain ⟨h1, h2, h3⟩ := h
 rw [e] at h1 h3
 refine ⟨?_, ?_, ?_⟩
 ·rw [eo, er]
  refine List.Perm.trans ?_ h1
  rw [List.append_assoc]
  refine List.Perm.append_left _ ?_
  rw [← List.append_assoc, ← List.append_assoc]
  exact List.Perm.append_right _ List.perm_append_comm
 ·rw [eo]
  rw [srt_app] at h2 h3 ⊢
  obtain ⟨a1, a2, a3⟩ := h3
  obtain ⟨b1, b2, b3⟩ := h2
  refine ⟨srt_app.mpr ⟨a1, (srt_app.mp a2).1, fun p hp q hq => a3 p hp q (List.mem_append_left _ hq)⟩, b2, fun p hp q hq => ?_⟩
  rcases List.mem_append.mp hp with hp | hp
  ·exact b3 p hp q hq
  ·exact hx p hp q hq
 ·rw [eo, er]; simpa [List.append_assoc] using h3
theorem srt_head {x : Keyed} {l : List Keyed} (h : Srt (x :: l)) : ∀ q ∈ x :: l, key x ≤ key q := by
 intro q hq
 rcases List.mem_cons.mp hq with rfl | hq
 ·exact Int.le_refl _
 ·exact (List.pairwise_cons.mp h).1 q hq
theorem LoI.headA (h : LoI a b out ia ib) (ha : ia < a.size) : ∀ q ∈ a.toList.drop ia, key a[ia] ≤ key q := by
 have := (srt_app.mp h.sa).2.1
 rw [drop_at ha] at this ⊢
 exact srt_head this
theorem LoI.headB (h : LoI a b out ia ib) (hb : ib < b.size) : ∀ q ∈ b.toList.drop ib, key b[ib] ≤ key q := by
 have := (srt_app.mp h.sb).2.1
 rw [drop_at hb] at this ⊢
 exact srt_head this
theorem LoI.pushB (h : LoI a b out ia ib) (hb : ib < b.size) (ha : ia < a.size) (hk : key b[ib] ≤ key a[ia]) : LoI a b (out.push b[ib]) ia (ib + 1) :=
 h.moveB (x := [b[ib]]) (drop_at hb) (by simp) rfl fun p hp q hq => by
  rw [List.mem_singleton.mp hp]; exact Int.le_trans hk (h.headA ha q hq)
theorem LoI.pushA (h : LoI a b out ia ib) (ha : ia < a.size) (hb : ib < b.size) (hk : key a[ia] ≤ key b[ib]) : LoI a b (out.push a[ia]) (ia + 1) ib :=
 h.moveA (x := [a[ia]]) (drop_at ha) (by simp) rfl fun p hp q hq => by
  rw [List.mem_singleton.mp hp]; exact Int.le_trans hk (h.headB hb q hq)
theorem LoI.runA {k : Nat} (h : LoI a b out ia ib) (hb : ib < b.size) (hk : ∀ (i : Nat) (hi : ia + i < a.size), i < k → key a[ia + i] ≤ key b[ib]) : LoI a b (out ++ a.extract ia (ia + k)) (ia + k) ib := by
 refine h.moveA (x := (a.toList.drop ia).take k) (ra := a.toList.drop (ia + k)) ?_ ?_ rfl fun p hp q hq => ?_
 ·rw [← List.drop_drop, List.take_append_drop]
 ·rw [Array.toList_append, ext_toList, Nat.add_sub_cancel_left]
 ·obtain ⟨i, hi, e⟩ := List.mem_take_iff_getElem.mp hp
  rw [List.length_drop, Array.length_toList] at hi
  have e' : a[ia + i]'(by omega) = p := by rw [← e]; simp
  rw [← e']
  exact Int.le_trans (hk i (by omega) (by omega)) (h.headB hb q hq)
theorem LoI.runB {k : Nat} (h : LoI a b out ia ib) (ha : ia < a.size) (hk : ∀ (i : Nat) (hi : ib + i < b.size), i < k → key b[ib + i] ≤ key a[ia]) : LoI a b (out ++ b.extract ib (ib + k)) ia (ib + k) := by
 refine h.moveB (x := (b.toList.drop ib).take k) (rb := b.toList.drop (ib + k)) ?_ ?_ rfl fun p hp q hq => ?_
 ·rw [← List.drop_drop, List.take_append_drop]
 ·rw [Array.toList_append, ext_toList, Nat.add_sub_cancel_left]
 ·obtain ⟨i, hi, e⟩ := List.mem_take_iff_getElem.mp hp
  rw [List.length_drop, Array.length_toList] at hi
  have e' : b[ib + i]'(by omega) = p := by rw [← e]; simp
  rw [← e']
  exact Int.le_trans (hk i (by omega) (by omega)) (h.headA ha q hq)
theorem LoI.doneB (h : LoI a b out ia ib) (hb : ib = b.size) : Res a b (out ++ a.extract ia a.size ++ b.extract ib b.size) := by
 subst hb
 have e : b.toList.drop b.size = [] := List.drop_of_length_le (by simp)
 obtain ⟨h1, h2, h3⟩ := h
 rw [e, List.append_nil] at h1
 unfold Res
 rw [Array.toList_append, Array.toList_append, ext_rest, ext_rest, e, List.append_nil]
 exact ⟨h1, h2⟩
theorem LoI.doneA (h : LoI a b out ia ib) (ha : ia = a.size) : Res a b (out ++ a.extract ia a.size ++ b.extract ib b.size) := by
 subst ha
 have e : a.toList.drop a.size = [] := List.drop_of_length_le (by simp)
 obtain ⟨h1, h2, h3⟩ := h
 rw [e, List.nil_append] at h1
 unfold Res
 rw [Array.toList_append, Array.toList_append, ext_rest, ext_rest, e, List.append_nil]
 exact ⟨h1, h3⟩
theorem LoI.lastA (h : LoI a b out ia ib) (ha : ia + 1 = a.size) (hl : ∀ p ∈ b.toList, ∀ (hi : a.size - 1 < a.size), key p ≤ key a[a.size - 1]) : Res a b (out ++ b.extract ib b.size ++ a.extract ia a.size) := by
 have hlt : ia < a.size := by omega
 have e : a.toList.drop ia = [a[ia]] := by rw [drop_at hlt, List.drop_of_length_le (by simp; omega)]
 have e2 : a[ia] = a[a.size - 1]'(by omega) := by congr 1; omega
 obtain ⟨h1, h2, h3⟩ := h
 unfold Res
 rw [Array.toList_append, Array.toList_append, ext_rest, ext_rest]
 constructor
 ·refine List.Perm.trans ?_ h1
  rw [List.append_assoc]
  exact List.Perm.append_left _ List.perm_append_comm
 ·rw [e] at h2 ⊢
  rw [srt_app] at h2 ⊢
  refine ⟨h3, h2.2.1, fun p hp q hq => ?_⟩
  rcases List.mem_append.mp hp with hp | hp
  ·exact h2.2.2 p hp q hq
  ·rw [List.mem_singleton.mp hq, e2]
   exact hl p (List.mem_of_mem_drop hp) (by omega)
end
end So
end
section
set_option Elab.async false
set_option linter.all false
set_option maxRecDepth 100000
set_option maxHeartbeats 4000000
namespace So
open PySem PyProof.Rows
def Eqv (st sx : SortSt) : Prop := ∃ g, sx = setG st g
theorem Eqv.refl (st : SortSt) : Eqv st st := ⟨gallopOf st, rfl⟩
theorem Eqv.set {st sx : SortSt} (h : Eqv st sx) (g : Nat) : Eqv st (setG sx g) := by obtain ⟨g', rfl⟩ := h; exact ⟨g, rfl⟩
theorem Eqv.kind {st sx : SortSt} (h : Eqv st sx) (hk : kindOf st = oneType') : kindOf sx = oneType' := by obtain ⟨g', rfl⟩ := h; exact hk
def LoG (a b out : Array Keyed) (ia ib n : Nat) : Prop := LoI a b out ia ib ∧ ia + 1 < a.size ∧ ib < b.size ∧ n ≤ ia + ib
section
variable {prog : Program} {w : World} {A : Around} {E : Value → Shared → Prop} {s : Shared}
variable {a b : Array Keyed}
theorem srt_idx {a : Array Keyed} (h : Srt a.toList) {i j : Nat} (hij : i ≤ j) (hj : j < a.size) : key a[i] ≤ key a[j] := by
 by_cases e : i = j
 ·subst e; exact Int.le_refl _
 ·have := List.pairwise_iff_getElem.mp h i j (by simp; omega) (by simpa using hj) (by omega)
  simpa using this
theorem gallopR {st : SortSt} {ia ib : Nat} {Q : Option Nat → SortSt → Prop} (hk : kindOf st = oneType') (ka : ∀ (i : Nat) (hi : i < a.size), IntK a[i]) (kb : ∀ (i : Nat) (hi : i < b.size), IntK b[i]) (sa : Srt a.toList) (h1 : ia < a.size) (h2 : ib < b.size)
  (h : ∀ m, ia + m ≤ a.size → (∀ (i : Nat) (hi : ia + i < a.size), i < m → key a[ia + i] ≤ key b[ib]) → (∀ (i : Nat) (hi : ia + i < a.size), m ≤ i → key b[ib] ≤ key a[ia + i]) → Q (some m) st) : wpS (model prog w) A E s (gallop' false b[ib] a ia (a.size - ia) 0) Q st := by
 refine wpS_gallop hk (by omega) (by omega) (kb _ h2) ka (fun i => ∃ hi : ia + i < a.size, key a[ia + i] ≤ key b[ib]) (fun i hi => ?_) (fun i j hij hj => ?_) fun m h3 h4 h5 => ?_
 ·unfold Bey
  simp only [Bool.false_eq_true, if_false]
  exact ⟨fun ⟨_, q⟩ => q, fun q => ⟨hi, q⟩⟩
 ·rintro ⟨hi, q⟩
  exact ⟨by omega, Int.le_trans (srt_idx sa (by omega) hi) q⟩
 ·refine h m (by omega) (fun i hi him => (h4 i him).2) fun i hi him => ?_
  have : ¬ key a[ia + i] ≤ key b[ib] := fun q => h5 i him (by omega) ⟨hi, q⟩
  omega
theorem gallopL {st : SortSt} {ia ib : Nat} {Q : Option Nat → SortSt → Prop} (hk : kindOf st = oneType') (ka : ∀ (i : Nat) (hi : i < a.size), IntK a[i]) (kb : ∀ (i : Nat) (hi : i < b.size), IntK b[i]) (sb : Srt b.toList) (h1 : ia < a.size) (h2 : ib < b.size)
  (h : ∀ m, ib + m ≤ b.size → (∀ (i : Nat) (hi : ib + i < b.size), i < m → key b[ib + i] ≤ key a[ia]) → (∀ (i : Nat) (hi : ib + i < b.size), m ≤ i → key a[ia] ≤ key b[ib + i]) → Q (some m) st) : wpS (model prog w) A E s (gallop' true a[ia] b ib (b.size - ib) 0) Q st := by
 refine wpS_gallop hk (by omega) (by omega) (ka _ h1) kb (fun i => ∃ hi : ib + i < b.size, key b[ib + i] < key a[ia]) (fun i hi => ?_) (fun i j hij hj => ?_) fun m h3 h4 h5 => ?_
 ·unfold Bey
  simp only [if_true]
  exact ⟨fun ⟨_, q⟩ => q, fun q => ⟨hi, q⟩⟩
 ·rintro ⟨hi, q⟩
  exact ⟨by omega, Int.lt_of_le_of_lt (srt_idx sb (by omega) hi) q⟩
 ·refine h m (by omega) (fun i hi him => Int.le_of_lt (h4 i him).2) fun i hi him => ?_
  have : ¬ key b[ib + i] < key a[ia] := fun q => h5 i him (by omega) ⟨hi, q⟩
  omega
theorem wpS_mergeLo {st : SortSt} {Q : Array Keyed → SortSt → Prop} (hk : kindOf st = oneType') (ka : ∀ (i : Nat) (hi : i < a.size), IntK a[i]) (kb : ∀ (i : Nat) (hi : i < b.size), IntK b[i]) (sa : Srt a.toList) (sb : Srt b.toList) (ha : 1 ≤ a.size) (hb : 1 ≤ b.size)
  (hfirst : key b[0] ≤ key a[0]) (hl : ∀ p ∈ b.toList, ∀ (hi : a.size - 1 < a.size), key p ≤ key a[a.size - 1]) (h : ∀ m sx, Eqv st sx → Res a b m → Q m sx) : wpS (model prog w) A E s (mergeLo' a b) Q st := by
 delta mergeLo'
 try dsimp only
 refine wpS_bind (wpS_lift (wpAny_rule ⟨rfl, ?_⟩))
 refine wpS_bind (wpS_elem (by omega) ?_)
 have h0 : LoI a b #[] 0 0 := ⟨by simp, by simpa using sa, by simpa using sb⟩
 have h1 : LoI a b #[b[0]] 0 1 := h0.pushB (by omega) (by omega) hfirst
 try dsimp only
 by_cases e1 : 1 = b.size
 ·rw [if_pos (by simpa using e1)]
  exact wpS_pure (h _ _ (Eqv.refl st) (h1.doneB e1))
 rw [if_neg (by simpa using e1)]
 by_cases e2 : 0 + 1 = a.size
 ·rw [if_pos (by simpa using e2)]
  exact wpS_pure (h _ _ (Eqv.refl st) (h1.lastA e2 hl))
 rw [if_neg (by simpa using e2)]
 refine wpS_bind (wpS_get ?_)
 refine wpS_bind (wpS_mono (wpS_forRange (I := fun x c sx => Eqv st sx ∧ ∃ out ia ib mg, c = (none, out, ia, ib, mg) ∧ LoG a b out ia ib x) (Q := fun c sx => Eqv st sx ∧ ∃ m d, c = (some m, d) ∧ Res a b m) ?_ ?_ ⟨Eqv.refl st, _, _, _, _, rfl, h1, by omega, by omega, by omega⟩) ?_)
 ·rintro n c sx - hx ⟨hv, out, ia, ib, mg, rfl, hG⟩
  try dsimp only
  refine wpS_bind (wpS_mono (wpS_forRange (I := fun x c sy => sy = sx ∧ ∃ out ia ib ac bc, c = (none, out, ia, ib, ac, bc) ∧ LoG a b out ia ib n)
   (Q := fun c sy => sy = sx ∧ ((∃ m d, c = (some m, d) ∧ Res a b m) ∨ ∃ out ia ib ac bc, c = (none, out, ia, ib, ac, bc) ∧ LoG a b out ia ib n)) ?_ ?_ ⟨rfl, _, _, _, _, _, rfl, hG⟩) ?_)
  ·rintro x c sy - hx ⟨rfl, out, ia, ib, ac, bc, rfl, hI, h1, h2, h3⟩
   try dsimp only
   refine wpS_bind (wpS_elem h2 (wpS_bind (wpS_elem (by omega) (wpS_bind (wpS_lt (hv.kind hk) (kb _ h2) (ka _ (by omega)) ?_)))))
   by_cases hw : key b[ib] < key a[ia]
   ·rw [decide_eq_true hw]
    try dsimp only
    rw [if_pos rfl]
    have hJ := hI.pushB h2 (by omega) (Int.le_of_lt hw)
    refine wpS_bind (wpS_elem h2 ?_)
    by_cases e : ib + 1 = b.size
    ·rw [if_pos (by simpa using e)]
     exact wpS_pure ⟨rfl, .inl ⟨_, _, rfl, hJ.doneB e⟩⟩
    ·rw [if_neg (by simpa using e)]
     have hG : LoG a b _ ia (ib + 1) n := ⟨hJ, h1, by omega, by omega⟩
     split
     ·exact wpS_pure ⟨rfl, .inr ⟨_, _, _, _, _, rfl, hG⟩⟩
     ·exact wpS_pure ⟨rfl, _, _, _, _, _, rfl, hG⟩
   ·rw [decide_eq_false hw]
    try dsimp only
    rw [if_neg (by decide)]
    have hJ := hI.pushA (by omega) h2 (by omega)
    refine wpS_bind (wpS_elem (by omega) ?_)
    by_cases e : ia + 1 + 1 = a.size
    ·rw [if_pos (by simpa using e)]
     exact wpS_pure ⟨rfl, .inl ⟨_, _, rfl, hJ.lastA e hl⟩⟩
    ·rw [if_neg (by simpa using e)]
     have hG : LoG a b _ (ia + 1) ib n := ⟨hJ, by omega, h2, by omega⟩
     split
     ·exact wpS_pure ⟨rfl, .inr ⟨_, _, _, _, _, rfl, hG⟩⟩
     ·exact wpS_pure ⟨rfl, _, _, _, _, _, rfl, hG⟩
  ·rintro c sy ⟨rfl, out, ia, ib, ac, bc, rfl, hG⟩
   exact ⟨rfl, .inr ⟨_, _, _, _, _, rfl, hG⟩⟩
  ·rintro c sy ⟨rfl, ⟨m, d, rfl, hm⟩ | ⟨out, ia, ib, ac, bc, rfl, hG⟩⟩
   ·try dsimp only
    exact wpS_pure ⟨hv, _, _, rfl, hm⟩
   ·try dsimp only
    refine wpS_bind (wpS_lift (wpAny_rule ⟨rfl, ?_⟩))
    refine wpS_bind (wpS_mono (wpS_forRange (I := fun x c sz => Eqv st sz ∧ ∃ out ia ib mg ac bc, c = (none, out, ia, ib, mg, ac, bc) ∧ ((x = 0 ∧ LoG a b out ia ib n) ∨ LoG a b out ia ib (n + 1)))
     (Q := fun c sz => Eqv st sz ∧ ((∃ m d, c = (some m, d) ∧ Res a b m) ∨ ∃ out ia ib mg ac bc, c = (none, out, ia, ib, mg, ac, bc) ∧ LoG a b out ia ib (n + 1))) ?_ ?_ ⟨hv, _, _, _, _, _, _, rfl, .inl ⟨rfl, hG⟩⟩) ?_)
    ·rintro x c sz - hx ⟨hv, out, ia, ib, mg, ac, bc, rfl, hG⟩
     have hG : LoG a b out ia ib n := by
      rcases hG with ⟨_, hG⟩ | ⟨q1, q2, q3, q4⟩
      ·exact hG
      ·exact ⟨q1, q2, q3, by omega⟩
     obtain ⟨hI, h1, h2, h3⟩ := hG
     try dsimp only
     by_cases hmg : mg > 1
     ·rw [if_pos hmg]
      refine wpS_bind (wpS_modify ?_)
      have hv2 := hv.set
      refine wpS_bind (wpS_elem h2 ?_)
      refine wpS_bind (gallopR ((hv.set _).kind hk) ka kb sa (by omega) h2 fun k p1 p2 p3 => ?_)
      try dsimp only
      have hv3 := hv.set
      by_cases hk0 : k > 0
      ·rw [if_pos hk0]
       have hL := hI.runA h2 p2
       by_cases e1 : ia + k + 1 = a.size
       ·rw [if_pos (by simpa using e1)]
        exact wpS_pure ⟨hv.set _, .inl ⟨_, _, rfl, hL.lastA e1 hl⟩⟩
       ·rw [if_neg (by simpa using e1)]
        by_cases e5 : ia + k = a.size
        ·rw [if_pos (by simpa using e5)]
         exact wpS_pure ⟨hv.set _, .inl ⟨_, _, rfl, hL.doneA e5⟩⟩
        ·rw [if_neg (by simpa using e5)]
         have hvv := hv.set (mg - 1)
         refine wpS_bind (wpS_elem (by omega) ?_)
         have hJ := hL.pushB (by omega) (by omega) (p3 k (by omega) (Nat.le_refl _))
         by_cases e2 : ib + 1 = b.size
         ·rw [if_pos (by simpa using e2)]
          exact wpS_pure ⟨hvv, .inl ⟨_, _, rfl, hJ.doneB e2⟩⟩
         ·rw [if_neg (by simpa using e2)]
          refine wpS_bind (wpS_elem (by omega) ?_)
          refine wpS_bind (gallopL (hvv.kind hk) ka kb sb (by omega) (by omega) fun k1 q1 q2 q3 => ?_)
          try dsimp only
          by_cases hk1 : k1 > 0
          ·rw [if_pos hk1]
           have hL := hJ.runB (by omega) q2
           by_cases e4 : ib + 1 + k1 = b.size
           ·rw [if_pos (by simpa using e4)]
            exact wpS_pure ⟨hvv, .inl ⟨_, _, rfl, hL.doneB e4⟩⟩
           ·rw [if_neg (by simpa using e4)]
            refine wpS_bind (wpS_elem (by omega) ?_)
            by_cases e3 : (ia + k) + 1 + 1 = a.size
            ·rw [if_pos (by simpa using e3)]
             exact wpS_pure ⟨hvv, .inl ⟨_, _, rfl, (hL.pushA (by omega) (by omega) (q3 k1 (by omega) (Nat.le_refl _))).lastA e3 hl⟩⟩
            ·rw [if_neg (by simpa using e3)]
             have hG : LoG a b _ ((ia + k) + 1) (ib + 1 + k1) (n + 1) := ⟨hL.pushA (by omega) (by omega) (q3 k1 (by omega) (Nat.le_refl _)), by omega, by omega, by omega⟩
             split
             ·exact wpS_pure ⟨hvv, .inr ⟨_, _, _, _, _, _, rfl, hG⟩⟩
             ·exact wpS_pure ⟨hvv, _, _, _, _, _, _, rfl, .inr hG⟩
          ·rw [if_neg hk1]
           refine wpS_bind (wpS_elem (by omega) ?_)
           by_cases e3 : (ia + k) + 1 + 1 = a.size
           ·rw [if_pos (by simpa using e3)]
            exact wpS_pure ⟨hvv, .inl ⟨_, _, rfl, (hJ.pushA (by omega) (by omega) (q3 0 (by omega) (by omega))).lastA e3 hl⟩⟩
           ·rw [if_neg (by simpa using e3)]
            have hG : LoG a b _ ((ia + k) + 1) (ib + 1) (n + 1) := ⟨hJ.pushA (by omega) (by omega) (q3 0 (by omega) (by omega)), by omega, by omega, by omega⟩
            split
            ·exact wpS_pure ⟨hvv, .inr ⟨_, _, _, _, _, _, rfl, hG⟩⟩
            ·exact wpS_pure ⟨hvv, _, _, _, _, _, _, rfl, .inr hG⟩
      ·rw [if_neg hk0]
       have hvv := hv.set (mg - 1)
       refine wpS_bind (wpS_elem (by omega) ?_)
       have hJ := hI.pushB (by omega) (by omega) (p3 0 (by omega) (by omega))
       by_cases e2 : ib + 1 = b.size
       ·rw [if_pos (by simpa using e2)]
        exact wpS_pure ⟨hvv, .inl ⟨_, _, rfl, hJ.doneB e2⟩⟩
       ·rw [if_neg (by simpa using e2)]
        refine wpS_bind (wpS_elem (by omega) ?_)
        refine wpS_bind (gallopL (hvv.kind hk) ka kb sb (by omega) (by omega) fun k1 q1 q2 q3 => ?_)
        try dsimp only
        by_cases hk1 : k1 > 0
        ·rw [if_pos hk1]
         have hL := hJ.runB (by omega) q2
         by_cases e4 : ib + 1 + k1 = b.size
         ·rw [if_pos (by simpa using e4)]
          exact wpS_pure ⟨hvv, .inl ⟨_, _, rfl, hL.doneB e4⟩⟩
         ·rw [if_neg (by simpa using e4)]
          refine wpS_bind (wpS_elem (by omega) ?_)
          by_cases e3 : ia + 1 + 1 = a.size
          ·rw [if_pos (by simpa using e3)]
           exact wpS_pure ⟨hvv, .inl ⟨_, _, rfl, (hL.pushA (by omega) (by omega) (q3 k1 (by omega) (Nat.le_refl _))).lastA e3 hl⟩⟩
          ·rw [if_neg (by simpa using e3)]
           have hG : LoG a b _ (ia + 1) (ib + 1 + k1) (n + 1) := ⟨hL.pushA (by omega) (by omega) (q3 k1 (by omega) (Nat.le_refl _)), by omega, by omega, by omega⟩
           split
           ·exact wpS_pure ⟨hvv, .inr ⟨_, _, _, _, _, _, rfl, hG⟩⟩
           ·exact wpS_pure ⟨hvv, _, _, _, _, _, _, rfl, .inr hG⟩
        ·rw [if_neg hk1]
         refine wpS_bind (wpS_elem (by omega) ?_)
         by_cases e3 : ia + 1 + 1 = a.size
         ·rw [if_pos (by simpa using e3)]
          exact wpS_pure ⟨hvv, .inl ⟨_, _, rfl, (hJ.pushA (by omega) (by omega) (q3 0 (by omega) (by omega))).lastA e3 hl⟩⟩
         ·rw [if_neg (by simpa using e3)]
          have hG : LoG a b _ (ia + 1) (ib + 1) (n + 1) := ⟨hJ.pushA (by omega) (by omega) (q3 0 (by omega) (by omega)), by omega, by omega, by omega⟩
          split
          ·exact wpS_pure ⟨hvv, .inr ⟨_, _, _, _, _, _, rfl, hG⟩⟩
          ·exact wpS_pure ⟨hvv, _, _, _, _, _, _, rfl, .inr hG⟩
     ·rw [if_neg hmg]
      refine wpS_bind (wpS_modify ?_)
      have hv2 := hv.set
      refine wpS_bind (wpS_elem h2 ?_)
      refine wpS_bind (gallopR ((hv.set _).kind hk) ka kb sa (by omega) h2 fun k p1 p2 p3 => ?_)
      try dsimp only
      have hv3 := hv.set
      by_cases hk0 : k > 0
      ·rw [if_pos hk0]
       have hL := hI.runA h2 p2
       by_cases e1 : ia + k + 1 = a.size
       ·rw [if_pos (by simpa using e1)]
        exact wpS_pure ⟨hv.set _, .inl ⟨_, _, rfl, hL.lastA e1 hl⟩⟩
       ·rw [if_neg (by simpa using e1)]
        by_cases e5 : ia + k = a.size
        ·rw [if_pos (by simpa using e5)]
         exact wpS_pure ⟨hv.set _, .inl ⟨_, _, rfl, hL.doneA e5⟩⟩
        ·rw [if_neg (by simpa using e5)]
         have hvv := hv.set mg
         refine wpS_bind (wpS_elem (by omega) ?_)
         have hJ := hL.pushB (by omega) (by omega) (p3 k (by omega) (Nat.le_refl _))
         by_cases e2 : ib + 1 = b.size
         ·rw [if_pos (by simpa using e2)]
          exact wpS_pure ⟨hvv, .inl ⟨_, _, rfl, hJ.doneB e2⟩⟩
         ·rw [if_neg (by simpa using e2)]
          refine wpS_bind (wpS_elem (by omega) ?_)
          refine wpS_bind (gallopL (hvv.kind hk) ka kb sb (by omega) (by omega) fun k1 q1 q2 q3 => ?_)
          try dsimp only
          by_cases hk1 : k1 > 0
          ·rw [if_pos hk1]
           have hL := hJ.runB (by omega) q2
           by_cases e4 : ib + 1 + k1 = b.size
           ·rw [if_pos (by simpa using e4)]
            exact wpS_pure ⟨hvv, .inl ⟨_, _, rfl, hL.doneB e4⟩⟩
           ·rw [if_neg (by simpa using e4)]
            refine wpS_bind (wpS_elem (by omega) ?_)
            by_cases e3 : (ia + k) + 1 + 1 = a.size
            ·rw [if_pos (by simpa using e3)]
             exact wpS_pure ⟨hvv, .inl ⟨_, _, rfl, (hL.pushA (by omega) (by omega) (q3 k1 (by omega) (Nat.le_refl _))).lastA e3 hl⟩⟩
            ·rw [if_neg (by simpa using e3)]
             have hG : LoG a b _ ((ia + k) + 1) (ib + 1 + k1) (n + 1) := ⟨hL.pushA (by omega) (by omega) (q3 k1 (by omega) (Nat.le_refl _)), by omega, by omega, by omega⟩
             split
             ·exact wpS_pure ⟨hvv, .inr ⟨_, _, _, _, _, _, rfl, hG⟩⟩
             ·exact wpS_pure ⟨hvv, _, _, _, _, _, _, rfl, .inr hG⟩
          ·rw [if_neg hk1]
           refine wpS_bind (wpS_elem (by omega) ?_)
           by_cases e3 : (ia + k) + 1 + 1 = a.size
           ·rw [if_pos (by simpa using e3)]
            exact wpS_pure ⟨hvv, .inl ⟨_, _, rfl, (hJ.pushA (by omega) (by omega) (q3 0 (by omega) (by omega))).lastA e3 hl⟩⟩
           ·rw [if_neg (by simpa using e3)]
            have hG : LoG a b _ ((ia + k) + 1) (ib + 1) (n + 1) := ⟨hJ.pushA (by omega) (by omega) (q3 0 (by omega) (by omega)), by omega, by omega, by omega⟩
            split
            ·exact wpS_pure ⟨hvv, .inr ⟨_, _, _, _, _, _, rfl, hG⟩⟩
            ·exact wpS_pure ⟨hvv, _, _, _, _, _, _, rfl, .inr hG⟩
      ·rw [if_neg hk0]
       have hvv := hv.set mg
       refine wpS_bind (wpS_elem (by omega) ?_)
       have hJ := hI.pushB (by omega) (by omega) (p3 0 (by omega) (by omega))
       by_cases e2 : ib + 1 = b.size
       ·rw [if_pos (by simpa using e2)]
        exact wpS_pure ⟨hvv, .inl ⟨_, _, rfl, hJ.doneB e2⟩⟩
       ·rw [if_neg (by simpa using e2)]
        refine wpS_bind (wpS_elem (by omega) ?_)
        refine wpS_bind (gallopL (hvv.kind hk) ka kb sb (by omega) (by omega) fun k1 q1 q2 q3 => ?_)
        try dsimp only
        by_cases hk1 : k1 > 0
        ·rw [if_pos hk1]
         have hL := hJ.runB (by omega) q2
         by_cases e4 : ib + 1 + k1 = b.size
         ·rw [if_pos (by simpa using e4)]
          exact wpS_pure ⟨hvv, .inl ⟨_, _, rfl, hL.doneB e4⟩⟩
         ·rw [if_neg (by simpa using e4)]
          refine wpS_bind (wpS_elem (by omega) ?_)
          by_cases e3 : ia + 1 + 1 = a.size
          ·rw [if_pos (by simpa using e3)]
           exact wpS_pure ⟨hvv, .inl ⟨_, _, rfl, (hL.pushA (by omega) (by omega) (q3 k1 (by omega) (Nat.le_refl _))).lastA e3 hl⟩⟩
          ·rw [if_neg (by simpa using e3)]
           have hG : LoG a b _ (ia + 1) (ib + 1 + k1) (n + 1) := ⟨hL.pushA (by omega) (by omega) (q3 k1 (by omega) (Nat.le_refl _)), by omega, by omega, by omega⟩
           split
           ·exact wpS_pure ⟨hvv, .inr ⟨_, _, _, _, _, _, rfl, hG⟩⟩
           ·exact wpS_pure ⟨hvv, _, _, _, _, _, _, rfl, .inr hG⟩
        ·rw [if_neg hk1]
         refine wpS_bind (wpS_elem (by omega) ?_)
         by_cases e3 : ia + 1 + 1 = a.size
         ·rw [if_pos (by simpa using e3)]
          exact wpS_pure ⟨hvv, .inl ⟨_, _, rfl, (hJ.pushA (by omega) (by omega) (q3 0 (by omega) (by omega))).lastA e3 hl⟩⟩
         ·rw [if_neg (by simpa using e3)]
          have hG : LoG a b _ (ia + 1) (ib + 1) (n + 1) := ⟨hJ.pushA (by omega) (by omega) (q3 0 (by omega) (by omega)), by omega, by omega, by omega⟩
          split
          ·exact wpS_pure ⟨hvv, .inr ⟨_, _, _, _, _, _, rfl, hG⟩⟩
          ·exact wpS_pure ⟨hvv, _, _, _, _, _, _, rfl, .inr hG⟩
    ·rintro c sz ⟨hv, out, ia, ib, mg, ac, bc, rfl, hG⟩
     rcases hG with ⟨hz, _⟩ | hG
     ·omega
     ·exact ⟨hv, .inr ⟨_, _, _, _, _, _, rfl, hG⟩⟩
    ·rintro c sz ⟨hv, ⟨m, d, rfl, hm⟩ | ⟨out, ia, ib, mg, ac, bc, rfl, hG⟩⟩
     ·try dsimp only
      exact wpS_pure ⟨hv, _, _, rfl, hm⟩
     ·try dsimp only
      exact wpS_bind (wpS_modify (wpS_pure ⟨hv.set _, _, _, _, _, rfl, hG⟩))
 ·rintro c sx ⟨hv, out, ia, ib, mg, rfl, hI, h1, h2, h3⟩
  omega
 ·rintro c sx ⟨hv, m, d, rfl, hm⟩
  exact wpS_pure (h _ _ hv hm)
end
end So
end
section
set_option Elab.async false
set_option linter.all false
set_option maxRecDepth 100000
set_option maxHeartbeats 4000000
namespace So
open PySem PyProof.Rows
def mergeHi' : Array Keyed → Array Keyed → StateT SortSt Sem (Array Keyed) := sortPriv% PySem.Builtin.mergeHi
structure HiI (a b out : Array Keyed) (na nb : Nat) : Prop where
 perm : (a.toList.take na ++ (b.toList.take nb ++ out.toList.reverse)).Perm (a.toList ++ b.toList)
 sa : Srt (a.toList.take na ++ out.toList.reverse)
 sb : Srt (b.toList.take nb ++ out.toList.reverse)
theorem ext_first (a : Array Keyed) (n : Nat) : (a.extract 0 n).toList = a.toList.take n := by
 rw [ext_toList, Nat.sub_zero, List.drop_zero]
theorem take_at {a : Array Keyed} {n : Nat} (h : 1 ≤ n) (h2 : n ≤ a.size) : a.toList.take n = a.toList.take (n - 1) ++ [a[n - 1]'(by omega)] := by
 have e := List.take_succ_eq_append_getElem (l := a.toList) (i := n - 1) (by simp; omega)
 rw [show n - 1 + 1 = n by omega] at e
 rw [e]; simp
section
variable {a b out : Array Keyed} {na nb : Nat}
theorem HiI.moveA {x la : List Keyed} {o : Array Keyed} {na' : Nat} (h : HiI a b out na nb) (e : a.toList.take na = la ++ x) (eo : o.toList.reverse = x ++ out.toList.reverse) (er : a.toList.take na' = la) (hx : ∀ p ∈ b.toList.take nb, ∀ q ∈ x, key p ≤ key q) : HiI a b o na' nb := by
 obtain ⟨h1, h2, h3⟩ := h
 rw [e] at h1 h2
 refine ⟨?_, ?_, ?_⟩
 ·rw [eo, er]
  refine List.Perm.trans ?_ h1
  rw [List.append_assoc]
  refine List.Perm.append_left _ ?_
  rw [← List.append_assoc, ← List.append_assoc]
  exact List.Perm.append_right _ List.perm_append_comm
 ·rw [eo, er]; simpa [List.append_assoc] using h2
 ·rw [eo]
  rw [List.append_assoc] at h2
  rw [srt_app] at h2 h3 ⊢
  obtain ⟨a1, a2, a3⟩ := h2
  obtain ⟨b1, b2, b3⟩ := h3
  refine ⟨b1, a2, fun p hp q hq => ?_⟩
  rcases List.mem_append.mp hq with hq | hq
  ·exact hx p hp q hq
  ·exact b3 p hp q hq
theorem HiI.moveB {x lb : List Keyed} {o : Array Keyed} {nb' : Nat} (h : HiI a b out na nb) (e : b.toList.take nb = lb ++ x) (eo : o.toList.reverse = x ++ out.toList.reverse) (er : b.toList.take nb' = lb) (hx : ∀ p ∈ a.toList.take na, ∀ q ∈ x, key p ≤ key q) : HiI a b o na nb' := by
 obtain ⟨h1, h2, h3⟩ := h
 rw [e] at h1 h3
 refine ⟨?_, ?_, ?_⟩
 ·rw [eo, er]; simpa [List.append_assoc] using h1
 ·rw [eo]
  rw [List.append_assoc] at h3
  rw [srt_app] at h2 h3 ⊢
  obtain ⟨a1, a2, a3⟩ := h3
  obtain ⟨b1, b2, b3⟩ := h2
  refine ⟨b1, a2, fun p hp q hq => ?_⟩
  rcases List.mem_append.mp hq with hq | hq
  ·exact hx p hp q hq
  ·exact b3 p hp q hq
 ·rw [eo, er]; simpa [List.append_assoc] using h3
theorem srt_lastL {x : Keyed} {l : List Keyed} (h : Srt (l ++ [x])) : ∀ q ∈ l ++ [x], key q ≤ key x := by
 intro q hq
 rcases List.mem_append.mp hq with hq | hq
 ·exact (srt_app.mp h).2.2 q hq x (List.mem_singleton.mpr rfl)
 ·rw [List.mem_singleton.mp hq]; exact Int.le_refl _
theorem HiI.lastA (h : HiI a b out na nb) (h1 : 1 ≤ na) (h2 : na ≤ a.size) : ∀ q ∈ a.toList.take na, key q ≤ key (a[na - 1]'(by omega)) := by
 have := (srt_app.mp h.sa).1
 rw [take_at h1 h2] at this ⊢
 exact srt_lastL this
theorem HiI.lastB (h : HiI a b out na nb) (h1 : 1 ≤ nb) (h2 : nb ≤ b.size) : ∀ q ∈ b.toList.take nb, key q ≤ key (b[nb - 1]'(by omega)) := by
 have := (srt_app.mp h.sb).1
 rw [take_at h1 h2] at this ⊢
 exact srt_lastL this
theorem HiI.pushA (h : HiI a b out na nb) (h1 : 1 ≤ na) (h2 : na ≤ a.size) (h3 : 1 ≤ nb) (h4 : nb ≤ b.size) (hk : key (b[nb - 1]'(by omega)) ≤ key (a[na - 1]'(by omega))) : HiI a b (out.push (a[na - 1]'(by omega))) (na - 1) nb :=
 h.moveA (x := [a[na - 1]'(by omega)]) (take_at h1 h2) (by simp) rfl fun p hp q hq => by
  rw [List.mem_singleton.mp hq]; exact Int.le_trans (h.lastB h3 h4 p hp) hk
theorem HiI.pushB (h : HiI a b out na nb) (h1 : 1 ≤ na) (h2 : na ≤ a.size) (h3 : 1 ≤ nb) (h4 : nb ≤ b.size) (hk : key (a[na - 1]'(by omega)) ≤ key (b[nb - 1]'(by omega))) : HiI a b (out.push (b[nb - 1]'(by omega))) na (nb - 1) :=
 h.moveB (x := [b[nb - 1]'(by omega)]) (take_at h3 h4) (by simp) rfl fun p hp q hq => by
  rw [List.mem_singleton.mp hq]; exact Int.le_trans (h.lastA h1 h2 p hp) hk
theorem take_split (l : List Keyed) {m n : Nat} (h : m ≤ n) : l.take n = l.take m ++ (l.drop m).take (n - m) := by
 have e : n = m + (n - m) := by omega
 conv => lhs; rw [e]
 exact List.take_add
theorem HiI.runA {m : Nat} (h : HiI a b out na nb) (h2 : na ≤ a.size) (h3 : 1 ≤ nb) (h4 : nb ≤ b.size) (hm : m ≤ na) (hk : ∀ (i : Nat) (hi : i < a.size), m ≤ i → i < na → key (b[nb - 1]'(by omega)) ≤ key a[i]) : HiI a b (out ++ (a.extract m na).reverse) m nb := by
 refine h.moveA (x := (a.toList.drop m).take (na - m)) (take_split _ hm) ?_ rfl fun p hp q hq => ?_
 ·rw [Array.toList_append, List.reverse_append, Array.toList_reverse, List.reverse_reverse, ext_toList]
 ·obtain ⟨i, hi, e⟩ := List.mem_take_iff_getElem.mp hq
  rw [List.length_drop, Array.length_toList] at hi
  have e' : a[m + i]'(by omega) = q := by rw [← e]; simp
  rw [← e']
  exact Int.le_trans (h.lastB h3 h4 p hp) (hk _ (by omega) (by omega) (by omega))
theorem HiI.runB {m : Nat} (h : HiI a b out na nb) (h1 : 1 ≤ na) (h2 : na ≤ a.size) (h4 : nb ≤ b.size) (hm : m ≤ nb) (hk : ∀ (i : Nat) (hi : i < b.size), m ≤ i → i < nb → key (a[na - 1]'(by omega)) ≤ key b[i]) : HiI a b (out ++ (b.extract m nb).reverse) na m := by
 refine h.moveB (x := (b.toList.drop m).take (nb - m)) (take_split _ hm) ?_ rfl fun p hp q hq => ?_
 ·rw [Array.toList_append, List.reverse_append, Array.toList_reverse, List.reverse_reverse, ext_toList]
 ·obtain ⟨i, hi, e⟩ := List.mem_take_iff_getElem.mp hq
  rw [List.length_drop, Array.length_toList] at hi
  have e' : b[m + i]'(by omega) = q := by rw [← e]; simp
  rw [← e']
  exact Int.le_trans (h.lastA h1 h2 p hp) (hk _ (by omega) (by omega) (by omega))
theorem HiI.doneA (h : HiI a b out na nb) (ha : na = 0) : Res a b (a.extract 0 na ++ b.extract 0 nb ++ out.reverse) := by
 subst ha
 obtain ⟨h1, h2, h3⟩ := h
 unfold Res
 rw [Array.toList_append, Array.toList_append, ext_first, ext_first, Array.toList_reverse]
 simp only [List.take_zero, List.nil_append] at h1 ⊢
 exact ⟨h1, h3⟩
theorem HiI.doneB (h : HiI a b out na nb) (hb : nb = 0) : Res a b (a.extract 0 na ++ b.extract 0 nb ++ out.reverse) := by
 subst hb
 obtain ⟨h1, h2, h3⟩ := h
 unfold Res
 rw [Array.toList_append, Array.toList_append, ext_first, ext_first, Array.toList_reverse]
 simp only [List.take_zero, List.nil_append, List.append_nil] at h1 ⊢
 exact ⟨h1, h2⟩
theorem HiI.firstB (h : HiI a b out na nb) (hb : nb = 1) (hbs : 1 ≤ b.size) (hf : ∀ q ∈ a.toList, ∀ (hi : 0 < b.size), key b[0] ≤ key q) : Res a b (b.extract 0 nb ++ a.extract 0 na ++ out.reverse) := by
 subst hb
 obtain ⟨h1, h2, h3⟩ := h
 have e : b.toList.take 1 = [b[0]'(by omega)] := by rw [take_at (Nat.le_refl 1) hbs]; simp
 unfold Res
 rw [Array.toList_append, Array.toList_append, ext_first, ext_first, Array.toList_reverse]
 constructor
 ·refine List.Perm.trans ?_ h1
  rw [← List.append_assoc]
  exact List.Perm.append_right _ List.perm_append_comm
 ·rw [e] at h3 ⊢
  rw [List.append_assoc]
  rw [srt_app] at h3 ⊢
  refine ⟨h3.1, h2, fun p hp q hq => ?_⟩
  rcases List.mem_append.mp hq with hq | hq
  ·rw [List.mem_singleton.mp hp]
   exact hf q (List.mem_of_mem_take hq) (by omega)
  ·exact h3.2.2 p hp q hq
end
end So
end
section
set_option Elab.async false
set_option linter.all false
set_option maxRecDepth 100000
set_option maxHeartbeats 4000000
namespace So
open PySem PyProof.Rows
def HiG (a b out : Array Keyed) (na nb n : Nat) : Prop := HiI a b out na nb ∧ 1 ≤ na ∧ na ≤ a.size ∧ 2 ≤ nb ∧ nb ≤ b.size ∧ n + na + nb ≤ a.size + b.size
section
variable {prog : Program} {w : World} {A : Around} {E : Value → Shared → Prop} {s : Shared}
variable {a b : Array Keyed}
theorem gallopRh {st : SortSt} {na : Nat} {k : Keyed} {Q : Option Nat → SortSt → Prop} (hk : kindOf st = oneType') (ka : ∀ (i : Nat) (hi : i < a.size), IntK a[i]) (kk : IntK k) (sa : Srt a.toList) (h1 : 1 ≤ na) (h2 : na ≤ a.size)
  (h : ∀ m, m ≤ na → (∀ (i : Nat) (hi : i < a.size), i < m → key a[i] ≤ key k) → (∀ (i : Nat) (hi : i < a.size), m ≤ i → i < na → key k ≤ key a[i]) → Q (some m) st) : wpS (model prog w) A E s (gallop' false k a 0 na (na - 1)) Q st := by
 refine wpS_gallop hk (by omega) (by omega) kk ka (fun i => ∃ hi : 0 + i < a.size, key a[0 + i] ≤ key k) (fun i hi => ?_) (fun i j hij hj => ?_) fun m h3 h4 h5 => ?_
 ·unfold Bey
  simp only [Bool.false_eq_true, if_false]
  exact ⟨fun ⟨_, q⟩ => q, fun q => ⟨hi, q⟩⟩
 ·rintro ⟨hi, q⟩
  exact ⟨by omega, Int.le_trans (srt_idx sa (by omega) hi) q⟩
 ·refine h m (by omega) (fun i hi him => ?_) fun i hi him hin => ?_
  ·have := (h4 i him).2
   simpa using this
  ·have : ¬ key a[0 + i] ≤ key k := fun q => h5 i him (by omega) ⟨by omega, q⟩
   simp only [Nat.zero_add] at this
   omega
theorem gallopLh {st : SortSt} {nb : Nat} {k : Keyed} {Q : Option Nat → SortSt → Prop} (hk : kindOf st = oneType') (kb : ∀ (i : Nat) (hi : i < b.size), IntK b[i]) (kk : IntK k) (sb : Srt b.toList) (h1 : 1 ≤ nb) (h2 : nb ≤ b.size)
  (h : ∀ m, m ≤ nb → (∀ (i : Nat) (hi : i < b.size), i < m → key b[i] ≤ key k) → (∀ (i : Nat) (hi : i < b.size), m ≤ i → i < nb → key k ≤ key b[i]) → Q (some m) st) : wpS (model prog w) A E s (gallop' true k b 0 nb (nb - 1)) Q st := by
 refine wpS_gallop hk (by omega) (by omega) kk kb (fun i => ∃ hi : 0 + i < b.size, key b[0 + i] < key k) (fun i hi => ?_) (fun i j hij hj => ?_) fun m h3 h4 h5 => ?_
 ·unfold Bey
  simp only [if_true]
  exact ⟨fun ⟨_, q⟩ => q, fun q => ⟨hi, q⟩⟩
 ·rintro ⟨hi, q⟩
  exact ⟨by omega, Int.lt_of_le_of_lt (srt_idx sb (by omega) hi) q⟩
 ·refine h m (by omega) (fun i hi him => ?_) fun i hi him hin => ?_
  ·have := (h4 i him).2
   simp only [Nat.zero_add] at this
   omega
  ·have : ¬ key b[0 + i] < key k := fun q => h5 i him (by omega) ⟨by omega, q⟩
   simp only [Nat.zero_add] at this
   omega
theorem wpS_mergeHi {st : SortSt} {Q : Array Keyed → SortSt → Prop} (hk : kindOf st = oneType') (ka : ∀ (i : Nat) (hi : i < a.size), IntK a[i]) (kb : ∀ (i : Nat) (hi : i < b.size), IntK b[i]) (sa : Srt a.toList) (sb : Srt b.toList) (ha : 1 ≤ a.size) (hb : 1 ≤ b.size)
  (hf : ∀ q ∈ a.toList, ∀ (hi : 0 < b.size), key b[0] ≤ key q) (hlast : key (b[b.size - 1]'(by omega)) ≤ key (a[a.size - 1]'(by omega))) (h : ∀ m sx, Eqv st sx → Res a b m → Q m sx) : wpS (model prog w) A E s (mergeHi' a b) Q st := by
 delta mergeHi'
 try dsimp only
 refine wpS_bind (wpS_lift (wpAny_rule ⟨rfl, ?_⟩))
 refine wpS_bind (wpS_elem (by omega) ?_)
 have ta : a.toList.take a.size = a.toList := List.take_of_length_le (by simp)
 have tb : b.toList.take b.size = b.toList := List.take_of_length_le (by simp)
 have h0 : HiI a b #[] a.size b.size := ⟨by rw [ta, tb]; simp, by rw [ta]; simpa using sa, by rw [tb]; simpa using sb⟩
 have h1 : HiI a b #[a[a.size - 1]'(by omega)] (a.size - 1) b.size := h0.pushA (by omega) (by omega) (by omega) (by omega) hlast
 try dsimp only
 by_cases e1 : a.size - 1 = 0
 ·rw [if_pos (by simpa using e1)]
  exact wpS_pure (h _ _ (Eqv.refl st) (h1.doneA e1))
 rw [if_neg (by simpa using e1)]
 by_cases e2 : b.size = 1
 ·rw [if_pos (by simpa using e2)]
  exact wpS_pure (h _ _ (Eqv.refl st) (h1.firstB e2 (by omega) hf))
 rw [if_neg (by simpa using e2)]
 refine wpS_bind (wpS_get ?_)
 refine wpS_bind (wpS_mono (wpS_forRange (I := fun x c sx => Eqv st sx ∧ ∃ na nb out mg, c = (none, na, nb, out, mg) ∧ HiG a b out na nb x) (Q := fun c sx => Eqv st sx ∧ ∃ m d, c = (some m, d) ∧ Res a b m) ?_ ?_ ⟨Eqv.refl st, _, _, _, _, rfl, h1, by omega, by omega, by omega, by omega, by omega⟩) ?_)
 ·rintro n c sx - hx ⟨hv, na, nb, out, mg, rfl, hG⟩
  try dsimp only
  refine wpS_bind (wpS_mono (wpS_forRange (I := fun x c sy => sy = sx ∧ ∃ na nb out ac bc, c = (none, na, nb, out, ac, bc) ∧ HiG a b out na nb n)
   (Q := fun c sy => sy = sx ∧ ((∃ m d, c = (some m, d) ∧ Res a b m) ∨ ∃ na nb out ac bc, c = (none, na, nb, out, ac, bc) ∧ HiG a b out na nb n)) ?_ ?_ ⟨rfl, _, _, _, _, _, rfl, hG⟩) ?_)
  ·rintro x c sy - hx ⟨rfl, na, nb, out, ac, bc, rfl, hI, h1, h2, h3, h4, h5⟩
   try dsimp only
   refine wpS_bind (wpS_elem (by omega) (wpS_bind (wpS_elem (by omega) (wpS_bind (wpS_lt (hv.kind hk) (kb _ (by omega)) (ka _ (by omega)) ?_)))))
   by_cases hw : key (b[nb - 1]'(by omega)) < key (a[na - 1]'(by omega))
   ·rw [decide_eq_true hw]
    try dsimp only
    rw [if_pos rfl]
    have hJ := hI.pushA h1 h2 (by omega) h4 (Int.le_of_lt hw)
    refine wpS_bind (wpS_elem (by omega) ?_)
    by_cases e : na - 1 = 0
    ·rw [if_pos (by simpa using e)]
     exact wpS_pure ⟨rfl, .inl ⟨_, _, rfl, hJ.doneA e⟩⟩
    ·rw [if_neg (by simpa using e)]
     have hG : HiG a b _ (na - 1) nb n := ⟨hJ, by omega, by omega, by omega, by omega, by omega⟩
     split
     ·exact wpS_pure ⟨rfl, .inr ⟨_, _, _, _, _, rfl, hG⟩⟩
     ·exact wpS_pure ⟨rfl, _, _, _, _, _, rfl, hG⟩
   ·rw [decide_eq_false hw]
    try dsimp only
    rw [if_neg (by decide)]
    have hJ := hI.pushB h1 h2 (by omega) h4 (by omega)
    refine wpS_bind (wpS_elem (by omega) ?_)
    by_cases e : nb - 1 = 1
    ·rw [if_pos (by simpa using e)]
     exact wpS_pure ⟨rfl, .inl ⟨_, _, rfl, hJ.firstB e (by omega) hf⟩⟩
    ·rw [if_neg (by simpa using e)]
     have hG : HiG a b _ na (nb - 1) n := ⟨hJ, by omega, by omega, by omega, by omega, by omega⟩
     split
     ·exact wpS_pure ⟨rfl, .inr ⟨_, _, _, _, _, rfl, hG⟩⟩
     ·exact wpS_pure ⟨rfl, _, _, _, _, _, rfl, hG⟩
  ·rintro c sy ⟨rfl, na, nb, out, ac, bc, rfl, hG⟩
   exact ⟨rfl, .inr ⟨_, _, _, _, _, rfl, hG⟩⟩
  ·rintro c sy ⟨rfl, ⟨m, d, rfl, hm⟩ | ⟨na, nb, out, ac, bc, rfl, hG⟩⟩
   ·try dsimp only
    exact wpS_pure ⟨hv, _, _, rfl, hm⟩
   ·try dsimp only
    refine wpS_bind (wpS_lift (wpAny_rule ⟨rfl, ?_⟩))
    refine wpS_bind (wpS_mono (wpS_forRange (I := fun x c sz => Eqv st sz ∧ ∃ na nb out mg ac bc, c = (none, na, nb, out, mg, ac, bc) ∧ ((x = 0 ∧ HiG a b out na nb n) ∨ HiG a b out na nb (n + 1)))
     (Q := fun c sz => Eqv st sz ∧ ((∃ m d, c = (some m, d) ∧ Res a b m) ∨ ∃ na nb out mg ac bc, c = (none, na, nb, out, mg, ac, bc) ∧ HiG a b out na nb (n + 1))) ?_ ?_ ⟨hv, _, _, _, _, _, _, rfl, .inl ⟨rfl, hG⟩⟩) ?_)
    ·rintro x c sz - hx ⟨hv, na, nb, out, mg, ac, bc, rfl, hG⟩
     have hG : HiG a b out na nb n := by
      rcases hG with ⟨_, hG⟩ | ⟨q1, q2, q3, q4, q5, q6⟩
      ·exact hG
      ·exact ⟨q1, q2, q3, q4, q5, by omega⟩
     obtain ⟨hI, h1, h2, h3, h4, h5⟩ := hG
     try dsimp only
     by_cases hmg : mg > 1
     ·rw [if_pos hmg]
      refine wpS_bind (wpS_modify ?_)
      refine wpS_bind (wpS_elem (by omega) ?_)
      have hvv := hv.set (mg - 1)
      refine wpS_bind (gallopRh (hvv.kind hk) ka (kb _ (by omega)) sa (by omega) (by omega) fun m p1 p2 p3 => ?_)
      try dsimp only
      by_cases hk0 : na - m > 0
      ·rw [if_pos hk0]
       have hL := hI.runA (by omega) (by omega) (by omega) p1 p3
       by_cases e1 : m = 0
       ·rw [if_pos (by simpa using e1)]
        exact wpS_pure ⟨hvv, .inl ⟨_, _, rfl, hL.doneA e1⟩⟩
       ·rw [if_neg (by simpa using e1)]
        refine wpS_bind (wpS_elem (by omega) ?_)
        have hJ := hL.pushB (by omega) (by omega) (by omega) (by omega) (p2 _ (by omega) (by omega))
        by_cases e2 : nb - 1 = 1
        ·rw [if_pos (by simpa using e2)]
         exact wpS_pure ⟨hvv, .inl ⟨_, _, rfl, hJ.firstB e2 (by omega) hf⟩⟩
        ·rw [if_neg (by simpa using e2)]
         refine wpS_bind (wpS_elem (by omega) ?_)
         refine wpS_bind (gallopLh (hvv.kind hk) kb (ka _ (by omega)) sb (by omega) (by omega) fun m1 q1 q2 q3 => ?_)
         try dsimp only
         by_cases hk1 : nb - 1 - m1 > 0
         ·rw [if_pos hk1]
          have hL := hJ.runB (by omega) (by omega) (by omega) q1 q3
          by_cases e4 : m1 = 1
          ·rw [if_pos (by simpa using e4)]
           exact wpS_pure ⟨hvv, .inl ⟨_, _, rfl, hL.firstB e4 (by omega) hf⟩⟩
          ·rw [if_neg (by simpa using e4)]
           by_cases e5 : m1 = 0
           ·rw [if_pos (by simpa using e5)]
            exact wpS_pure ⟨hvv, .inl ⟨_, _, rfl, hL.doneB e5⟩⟩
           ·rw [if_neg (by simpa using e5)]
            refine wpS_bind (wpS_elem (by omega) ?_)
            have hN := hL.pushA (by omega) (by omega) (by omega) (by omega) (q2 _ (by omega) (by omega))
            by_cases e3 : m - 1 = 0
            ·rw [if_pos (by simpa using e3)]
             exact wpS_pure ⟨hvv, .inl ⟨_, _, rfl, hN.doneA e3⟩⟩
            ·rw [if_neg (by simpa using e3)]
             have hG : HiG a b _ (m - 1) m1 (n + 1) := ⟨hN, by omega, by omega, by omega, by omega, by omega⟩
             split
             ·exact wpS_pure ⟨hvv, .inr ⟨_, _, _, _, _, _, rfl, hG⟩⟩
             ·exact wpS_pure ⟨hvv, _, _, _, _, _, _, rfl, .inr hG⟩
         ·rw [if_neg hk1]
          refine wpS_bind (wpS_elem (by omega) ?_)
          have hN := hJ.pushA (by omega) (by omega) (by omega) (by omega) (q2 _ (by omega) (by omega))
          by_cases e3 : m - 1 = 0
          ·rw [if_pos (by simpa using e3)]
           exact wpS_pure ⟨hvv, .inl ⟨_, _, rfl, hN.doneA e3⟩⟩
          ·rw [if_neg (by simpa using e3)]
           have hG : HiG a b _ (m - 1) (nb - 1) (n + 1) := ⟨hN, by omega, by omega, by omega, by omega, by omega⟩
           split
           ·exact wpS_pure ⟨hvv, .inr ⟨_, _, _, _, _, _, rfl, hG⟩⟩
           ·exact wpS_pure ⟨hvv, _, _, _, _, _, _, rfl, .inr hG⟩
      ·rw [if_neg hk0]
       refine wpS_bind (wpS_elem (by omega) ?_)
       have hJ := hI.pushB (by omega) (by omega) (by omega) (by omega) (p2 _ (by omega) (by omega))
       by_cases e2 : nb - 1 = 1
       ·rw [if_pos (by simpa using e2)]
        exact wpS_pure ⟨hvv, .inl ⟨_, _, rfl, hJ.firstB e2 (by omega) hf⟩⟩
       ·rw [if_neg (by simpa using e2)]
        refine wpS_bind (wpS_elem (by omega) ?_)
        refine wpS_bind (gallopLh (hvv.kind hk) kb (ka _ (by omega)) sb (by omega) (by omega) fun m1 q1 q2 q3 => ?_)
        try dsimp only
        by_cases hk1 : nb - 1 - m1 > 0
        ·rw [if_pos hk1]
         have hL := hJ.runB (by omega) (by omega) (by omega) q1 q3
         by_cases e4 : m1 = 1
         ·rw [if_pos (by simpa using e4)]
          exact wpS_pure ⟨hvv, .inl ⟨_, _, rfl, hL.firstB e4 (by omega) hf⟩⟩
         ·rw [if_neg (by simpa using e4)]
          by_cases e5 : m1 = 0
          ·rw [if_pos (by simpa using e5)]
           exact wpS_pure ⟨hvv, .inl ⟨_, _, rfl, hL.doneB e5⟩⟩
          ·rw [if_neg (by simpa using e5)]
           refine wpS_bind (wpS_elem (by omega) ?_)
           have hN := hL.pushA (by omega) (by omega) (by omega) (by omega) (q2 _ (by omega) (by omega))
           by_cases e3 : na - 1 = 0
           ·rw [if_pos (by simpa using e3)]
            exact wpS_pure ⟨hvv, .inl ⟨_, _, rfl, hN.doneA e3⟩⟩
           ·rw [if_neg (by simpa using e3)]
            have hG : HiG a b _ (na - 1) m1 (n + 1) := ⟨hN, by omega, by omega, by omega, by omega, by omega⟩
            split
            ·exact wpS_pure ⟨hvv, .inr ⟨_, _, _, _, _, _, rfl, hG⟩⟩
            ·exact wpS_pure ⟨hvv, _, _, _, _, _, _, rfl, .inr hG⟩
        ·rw [if_neg hk1]
         refine wpS_bind (wpS_elem (by omega) ?_)
         have hN := hJ.pushA (by omega) (by omega) (by omega) (by omega) (q2 _ (by omega) (by omega))
         by_cases e3 : na - 1 = 0
         ·rw [if_pos (by simpa using e3)]
          exact wpS_pure ⟨hvv, .inl ⟨_, _, rfl, hN.doneA e3⟩⟩
         ·rw [if_neg (by simpa using e3)]
          have hG : HiG a b _ (na - 1) (nb - 1) (n + 1) := ⟨hN, by omega, by omega, by omega, by omega, by omega⟩
          split
          ·exact wpS_pure ⟨hvv, .inr ⟨_, _, _, _, _, _, rfl, hG⟩⟩
          ·exact wpS_pure ⟨hvv, _, _, _, _, _, _, rfl, .inr hG⟩
     ·rw [if_neg hmg]
      refine wpS_bind (wpS_modify ?_)
      refine wpS_bind (wpS_elem (by omega) ?_)
      have hvv := hv.set mg
      refine wpS_bind (gallopRh (hvv.kind hk) ka (kb _ (by omega)) sa (by omega) (by omega) fun m p1 p2 p3 => ?_)
      try dsimp only
      by_cases hk0 : na - m > 0
      ·rw [if_pos hk0]
       have hL := hI.runA (by omega) (by omega) (by omega) p1 p3
       by_cases e1 : m = 0
       ·rw [if_pos (by simpa using e1)]
        exact wpS_pure ⟨hvv, .inl ⟨_, _, rfl, hL.doneA e1⟩⟩
       ·rw [if_neg (by simpa using e1)]
        refine wpS_bind (wpS_elem (by omega) ?_)
        have hJ := hL.pushB (by omega) (by omega) (by omega) (by omega) (p2 _ (by omega) (by omega))
        by_cases e2 : nb - 1 = 1
        ·rw [if_pos (by simpa using e2)]
         exact wpS_pure ⟨hvv, .inl ⟨_, _, rfl, hJ.firstB e2 (by omega) hf⟩⟩
        ·rw [if_neg (by simpa using e2)]
         refine wpS_bind (wpS_elem (by omega) ?_)
         refine wpS_bind (gallopLh (hvv.kind hk) kb (ka _ (by omega)) sb (by omega) (by omega) fun m1 q1 q2 q3 => ?_)
         try dsimp only
         by_cases hk1 : nb - 1 - m1 > 0
         ·rw [if_pos hk1]
          have hL := hJ.runB (by omega) (by omega) (by omega) q1 q3
          by_cases e4 : m1 = 1
          ·rw [if_pos (by simpa using e4)]
           exact wpS_pure ⟨hvv, .inl ⟨_, _, rfl, hL.firstB e4 (by omega) hf⟩⟩
          ·rw [if_neg (by simpa using e4)]
           by_cases e5 : m1 = 0
           ·rw [if_pos (by simpa using e5)]
            exact wpS_pure ⟨hvv, .inl ⟨_, _, rfl, hL.doneB e5⟩⟩
           ·rw [if_neg (by simpa using e5)]
            refine wpS_bind (wpS_elem (by omega) ?_)
            have hN := hL.pushA (by omega) (by omega) (by omega) (by omega) (q2 _ (by omega) (by omega))
            by_cases e3 : m - 1 = 0
            ·rw [if_pos (by simpa using e3)]
             exact wpS_pure ⟨hvv, .inl ⟨_, _, rfl, hN.doneA e3⟩⟩
            ·rw [if_neg (by simpa using e3)]
             have hG : HiG a b _ (m - 1) m1 (n + 1) := ⟨hN, by omega, by omega, by omega, by omega, by omega⟩
             split
             ·exact wpS_pure ⟨hvv, .inr ⟨_, _, _, _, _, _, rfl, hG⟩⟩
             ·exact wpS_pure ⟨hvv, _, _, _, _, _, _, rfl, .inr hG⟩
         ·rw [if_neg hk1]
          refine wpS_bind (wpS_elem (by omega) ?_)
          have hN := hJ.pushA (by omega) (by omega) (by omega) (by omega) (q2 _ (by omega) (by omega))
          by_cases e3 : m - 1 = 0
          ·rw [if_pos (by simpa using e3)]
           exact wpS_pure ⟨hvv, .inl ⟨_, _, rfl, hN.doneA e3⟩⟩
          ·rw [if_neg (by simpa using e3)]
           have hG : HiG a b _ (m - 1) (nb - 1) (n + 1) := ⟨hN, by omega, by omega, by omega, by omega, by omega⟩
           split
           ·exact wpS_pure ⟨hvv, .inr ⟨_, _, _, _, _, _, rfl, hG⟩⟩
           ·exact wpS_pure ⟨hvv, _, _, _, _, _, _, rfl, .inr hG⟩
      ·rw [if_neg hk0]
       refine wpS_bind (wpS_elem (by omega) ?_)
       have hJ := hI.pushB (by omega) (by omega) (by omega) (by omega) (p2 _ (by omega) (by omega))
       by_cases e2 : nb - 1 = 1
       ·rw [if_pos (by simpa using e2)]
        exact wpS_pure ⟨hvv, .inl ⟨_, _, rfl, hJ.firstB e2 (by omega) hf⟩⟩
       ·rw [if_neg (by simpa using e2)]
        refine wpS_bind (wpS_elem (by omega) ?_)
        refine wpS_bind (gallopLh (hvv.kind hk) kb (ka _ (by omega)) sb (by omega) (by omega) fun m1 q1 q2 q3 => ?_)
        try dsimp only
        by_cases hk1 : nb - 1 - m1 > 0
        ·rw [if_pos hk1]
         have hL := hJ.runB (by omega) (by omega) (by omega) q1 q3
         by_cases e4 : m1 = 1
         ·rw [if_pos (by simpa using e4)]
          exact wpS_pure ⟨hvv, .inl ⟨_, _, rfl, hL.firstB e4 (by omega) hf⟩⟩
         ·rw [if_neg (by simpa using e4)]
          by_cases e5 : m1 = 0
          ·rw [if_pos (by simpa using e5)]
           exact wpS_pure ⟨hvv, .inl ⟨_, _, rfl, hL.doneB e5⟩⟩
          ·rw [if_neg (by simpa using e5)]
           refine wpS_bind (wpS_elem (by omega) ?_)
           have hN := hL.pushA (by omega) (by omega) (by omega) (by omega) (q2 _ (by omega) (by omega))
           by_cases e3 : na - 1 = 0
           ·rw [if_pos (by simpa using e3)]
            exact wpS_pure ⟨hvv, .inl ⟨_, _, rfl, hN.doneA e3⟩⟩
           ·rw [if_neg (by simpa using e3)]
            have hG : HiG a b _ (na - 1) m1 (n + 1) := ⟨hN, by omega, by omega, by omega, by omega, by omega⟩
            split
            ·exact wpS_pure ⟨hvv, .inr ⟨_, _, _, _, _, _, rfl, hG⟩⟩
            ·exact wpS_pure ⟨hvv, _, _, _, _, _, _, rfl, .inr hG⟩
        ·rw [if_neg hk1]
         refine wpS_bind (wpS_elem (by omega) ?_)
         have hN := hJ.pushA (by omega) (by omega) (by omega) (by omega) (q2 _ (by omega) (by omega))
         by_cases e3 : na - 1 = 0
         ·rw [if_pos (by simpa using e3)]
          exact wpS_pure ⟨hvv, .inl ⟨_, _, rfl, hN.doneA e3⟩⟩
         ·rw [if_neg (by simpa using e3)]
          have hG : HiG a b _ (na - 1) (nb - 1) (n + 1) := ⟨hN, by omega, by omega, by omega, by omega, by omega⟩
          split
          ·exact wpS_pure ⟨hvv, .inr ⟨_, _, _, _, _, _, rfl, hG⟩⟩
          ·exact wpS_pure ⟨hvv, _, _, _, _, _, _, rfl, .inr hG⟩
    ·rintro c sz ⟨hv, na, nb, out, mg, ac, bc, rfl, hG⟩
     rcases hG with ⟨hz, _⟩ | hG
     ·omega
     ·exact ⟨hv, .inr ⟨_, _, _, _, _, _, rfl, hG⟩⟩
    ·rintro c sz ⟨hv, ⟨m, d, rfl, hm⟩ | ⟨na, nb, out, mg, ac, bc, rfl, hG⟩⟩
     ·try dsimp only
      exact wpS_pure ⟨hv, _, _, rfl, hm⟩
     ·try dsimp only
      exact wpS_bind (wpS_modify (wpS_pure ⟨hv.set _, _, _, _, _, rfl, hG⟩))
 ·rintro c sx ⟨hv, na, nb, out, mg, rfl, hI, h1, h2, h3, h4, h5⟩
  omega
 ·rintro c sx ⟨hv, m, d, rfl, hm⟩
  exact wpS_pure (h _ _ hv hm)
end
end So
end
section
set_option Elab.async false
set_option linter.all false
set_option maxRecDepth 100000
set_option maxHeartbeats 4000000
namespace So
open PySem PyProof.Rows
def SOn (xs : Array Keyed) (lo hi : Nat) : Prop := ∀ i j, lo ≤ i → i ≤ j → j < hi → K xs i ≤ K xs j
theorem K_key {xs : Array Keyed} {i : Nat} (hi : i < xs.size) : K xs i = key xs[i] := K_eq hi
theorem IntKeys.at {xs a₀ : Array Keyed} (h0 : IntKeys a₀) (hp : xs.Perm a₀) (i : Nat) (hi : i < xs.size) : IntK xs[i] :=
 h0 _ ((Array.perm_iff_toList_perm.mp hp).mem_iff.mp (by simp))
def wr (b : Nat) (l : List Keyed) (j : Nat) (a : Array Keyed) : Array Keyed := (l.zipIdx j).foldl (fun a (p, j) => a.setIfInBounds (b + j) p) a
theorem wr_toList (b : Nat) : ∀ (l : List Keyed) (j : Nat) (a : Array Keyed), b + j + l.length ≤ a.size → (wr b l j a).toList = a.toList.take (b + j) ++ (l ++ a.toList.drop (b + j + l.length))
 | [], j, a, h => by unfold wr; simp
 | p :: l, j, a, h => by
  rw [List.length_cons] at h
  have ih := wr_toList b l (j + 1) (a.setIfInBounds (b + j) p) (by rw [Array.size_setIfInBounds]; omega)
  have e : wr b (p :: l) j a = wr b l (j + 1) (a.setIfInBounds (b + j) p) := by unfold wr; rw [List.zipIdx_cons, List.foldl_cons]
  rw [e, ih, Array.toList_setIfInBounds]
  have hl : b + j < a.toList.length := by simp; omega
  rw [List.set_eq_take_append_cons_drop, if_pos hl]
  have hm : min (b + j) a.toList.length = b + j := by omega
  rw [List.length_cons, show b + (j + 1) = (b + j) + 1 by omega]
  have h1 : (a.toList.take (b + j)).length = b + j := by rw [List.length_take]; exact hm
  have g : ∀ (T D : List Keyed) (n m : Nat), T.length = n → (T ++ p :: D).take (n + 1) = T ++ [p] ∧ (T ++ p :: D).drop (n + 1 + m) = D.drop m := by
   intro T D n m hn
   subst hn
   constructor
   ·rw [List.take_append, List.take_of_length_le (Nat.le_succ _), Nat.add_sub_cancel_left]; rfl
   ·rw [List.drop_append, List.drop_of_length_le (by omega), show T.length + 1 + m - T.length = m + 1 by omega, List.nil_append, List.drop_succ_cons]
  obtain ⟨g1, g2⟩ := g (a.toList.take (b + j)) (a.toList.drop (b + j + 1)) (b + j) l.length h1
  rw [g1, g2, List.drop_drop, show b + j + 1 + l.length = b + j + (l.length + 1) by omega]
  simp
theorem K_list {xs : Array Keyed} (t : Nat) : K xs t = match xs.toList[t]? with | some p => key p | none => 0 := by
 unfold K; rw [Array.getElem?_toList]; rfl
end So
end
section
set_option Elab.async false
set_option linter.all false
set_option maxRecDepth 100000
set_option maxHeartbeats 4000000
namespace So
open PySem PyProof.Rows
theorem wpS_set {σ : Type} {M : Model} {A : Around} {E : Value → Shared → Prop} {s : Shared} {x : σ} {Q : PUnit → σ → Prop} {st : σ} (h : Q ⟨⟩ x) : wpS M A E s (set x : StateT σ Sem PUnit) Q st := by
 unfold wpS; rw [StateT.run_set]; exact wpAny_pure ⟨rfl, h⟩
theorem set_erase {α : Type} {p : Array α} {l1 l2 : List α} {x y z : α} {i : Nat} (h : p.toList = l1 ++ x :: y :: l2) (hi : l1.length = i) : ((p.setIfInBounds i z).eraseIdxIfInBounds (i + 1)).toList = l1 ++ z :: l2 := by
 obtain ⟨pl⟩ := p
 simp only at h
 subst h hi
 rw [List.setIfInBounds_toArray, List.eraseIdxIfInBounds_toArray]
 simp only
 rw [List.set_append_right _ _ (Nat.le_refl _), Nat.sub_self, List.set_cons_zero, List.eraseIdx_append_of_length_le (show l1.length ≤ l1.length + 1 by omega), Nat.add_sub_cancel_left]
 rfl
theorem at_two {α : Type} {p : Array α} {l1 l2 : List α} {x y : α} {i : Nat} (h : p.toList = l1 ++ x :: y :: l2) (hi : l1.length = i) : p[i]? = some x ∧ p[i + 1]? = some y := by
 subst hi
 rw [← Array.getElem?_toList, ← Array.getElem?_toList, h]
 constructor
 ·rw [List.getElem?_append_right (Nat.le_refl _), Nat.sub_self]; rfl
 ·rw [List.getElem?_append_right (show l1.length ≤ l1.length + 1 by omega), Nat.add_sub_cancel_left]; rfl
theorem sOn_ext {xs : Array Keyed} {lo hi : Nat} (h : SOn xs lo hi) (hs : hi ≤ xs.size) : Srt (xs.extract lo hi).toList := by
 unfold Srt
 rw [List.pairwise_iff_getElem]
 intro i j hi' hj' hij
 simp only [Array.length_toList, Array.size_extract] at hi' hj'
 have := h (lo + i) (lo + j) (by omega) (by omega) (by omega)
 rw [K_key (by omega), K_key (by omega)] at this
 simpa using this
theorem K_out {xs ys : Array Keyed} {s : Nat} {M : List Keyed} (e : ys.toList = xs.toList.take s ++ (M ++ xs.toList.drop (s + M.length))) (hs : s + M.length ≤ xs.size) (t : Nat) (ht : t < s ∨ s + M.length ≤ t) : ys[t]? = xs[t]? := by
 rw [← Array.getElem?_toList, ← Array.getElem?_toList, e]
 have h1 : (xs.toList.take s).length = s := by rw [List.length_take, Array.length_toList]; omega
 rcases ht with ht | ht
 ·rw [List.getElem?_append_left (by omega), List.getElem?_take_of_lt ht]
 ·rw [List.getElem?_append_right (by omega), List.getElem?_append_right (by omega), List.getElem?_drop]
  congr 1
  omega
theorem K_in {xs ys : Array Keyed} {s : Nat} {M : List Keyed} (e : ys.toList = xs.toList.take s ++ (M ++ xs.toList.drop (s + M.length))) (hs : s + M.length ≤ xs.size) (t : Nat) (h1 : s ≤ t) (h2 : t < s + M.length) : ∃ h : t - s < M.length, K ys t = key M[t - s] := by
 refine ⟨by omega, ?_⟩
 rw [K_list, e]
 have hl : (xs.toList.take s).length = s := by rw [List.length_take, Array.length_toList]; omega
 rw [List.getElem?_append_right (by omega), hl, List.getElem?_append_left (by omega), List.getElem?_eq_getElem (by omega)]
section
variable {prog : Program} {w : World} {A : Around} {E : Value → Shared → Prop} {s : Shared} {a₀ : Array Keyed}
theorem wpS_mergeAt {st : SortSt} {l1 l2 : List (Nat × Nat × Nat)} {sa na pw sb nb pw2 i : Nat} {Q : Bool → SortSt → Prop} (h0 : IntKeys a₀) (hS : SG a₀ st) (hp : (pendingOf st).toList = l1 ++ (sa, na, pw) :: (sb, nb, pw2) :: l2) (hi : l1.length = i)
  (hsb : sb = sa + na) (ha : 1 ≤ na) (hb : 1 ≤ nb) (hsz : sb + nb ≤ a₀.size) (oa : SOn (arrOf st) sa sb) (ob : SOn (arrOf st) sb (sb + nb))
  (h : ∀ sx, SG a₀ sx → (pendingOf sx).toList = l1 ++ (sa, na + nb, pw) :: l2 → SOn (arrOf sx) sa (sb + nb) → (∀ t, t < sa ∨ sb + nb ≤ t → (arrOf sx)[t]? = (arrOf st)[t]?) → Q true sx) :
  wpS (model prog w) A E s (mergeAt' i) Q st := by
 obtain ⟨hperm, hkind, hfail⟩ := hS
 have hsize : (arrOf st).size = a₀.size := hperm.size_eq
 have hint := fun i hi => IntKeys.at h0 hperm i hi
 delta mergeAt'
 try dsimp only
 refine wpS_bind (wpS_get ?_)
 obtain ⟨e1, e2⟩ := at_two hp hi
 rw [e1, e2]
 try dsimp only
 refine wpS_bind (wpS_set ?_)
 have hpend := set_erase (z := (sa, na + nb, pw)) hp hi
 refine wpS_bind (wpS_elem (xs := arrOf st) (by omega) ?_)
 refine wpS_bind (wpS_gallop (arr := arrOf st) hkind (by omega) (by omega) (hint _ (by omega)) hint (fun i => ∃ hi : sa + i < (arrOf st).size, key (arrOf st)[sa + i] ≤ key ((arrOf st)[sb]'(by omega))) (fun i hi => ?_) (fun i j hij hj => ?_) fun k k1 k2 k3 => ?_)
 ·unfold Bey
  simp only [Bool.false_eq_true, if_false]
  exact ⟨fun ⟨_, q⟩ => q, fun q => ⟨hi, q⟩⟩
 ·rintro ⟨hi, q⟩
  have := oa (sa + i) (sa + j) (by omega) (by omega) (by omega)
  rw [K_key (by omega), K_key (by omega)] at this
  exact ⟨by omega, Int.le_trans this q⟩
 have k2' : ∀ t, sa ≤ t → t < sa + k → K (arrOf st) t ≤ K (arrOf st) sb := fun t h1 h2 => by
  obtain ⟨hi, q⟩ := k2 (t - sa) (by omega)
  rw [K_key (by omega), K_key (by omega)]
  simpa [show sa + (t - sa) = t by omega] using q
 have k3' : ∀ t, sa + k ≤ t → t < sb → K (arrOf st) sb ≤ K (arrOf st) t := fun t h1 h2 => by
  have q : ¬ key ((arrOf st)[sa + (t - sa)]'(by omega)) ≤ key ((arrOf st)[sb]'(by omega)) := fun q => k3 (t - sa) (by omega) (by omega) ⟨by omega, q⟩
  rw [K_key (by omega), K_key (by omega)]
  simp only [show sa + (t - sa) = t by omega] at q
  omega
 try dsimp only
 by_cases hk : na - k = 0
 ·rw [if_pos (by simpa using hk)]
  refine wpS_pure (h _ ⟨hperm, hkind, hfail⟩ hpend (fun i j h1 h2 h3 => ?_) fun t _ => rfl)
  show K (arrOf st) i ≤ K (arrOf st) j
  by_cases c1 : j < sb
  ·exact oa i j h1 h2 c1
  ·by_cases c2 : sb ≤ i
   ·exact ob i j c2 h2 h3
   ·exact Int.le_trans (k2' i h1 (by omega)) (ob sb j (Nat.le_refl _) (by omega) h3)
 rw [if_neg (by simpa using hk)]
 have hlast : sa + k + (na - k) - 1 = sb - 1 := by omega
 rw [hlast]
 refine wpS_bind (wpS_elem (xs := arrOf st) (by omega) ?_)
 refine wpS_bind (wpS_gallop (arr := arrOf st) hkind (by omega) (by omega) (hint _ (by omega)) hint (fun i => ∃ hi : sb + i < (arrOf st).size, key (arrOf st)[sb + i] < key ((arrOf st)[sb - 1]'(by omega))) (fun i hi => ?_) (fun i j hij hj => ?_) fun m m1 m2 m3 => ?_)
 ·unfold Bey
  simp only [if_true]
  exact ⟨fun ⟨_, q⟩ => q, fun q => ⟨hi, q⟩⟩
 ·rintro ⟨hi, q⟩
  have := ob (sb + i) (sb + j) (by omega) (by omega) (by omega)
  rw [K_key (by omega), K_key (by omega)] at this
  exact ⟨by omega, Int.lt_of_le_of_lt this q⟩
 have m2' : ∀ t, sb ≤ t → t < sb + m → K (arrOf st) t ≤ K (arrOf st) (sb - 1) := fun t h1 h2 => by
  obtain ⟨hi, q⟩ := m2 (t - sb) (by omega)
  rw [K_key (by omega), K_key (by omega)]
  simp only [show sb + (t - sb) = t by omega] at q
  omega
 have m3' : ∀ t, sb + m ≤ t → t < sb + nb → K (arrOf st) (sb - 1) ≤ K (arrOf st) t := fun t h1 h2 => by
  have q : ¬ key ((arrOf st)[sb + (t - sb)]'(by omega)) < key ((arrOf st)[sb - 1]'(by omega)) := fun q => m3 (t - sb) (by omega) (by omega) ⟨by omega, q⟩
  rw [K_key (by omega), K_key (by omega)]
  simp only [show sb + (t - sb) = t by omega] at q
  omega
 try dsimp only
 by_cases hm : m = 0
 ·rw [if_pos (by simpa using hm)]
  refine wpS_pure (h _ ⟨hperm, hkind, hfail⟩ hpend (fun i j h1 h2 h3 => ?_) fun t _ => rfl)
  show K (arrOf st) i ≤ K (arrOf st) j
  by_cases c1 : j < sb
  ·exact oa i j h1 h2 c1
  ·by_cases c2 : sb ≤ i
   ·exact ob i j c2 h2 h3
   ·exact Int.le_trans (oa i (sb - 1) h1 (by omega) (by omega)) (m3' j (by omega) h3)
 rw [if_neg (by simpa using hm)]
 have sx : ((arrOf st).extract (sa + k) sb).size = na - k := by rw [Array.size_extract]; omega
 have sy : ((arrOf st).extract sb (sb + m)).size = m := by rw [Array.size_extract]; omega
 have kx : ∀ (i : Nat) (hi : i < ((arrOf st).extract (sa + k) sb).size), ((arrOf st).extract (sa + k) sb)[i] = (arrOf st)[sa + k + i]'(by omega) := fun i hi => Array.getElem_extract ..
 have ky : ∀ (i : Nat) (hi : i < ((arrOf st).extract sb (sb + m)).size), ((arrOf st).extract sb (sb + m))[i] = (arrOf st)[sb + i]'(by omega) := fun i hi => Array.getElem_extract ..
 have mx : ∀ p ∈ ((arrOf st).extract (sa + k) sb).toList, ∃ t, sa + k ≤ t ∧ t < sb ∧ K (arrOf st) t = key p := fun p hp => by
  obtain ⟨i, hi, e⟩ := List.getElem_of_mem hp
  simp only [Array.length_toList] at hi
  refine ⟨sa + k + i, by omega, by omega, ?_⟩
  rw [K_key (by omega), ← e, Array.getElem_toList, kx]
 have my : ∀ p ∈ ((arrOf st).extract sb (sb + m)).toList, ∃ t, sb ≤ t ∧ t < sb + m ∧ K (arrOf st) t = key p := fun p hp => by
  obtain ⟨i, hi, e⟩ := List.getElem_of_mem hp
  simp only [Array.length_toList] at hi
  refine ⟨sb + i, by omega, by omega, ?_⟩
  rw [K_key (by omega), ← e, Array.getElem_toList, ky]
 have ssx : Srt ((arrOf st).extract (sa + k) sb).toList := sOn_ext (fun i j h1 h2 h3 => oa i j (by omega) h2 h3) (by omega)
 have ssy : Srt ((arrOf st).extract sb (sb + m)).toList := sOn_ext (fun i j h1 h2 h3 => ob i j h1 h2 (by omega)) (by omega)
 have fin : ∀ mg sx, Eqv (setPending st (((pendingOf st).setIfInBounds i (sa, na + nb, pw)).eraseIdxIfInBounds (i + 1))) sx → Res ((arrOf st).extract (sa + k) sb) ((arrOf st).extract sb (sb + m)) mg →
   wpS (model prog w) A E s (do
    modify fun s => setArr s (wr (sa + k) mg.toList 0 (arrOf s))
    return (failedOf (← get)).isNone) Q sx := by
  rintro mg _ ⟨g, rfl⟩ ⟨r1, r2⟩
  refine wpS_bind (wpS_modify (wpS_bind (wpS_get ?_)))
  have hlen : mg.toList.length = na - k + m := by rw [r1.length_eq, List.length_append, Array.length_toList, Array.length_toList, sx, sy]
  have el : (wr (sa + k) mg.toList 0 (arrOf st)).toList = (arrOf st).toList.take (sa + k) ++ (mg.toList ++ (arrOf st).toList.drop (sa + k + mg.toList.length)) := wr_toList (sa + k) mg.toList 0 (arrOf st) (by omega)
  have hs' : sa + k + mg.toList.length ≤ (arrOf st).size := by omega
  have mm : ∀ p ∈ mg.toList, ∃ t, sa + k ≤ t ∧ t < sb + m ∧ K (arrOf st) t = key p := fun p hp => by
   rcases List.mem_append.mp (r1.mem_iff.mp hp) with hp | hp
   ·obtain ⟨t, a1, a2, a3⟩ := mx p hp; exact ⟨t, a1, by omega, a3⟩
   ·obtain ⟨t, a1, a2, a3⟩ := my p hp; exact ⟨t, by omega, a2, a3⟩
  have low : ∀ t, sa + k ≤ t → t < sb + m → K (arrOf st) sb ≤ K (arrOf st) t := fun t h1 h2 => by
   by_cases c : t < sb
   ·exact k3' t h1 c
   ·exact ob sb t (Nat.le_refl _) (by omega) (by omega)
  have high : ∀ t u, sa + k ≤ t → t < sb + m → sb + m ≤ u → u < sb + nb → K (arrOf st) t ≤ K (arrOf st) u := fun t u h1 h2 h3 h4 => by
   by_cases c : t < sb
   ·exact Int.le_trans (oa t (sb - 1) (by omega) (by omega) (by omega)) (m3' u h3 h4)
   ·exact ob t u (by omega) (by omega) h4
  have hpm : (wr (sa + k) mg.toList 0 (arrOf st)).Perm (arrOf st) := by
   rw [Array.perm_iff_toList_perm, el]
   have ex : (arrOf st).toList = (arrOf st).toList.take (sa + k) ++ ((((arrOf st).extract (sa + k) sb).toList ++ ((arrOf st).extract sb (sb + m)).toList) ++ (arrOf st).toList.drop (sa + k + mg.toList.length)) := by
    rw [ext_toList, ext_toList, hlen, show sb + m - sb = m by omega, show sb - (sa + k) = na - k by omega]
    have q1 : (arrOf st).toList.drop (sa + k + (na - k + m)) = ((arrOf st).toList.drop sb).drop m := by rw [List.drop_drop]; congr 1; omega
    have q2 : (arrOf st).toList.drop sb = ((arrOf st).toList.drop (sa + k)).drop (na - k) := by rw [List.drop_drop]; congr 1; omega
    rw [q1, List.append_assoc, List.take_append_drop, q2, List.take_append_drop, List.take_append_drop]
   conv => rhs; rw [ex]
   exact List.Perm.append_left _ (List.Perm.append_right _ r1)
  refine wpS_pure ?_
  have hff : (failedOf st).isNone = true := by rw [hfail]; rfl
  show Q ((failedOf st).isNone) _
  rw [hff]
  have out : ∀ t, t < sa + k ∨ sb + m ≤ t → (wr (sa + k) mg.toList 0 (arrOf st))[t]? = (arrOf st)[t]? := fun t ht => K_out el hs' t (by omega)
  refine h _ ⟨hpm.trans hperm, hkind, hfail⟩ hpend (fun i j h1 h2 h3 => ?_) fun t ht => out t (by omega)
  show K (wr (sa + k) mg.toList 0 (arrOf st)) i ≤ K (wr (sa + k) mg.toList 0 (arrOf st)) j
  have old : ∀ t, t < sa + k ∨ sb + m ≤ t → K (wr (sa + k) mg.toList 0 (arrOf st)) t = K (arrOf st) t := fun t ht => K_congr (out t ht)
  have new : ∀ t, sa + k ≤ t → t < sb + m → ∃ h : t - (sa + k) < mg.toList.length, K (wr (sa + k) mg.toList 0 (arrOf st)) t = key mg.toList[t - (sa + k)] := fun t h1 h2 => K_in el hs' t h1 (by omega)
  by_cases ci : i < sa + k
  ·rw [old i (.inl ci)]
   by_cases cj : j < sa + k
   ·rw [old j (.inl cj)]; exact oa i j h1 h2 (by omega)
   ·by_cases cj2 : j < sb + m
    ·obtain ⟨hh, e⟩ := new j (by omega) cj2
     rw [e]
     obtain ⟨t, t1, t2, t3⟩ := mm _ (List.getElem_mem hh)
     rw [← t3]
     exact Int.le_trans (k2' i h1 ci) (low t t1 t2)
    ·rw [old j (.inr (by omega))]
     exact Int.le_trans (k2' i h1 ci) (ob sb j (Nat.le_refl _) (by omega) h3)
  ·by_cases ci2 : i < sb + m
   ·obtain ⟨hh, e⟩ := new i (by omega) ci2
    rw [e]
    by_cases cj2 : j < sb + m
    ·obtain ⟨hh2, e2⟩ := new j (by omega) cj2
     rw [e2]
     by_cases eij : i = j
     ·subst eij; exact Int.le_refl _
     ·exact List.pairwise_iff_getElem.mp r2 _ _ hh hh2 (by omega)
    ·rw [old j (.inr (by omega))]
     obtain ⟨t, t1, t2, t3⟩ := mm _ (List.getElem_mem hh)
     rw [← t3]
     exact high t j t1 t2 (by omega) h3
   ·rw [old i (.inr (by omega)), old j (.inr (by omega))]
    exact ob i j (by omega) h2 h3
 have hx0 : ∀ (i : Nat) (hi : i < ((arrOf st).extract (sa + k) sb).size), IntK ((arrOf st).extract (sa + k) sb)[i] := fun i hi => by rw [kx]; exact hint _ _
 have hy0 : ∀ (i : Nat) (hi : i < ((arrOf st).extract sb (sb + m)).size), IntK ((arrOf st).extract sb (sb + m))[i] := fun i hi => by rw [ky]; exact hint _ _
 by_cases hle : na - k ≤ m
 ·rw [if_pos hle]
  refine wpS_bind (wpS_mergeLo (a := (arrOf st).extract (sa + k) sb) (b := (arrOf st).extract sb (sb + m)) hkind hx0 hy0 ssx ssy (by omega) (by omega) ?_ (fun p hp hi => ?_) fun mg sx hv hr => fin mg sx hv hr)
  ·rw [kx, ky]
   have := k3' (sa + k) (Nat.le_refl _) (by omega)
   rw [K_key (by omega), K_key (by omega)] at this
   simpa using this
  ·obtain ⟨t, t1, t2, t3⟩ := my p hp
   rw [kx, ← t3, ← K_key (i := sa + k + (((arrOf st).extract (sa + k) sb).size - 1)) (by omega), show sa + k + (((arrOf st).extract (sa + k) sb).size - 1) = sb - 1 by omega]
   exact m2' t t1 t2
 ·rw [if_neg hle]
  refine wpS_bind (wpS_mergeHi (a := (arrOf st).extract (sa + k) sb) (b := (arrOf st).extract sb (sb + m)) hkind hx0 hy0 ssx ssy (by omega) (by omega) (fun q hq hi => ?_) ?_ fun mg sx hv hr => fin mg sx hv hr)
  ·obtain ⟨t, t1, t2, t3⟩ := mx q hq
   rw [ky, ← t3]
   have := k3' t t1 t2
   rw [K_key (i := sb) (by omega)] at this
   simpa using this
  ·rw [kx, ky, ← K_key (i := sa + k + (((arrOf st).extract (sa + k) sb).size - 1)) (by omega), ← K_key (i := sb + (((arrOf st).extract sb (sb + m)).size - 1)) (by omega), show sa + k + (((arrOf st).extract (sa + k) sb).size - 1) = sb - 1 by omega]
   exact m2' (sb + (((arrOf st).extract sb (sb + m)).size - 1)) (by omega) (by omega)
end
end So
end
section
set_option Elab.async false
set_option linter.all false
set_option maxRecDepth 100000
set_option maxHeartbeats 4000000
namespace So
open PySem PyProof.Rows
structure Upd (a₀ : Array Keyed) (lo hi : Nat) (st sx : SortSt) : Prop where
 sg : SG a₀ sx
 pend : pendingOf sx = pendingOf st
 out : ∀ t, t < lo ∨ hi ≤ t → (arrOf sx)[t]? = (arrOf st)[t]?
def NOn (xs : Array Keyed) (lo hi : Nat) : Prop := ∀ i j, lo ≤ i → i ≤ j → j < hi → K xs j ≤ K xs i
section
variable {prog : Program} {w : World} {A : Around} {E : Value → Shared → Prop} {s : Shared} {a₀ : Array Keyed}
theorem SG.size {st : SortSt} (h : SG a₀ st) : (arrOf st).size = a₀.size := h.perm.size_eq
theorem wpS_ltI {st : SortSt} {i j : Nat} {Q : Option Bool → SortSt → Prop} (h0 : IntKeys a₀) (hS : SG a₀ st) (hi : i < a₀.size) (hj : j < a₀.size) (h : Q (some (decide (K (arrOf st) i < K (arrOf st) j))) st) :
  wpS (model prog w) A E s (ltAt' i j) Q st := by
 have hs := hS.size
 rw [ltAt'_eq]
 refine wpS_bind (wpS_get ?_)
 refine wpS_bind (wpS_elem (by omega) (wpS_bind (wpS_elem (by omega) (wpS_lt hS.kind (IntKeys.at h0 hS.perm _ _) (IntKeys.at h0 hS.perm _ _) ?_))))
 rw [K_key (by omega), K_key (by omega)] at h
 exact h
theorem Upd.mir {st sx : SortSt} {lo hi i j : Nat} (h : Upd a₀ lo hi st sx) (h1 : lo ≤ i) (h2 : j ≤ hi) (h3 : hi ≤ a₀.size) : Upd a₀ lo hi st (setArr sx (mirror (arrOf sx) i j ((j - i) / 2))) := by
 have hs := h.sg.size
 refine ⟨⟨(mirror_perm _ _ _ _).trans h.sg.perm, h.sg.kind, h.sg.failed⟩, h.pend, fun t ht => ?_⟩
 show (mirror (arrOf sx) i j ((j - i) / 2))[t]? = _
 rw [getElem?_mirror_all (by omega), if_neg (by omega)]
 exact h.out t ht
theorem rev_on {xs : Array Keyed} {lo n : Nat} (hN : NOn xs lo (lo + n)) (hs : lo + n ≤ xs.size) : SOn (mirror xs lo (lo + n) ((lo + n - lo) / 2)) lo (lo + n) := by
 intro i j h1 h2 h3
 rw [K_mirror hs, K_mirror hs, if_pos (by omega), if_pos (by omega)]
 exact hN _ _ (by omega) (by omega) (by omega)
theorem non_eq {xs ys : Array Keyed} {lo hi : Nat} (hk : ∀ k, K ys k = K xs k) (hN : NOn xs lo hi) : NOn ys lo hi := fun i j h1 h2 h3 => by rw [hk, hk]; exact hN i j h1 h2 h3
theorem non_more {xs ys : Array Keyed} {lo x : Nat} (hk : ∀ k, K ys k = K xs k) (hN : NOn xs lo (lo + x)) (hl : K xs (lo + x) < K xs (lo + x - 1)) : NOn ys lo (lo + (x + 1)) := by
 intro i j h1 h2 h3
 rw [hk, hk]
 by_cases hj : j < lo + x
 ·exact hN i j h1 h2 hj
 ·have e : j = lo + x := by omega
  subst e
  by_cases hi : i = lo + x
  ·subst hi; exact Int.le_refl _
  ·exact Int.le_trans (Int.le_of_lt hl) (hN i (lo + x - 1) h1 (by omega) (by omega))
theorem non_same {xs : Array Keyed} {lo x : Nat} (hN : NOn xs lo (lo + x)) (hl : K xs (lo + x) = K xs (lo + x - 1)) : NOn xs lo (lo + (x + 1)) := by
 intro i j h1 h2 h3
 by_cases hj : j < lo + x
 ·exact hN i j h1 h2 hj
 ·have e : j = lo + x := by omega
  subst e
  by_cases hi : i = lo + x
  ·subst hi; exact Int.le_refl _
  ·rw [hl]; exact hN i (lo + x - 1) h1 (by omega) (by omega)
theorem wpS_countRunG {st : SortSt} {lo nrem : Nat} {Q : Option Nat → SortSt → Prop} (h0 : IntKeys a₀) (hS : SG a₀ st) (h1 : 1 ≤ nrem) (hn : lo + nrem ≤ a₀.size)
  (h : ∀ m sx, 1 ≤ m → m ≤ nrem → Upd a₀ lo (lo + nrem) st sx → SOn (arrOf sx) lo (lo + m) → Q (some m) sx) : wpS (model prog w) A E s (countRun' lo nrem) Q st := by
 rw [countRun'_eq]
 obtain ⟨sx, hsx⟩ : ∃ sx, sx = st := ⟨st, rfl⟩
 have hU : Upd a₀ lo (lo + nrem) st sx := by subst hsx; exact ⟨hS, rfl, fun t _ => rfl⟩
 have hO : SOn (arrOf sx) lo (lo + 1) := fun i j h1 h2 h3 => by
  have : i = j := by omega
  subst this; exact Int.le_refl _
 rw [← hsx]
 refine wpS_bind ?_
 refine wpS_mono (wpS_forRange (I := fun x c sz => sz = sx ∧ c = (none, x) ∧ SOn (arrOf sx) lo (lo + x)) (Q := fun c sz => sz = sx ∧ ∃ m, c = (none, m) ∧ 1 ≤ m ∧ m ≤ nrem ∧ SOn (arrOf sx) lo (lo + m) ∧ (m = nrem ∨ K (arrOf sx) (lo + m) < K (arrOf sx) (lo + m - 1))) ?_ ?_ ⟨rfl, rfl, hO⟩) ?_
 ·rintro x c sz hx1 hx2 ⟨rfl, rfl, hO⟩
  dsimp only
  refine wpS_bind (wpS_ltI h0 hU.sg (by omega) (by omega) ?_)
  by_cases hl : K (arrOf sz) (lo + x) < K (arrOf sz) (lo + x - 1)
  ·rw [decide_eq_true hl]
   dsimp only
   rw [if_pos rfl]
   exact wpS_pure ⟨rfl, x, rfl, by omega, by omega, hO, .inr hl⟩
  ·rw [decide_eq_false hl]
   dsimp only
   rw [if_neg (by decide)]
   refine wpS_pure ⟨rfl, rfl, fun i j h1 h2 h3 => ?_⟩
   by_cases hj : j < lo + x
   ·exact hO i j h1 h2 hj
   ·have hj' : j = lo + x := by omega
    subst hj'
    by_cases hi : i = lo + x
    ·subst hi; exact Int.le_refl _
    ·exact Int.le_trans (hO i (lo + x - 1) h1 (by omega) (by omega)) (Int.not_lt.mp hl)
 ·rintro c sz ⟨rfl, rfl, hO⟩
  rw [show max 1 nrem = nrem by omega] at hO ⊢
  exact ⟨rfl, nrem, rfl, by omega, Nat.le_refl _, hO, .inl rfl⟩
 rintro c sz ⟨rfl, n, rfl, n1, n2, n3, n4⟩
 dsimp only
 by_cases e : n = nrem
 ·rw [if_pos (by simpa using e)]
  exact wpS_pure (h n _ n1 n2 hU n3)
 rw [if_neg (by simpa using e)]
 have n4 := n4.resolve_left e
 by_cases hg : n > 1
 ·rw [if_pos hg]
  refine wpS_bind (wpS_ltI h0 hU.sg (by omega) (by omega) ?_)
  by_cases hr : K (arrOf sz) lo < K (arrOf sz) (lo + n - 1)
  ·rw [decide_eq_true hr]
   dsimp only
   rw [if_pos rfl]
   exact wpS_pure (h n _ n1 n2 hU n3)
  ·rw [decide_eq_false hr]
   dsimp only
   rw [if_neg (by decide), reverseSlice'_eq]
   refine wpS_bind (wpS_modify ?_)
   have hsz := hU.sg.size
   have hall : ∀ k, lo ≤ k → k < lo + n → K (arrOf sz) k = K (arrOf sz) (lo + n - 1) := fun k k1 k2 => by
    have a1 := n3 lo k (Nat.le_refl _) k1 k2
    have a2 := n3 k (lo + n - 1) k1 (by omega) (by omega)
    omega
   have hN : NOn (arrOf sz) lo (lo + n) := fun i j i1 i2 i3 => by rw [hall i i1 (by omega), hall j (by omega) i3]; exact Int.le_refl _
   have hN := non_more (K_mirror_equal (by omega) hall) hN n4
   have hU := hU.mir (i := lo) (j := lo + n) (Nat.le_refl _) (by omega) (by omega)
   generalize hgen3 : setArr sz (mirror (arrOf sz) lo (lo + n) ((lo + n - lo) / 2)) = sx at hU
   have hN : NOn (arrOf sx) lo (lo + (n + 1)) := by rw [← hgen3]; exact hN
   refine wpS_bind (wpS_lift (wpAny_rule ⟨rfl, ?_⟩))
   refine wpS_bind (wpS_mono (wpS_forRange (I := fun x c sz => ∃ neq, c = (none, x, neq) ∧ Upd a₀ lo (lo + nrem) st sz ∧ NOn (arrOf sz) lo (lo + x) ∧ neq + 1 ≤ x ∧ ∀ i, lo + x - (neq + 1) ≤ i → i < lo + x → K (arrOf sz) i = K (arrOf sz) (lo + x - 1))
    (Q := fun c sz => ∃ x neq, c = (none, x, neq) ∧ 1 ≤ x ∧ x ≤ nrem ∧ Upd a₀ lo (lo + nrem) st sz ∧ NOn (arrOf sz) lo (lo + x) ∧ neq + 1 ≤ x ∧ ∀ i, lo + x - (neq + 1) ≤ i → i < lo + x → K (arrOf sz) i = K (arrOf sz) (lo + x - 1)) ?_ ?_ ⟨0, rfl, hU, hN, by omega, fun i h1 h2 => by congr 1; omega⟩) ?_)
   ·rintro x c sz hx1 hx2 ⟨neq, rfl, hU, hN, hq, he⟩
    have hsz := hU.sg.size
    dsimp only
    refine wpS_bind (wpS_ltI h0 hU.sg (by omega) (by omega) ?_)
    by_cases hl : K (arrOf sz) (lo + x) < K (arrOf sz) (lo + x - 1)
    ·rw [decide_eq_true hl]
     dsimp only
     rw [if_pos rfl]
     by_cases hneq : neq > 0
     ·rw [if_pos hneq, reverseSlice'_eq]
      refine wpS_bind (wpS_modify (wpS_pure ⟨0, rfl, hU.mir (by omega) (by omega) (by omega), non_more (K_mirror_equal (by omega) he) hN hl, by omega, fun i h1 h2 => by congr 1; omega⟩))
     ·rw [if_neg hneq]
      exact wpS_pure ⟨0, rfl, hU, non_more (fun _ => rfl) hN hl, by omega, fun i h1 h2 => by congr 1; omega⟩
    ·rw [decide_eq_false hl]
     dsimp only
     rw [if_neg (by decide)]
     refine wpS_bind (wpS_ltI h0 hU.sg (by omega) (by omega) ?_)
     by_cases hg : K (arrOf sz) (lo + x - 1) < K (arrOf sz) (lo + x)
     ·rw [decide_eq_true hg]
      dsimp only
      rw [if_pos rfl]
      exact wpS_pure ⟨x, neq, rfl, by omega, by omega, hU, hN, hq, he⟩
     ·rw [decide_eq_false hg]
      dsimp only
      rw [if_neg (by decide)]
      have hx : K (arrOf sz) (lo + x) = K (arrOf sz) (lo + x - 1) := by omega
      refine wpS_pure ⟨neq + 1, rfl, hU, non_same hN hx, by omega, fun i h1 h2 => ?_⟩
      rw [show lo + (x + 1) - 1 = lo + x by omega]
      by_cases hi : i = lo + x
      ·subst hi; rfl
      ·rw [hx]; exact he i (by omega) (by omega)
   ·rintro c sz ⟨neq, rfl, hU, hN, hq, he⟩
    rw [show max (n + 1) nrem = nrem by omega] at hN hq he ⊢
    exact ⟨nrem, neq, rfl, by omega, Nat.le_refl _, hU, hN, hq, he⟩
   ·rintro c sx ⟨x, neq, rfl, x1, x2, hU, hN, hq, he⟩
    dsimp only
    have hsz := hU.sg.size
    by_cases hneq : neq > 0
    ·rw [if_pos hneq, reverseSlice'_eq]
     refine wpS_bind (wpS_modify ?_)
     have hN := non_eq (K_mirror_equal (xs := arrOf sx) (i := lo + x - (neq + 1)) (j := lo + x) (by omega) he) hN
     have hU := hU.mir (i := lo + x - (neq + 1)) (j := lo + x) (by omega) (by omega) (by omega)
     generalize hgen2 : setArr sx (mirror (arrOf sx) (lo + x - (neq + 1)) (lo + x) ((lo + x - (lo + x - (neq + 1))) / 2)) = sx at hU
     have hN : NOn (arrOf sx) lo (lo + x) := by rw [← hgen2]; exact hN
     rw [reverseSlice'_eq]
     refine wpS_bind (wpS_modify ?_)
     have hsz := hU.sg.size
     have hO := rev_on (lo := lo) (n := x) hN (by omega)
     have hU := hU.mir (i := lo) (j := lo + x) (Nat.le_refl _) (by omega) (by omega)
     generalize hgen : setArr sx (mirror (arrOf sx) lo (lo + x) ((lo + x - lo) / 2)) = sx at hU
     have hO : SOn (arrOf sx) lo (lo + x) := by rw [← hgen]; exact hO
     refine wpS_bind ?_
     refine wpS_mono (wpS_forRange (I := fun x c sz => sz = sx ∧ c = (none, x) ∧ SOn (arrOf sx) lo (lo + x)) (Q := fun c sz => sz = sx ∧ ∃ m, c = (none, m) ∧ x ≤ m ∧ m ≤ nrem ∧ SOn (arrOf sx) lo (lo + m) ∧ (m = nrem ∨ K (arrOf sx) (lo + m) < K (arrOf sx) (lo + m - 1))) ?_ ?_ ⟨rfl, rfl, hO⟩) ?_
     ·rintro x c sz hx1 hx2 ⟨rfl, rfl, hO⟩
      dsimp only
      refine wpS_bind (wpS_ltI h0 hU.sg (by omega) (by omega) ?_)
      by_cases hl : K (arrOf sz) (lo + x) < K (arrOf sz) (lo + x - 1)
      ·rw [decide_eq_true hl]
       dsimp only
       rw [if_pos rfl]
       exact wpS_pure ⟨rfl, x, rfl, by omega, by omega, hO, .inr hl⟩
      ·rw [decide_eq_false hl]
       dsimp only
       rw [if_neg (by decide)]
       refine wpS_pure ⟨rfl, rfl, fun i j h1 h2 h3 => ?_⟩
       by_cases hj : j < lo + x
       ·exact hO i j h1 h2 hj
       ·have hj' : j = lo + x := by omega
        subst hj'
        by_cases hi : i = lo + x
        ·subst hi; exact Int.le_refl _
        ·exact Int.le_trans (hO i (lo + x - 1) h1 (by omega) (by omega)) (Int.not_lt.mp hl)
     ·rintro c sz ⟨rfl, rfl, hO⟩
      rw [show max x nrem = nrem by omega] at hO ⊢
      exact ⟨rfl, nrem, rfl, by omega, Nat.le_refl _, hO, .inl rfl⟩
     rintro c sz ⟨rfl, m, rfl, m1, m2, m3, m4⟩
     exact wpS_pure (h m _ (by omega) m2 hU m3)
    ·rw [if_neg hneq]
     rw [reverseSlice'_eq]
     refine wpS_bind (wpS_modify ?_)
     have hsz := hU.sg.size
     have hO := rev_on (lo := lo) (n := x) hN (by omega)
     have hU := hU.mir (i := lo) (j := lo + x) (Nat.le_refl _) (by omega) (by omega)
     generalize hgen : setArr sx (mirror (arrOf sx) lo (lo + x) ((lo + x - lo) / 2)) = sx at hU
     have hO : SOn (arrOf sx) lo (lo + x) := by rw [← hgen]; exact hO
     refine wpS_bind ?_
     refine wpS_mono (wpS_forRange (I := fun x c sz => sz = sx ∧ c = (none, x) ∧ SOn (arrOf sx) lo (lo + x)) (Q := fun c sz => sz = sx ∧ ∃ m, c = (none, m) ∧ x ≤ m ∧ m ≤ nrem ∧ SOn (arrOf sx) lo (lo + m) ∧ (m = nrem ∨ K (arrOf sx) (lo + m) < K (arrOf sx) (lo + m - 1))) ?_ ?_ ⟨rfl, rfl, hO⟩) ?_
     ·rintro x c sz hx1 hx2 ⟨rfl, rfl, hO⟩
      dsimp only
      refine wpS_bind (wpS_ltI h0 hU.sg (by omega) (by omega) ?_)
      by_cases hl : K (arrOf sz) (lo + x) < K (arrOf sz) (lo + x - 1)
      ·rw [decide_eq_true hl]
       dsimp only
       rw [if_pos rfl]
       exact wpS_pure ⟨rfl, x, rfl, by omega, by omega, hO, .inr hl⟩
      ·rw [decide_eq_false hl]
       dsimp only
       rw [if_neg (by decide)]
       refine wpS_pure ⟨rfl, rfl, fun i j h1 h2 h3 => ?_⟩
       by_cases hj : j < lo + x
       ·exact hO i j h1 h2 hj
       ·have hj' : j = lo + x := by omega
        subst hj'
        by_cases hi : i = lo + x
        ·subst hi; exact Int.le_refl _
        ·exact Int.le_trans (hO i (lo + x - 1) h1 (by omega) (by omega)) (Int.not_lt.mp hl)
     ·rintro c sz ⟨rfl, rfl, hO⟩
      rw [show max x nrem = nrem by omega] at hO ⊢
      exact ⟨rfl, nrem, rfl, by omega, Nat.le_refl _, hO, .inl rfl⟩
     rintro c sz ⟨rfl, m, rfl, m1, m2, m3, m4⟩
     exact wpS_pure (h m _ (by omega) m2 hU m3)
 ·rw [if_neg hg]
  have e1 : n = 1 := by omega
  subst e1
  have hN : NOn (arrOf sz) lo (lo + 1) := fun i j i1 i2 i3 => by
   have : i = j := by omega
   subst this; exact Int.le_refl _
  have hN := non_more (fun _ => rfl) hN n4
  generalize hgen3 : sz = sx at hU
  have hN : NOn (arrOf sx) lo (lo + (1 + 1)) := by rw [← hgen3]; exact hN
  refine wpS_bind (wpS_lift (wpAny_rule ⟨rfl, ?_⟩))
  refine wpS_bind (wpS_mono (wpS_forRange (I := fun x c sz => ∃ neq, c = (none, x, neq) ∧ Upd a₀ lo (lo + nrem) st sz ∧ NOn (arrOf sz) lo (lo + x) ∧ neq + 1 ≤ x ∧ ∀ i, lo + x - (neq + 1) ≤ i → i < lo + x → K (arrOf sz) i = K (arrOf sz) (lo + x - 1))
   (Q := fun c sz => ∃ x neq, c = (none, x, neq) ∧ 1 ≤ x ∧ x ≤ nrem ∧ Upd a₀ lo (lo + nrem) st sz ∧ NOn (arrOf sz) lo (lo + x) ∧ neq + 1 ≤ x ∧ ∀ i, lo + x - (neq + 1) ≤ i → i < lo + x → K (arrOf sz) i = K (arrOf sz) (lo + x - 1)) ?_ ?_ ⟨0, rfl, hU, hN, by omega, fun i h1 h2 => by congr 1; omega⟩) ?_)
  ·rintro x c sz hx1 hx2 ⟨neq, rfl, hU, hN, hq, he⟩
   have hsz := hU.sg.size
   dsimp only
   refine wpS_bind (wpS_ltI h0 hU.sg (by omega) (by omega) ?_)
   by_cases hl : K (arrOf sz) (lo + x) < K (arrOf sz) (lo + x - 1)
   ·rw [decide_eq_true hl]
    dsimp only
    rw [if_pos rfl]
    by_cases hneq : neq > 0
    ·rw [if_pos hneq, reverseSlice'_eq]
     refine wpS_bind (wpS_modify (wpS_pure ⟨0, rfl, hU.mir (by omega) (by omega) (by omega), non_more (K_mirror_equal (by omega) he) hN hl, by omega, fun i h1 h2 => by congr 1; omega⟩))
    ·rw [if_neg hneq]
     exact wpS_pure ⟨0, rfl, hU, non_more (fun _ => rfl) hN hl, by omega, fun i h1 h2 => by congr 1; omega⟩
   ·rw [decide_eq_false hl]
    dsimp only
    rw [if_neg (by decide)]
    refine wpS_bind (wpS_ltI h0 hU.sg (by omega) (by omega) ?_)
    by_cases hg : K (arrOf sz) (lo + x - 1) < K (arrOf sz) (lo + x)
    ·rw [decide_eq_true hg]
     dsimp only
     rw [if_pos rfl]
     exact wpS_pure ⟨x, neq, rfl, by omega, by omega, hU, hN, hq, he⟩
    ·rw [decide_eq_false hg]
     dsimp only
     rw [if_neg (by decide)]
     have hx : K (arrOf sz) (lo + x) = K (arrOf sz) (lo + x - 1) := by omega
     refine wpS_pure ⟨neq + 1, rfl, hU, non_same hN hx, by omega, fun i h1 h2 => ?_⟩
     rw [show lo + (x + 1) - 1 = lo + x by omega]
     by_cases hi : i = lo + x
     ·subst hi; rfl
     ·rw [hx]; exact he i (by omega) (by omega)
  ·rintro c sz ⟨neq, rfl, hU, hN, hq, he⟩
   rw [show max (1 + 1) nrem = nrem by omega] at hN hq he ⊢
   exact ⟨nrem, neq, rfl, by omega, Nat.le_refl _, hU, hN, hq, he⟩
  ·rintro c sx ⟨x, neq, rfl, x1, x2, hU, hN, hq, he⟩
   dsimp only
   have hsz := hU.sg.size
   by_cases hneq : neq > 0
   ·rw [if_pos hneq, reverseSlice'_eq]
    refine wpS_bind (wpS_modify ?_)
    have hN := non_eq (K_mirror_equal (xs := arrOf sx) (i := lo + x - (neq + 1)) (j := lo + x) (by omega) he) hN
    have hU := hU.mir (i := lo + x - (neq + 1)) (j := lo + x) (by omega) (by omega) (by omega)
    generalize hgen2 : setArr sx (mirror (arrOf sx) (lo + x - (neq + 1)) (lo + x) ((lo + x - (lo + x - (neq + 1))) / 2)) = sx at hU
    have hN : NOn (arrOf sx) lo (lo + x) := by rw [← hgen2]; exact hN
    rw [reverseSlice'_eq]
    refine wpS_bind (wpS_modify ?_)
    have hsz := hU.sg.size
    have hO := rev_on (lo := lo) (n := x) hN (by omega)
    have hU := hU.mir (i := lo) (j := lo + x) (Nat.le_refl _) (by omega) (by omega)
    generalize hgen : setArr sx (mirror (arrOf sx) lo (lo + x) ((lo + x - lo) / 2)) = sx at hU
    have hO : SOn (arrOf sx) lo (lo + x) := by rw [← hgen]; exact hO
    refine wpS_bind ?_
    refine wpS_mono (wpS_forRange (I := fun x c sz => sz = sx ∧ c = (none, x) ∧ SOn (arrOf sx) lo (lo + x)) (Q := fun c sz => sz = sx ∧ ∃ m, c = (none, m) ∧ x ≤ m ∧ m ≤ nrem ∧ SOn (arrOf sx) lo (lo + m) ∧ (m = nrem ∨ K (arrOf sx) (lo + m) < K (arrOf sx) (lo + m - 1))) ?_ ?_ ⟨rfl, rfl, hO⟩) ?_
    ·rintro x c sz hx1 hx2 ⟨rfl, rfl, hO⟩
     dsimp only
     refine wpS_bind (wpS_ltI h0 hU.sg (by omega) (by omega) ?_)
     by_cases hl : K (arrOf sz) (lo + x) < K (arrOf sz) (lo + x - 1)
     ·rw [decide_eq_true hl]
      dsimp only
      rw [if_pos rfl]
      exact wpS_pure ⟨rfl, x, rfl, by omega, by omega, hO, .inr hl⟩
     ·rw [decide_eq_false hl]
      dsimp only
      rw [if_neg (by decide)]
      refine wpS_pure ⟨rfl, rfl, fun i j h1 h2 h3 => ?_⟩
      by_cases hj : j < lo + x
      ·exact hO i j h1 h2 hj
      ·have hj' : j = lo + x := by omega
       subst hj'
       by_cases hi : i = lo + x
       ·subst hi; exact Int.le_refl _
       ·exact Int.le_trans (hO i (lo + x - 1) h1 (by omega) (by omega)) (Int.not_lt.mp hl)
    ·rintro c sz ⟨rfl, rfl, hO⟩
     rw [show max x nrem = nrem by omega] at hO ⊢
     exact ⟨rfl, nrem, rfl, by omega, Nat.le_refl _, hO, .inl rfl⟩
    rintro c sz ⟨rfl, m, rfl, m1, m2, m3, m4⟩
    exact wpS_pure (h m _ (by omega) m2 hU m3)
   ·rw [if_neg hneq]
    rw [reverseSlice'_eq]
    refine wpS_bind (wpS_modify ?_)
    have hsz := hU.sg.size
    have hO := rev_on (lo := lo) (n := x) hN (by omega)
    have hU := hU.mir (i := lo) (j := lo + x) (Nat.le_refl _) (by omega) (by omega)
    generalize hgen : setArr sx (mirror (arrOf sx) lo (lo + x) ((lo + x - lo) / 2)) = sx at hU
    have hO : SOn (arrOf sx) lo (lo + x) := by rw [← hgen]; exact hO
    refine wpS_bind ?_
    refine wpS_mono (wpS_forRange (I := fun x c sz => sz = sx ∧ c = (none, x) ∧ SOn (arrOf sx) lo (lo + x)) (Q := fun c sz => sz = sx ∧ ∃ m, c = (none, m) ∧ x ≤ m ∧ m ≤ nrem ∧ SOn (arrOf sx) lo (lo + m) ∧ (m = nrem ∨ K (arrOf sx) (lo + m) < K (arrOf sx) (lo + m - 1))) ?_ ?_ ⟨rfl, rfl, hO⟩) ?_
    ·rintro x c sz hx1 hx2 ⟨rfl, rfl, hO⟩
     dsimp only
     refine wpS_bind (wpS_ltI h0 hU.sg (by omega) (by omega) ?_)
     by_cases hl : K (arrOf sz) (lo + x) < K (arrOf sz) (lo + x - 1)
     ·rw [decide_eq_true hl]
      dsimp only
      rw [if_pos rfl]
      exact wpS_pure ⟨rfl, x, rfl, by omega, by omega, hO, .inr hl⟩
     ·rw [decide_eq_false hl]
      dsimp only
      rw [if_neg (by decide)]
      refine wpS_pure ⟨rfl, rfl, fun i j h1 h2 h3 => ?_⟩
      by_cases hj : j < lo + x
      ·exact hO i j h1 h2 hj
      ·have hj' : j = lo + x := by omega
       subst hj'
       by_cases hi : i = lo + x
       ·subst hi; exact Int.le_refl _
       ·exact Int.le_trans (hO i (lo + x - 1) h1 (by omega) (by omega)) (Int.not_lt.mp hl)
    ·rintro c sz ⟨rfl, rfl, hO⟩
     rw [show max x nrem = nrem by omega] at hO ⊢
     exact ⟨rfl, nrem, rfl, by omega, Nat.le_refl _, hO, .inl rfl⟩
    rintro c sz ⟨rfl, m, rfl, m1, m2, m3, m4⟩
    exact wpS_pure (h m _ (by omega) m2 hU m3)
end
end So
end
section
set_option Elab.async false
set_option linter.all false
set_option maxRecDepth 100000
set_option maxHeartbeats 4000000
namespace So
open PySem PyProof.Rows
section
variable {prog : Program} {w : World} {A : Around} {E : Value → Shared → Prop} {s : Shared} {a₀ : Array Keyed}
theorem Upd.bub {st sx : SortSt} {lo hi src d : Nat} (h : Upd a₀ lo hi st sx) (h1 : lo + d ≤ src) (h2 : src < hi) (h3 : hi ≤ a₀.size) : Upd a₀ lo hi st (setArr sx (bubble (arrOf sx) src d)) := by
 have hs := h.sg.size
 refine ⟨⟨(bubble_perm _ _ _).trans h.sg.perm, h.sg.kind, h.sg.failed⟩, h.pend, fun t ht => ?_⟩
 show (bubble (arrOf sx) src d)[t]? = _
 rw [getElem?_bubble (by omega) d (by omega), if_neg (by omega), if_neg (by omega)]
 exact h.out t ht
theorem wpS_binarySortG {st : SortSt} {lo n ok : Nat} {Q : Bool → SortSt → Prop} (h0 : IntKeys a₀) (hS : SG a₀ st) (hn : lo + n ≤ a₀.size) (hok : ok ≤ n) (hO : SOn (arrOf st) lo (lo + ok))
  (h : ∀ sx, Upd a₀ lo (lo + n) st sx → SOn (arrOf sx) lo (lo + n) → Q true sx) : wpS (model prog w) A E s (binarySort' lo n ok) Q st := by
 rw [binarySort'_eq]
 refine wpS_bind (wpS_mono (wpS_forRange (I := fun k c sx => c = (none, ()) ∧ Upd a₀ lo (lo + n) st sx ∧ SOn (arrOf sx) lo (lo + min k n))
  (Q := fun c sx => c = (none, ()) ∧ Upd a₀ lo (lo + n) st sx ∧ SOn (arrOf sx) lo (lo + n)) ?_ ?_ ⟨rfl, ⟨hS, rfl, fun t _ => rfl⟩, fun i j h1 h2 h3 => ?_⟩) ?_)
 ·rintro k c sx hk1 hk2 ⟨rfl, hU, hO⟩
  rw [show min k n = k by omega] at hO
  have hsz := hU.sg.size
  refine wpS_bind (wpS_mono (wpS_forRange (I := fun x c sy => sy = sx ∧ ∃ l r, c = (none, l, r) ∧ l ≤ r ∧ r ≤ k ∧ r - l ≤ k - x ∧ (∀ i, i < l → K (arrOf sx) (lo + i) ≤ K (arrOf sx) (lo + k)) ∧ (∀ i, r ≤ i → i < k → K (arrOf sx) (lo + k) < K (arrOf sx) (lo + i)))
   (Q := fun c sy => sy = sx ∧ ∃ l r, c = (none, l, r) ∧ l ≤ k ∧ (∀ i, i < l → K (arrOf sx) (lo + i) ≤ K (arrOf sx) (lo + k)) ∧ (∀ i, l ≤ i → i < k → K (arrOf sx) (lo + k) < K (arrOf sx) (lo + i))) ?_ ?_ ⟨rfl, 0, k, rfl, by omega, by omega, by omega, fun i hi => by omega, fun i h1 h2 => by omega⟩) ?_)
  ·rintro x c sy - hx ⟨rfl, l, r, rfl, hlr, hrk, hm, b1, b2⟩
   dsimp only
   by_cases hge : l ≥ r
   ·rw [if_pos hge]
    have : l = r := by omega
    subst this
    exact wpS_pure ⟨rfl, l, l, rfl, hrk, b1, b2⟩
   ·rw [if_neg hge]
    refine wpS_bind (wpS_ltI h0 hU.sg (by omega) (by omega) ?_)
    by_cases hl : K (arrOf sy) (lo + k) < K (arrOf sy) (lo + (l + r) / 2)
    ·rw [decide_eq_true hl]
     dsimp only
     rw [if_pos rfl]
     refine wpS_pure ⟨rfl, l, (l + r) / 2, rfl, by omega, by omega, by omega, b1, fun i h1 h2 => ?_⟩
     exact Int.lt_of_lt_of_le hl (hO _ _ (by omega) (by omega) (by omega))
    ·rw [decide_eq_false hl]
     dsimp only
     rw [if_neg (by decide)]
     refine wpS_pure ⟨rfl, (l + r) / 2 + 1, r, rfl, by omega, by omega, by omega, fun i h1 => ?_, b2⟩
     exact Int.le_trans (hO (lo + i) (lo + (l + r) / 2) (by omega) (by omega) (by omega)) (Int.not_lt.mp hl)
  ·rintro c sy ⟨rfl, l, r, rfl, hlr, hrk, hm, b1, b2⟩
   have : l = r := by omega
   subst this
   exact ⟨rfl, l, l, rfl, hrk, b1, b2⟩
  ·rintro c sy ⟨rfl, l, r, rfl, hlk, b1, b2⟩
   dsimp only
   rw [moveDown'_eq]
   refine wpS_bind (wpS_modify (wpS_pure ⟨rfl, hU.bub (by omega) (by omega) (by omega), ?_⟩))
   rw [show min (k + 1) n = k + 1 by omega]
   intro i j h1 h2 h3
   show K (bubble (arrOf sy) (lo + k) (lo + k - (lo + l))) i ≤ K (bubble (arrOf sy) (lo + k) (lo + k - (lo + l))) j
   rw [K_bubble (by omega) (by omega), K_bubble (by omega) (by omega), show lo + k - (lo + k - (lo + l)) = lo + l by omega]
   have b1' : ∀ i, lo ≤ i → i < lo + l → K (arrOf sy) i ≤ K (arrOf sy) (lo + k) := fun i h1 h2 => by
    have := b1 (i - lo) (by omega)
    rwa [show lo + (i - lo) = i by omega] at this
   have b2' : ∀ i, lo + l ≤ i → i < lo + k → K (arrOf sy) (lo + k) ≤ K (arrOf sy) i := fun i h1 h2 => by
    have := b2 (i - lo) (by omega) (by omega)
    rw [show lo + (i - lo) = i by omega] at this
    exact Int.le_of_lt this
   repeat' split
   all_goals first
    | (exfalso; omega)
    | exact Int.le_refl _
    | exact b1' _ (by omega) (by omega)
    | exact b2' _ (by omega) (by omega)
    | exact hO _ _ (by omega) (by omega) (by omega)
 ·rintro c sx ⟨rfl, hU, hO⟩
  rw [show min (max (max ok 1) n) n = n by omega] at hO
  exact ⟨rfl, hU, hO⟩
 ·by_cases e : ok = 0
  ·have : i = j := by omega
   subst this; exact Int.le_refl _
  ·exact hO i j h1 h2 (by omega)
 ·rintro c sx ⟨rfl, hU, hO⟩
  exact wpS_pure (h sx hU hO)
def Runs (xs : Array Keyed) : Nat → List (Nat × Nat × Nat) → Nat → Prop
 | f, [], t => f = t
 | f, q :: r, t => q.1 = f ∧ 1 ≤ q.2.1 ∧ SOn xs f (f + q.2.1) ∧ Runs xs (f + q.2.1) r t
theorem runs_le {xs : Array Keyed} : ∀ {p : List (Nat × Nat × Nat)} {f t : Nat}, Runs xs f p t → f + p.length ≤ t
 | [], f, t, h => by have : f = t := h; simp [this]
 | q :: r, f, t, ⟨h1, h2, h3, h4⟩ => by have := runs_le h4; rw [List.length_cons]; omega
theorem runs_app {xs : Array Keyed} : ∀ {p q : List (Nat × Nat × Nat)} {f t : Nat}, Runs xs f (p ++ q) t ↔ ∃ m, Runs xs f p m ∧ Runs xs m q t
 | [], q, f, t => ⟨fun h => ⟨f, rfl, h⟩, fun ⟨m, h1, h2⟩ => by have : f = m := h1; subst this; exact h2⟩
 | x :: p, q, f, t => by
  constructor
  ·rintro ⟨h1, h2, h3, h4⟩
   obtain ⟨m, h5, h6⟩ := runs_app.mp h4
   exact ⟨m, ⟨h1, h2, h3, h5⟩, h6⟩
  ·rintro ⟨m, ⟨h1, h2, h3, h4⟩, h5⟩
   exact ⟨h1, h2, h3, runs_app.mpr ⟨m, h4, h5⟩⟩
theorem sOn_congr {xs ys : Array Keyed} {lo hi : Nat} (h : SOn xs lo hi) (e : ∀ u, lo ≤ u → u < hi → ys[u]? = xs[u]?) : SOn ys lo hi := fun i j h1 h2 h3 => by
 rw [K_congr (e i h1 (by omega)), K_congr (e j (by omega) h3)]; exact h i j h1 h2 h3
theorem runs_congr {xs ys : Array Keyed} : ∀ {p : List (Nat × Nat × Nat)} {f t : Nat}, Runs xs f p t → (∀ u, f ≤ u → u < t → ys[u]? = xs[u]?) → Runs ys f p t
 | [], f, t, h, _ => h
 | q :: r, f, t, ⟨h1, h2, h3, h4⟩, e => by
  have := runs_le h4
  exact ⟨h1, h2, sOn_congr h3 fun u u1 u2 => e u u1 (by omega), runs_congr h4 fun u u1 u2 => e u (by omega) u2⟩
theorem wpS_mergeR {st : SortSt} {i t : Nat} {Q : Bool → SortSt → Prop} (h0 : IntKeys a₀) (hS : SG a₀ st) (hR : Runs (arrOf st) 0 (pendingOf st).toList t) (hi : i + 1 < (pendingOf st).size) (ht : t ≤ a₀.size)
  (h : ∀ sx, SG a₀ sx → Runs (arrOf sx) 0 (pendingOf sx).toList t → (pendingOf sx).size + 1 = (pendingOf st).size → (∀ u, t ≤ u → (arrOf sx)[u]? = (arrOf st)[u]?) → Q true sx) : wpS (model prog w) A E s (mergeAt' i) Q st := by
 have hlen : (pendingOf st).toList.length = (pendingOf st).size := Array.length_toList
 have e : (pendingOf st).toList = (pendingOf st).toList.take i ++ (pendingOf st).toList[i] :: (pendingOf st).toList[i + 1] :: (pendingOf st).toList.drop (i + 2) := by
  rw [← List.drop_eq_getElem_cons (i := i + 1), ← List.drop_eq_getElem_cons (i := i), List.take_append_drop]
 generalize hl1 : (pendingOf st).toList.take i = l1 at e
 generalize hl2 : (pendingOf st).toList.drop (i + 2) = l2 at e
 have n1 : l1.length = i := by rw [← hl1, List.length_take]; omega
 have n2 : l2.length + (i + 2) = (pendingOf st).size := by rw [← hl2, List.length_drop]; omega
 obtain ⟨⟨sa, na, pw⟩, ex⟩ : ∃ x, x = (pendingOf st).toList[i] := ⟨_, rfl⟩
 obtain ⟨⟨sb, nb, pw2⟩, ey⟩ : ∃ x, x = (pendingOf st).toList[i + 1] := ⟨_, rfl⟩
 rw [← ex, ← ey] at e
 rw [e, runs_app] at hR
 obtain ⟨m, r1, r2, r3, r4, r5, r6, r7, r8⟩ := hR
 simp only at r2 r3 r4 r5 r6 r7 r8
 subst r2
 have l8 := runs_le r8
 have l1' := runs_le r1
 refine wpS_mergeAt h0 hS e n1 r5 r3 r6 (by omega) (by rw [r5]; exact r4) (by rw [r5]; exact r7) fun sx g1 g2 g3 g4 => ?_
 refine h sx g1 ?_ ?_ fun u hu => g4 u (by omega)
 ·rw [g2, runs_app]
  refine ⟨sa, runs_congr r1 fun u u1 u2 => g4 u (by omega), rfl, by show 1 ≤ na + nb; omega, ?_, ?_⟩
  ·show SOn _ sa (sa + (na + nb))
   rw [show sa + (na + nb) = sb + nb by omega]; exact g3
  ·show Runs _ (sa + (na + nb)) l2 t
   rw [show sa + (na + nb) = sa + na + nb by omega]
   exact runs_congr r8 fun u u1 u2 => g4 u (by omega)
 ·have := congrArg List.length g2
  rw [Array.length_toList, List.length_append, List.length_cons] at this
  omega
end
end So
end
section
set_option Elab.async false
set_option linter.all false
set_option maxRecDepth 100000
set_option maxHeartbeats 4000000
namespace So
open PySem PyProof.Rows
section
variable {prog : Program} {w : World} {A : Around} {E : Value → Shared → Prop} {s : Shared} {a₀ : Array Keyed}
theorem back_pos {α : Type} {p : Array α} {x : α} (h : p.back? = some x) : 0 < p.size := by
 rcases Nat.eq_zero_or_pos p.size with e | e
 ·have : p = #[] := Array.eq_empty_of_size_eq_zero e
  subst this; simp at h
 ·exact e
theorem runs_pow {xs : Array Keyed} {p : Array (Nat × Nat × Nat)} {t pw : Nat} (h : Runs xs 0 p.toList t) : Runs xs 0 (p.modify (p.size - 1) fun q => (q.1, q.2.1, pw)).toList t := by
 have key : ∀ (l : List (Nat × Nat × Nat)) (i f : Nat), Runs xs f l t → Runs xs f (l.modify i fun q => (q.1, q.2.1, pw)) t := by
  intro l
  induction l with
  | nil => intro i f h; simpa using h
  | cons q r ih =>
   intro i f h
   obtain ⟨h1, h2, h3, h4⟩ := h
   cases i with
   | zero => rw [List.modify_zero_cons]; exact ⟨h1, h2, h3, h4⟩
   | succ i => rw [List.modify_succ_cons]; exact ⟨h1, h2, h3, ih i _ h4⟩
 rw [Array.toList_modify]
 exact key _ _ _ h
theorem runs_push {xs : Array Keyed} {p : Array (Nat × Nat × Nat)} {lo n : Nat} (h : Runs xs 0 p.toList lo) (h1 : 1 ≤ n) (hO : SOn xs lo (lo + n)) : Runs xs 0 (p.push (lo, n, 0)).toList (lo + n) := by
 rw [Array.toList_push]
 exact runs_app.mpr ⟨lo, h, rfl, h1, hO, rfl⟩
theorem wpS_sortRunsG {st : SortSt} {Q : Unit → SortSt → Prop} (h0 : IntKeys a₀) (hS : SG a₀ st) (hp : pendingOf st = #[])
  (h : ∀ sx, (arrOf sx).Perm a₀ → failedOf sx = none → SortedTo (arrOf sx) a₀.size → Q () sx) : wpS (model prog w) A E s sortRuns' Q st := by
 rw [sortRuns'_eq]
 refine wpS_bind (wpS_get ?_)
 try dsimp only
 rw [hS.size]
 refine wpS_bind (wpS_mono (wpS_forRange (I := fun x c sx => SG a₀ sx ∧ ∃ lo, c = (none, lo) ∧ Runs (arrOf sx) 0 (pendingOf sx).toList lo ∧ lo ≤ a₀.size ∧ x ≤ lo) (Q := fun c sx => SG a₀ sx ∧ ∃ lo, c = (none, lo) ∧ Runs (arrOf sx) 0 (pendingOf sx).toList a₀.size) ?_ ?_ ⟨hS, 0, rfl, by rw [hp]; rfl, by omega, by omega⟩) ?_)
 ·rintro x c sx - hx ⟨hS, lo, rfl, hR, hlo, hxl⟩
  try dsimp only
  by_cases hge : lo ≥ a₀.size
  ·rw [if_pos hge]
   have e : lo = a₀.size := by omega
   rw [e] at hR
   exact wpS_pure ⟨hS, lo, rfl, hR⟩
  ·rw [if_neg hge]
   refine wpS_bind (wpS_countRunG h0 hS (by omega) (by omega) fun m sy m1 m2 hU hO => ?_)
   try dsimp only
   by_cases hm : m < minRun' a₀.size a₀.size 0
   ·rw [if_pos hm]
    refine wpS_bind (wpS_lift (wpAny_rule ⟨rfl, ?_⟩))
    generalize hf : min (a₀.size - lo) (minRun' a₀.size a₀.size 0) = force
    refine wpS_bind (wpS_binarySortG h0 hU.sg (by omega) (by omega) hO fun sx hU2 hO => ?_)
    try dsimp only
    rw [if_neg (by decide)]
    have hS := hU2.sg
    have hR : Runs (arrOf sx) 0 (pendingOf sx).toList lo := by
     rw [hU2.pend, hU.pend]
     exact runs_congr hR fun u u1 u2 => (hU2.out u (.inl u2)).trans (hU.out u (.inl u2))
    have n1' : 1 ≤ force := by omega
    refine wpS_bind (wpS_get ?_)
    rcases hb : (pendingOf sx).back? with _ | ⟨s1, n1, pz⟩
    ·try dsimp only
     exact wpS_bind (wpS_modify (wpS_pure ⟨⟨hS.perm, hS.kind, hS.failed⟩, lo + force, rfl, runs_push hR n1' hO, by omega, by omega⟩))
    ·try dsimp only
     have hpos := back_pos hb
     refine wpS_bind (wpS_mono (wpS_forRange (I := fun _ c sy => c = (none, ()) ∧ SG a₀ sy ∧ Runs (arrOf sy) 0 (pendingOf sy).toList lo ∧ SOn (arrOf sy) lo (lo + force)) (Q := fun c sy => c = (none, ()) ∧ SG a₀ sy ∧ Runs (arrOf sy) 0 (pendingOf sy).toList lo ∧ SOn (arrOf sy) lo (lo + force)) ?_ (fun _ _ q => q) ⟨rfl, hS, hR, hO⟩) ?_)
     ·rintro y c sy - hy ⟨rfl, hS, hR, hO⟩
      refine wpS_bind (wpS_get ?_)
      by_cases hg : (pendingOf sy).size > 1
      ·rw [if_pos hg]
       rcases he : (pendingOf sy)[(pendingOf sy).size - 2]? with _ | ⟨u1, u2, older⟩
       ·try dsimp only
        exact wpS_pure ⟨rfl, hS, hR, hO⟩
       ·try dsimp only
        split
        ·exact wpS_pure ⟨rfl, hS, hR, hO⟩
        ·refine wpS_bind (wpS_mergeR h0 hS hR (by omega) (by omega) fun sz g1 g2 g3 g4 => ?_)
         try dsimp only
         rw [if_neg (by decide)]
         exact wpS_pure ⟨rfl, g1, g2, sOn_congr hO fun u u1 u2 => g4 u u1⟩
      ·rw [if_neg hg]
       try dsimp only
       exact wpS_pure ⟨rfl, hS, hR, hO⟩
     ·rintro c sy ⟨rfl, hS, hR, hO⟩
      try dsimp only
      exact wpS_bind (wpS_modify (wpS_bind (wpS_modify (wpS_pure ⟨⟨hS.perm, hS.kind, hS.failed⟩, lo + force, rfl, runs_push (runs_pow hR) n1' hO, by omega, by omega⟩))))
   ·rw [if_neg hm]
    have hS := hU.sg
    have hR : Runs (arrOf sy) 0 (pendingOf sy).toList lo := by
     rw [hU.pend]
     exact runs_congr hR fun u u1 u2 => hU.out u (.inl u2)
    generalize hsx : sy = sx at hS hR hO
    have n1' : 1 ≤ m := m1
    refine wpS_bind (wpS_get ?_)
    rcases hb : (pendingOf sx).back? with _ | ⟨s1, n1, pz⟩
    ·try dsimp only
     exact wpS_bind (wpS_modify (wpS_pure ⟨⟨hS.perm, hS.kind, hS.failed⟩, lo + m, rfl, runs_push hR n1' hO, by omega, by omega⟩))
    ·try dsimp only
     have hpos := back_pos hb
     refine wpS_bind (wpS_mono (wpS_forRange (I := fun _ c sy => c = (none, ()) ∧ SG a₀ sy ∧ Runs (arrOf sy) 0 (pendingOf sy).toList lo ∧ SOn (arrOf sy) lo (lo + m)) (Q := fun c sy => c = (none, ()) ∧ SG a₀ sy ∧ Runs (arrOf sy) 0 (pendingOf sy).toList lo ∧ SOn (arrOf sy) lo (lo + m)) ?_ (fun _ _ q => q) ⟨rfl, hS, hR, hO⟩) ?_)
     ·rintro y c sy - hy ⟨rfl, hS, hR, hO⟩
      refine wpS_bind (wpS_get ?_)
      by_cases hg : (pendingOf sy).size > 1
      ·rw [if_pos hg]
       rcases he : (pendingOf sy)[(pendingOf sy).size - 2]? with _ | ⟨u1, u2, older⟩
       ·try dsimp only
        exact wpS_pure ⟨rfl, hS, hR, hO⟩
       ·try dsimp only
        split
        ·exact wpS_pure ⟨rfl, hS, hR, hO⟩
        ·refine wpS_bind (wpS_mergeR h0 hS hR (by omega) (by omega) fun sz g1 g2 g3 g4 => ?_)
         try dsimp only
         rw [if_neg (by decide)]
         exact wpS_pure ⟨rfl, g1, g2, sOn_congr hO fun u u1 u2 => g4 u u1⟩
      ·rw [if_neg hg]
       try dsimp only
       exact wpS_pure ⟨rfl, hS, hR, hO⟩
     ·rintro c sy ⟨rfl, hS, hR, hO⟩
      try dsimp only
      exact wpS_bind (wpS_modify (wpS_bind (wpS_modify (wpS_pure ⟨⟨hS.perm, hS.kind, hS.failed⟩, lo + m, rfl, runs_push (runs_pow hR) n1' hO, by omega, by omega⟩))))
 ·rintro c sx ⟨hS, lo, rfl, hR, hlo, hxl⟩
  have e : lo = a₀.size := by omega
  rw [e] at hR
  exact ⟨hS, lo, rfl, hR⟩
 ·rintro c sx ⟨hS, lo, rfl, hR⟩
  try dsimp only
  refine wpS_bind (wpS_mono (wpS_forRange (I := fun x c sy => c = (none, ()) ∧ SG a₀ sy ∧ Runs (arrOf sy) 0 (pendingOf sy).toList a₀.size ∧ (pendingOf sy).size + x ≤ a₀.size) (Q := fun c sy => c = (none, ()) ∧ SG a₀ sy ∧ Runs (arrOf sy) 0 (pendingOf sy).toList a₀.size ∧ (pendingOf sy).size ≤ 1) ?_ ?_ ⟨rfl, hS, hR, ?_⟩) ?_)
  ·rintro x c sy - hx ⟨rfl, hS, hR, hz⟩
   refine wpS_bind (wpS_get ?_)
   by_cases h1 : (pendingOf sy).size ≤ 1
   ·rw [if_pos h1]
    exact wpS_pure ⟨rfl, hS, hR, h1⟩
   ·rw [if_neg h1]
    have hj2 : ∀ (c : Bool) (n : Nat), ¬ n ≤ 1 → (if c = true then n - 2 - 1 else n - 2) + 1 < n := by
     intro c n hn
     cases c
     ·rw [if_neg (by decide)]; omega
     ·rw [if_pos rfl]; omega
    refine wpS_bind (wpS_mergeR h0 hS hR (hj2 _ _ h1) (Nat.le_refl _) fun sz g1 g2 g3 g4 => ?_)
    try dsimp only
    rw [if_neg (by decide)]
    exact wpS_pure ⟨rfl, g1, g2, by omega⟩
  ·rintro c sy ⟨rfl, hS, hR, hz⟩
   exact ⟨rfl, hS, hR, by omega⟩
  ·have := runs_le hR
   rw [Array.length_toList] at this
   omega
  ·rintro c sy ⟨rfl, hS, hR, hz⟩
   try dsimp only
   refine wpS_pure (h sy hS.perm hS.failed ?_)
   rcases hl : (pendingOf sy).toList with _ | ⟨q, _ | ⟨q2, r⟩⟩
   ·rw [hl] at hR
    have e : 0 = a₀.size := hR
    intro i j _ hj
    omega
   ·rw [hl] at hR
    obtain ⟨r1, r2, r3, r4⟩ := hR
    have e : 0 + q.2.1 = a₀.size := r4
    rw [e] at r3
    exact fun i j hij hj => r3 i j (Nat.zero_le _) hij hj
   ·have := congrArg List.length hl
    rw [Array.length_toList, List.length_cons, List.length_cons] at this
    omega
end
end So
end
section
set_option Elab.async false
set_option linter.all false
set_option maxRecDepth 100000
set_option maxHeartbeats 4000000
namespace So
open PySem PyProof.Rows
section
variable {prog : Program} {w : World} {A : Around} {E : Value → Shared → Prop} {s : Shared}
theorem sort_tree {a : Addr} {vs : List Value} {ns : List Int} {n : Nat} {P : Fin → Shared → Prop} (ho : s.heap.get? a = some (seqObj "list" vs.toArray n)) (hI : IntsAre vs ns) (hz : vs.length ≤ sizeLine)
  (h : ∀ (out : Array Value) (ns' : List Int), IntsAre out.toList ns' → ns'.Perm ns → ns'.Pairwise (· ≤ ·) → P (.done (.ret .none)) { s with heap := sortedHeap s.heap a vs out }) :
  wpAny (model prog w) A (Builtin.«list.sort» ⟨[.ref a], []⟩) P E s := by
 by_cases h64 : vs.length < 64
 ·exact list_sort_tree ho hI h64 h
 rw [list_sort_plain]
 have ha : a < s.heap.objs.size := Heap.lt_size ho
 have hsz : vs.toArray.size = vs.length := by simp
 refine wpAny_bind (listItems_at ho rfl (wpAny_bind (listUpdate_at ho rfl ?_ (by rw [hsz]; exact hz))))
 obtain ⟨e1, ho1⟩ : ∃ e1, (s.heap.update a (Obj.mapSeq fun _ => #[])).get? a = some (seqObj "list" #[] e1) := ⟨_, get?_update_seq ho (fun _ => #[])⟩
 refine wpAny_bind (seqEpoch_at ho1 rfl (wpAny_bind (wpAny_newTuple ?_ (by size_fits))))
 refine wpAny_bind (wpAny_newList (wpAny_holding ?_))
 have ho6 : (((s.heap.update a (Obj.mapSeq fun _ => #[])).push (seqObj "tuple" vs.toArray 0)).push (seqObj "list" #[] 0)).get? a = some (seqObj "list" #[] e1) := by
  have q1 : a ≠ ((s.heap.update a (Obj.mapSeq fun _ => #[])).push (seqObj "tuple" vs.toArray 0)).objs.size := by rw [size_push', Heap.size_update]; exact Nat.ne_of_lt (Nat.lt_succ_of_lt ha)
  have q2 : a ≠ (s.heap.update a (Obj.mapSeq fun _ => #[])).objs.size := by rw [Heap.size_update]; exact Nat.ne_of_lt ha
  rw [Heap.get?_push_ne _ _ _ q1, Heap.get?_push_ne _ _ _ q2]
  exact ho1
 show wpAny (model prog w) A _ P E { s with heap := ((s.heap.update a (Obj.mapSeq fun _ => #[])).push (seqObj "tuple" vs.toArray 0)).push (seqObj "list" #[] 0) }
 dsimp only
 have h2 : ¬ vs.toArray.size < 2 := by omega
 rw [if_neg h2, if_neg h2]
 have hkk : keyKind' vs.toArray = pure oneType' := by
  match vs, h64, hI with
  | [], h, _ => simp at h
  | [_], h, _ => simp at h
  | v₁ :: v₂ :: rest, _, hI => exact keyKind_ints hI
 rw [hkk]
 refine wpAny_bind (wpAny_pure ?_)
 refine wpAny_bind (wpAny_mono (wpS_sortRunsG (a₀ := pairsOf vs) (st := SortSt.mk' oneType' (vs.toArray.zip vs.toArray) #[] 7 none)
  (Q := fun _ sx => (arrOf sx).Perm (pairsOf vs) ∧ failedOf sx = none ∧ SortedTo (arrOf sx) (pairsOf vs).size) hI.intKeys ⟨Array.Perm.refl _, rfl, rfl⟩ rfl fun sx a1 a2 a3 => ⟨a1, a2, a3⟩) ?_ fun _ _ e => e)
 rintro ⟨⟨⟩, sx⟩ s' ⟨rfl, hp, hf, hs⟩
 dsimp only
 refine wpAny_bind (seqEpoch_at ho6 rfl ?_)
 refine wpAny_bind (listUpdate_at ho6 rfl ?_ (hsz2 := ?_))
 ·rw [hf]
  simp only [bne_self_eq_false, Bool.false_eq_true, if_false]
  obtain ⟨ns', b1, b2, b3⟩ := sorted_out hI hp hs
  exact wpAny_pure (h _ ns' b1 b2 b3)
 ·refine Nat.le_trans (Nat.le_of_eq ((Array.size_map ..).trans (hp.size_eq.trans (pairsOf_size _)))) ?_
  omega
end
end So
namespace L2
open PySem PySem.Spec PySem.Calls PyProof.Rows PySem.W
section
variable {prog : Program} {w : World} {A : Around} {E : Value → Shared → Prop} {s : Shared} {T : String} {r d : Addr} {n : Nat} {P : Nat → Value → Prop} {OK : Heap → Prop}
theorem sorted_tail {ns : List Int} {x : Value} {Q : Value → Shared → Prop} (hc : ∀ (Q' : List Value → Shared → Prop) (E' : Value → Shared → Prop),
   (∀ h' tk vs, (∀ b o, s.heap.get? b = some o → h'.get? b = some o) → s.heap.objs.size < h'.objs.size → IntsAre vs ns → Q' vs { s with heap := h', toks := tk }) → wpAny (model prog w) A.in1 (collect x) Q' E' s) (hz : ns.length ≤ sizeLine)
  (h : ∀ (h' : Heap) (tk e : Nat) (a : Addr) (out : Array Value) (ns' : List Int), (∀ b o, s.heap.get? b = some o → h'.get? b = some o) → s.heap.objs.size ≤ a → h'.get? a = some (seqObj "list" out e) →
   IntsAre out.toList ns' → ns'.Perm ns → ns'.Pairwise (· ≤ ·) → Q (.ref a) { s with heap := h', toks := tk }) :
  wpAny (model prog w) A (call (.builtin "sorted") [x]) Q E s := by
 refine Calls.call_function_entry kind_sorted plain_sorted entry_sorted (args_sorted1 _) ?_
 unfold Builtin.«sorted»
 refine wpAny_bind (m := checkCount "sorted" 1 1 _) (wpAny_pure ?_)
 refine wpAny_bind (hc _ _ fun h1 tk vs kp hs hi => ?_)
 have hl : vs.length ≤ sizeLine := by rw [← ints_len hi]; exact hz
 refine wpAny_bind (wpAny_newList ?_ hl)
 have hoL : (h1.push (seqObj "list" vs.toArray 0)).get? h1.objs.size = some (seqObj "list" vs.toArray 0) := Heap.get?_push_size _ rfl
 show wpAny _ _ _ _ _ { s with heap := h1.push (seqObj "list" vs.toArray 0), toks := tk }
 refine wpAny_bind (wpAny_holding (wpAny_call_entry slot_list_sort ⟨_, hoL, rfl⟩ entry_list_sort (So.sort_tree hoL hi hl fun out ns' a1 a2 a3 => ⟨_, rfl, ?_⟩) (args_list_sort _)))
 obtain ⟨e, he⟩ := sortedHeap_at (out := out) hoL
 refine wpAny_pure ⟨_, rfl, h _ tk e h1.objs.size out ns' (fun b o q => ?_) (Nat.le_of_lt hs) he a1 a2 a3⟩
 have hb := Heap.lt_size (kp b o q)
 rw [sortedHeap_old (Nat.ne_of_lt hb) (by rw [size_push']; exact Nat.lt_succ_of_lt hb)]
 exact Heap.get?_push_of_some _ (kp b o q)
end
section
variable {X : Cx}
def rSortL (K : PySem.W.Frag) (xs : List V) (H : Hp) (Q : VK) : Prop := ∃ (p : Addr) (ks : List Int), xs = [.ref p] ∧ SqL K H p (ks.map V.int) ∧
 ∀ l (ns : List Int), H l = none → ns.Perm ks → ns.Pairwise (· ≤ ·) → Q (.ref l) (upd H l (.lst (ns.map V.int)))
theorem call_sortL : CallR X (.builtin "sorted") (rSortL X.K) := by
 intro pins s σ H xs us Q I r h
 obtain ⟨p, ks, rfl, hq, q⟩ := h
 obtain ⟨u, rfl, rx⟩ := vals1 r
 cases rx
 obtain ⟨its, r', pl, hz⟩ := I.list hq
 have hi := intsAre_of r'
 rw [List.length_map] at hz
 have hlen := ints_len hi
 refine sorted_tail (ns := ks) (fun Q' E' hq => ?_) hz fun h' tk e' a' out ns' kp ha he hi hp hs => ?_
 ·refine collect_list pl.isList (hq _ s.toks its (fun b o e => ?_) ?_ hi) (by omega)
  ·rw [Heap.get?_update_ne _ _ _ _ (Nat.ne_of_lt (Heap.lt_size e))]
   exact Heap.get?_push_of_some _ e
  ·rw [Heap.size_update, size_push']; exact Nat.lt_succ_self _
 ·have hl2 := hp.length_eq
  exact ⟨.ref a', _, I.laid (t' := tk) kp ha (show ObjOk X.prog X.w _ h' _ (.lst (ns'.map V.int)) from ⟨by rw [List.length_map]; omega, out.toList, e', ints_vals hi, by simpa using he⟩), rfl, q _ _ (I.hok.fresh ha) hp hs⟩
end
end L2
end
section
set_option Elab.async false
set_option linter.all false
set_option maxRecDepth 100000
set_option maxHeartbeats 4000000
namespace K9
open PySem L2 BK
def top (i : Nat) : Stmt := PySem.Challenge.pw_blockkeep_k09_maps.main.body.getD i (.Pass ⟨0, 0, 0, 0⟩)
abbrev s_is_whole : Stmt := top 14
theorem sc_is_whole : FnScope ["thing", "least", "most"] ["thing", "least", "most"] (defScope s_is_whole) := ⟨rfl, rfl, rfl, by decide +kernel, rfl, by decide +kernel, by decide +kernel⟩
abbrev s_Layout___init__ : Stmt := inClass (top 38) 0
theorem sc_Layout___init__ : FnScope ["self", "many", "tables"] ["self", "many", "tables"] (defScope s_Layout___init__) := ⟨rfl, rfl, rfl, by decide +kernel, rfl, by decide +kernel, by decide +kernel⟩
abbrev s_empty_row : Stmt := top 18
theorem sc_empty_row : FnScope [] [] (defScope s_empty_row) := ⟨rfl, rfl, rfl, by decide +kernel, rfl, by decide +kernel, by decide +kernel⟩
abbrev s_Disk___init__ : Stmt := inClass (top 32) 0
theorem sc_Disk___init__ : FnScope ["self", "many"] ["self", "many"] (defScope s_Disk___init__) := ⟨rfl, rfl, rfl, by decide +kernel, rfl, by decide +kernel, by decide +kernel⟩
abbrev s_Batch___init__ : Stmt := inClass (top 47) 0
theorem sc_Batch___init__ : FnScope ["self", "disk"] ["self", "disk"] (defScope s_Batch___init__) := ⟨rfl, rfl, rfl, by decide +kernel, rfl, by decide +kernel, by decide +kernel⟩
abbrev s_new_maps : Stmt := top 23
theorem sc_new_maps : FnScope ["layout", "places", "free", "words"] ["layout"] (defScope s_new_maps) := ⟨rfl, rfl, rfl, by decide +kernel, rfl, by decide +kernel, by decide +kernel⟩
abbrev s_Disk_writes : Stmt := inClass (top 32) 4
theorem sc_Disk_writes : FnScope ["self"] ["self"] (defScope s_Disk_writes) := ⟨rfl, rfl, rfl, by decide +kernel, rfl, by decide +kernel, by decide +kernel⟩
abbrev s_Disk_blocks : Stmt := inClass (top 32) 1
theorem sc_Disk_blocks : FnScope ["self"] ["self"] (defScope s_Disk_blocks) := ⟨rfl, rfl, rfl, by decide +kernel, rfl, by decide +kernel, by decide +kernel⟩
abbrev s_Disk_refuse_no_block : Stmt := inClass (top 32) 8
theorem sc_Disk_refuse_no_block : FnScope ["self", "block"] ["self", "block"] (defScope s_Disk_refuse_no_block) := ⟨rfl, rfl, rfl, by decide +kernel, rfl, by decide +kernel, by decide +kernel⟩
abbrev s_Disk_use_up_one : Stmt := inClass (top 32) 9
theorem sc_Disk_use_up_one : FnScope ["self"] ["self"] (defScope s_Disk_use_up_one) := ⟨rfl, rfl, rfl, by decide +kernel, rfl, by decide +kernel, by decide +kernel⟩
abbrev s_is_word : Stmt := top 15
theorem sc_is_word : FnScope ["thing"] ["thing"] (defScope s_is_word) := ⟨rfl, rfl, rfl, by decide +kernel, rfl, by decide +kernel, by decide +kernel⟩
abbrev s_are_words : Stmt := top 16
theorem sc_are_words : FnScope ["thing"] ["thing"] (defScope s_are_words) := ⟨rfl, rfl, rfl, by decide +kernel, rfl, by decide +kernel, by decide +kernel⟩
abbrev s_is_row : Stmt := top 17
theorem sc_is_row : FnScope ["thing"] ["thing"] (defScope s_is_row) := ⟨rfl, rfl, rfl, by decide +kernel, rfl, by decide +kernel, by decide +kernel⟩
abbrev s_Disk_write : Stmt := inClass (top 32) 3
theorem sc_Disk_write : FnScope ["self", "block", "row"] ["self", "block", "row"] (defScope s_Disk_write) := ⟨rfl, rfl, rfl, by decide +kernel, rfl, by decide +kernel, by decide +kernel⟩
abbrev s_is_home : Stmt := top 41
theorem sc_is_home : FnScope ["disk", "block"] ["disk", "block"] (defScope s_is_home) := ⟨rfl, rfl, rfl, by decide +kernel, rfl, by decide +kernel, by decide +kernel⟩
abbrev s_Batch_write : Stmt := inClass (top 47) 2
theorem sc_Batch_write : FnScope ["self", "block", "row"] ["self", "block", "row"] (defScope s_Batch_write) := ⟨rfl, rfl, rfl, by decide +kernel, rfl, by decide +kernel, by decide +kernel⟩
abbrev s_Disk_read : Stmt := inClass (top 32) 2
theorem sc_Disk_read : FnScope ["self", "block"] ["self", "block"] (defScope s_Disk_read) := ⟨rfl, rfl, rfl, by decide +kernel, rfl, by decide +kernel, by decide +kernel⟩
abbrev s_Batch_read : Stmt := inClass (top 47) 1
theorem sc_Batch_read : FnScope ["self", "block"] ["self", "block"] (defScope s_Batch_read) := ⟨rfl, rfl, rfl, by decide +kernel, rfl, by decide +kernel, by decide +kernel⟩
abbrev s__law_told : Stmt := top 58
theorem sc__law_told : FnScope ["_law_batch", "_law_layout", "_law_free", "_law_rows_here", "_law_words", "_law_row"] ["_law_batch", "_law_layout", "_law_free"] (defScope s__law_told) := ⟨rfl, rfl, rfl, by decide +kernel, rfl, by decide +kernel, by decide +kernel⟩
abbrev s__law_cell_at : Stmt := top 49
theorem sc__law_cell_at : FnScope ["_law_script", "_law_k"] ["_law_script", "_law_k"] (defScope s__law_cell_at) := ⟨rfl, rfl, rfl, by decide +kernel, rfl, by decide +kernel, by decide +kernel⟩
abbrev s__law_whole : Stmt := top 50
theorem sc__law_whole : FnScope ["_law_found"] ["_law_found"] (defScope s__law_whole) := ⟨rfl, rfl, rfl, by decide +kernel, rfl, by decide +kernel, by decide +kernel⟩
abbrev s__law_rows : Stmt := top 51
theorem sc__law_rows : FnScope ["_law_found", "_law_row"] ["_law_found"] (defScope s__law_rows) := ⟨rfl, rfl, rfl, by decide +kernel, rfl, by decide +kernel, by decide +kernel⟩
abbrev s__law_apart : Stmt := top 52
theorem sc__law_apart : FnScope ["_law_layout", "_law_rows_here", "_law_copies", "_law_other"] ["_law_layout", "_law_rows_here"] (defScope s__law_apart) := ⟨rfl, rfl, rfl, by decide +kernel, rfl, by decide +kernel, by decide +kernel⟩
abbrev s__law_written : Stmt := top 56
theorem sc__law_written : FnScope ["_law_batch", "_law_layout", "_law_free", "_law_cell", "_law_block", "_law_row"] ["_law_batch", "_law_layout", "_law_free", "_law_cell"] (defScope s__law_written) := ⟨rfl, rfl, rfl, by decide +kernel, rfl, by decide +kernel, by decide +kernel⟩
abbrev s_is_free : Stmt := top 24
theorem sc_is_free : FnScope ["batch", "layout", "block", "row"] ["batch", "layout", "block"] (defScope s_is_free) := ⟨rfl, rfl, rfl, by decide +kernel, rfl, by decide +kernel, by decide +kernel⟩
abbrev s_free_blocks : Stmt := top 25
theorem sc_free_blocks : FnScope ["batch", "layout"] ["batch", "layout"] (defScope s_free_blocks) := ⟨rfl, rfl, rfl, by decide +kernel, rfl, by decide +kernel, by decide +kernel⟩
abbrev s_refuse_wrong_pairs : Stmt := top 43
theorem sc_refuse_wrong_pairs : FnScope ["disk", "pairs", "ahead", "block", "row"] ["disk", "pairs"] (defScope s_refuse_wrong_pairs) := ⟨rfl, rfl, rfl, by decide +kernel, rfl, by decide +kernel, by decide +kernel⟩
abbrev s_changed : Stmt := top 19
theorem sc_changed : FnScope ["row", "at", "words"] ["row", "at", "words"] (defScope s_changed) := ⟨rfl, rfl, rfl, by decide +kernel, rfl, by decide +kernel, by decide +kernel⟩
abbrev s_write_log : Stmt := top 44
theorem sc_write_log : FnScope ["disk", "pairs", "homes", "block", "row"] ["disk", "pairs"] (defScope s_write_log) := ⟨rfl, rfl, rfl, by decide +kernel, rfl, by decide +kernel, by decide +kernel⟩
abbrev s_write_homes : Stmt := top 45
theorem sc_write_homes : FnScope ["disk", "pairs", "block", "row"] ["disk", "pairs"] (defScope s_write_homes) := ⟨rfl, rfl, rfl, by decide +kernel, rfl, by decide +kernel, by decide +kernel⟩
abbrev s_commit : Stmt := top 42
theorem sc_commit : FnScope ["disk", "pairs"] ["disk", "pairs"] (defScope s_commit) := ⟨rfl, rfl, rfl, by decide +kernel, rfl, by decide +kernel, by decide +kernel⟩
abbrev s_Batch_pairs : Stmt := inClass (top 47) 3
theorem sc_Batch_pairs : FnScope ["self"] ["self"] (defScope s_Batch_pairs) := ⟨rfl, rfl, rfl, by decide +kernel, rfl, by decide +kernel, by decide +kernel⟩
abbrev s_Batch_finish : Stmt := inClass (top 47) 4
theorem sc_Batch_finish : FnScope ["self"] ["self"] (defScope s_Batch_finish) := ⟨rfl, rfl, rfl, by decide +kernel, rfl, by decide +kernel, by decide +kernel⟩
abbrev s__law_drawn : Stmt := top 53
theorem sc__law_drawn : FnScope ["_law_layout", "_law_free", "_law_cell", "_law_used"] ["_law_layout", "_law_free", "_law_cell"] (defScope s__law_drawn) := ⟨rfl, rfl, rfl, by decide +kernel, rfl, by decide +kernel, by decide +kernel⟩
abbrev s_mark : Stmt := top 28
theorem sc_mark : FnScope ["batch", "layout", "block", "word", "at"] ["batch", "layout", "block", "word"] (defScope s_mark) := ⟨rfl, rfl, rfl, by decide +kernel, rfl, by decide +kernel, by decide +kernel⟩
abbrev s_take : Stmt := top 26
theorem sc_take : FnScope ["batch", "layout", "blocks"] ["batch", "layout"] (defScope s_take) := ⟨rfl, rfl, rfl, by decide +kernel, rfl, by decide +kernel, by decide +kernel⟩
abbrev s_give : Stmt := top 27
theorem sc_give : FnScope ["batch", "layout", "block"] ["batch", "layout", "block"] (defScope s_give) := ⟨rfl, rfl, rfl, by decide +kernel, rfl, by decide +kernel, by decide +kernel⟩
abbrev s__law_refused : Stmt := top 54
theorem sc__law_refused : FnScope ["_law_batch", "_law_layout", "_law_way", "_law_block", "e", "_law_kinds"] ["_law_batch", "_law_layout", "_law_way", "_law_block"] (defScope s__law_refused) := ⟨rfl, rfl, rfl, by decide +kernel, rfl, by decide +kernel, by decide +kernel⟩
abbrev s__law_asked : Stmt := top 57
theorem sc__law_asked : FnScope ["_law_batch", "_law_layout", "_law_free", "_law_cell", "_law_found", "_law_block", "_law_says"] ["_law_batch", "_law_layout", "_law_free", "_law_cell"] (defScope s__law_asked) := ⟨rfl, rfl, rfl, by decide +kernel, rfl, by decide +kernel, by decide +kernel⟩
abbrev s__law_deed : Stmt := top 55
theorem sc__law_deed : FnScope ["_law_batch", "_law_layout", "_law_free", "_law_cell", "_law_block", "_law_least", "_law_good"] ["_law_batch", "_law_layout", "_law_free", "_law_cell"] (defScope s__law_deed) := ⟨rfl, rfl, rfl, by decide +kernel, rfl, by decide +kernel, by decide +kernel⟩
abbrev s_law : Stmt := top 59
theorem sc_law : FnScope ["_law_script", "_law_many", "_law_layout", "_law_disk", "_law_block", "_law_batch", "_law_rows_here", "_law_k", "_law_free", "_law_ahead", "_law_held", "_law_kept", "_law_cell"] ["_law_script"] (defScope s_law) := ⟨rfl, rfl, rfl, by decide +kernel, rfl, by decide +kernel, by decide +kernel⟩
structure Ad where
 cKeepError : Addr
 cBadRow : Addr
 cNoBlock : Addr
 cStopped : Addr
 cBadDisk : Addr
 cNoRoom : Addr
 cTooMuch : Addr
 cNoNode : Addr
 cNoNodes : Addr
 cDisk : Addr
 cLayout : Addr
 cBatch : Addr
 fLayout_init : Addr
 fDisk_init : Addr
 fBatch_init : Addr
 f_writes : Addr
 f_blocks : Addr
 f_refuse_no_block : Addr
 f_use_up_one : Addr
 f_write : Addr
 f_Batch_write : Addr
 f_read : Addr
 f_Batch_read : Addr
 f_pairs : Addr
 f_finish : Addr
structure Txt (K : PySem.W.Frag) (mg : Str → Option Value) (a : Ad) : Prop where
 isinstance : mg "isinstance" = none
 int : mg "int" = none
 bool : mg "bool" = none
 list : mg "list" = none
 len : mg "len" = none
 all : mg "all" = none
 range : mg "range" = none
 ValueError : mg "ValueError" = none
 min : mg "min" = none
 sorted : mg "sorted" = none
 enumerate : mg "enumerate" = none
 cROW_WORDS : ∃ t, mg "ROW_WORDS" = some (.int 16 t)
 cMOST_WORD : ∃ t, mg "MOST_WORD" = some (.int 999999999 t)
 cFREE : ∃ t, mg "FREE" = some (.int 0 t)
 cUSED : ∃ t, mg "USED" = some (.int 1 t)
 cLEAST_BLOCKS : ∃ t, mg "LEAST_BLOCKS" = some (.int 24 t)
 cMOST_BLOCKS : ∃ t, mg "MOST_BLOCKS" = some (.int 96 t)
 cLOG_HEAD_AT : ∃ t, mg "LOG_HEAD_AT" = some (.int 1 t)
 cLOG_ROWS_AT : ∃ t, mg "LOG_ROWS_AT" = some (.int 2 t)
 cMAPS_AT : ∃ t, mg "MAPS_AT" = some (.int 17 t)
 cMOST_TABLES : ∃ t, mg "MOST_TABLES" = some (.int 8 t)
 cMOST_HOMES : ∃ t, mg "MOST_HOMES" = some (.int 15 t)
 mKeepError : mg "KeepError" = some (.ref a.cKeepError)
 mBadRow : mg "BadRow" = some (.ref a.cBadRow)
 mNoBlock : mg "NoBlock" = some (.ref a.cNoBlock)
 mStopped : mg "Stopped" = some (.ref a.cStopped)
 mBadDisk : mg "BadDisk" = some (.ref a.cBadDisk)
 mNoRoom : mg "NoRoom" = some (.ref a.cNoRoom)
 mTooMuch : mg "TooMuch" = some (.ref a.cTooMuch)
 mNoNode : mg "NoNode" = some (.ref a.cNoNode)
 mNoNodes : mg "NoNodes" = some (.ref a.cNoNodes)
 mDisk : mg "Disk" = some (.ref a.cDisk)
 mLayout : mg "Layout" = some (.ref a.cLayout)
 mBatch : mg "Batch" = some (.ref a.cBatch)
 xBadRow : PySem.W.excIn K a.cBadRow veMro "ValueError.__new__" = true
 xNoBlock : PySem.W.excIn K a.cNoBlock veMro "ValueError.__new__" = true
 xStopped : PySem.W.excIn K a.cStopped veMro "ValueError.__new__" = true
 xBadDisk : PySem.W.excIn K a.cBadDisk veMro "ValueError.__new__" = true
 xTooMuch : PySem.W.excIn K a.cTooMuch veMro "ValueError.__new__" = true
 xNoRoom : PySem.W.excIn K a.cNoRoom veMro "ValueError.__new__" = true
 eNoBlock : ExcK K a.cNoBlock
 eNoRoom : ExcK K a.cNoRoom
 kKeepError : CatK K a.cKeepError
 sBadRow_KeepError : PySem.W.mroIn K a.cBadRow (.ref a.cKeepError) = some true
 sNoBlock_KeepError : PySem.W.mroIn K a.cNoBlock (.ref a.cKeepError) = some true
 sStopped_KeepError : PySem.W.mroIn K a.cStopped (.ref a.cKeepError) = some true
 sBadDisk_KeepError : PySem.W.mroIn K a.cBadDisk (.ref a.cKeepError) = some true
 sTooMuch_KeepError : PySem.W.mroIn K a.cTooMuch (.ref a.cKeepError) = some true
 sNoRoom_KeepError : PySem.W.mroIn K a.cNoRoom (.ref a.cKeepError) = some true
 qNoBlock_NoBlock : PySem.W.kitOne K (.ref a.cNoBlock) (.ref a.cNoBlock) = some true
 qNoBlock_NoRoom : PySem.W.kitOne K (.ref a.cNoBlock) (.ref a.cNoRoom) = some false
 qNoBlock_NoNode : PySem.W.kitOne K (.ref a.cNoBlock) (.ref a.cNoNode) = some false
 qNoBlock_NoNodes : PySem.W.kitOne K (.ref a.cNoBlock) (.ref a.cNoNodes) = some false
 qNoBlock_ValueError : PySem.W.kitOne K (.ref a.cNoBlock) (.type "ValueError") = some true
 qNoRoom_NoBlock : PySem.W.kitOne K (.ref a.cNoRoom) (.ref a.cNoBlock) = some false
 qNoRoom_NoRoom : PySem.W.kitOne K (.ref a.cNoRoom) (.ref a.cNoRoom) = some true
 qNoRoom_NoNode : PySem.W.kitOne K (.ref a.cNoRoom) (.ref a.cNoNode) = some false
 qNoRoom_NoNodes : PySem.W.kitOne K (.ref a.cNoRoom) (.ref a.cNoNodes) = some false
 qNoRoom_ValueError : PySem.W.kitOne K (.ref a.cNoRoom) (.type "ValueError") = some true
 clDisk : Cls K a.cDisk
 n_kept_rows : NoAttr K a.cDisk "kept_rows"
 n_writes_done : NoAttr K a.cDisk "writes_done"
 n_writes_left : NoAttr K a.cDisk "writes_left"
 mkDisk : Mk K a.cDisk a.fDisk_init
 m_writes : Meth K a.cDisk "writes" a.f_writes
 m_blocks : Meth K a.cDisk "blocks" a.f_blocks
 m_refuse_no_block : Meth K a.cDisk "refuse_no_block" a.f_refuse_no_block
 m_use_up_one : Meth K a.cDisk "use_up_one" a.f_use_up_one
 m_write : Meth K a.cDisk "write" a.f_write
 m_read : Meth K a.cDisk "read" a.f_read
 clLayout : Cls K a.cLayout
 n_many : NoAttr K a.cLayout "many"
 n_tables : NoAttr K a.cLayout "tables"
 n_maps_at : NoAttr K a.cLayout "maps_at"
 n_nodes_at : NoAttr K a.cLayout "nodes_at"
 n_data_at : NoAttr K a.cLayout "data_at"
 mkLayout : Mk K a.cLayout a.fLayout_init
 clBatch : Cls K a.cBatch
 n_disk : NoAttr K a.cBatch "disk"
 n_new_rows : NoAttr K a.cBatch "new_rows"
 mkBatch : Mk K a.cBatch a.fBatch_init
 m_Batch_write : Meth K a.cBatch "write" a.f_Batch_write
 m_Batch_read : Meth K a.cBatch "read" a.f_Batch_read
 m_pairs : Meth K a.cBatch "pairs" a.f_pairs
 m_finish : Meth K a.cBatch "finish" a.f_finish
def Df (P : Program) (w : World) (K : PySem.W.Frag) (mg : Str → Option Value) (base : Heap) (CX : CXT) (n : Nat) (x : Str) (ps : List Str) (sp : Sp) : Prop :=
 ∃ f fd, FnOk P w K mg base CX n f fd ps sp ∧ Binds K fd ps [] ∧ PySem.W.keepIn K (.ref f) = true ∧ mg x = some (.ref f)
def Mf (P : Program) (w : World) (K : PySem.W.Frag) (mg : Str → Option Value) (base : Heap) (CX : CXT) (n : Nat) (f : Addr) (ps : List Str) (sp : Sp) : Prop :=
 ∃ fd, FnOk P w K mg base CX n f fd ps sp ∧ Binds K fd ps []
end K9
end
section
set_option Elab.async false
set_option linter.all false
set_option maxRecDepth 100000
set_option maxHeartbeats 4000000
namespace K9
open PySem L2 BK
section
variable {P : Program} {w : World} {K : PySem.W.Frag} {mg : Str → Option Value} {base : Heap} {f : Addr} {fd : FuncData} {a : Ad}
def spWhole (K : PySem.W.Frag) (_ : Ad) : Sp := fun vs H Q _ => ∃ v lo hi, vs = [v, .int lo, .int hi] ∧ Kd K H v ∧ Q (.bl (wholeV v lo hi)) H
theorem ok_is_whole (F : Fun K "is_whole" "is_whole" s_is_whole f fd) (T : Txt K mg a)  : FnOk P w K mg base CX0 1 f fd ["thing", "least", "most"] (spWhole K a) := by
 have nd := sc_is_whole.nd
 refine F.ok sc_is_whole (fun vs H Q E h => ?_) (fun cdv A outer s H vs Q E hr h => ?_)
 ·obtain ⟨v, lo, hi, rfl, _⟩ := h
  rfl
 obtain ⟨v, lo, hi, rfl, ⟨t, ty, e1, e2, _⟩, q⟩ := h
 refine ⟨_, (pss_one (ps_ret (pe_and (pe_callB (call_isinst (T := "int")) rfl T.isinstance bt_isinstance (pa_cons (pv 0) (pa_cons (pe_bltn (v := .ty "int") rfl T.int bt_int rfl) pa_nil))) (pe_and (pe_not (pe_callB (call_isinst (T := "bool")) rfl T.isinstance bt_isinstance (pa_cons (pv 0) (pa_cons (pe_bltn (v := .ty "bool") rfl T.bool bt_bool rfl) pa_nil)))) (pe_one (pe_chain op_le op_le (pv 1) (pv 0) (pv 2))))))), ?_⟩
 refine ⟨_, rfl, _, t, _, rfl, ty, e1, _, rfl, ?_⟩
 cases v with
 | int i =>
  refine iteT ⟨_, rfl, _, t, _, rfl, ty, e2, _, rfl, _, rfl, iteT ?_⟩
  refine ⟨_, rfl, _, rfl, _, _, rfl, rfl, _, rfl, ?_⟩
  refine ite2 (fun c => ?_) (fun c => ?_)
  ·refine ⟨_, rfl, _, _, rfl, rfl, ?_⟩
   have c' : decide (lo ≤ i) = true := c
   have : wholeV (.int i) lo hi = decide (i ≤ hi) := by show (decide (lo ≤ i) && decide (i ≤ hi)) = _; rw [c', Bool.true_and]
   rw [this] at q
   exact q
  ·have c' : decide (lo ≤ i) = false := Bool.eq_false_iff.mpr c
   have : wholeV (.int i) lo hi = false := by show (decide (lo ≤ i) && decide (i ≤ hi)) = _; rw [c', Bool.false_and]
   rw [this] at q
   exact q
 | bl b => exact iteT ⟨_, rfl, _, t, _, rfl, ty, e2, _, rfl, _, rfl, iteF q⟩
 | _ => exact iteF q
def spWord (K : PySem.W.Frag) (_ : Ad) : Sp := fun vs H Q _ => ∃ v, vs = [v] ∧ Kd K H v ∧ Q (.bl (goodV v)) H
theorem ok_is_word (F : Fun K "is_word" "is_word" s_is_word f fd) (T : Txt K mg a) (D_is_whole : Df P w K mg base CX0 1 "is_whole" ["thing", "least", "most"] (spWhole K a)) : FnOk P w K mg base CX0 2 f fd ["thing"] (spWord K a) := by
 obtain ⟨_, _, Gis_whole, bis_whole, kis_whole, mis_whole⟩ := D_is_whole
 have nd := sc_is_word.nd
 refine F.ok sc_is_word (fun vs H Q E h => ?_) (fun cdv A outer s H vs Q E hr h => ?_)
 ·obtain ⟨v, rfl, _⟩ := h
  rfl
 obtain ⟨v, rfl, kd, q⟩ := h
 refine ⟨_, (pss_one (ps_ret (pe_call Gis_whole (hr.mono (by decide)) rfl mis_whole kis_whole bis_whole .nil pass0 (pa_cons (pv 0) (pa_cons pe_int (pa_cons (pe_glob (v := .int 999999999) rfl T.cMOST_WORD.choose_spec ⟨_, rfl⟩) pa_nil)))))), ?_⟩
 exact ⟨_, rfl, v, 0, 999999999, rfl, kd, q⟩
def spAre (K : PySem.W.Frag) (_ : Ad) : Sp := fun vs H Q _ => ∃ v, vs = [v] ∧ Kd K H v ∧ ((isL H v = false ∧ Q (.bl false) H) ∨ ∃ a xs, v = .ref a ∧ H a = some (.lst xs) ∧ xs.length ≤ 1000 ∧ (∀ x ∈ xs, Kd K H x) ∧ ∀ H', Same H H' → Q (.bl (xs.all goodV)) H')
theorem ok_are_words (F : Fun K "are_words" "are_words" s_are_words f fd) (T : Txt K mg a) (D_is_word : Df P w K mg base CX0 2 "is_word" ["thing"] (spWord K a)) : FnOk P w K mg base CX0 3 f fd ["thing"] (spAre K a) := by
 obtain ⟨_, _, Gis_word, bis_word, kis_word, mis_word⟩ := D_is_word
 have nd := sc_are_words.nd
 refine F.ok sc_are_words (fun vs H Q E h => ?_) (fun cdv A outer s H vs Q E hr h => ?_)
 ·obtain ⟨v, rfl, _⟩ := h
  rfl
 obtain ⟨v, rfl, ⟨t, ty, e1, e2, e3⟩, ha⟩ := h
 refine ⟨_, (pss_one (ps_ret (pe_and (pe_callB (call_isinst (T := "list")) rfl T.isinstance bt_isinstance (pa_cons (pv 0) (pa_cons (pe_bltn (v := .ty "list") rfl T.list bt_list rfl) pa_nil))) (pe_one (pe_callB (call_all rfl) rfl T.all bt_all (pa_cons (pe_lc (cl := []) (fj := []) (by exact ⟨rfl, by decide +kernel, rfl, by decide +kernel, rfl, fun _ h => (by cases h), by decide +kernel, fun _ h => (by cases h), by decide +kernel⟩) rfl (pi_list (pv 0)) (fun _ _ _ => pf_nil) (fun _ _ _ => (pe_call Gis_word (hr.mono (by decide)) rfl mis_word kis_word bis_word .nil pass0 (pa_cons (pv 0) pa_nil)))) pa_nil)))))), ?_⟩
 refine ⟨_, rfl, _, t, _, rfl, ty, e3, _, rfl, ?_⟩
 rcases ha with ⟨hl, q⟩ | ⟨p, xs, rfl, ha, hz, hk, q⟩
 ·exact iteF' hl q
 ·have hl : isL H (.ref p) = true := by show isLH (H _) = _; rw [ha]; rfl
  refine iteT' hl ⟨_, rfl, p, rfl, ⟨xs, SqL.of ha⟩, lc_test (sp := spWord K a) (g := goodV) (fun x H' Qf kd hq => ⟨x, rfl, kd, hq⟩) ha hz hk fun acc H' h1 h2 h3 => ?_⟩
  refine ⟨acc, xs.map goodV, rfl, SqL.of h3, ?_⟩
  rw [all_good]
  exact q H' h2
def RowA (K : PySem.W.Frag) (H : Hp) (v : V) (b : Bool) : Prop := Kd K H v ∧ ((isL H v = false ∧ b = false) ∨ ∃ a xs, v = .ref a ∧ H a = some (.lst xs) ∧ xs.length ≤ 1000 ∧ (∀ x ∈ xs, Kd K H x) ∧ b = (decide (xs.length = 16) && xs.all goodV))
theorem RowA.same {H H' : Hp} {v : V} {b : Bool} (h : RowA K H v b) (s : Same H H') : RowA K H' v b := by
 obtain ⟨kd, h⟩ := h
 refine ⟨kd.same s, ?_⟩
 rcases h with ⟨h1, h2⟩ | ⟨p, xs, h1, h2, h3, h4, h5⟩
 ·obtain ⟨t, ty, _⟩ := kd
  exact .inl ⟨by rw [isL_same s ty]; exact h1, h2⟩
 ·exact .inr ⟨p, xs, h1, s _ _ h2, h3, fun x hx => (h4 x hx).same s, h5⟩
def spIsRow (K : PySem.W.Frag) (_ : Ad) : Sp := fun vs H Q _ => ∃ v b, vs = [v] ∧ RowA K H v b ∧ ∀ H', Same H H' → Q (.bl b) H'
theorem ok_is_row (F : Fun K "is_row" "is_row" s_is_row f fd) (T : Txt K mg a) (D_are_words : Df P w K mg base CX0 3 "are_words" ["thing"] (spAre K a)) : FnOk P w K mg base CX0 4 f fd ["thing"] (spIsRow K a) := by
 obtain ⟨_, _, Gare_words, bare_words, kare_words, mare_words⟩ := D_are_words
 have nd := sc_is_row.nd
 refine F.ok sc_is_row (fun vs H Q E h => ?_) (fun cdv A outer s H vs Q E hr h => ?_)
 ·obtain ⟨v, b, rfl, _⟩ := h
  rfl
 obtain ⟨v, b, rfl, ⟨kd, ha⟩, q⟩ := h
 refine ⟨_, (pss_one (ps_ret (pe_and (pe_call Gare_words (hr.mono (by decide)) rfl mare_words kare_words bare_words .nil pass0 (pa_cons (pv 0) pa_nil)) (pe_one (pe_cmpR op_eq (pe_callB call_len_seq rfl T.len bt_len (pa_cons (pv 0) pa_nil)) (pe_glob (v := .int 16) rfl T.cROW_WORDS.choose_spec ⟨_, rfl⟩) (nomark _)))))), ?_⟩
 rcases ha with ⟨hl, rfl⟩ | ⟨p, xs, rfl, ha, hz, hk, rfl⟩
 ·exact ⟨_, rfl, _, rfl, kd, .inl ⟨hl, _, rfl, iteF (q _ (Same.refl _))⟩⟩
 ·refine ⟨_, rfl, _, rfl, kd, .inr ⟨p, xs, rfl, ha, hz, hk, fun H' s' => ⟨_, rfl, ?_⟩⟩⟩
  have qq := q H' s'
  refine ite2 (fun c => ?_) (fun c => ?_)
  ·refine ⟨_, rfl, p, xs, rfl, .inl (SqL.of (s' _ _ ha)), rfl, ?_⟩
   rw [dec_V, show decide ((xs.length : Int) = 16) = decide (xs.length = 16) from decide_eq_decide.mpr (by omega)]
   have c' : xs.all goodV = true := c
   rw [c', Bool.and_true] at qq
   exact qq
  ·have c' : xs.all goodV = false := Bool.eq_false_iff.mpr c
   rw [c', Bool.and_false] at qq
   exact qq
def spEmpty (_ : PySem.W.Frag) (_ : Ad) : Sp := fun vs H Q _ => vs = [] ∧ ∀ p H', H p = none → Same H H' → H' p = some (.lst ((List.replicate 16 (0 : Int)).map V.int)) → Q (.ref p) H'
theorem ok_empty_row (F : Fun K "empty_row" "empty_row" s_empty_row f fd) (T : Txt K mg a)  : FnOk P w K mg base CX0 1 f fd [] (spEmpty K a) := by
 have nd := sc_empty_row.nd
 refine F.ok sc_empty_row (fun vs H Q E h => ?_) (fun cdv A outer s H vs Q E hr h => ?_)
 ·obtain ⟨rfl, _⟩ := h
  rfl
 obtain ⟨rfl, q⟩ := h
 refine ⟨_, (pss_one (ps_ret (pe_op op_rep (pe_lst (pa_cons pe_int pa_nil)) (pe_glob (v := .int 16) rfl T.cROW_WORDS.choose_spec ⟨_, rfl⟩)))), ?_⟩
 refine ⟨(by show 1 ≤ sizeLine; decide), fun p hp => ?_⟩
 refine ⟨p, 16, [.int 0], rfl, rfl, upd_same, by decide, by decide, (by show 1 * 16 ≤ sizeLine; decide), fun r hr' => ?_⟩
 have hrH : H r = none := (same_new hp (.lst [.int 0])).free hr'
 exact q r _ hrH ((same_new hp _).trans (same_new hr' _)) upd_same
def spChanged (_ : PySem.W.Frag) (_ : Ad) : Sp := fun vs H Q _ => ∃ (r wd : Addr) (xs ys : List V) (k : Nat), vs = [.ref r, .int k, .ref wd] ∧ H r = some (.lst xs) ∧ H wd = some (.lst ys) ∧ xs.length ≤ 300 ∧ ys.length ≤ 300 ∧ ∀ p H', H p = none → Same H H' → H' p = some (.lst (xs.take k ++ ys ++ xs.drop (k + ys.length))) → Q (.ref p) H'
theorem ok_changed (F : Fun K "changed" "changed" s_changed f fd) (T : Txt K mg a)  : FnOk P w K mg base CX0 1 f fd ["row", "at", "words"] (spChanged K a) := by
 have nd := sc_changed.nd
 refine F.ok sc_changed (fun vs H Q E h => ?_) (fun cdv A outer s H vs Q E hr h => ?_)
 ·obtain ⟨r, wd, xs, ys, k, rfl, _⟩ := h
  rfl
 obtain ⟨r, wd, xs, ys, k, rfl, hr0, hw, z1, z2, q⟩ := h
 refine ⟨_, (pss_one (ps_ret (pe_op op_cat (pe_op op_cat (pe_slice sl_list (pv 0) po_none (po_some (pv 1))) (pv 2)) (pe_slice sl_list (pv 0) (po_some (pe_op op_add (pv 1) (pe_callB call_len_seq rfl T.len bt_len (pa_cons (pv 2) pa_nil)))) po_none)))), ?_⟩
 refine ⟨_, rfl, _, rfl, _, rfl, r, xs, rfl, SqL.of hr0, fun p1 n1 => ?_⟩
 rw [cut_to]
 have s1 := same_new n1 (.lst (xs.take k))
 refine ⟨_, rfl, p1, wd, _, _, rfl, rfl, upd_same, s1 _ _ hw, small (by rw [List.length_take]; omega), fun p2 n2 => ?_⟩
 have s2 := s1.trans (same_new n2 (.lst (xs.take k ++ ys)))
 refine ⟨_, rfl, _, rfl, _, rfl, wd, ys, rfl, .inl (SqL.of (s2 _ _ hw)), _, _, rfl, rfl, _, rfl, r, xs, rfl, SqL.of (s2 _ _ hr0), fun p3 n3 => ?_⟩
 dsimp only
 rw [show (k : Int) + (ys.length : Int) = ((k + ys.length : Nat) : Int) by omega, cut_from]
 have s3 := s2.trans (same_new n3 (.lst (xs.drop (k + ys.length))))
 refine ⟨p2, p3, _, _, rfl, rfl, same_new n3 _ _ _ upd_same, upd_same, small (by rw [List.length_append, List.length_take, List.length_drop]; omega), fun p4 n4 => ?_⟩
 exact q p4 _ (s3.free n4) (s3.trans (same_new n4 _)) upd_same
end
end K9
end
section
set_option Elab.async false
set_option linter.all false
set_option maxRecDepth 100000
set_option maxHeartbeats 4000000
namespace K9
open PySem L2 BK
section
variable {P : Program} {w : World} {K : PySem.W.Frag} {mg : Str → Option Value} {base : Heap} {f : Addr} {fd : FuncData} {a : Ad}
def spInit (K : PySem.W.Frag) (a : Ad) : Sp := fun vs H Q E => ∃ (x dx : Addr) (v : V), vs = [.ref x, v] ∧ H x = some (.ins a.cDisk dx []) ∧ Kd K H v ∧
 ((∃ m : Nat, v = .int m ∧ 24 ≤ m ∧ m ≤ 96 ∧ ∀ kr H', H kr = none → Chg [x] H H' → DiskAt a.cDisk H' x kr (List.replicate m (List.replicate 16 0)) 0 none → Q .non H') ∨ (wholeV v 24 96 = false ∧ E (.ref a.cBadDisk) none H))
theorem rows_of {H : Hp} {vs : List V} {n : Nat} {acc : Addr} (hl : vs.length = n) (g : Nat → List Int) (h : ∀ i v, vs[i]? = some v → ∃ r, v = .ref r ∧ r ≠ acc ∧ H r = some (.lst ((g i).map V.int))) : ∃ rs : List Addr, vs = rs.map V.ref ∧ acc ∉ rs ∧ RowsAt H rs ((List.range n).map g) := by
 refine ⟨vs.map fun v => match v with | .ref r => r | _ => 0, ?_, ?_, by simp [hl], fun i r row h1 h2 => ?_⟩
 ·rw [List.map_map]
  conv => lhs; rw [← List.map_id vs]
  refine List.map_congr_left fun v hv => ?_
  obtain ⟨i, hi, e⟩ := List.mem_iff_getElem.mp hv
  obtain ⟨r, e1, _⟩ := h i v (by rw [← e]; exact List.getElem?_eq_getElem hi)
  subst e1; rfl
 ·intro hm
  obtain ⟨v, hv, e⟩ := List.mem_map.mp hm
  obtain ⟨i, hi, e'⟩ := List.mem_iff_getElem.mp hv
  obtain ⟨r, e1, e2, _⟩ := h i v (by rw [← e']; exact List.getElem?_eq_getElem hi)
  subst e1; exact e2 e
 ·rw [List.getElem?_map] at h1 h2
  cases q : vs[i]? with
  | none => rw [q] at h1; cases h1
  | some v =>
   obtain ⟨r', e1, _, e3⟩ := h i v q
   rw [q] at h1
   subst e1
   cases h1
   have hi : i < n := by rw [← hl]; exact (List.getElem?_eq_some_iff.mp q).1
   rw [List.getElem?_range hi] at h2
   cases h2
   exact e3
theorem good_zero : GoodRow (List.replicate 16 0) := ⟨by simp, fun x hx => by rw [List.eq_of_mem_replicate hx]; decide⟩
theorem map_const (n : Nat) (r : List Int) : (List.range n).map (fun _ => r) = List.replicate n r := by
 rw [List.map_const']; simp
theorem ok_Disk___init__ (F : Fun K "__init__" "Disk.__init__" s_Disk___init__ f fd) (T : Txt K mg a) (D_is_whole : Df P w K mg base CX0 1 "is_whole" ["thing", "least", "most"] (spWhole K a)) (D_empty_row : Df P w K mg base CX0 1 "empty_row" [] (spEmpty K a)) : FnOk P w K mg base (CXE P w) 2 f fd ["self", "many"] (spInit K a) := by
 obtain ⟨_, _, Gis_whole, bis_whole, kis_whole, mis_whole⟩ := D_is_whole
 obtain ⟨_, _, Gempty_row, bempty_row, kempty_row, mempty_row⟩ := D_empty_row
 have nd := sc_Disk___init__.nd
 refine F.okE sc_Disk___init__ (fun vs H Q E h => ?_) (fun cdv A outer s H vs Q E hr hA h => ?_)
 ·obtain ⟨x, dx, v, rfl, _⟩ := h
  rfl
 obtain ⟨x, dx, v, rfl, hx, kd, hq⟩ := h
 refine ⟨_, (pss_cons (ps_if (pt_not (pt_val (pe_call Gis_whole (hr.mono (by decide)) rfl mis_whole kis_whole bis_whole .nil pass0 (pa_cons (pv 1) (pa_cons (pe_glob (v := .int 24) rfl T.cLEAST_BLOCKS.choose_spec ⟨_, rfl⟩) (pa_cons (pe_glob (v := .int 96) rfl T.cMOST_BLOCKS.choose_spec ⟨_, rfl⟩) pa_nil)))))) (pss_one (ps_raise (out_fn (fun _ _ _ h => h)) rfl hA rfl T.mBadDisk T.xBadDisk (pa_cons pe_str pa_nil))) pss_nil)
  (pss_cons (ps_fld (pv 0) (pe_lc (cl := []) (fj := []) (by exact ⟨rfl, by decide +kernel, rfl, by decide +kernel, rfl, fun _ h => (by cases h), by decide +kernel, fun _ h => (by cases h), by decide +kernel⟩) rfl (pi_range1 rfl T.range (pa_cons (pv 1) pa_nil)) (fun _ _ _ => pf_nil) (fun _ _ _ => (pe_call0 Gempty_row (hr.mono (by decide)) rfl mempty_row kempty_row bempty_row .nil pass0))) rfl)
  (pss_cons (ps_fld (pv 0) pe_int rfl)
  (pss_one (ps_fld (pv 0) pe_non rfl))))), ?_⟩
 refine ⟨_, rfl, v, 24, 96, rfl, kd, _, rfl, ?_⟩
 rcases hq with ⟨m, rfl, h1, h2, q⟩ | ⟨hw, q⟩
 ·have hw : wholeV (.int (m : Int)) 24 96 = true := by show (decide ((24 : Int) ≤ m) && decide ((m : Int) ≤ 96)) = true; rw [decide_eq_true (by omega), decide_eq_true (by omega)]; rfl
  refine iteF' (by rw [hw]; rfl) ?_
  refine ⟨_, rfl, _, rfl, by omega, by omega, ?_⟩
  rw [show ((m : Int)).toNat = m by omega]
  refine lc_vals (n := m) (by omega) (fun acc H i v => ∃ r, v = .ref r ∧ r ≠ acc ∧ H r = some (.lst ((List.replicate 16 (0 : Int)).map V.int))) ?_ ?_ ?_
  ·rintro acc H H' i v k ⟨r, e1, e2, e3⟩
   exact ⟨r, e1, e2, k _ _ e2 e3⟩
  ·intro acc i H' Qf hi h0 s1 ha k
   exact ⟨rfl, fun p H3 np s3 hp => k _ _ s3 ⟨p, rfl, fun z => ha (by rw [← z]; exact np), hp⟩⟩
  ·intro acc vs H' h0 s1 hacc hl hg
   obtain ⟨rs, rfl, nm, hR⟩ := rows_of hl (fun _ => List.replicate 16 0) hg
   rw [map_const] at hR
   have hx' := s1 _ _ hx
   have nx : x ≠ acc := ne_of hx' hacc (fun z => by cases z)
   refine ⟨_, rfl, x, a.cDisk, dx, _, rfl, hx', T.clDisk, T.n_kept_rows, by decide, ?_⟩
   refine ⟨_, rfl, x, a.cDisk, dx, _, rfl, upd_same, T.clDisk, T.n_writes_done, (by show 1 < 1000; decide), ?_⟩
   rw [upd_upd]
   refine ⟨_, rfl, x, a.cDisk, dx, _, rfl, upd_same, T.clDisk, T.n_writes_left, (by show 2 < 1000; decide), ?_⟩
   rw [upd_upd]
   have c : Chg [x] H (upd H' x (.ins a.cDisk dx [("kept_rows", .ref acc), ("writes_done", .int 0), ("writes_left", .non)])) := (Chg.of s1).upd (by simp) _
   refine q acc _ h0 c ⟨⟨dx, rs, upd_same, by rw [upd_ne (Ne.symm nx)]; exact hacc, hR.1, fun i r row e1 e2 => ?_⟩, by simp; omega, by simp; omega, fun row hrow => by rw [List.eq_of_mem_replicate hrow]; exact good_zero⟩
   have hr := hR.2 i r row e1 e2
   rw [upd_ne (ne_of hr hx' (fun z => by cases z))]
   exact hr
 ·exact iteT' (by rw [hw]; rfl) ⟨(by show 1 ≤ 1000; decide), q⟩
def spBlocks (_ : PySem.W.Frag) (a : Ad) : Sp := fun vs H Q _ => ∃ (d kr : Addr) (R : List (List Int)) (n : Int) (l : Option Int), vs = [.ref d] ∧ DiskAt a.cDisk H d kr R n l ∧ Q (.int R.length) H
theorem ok_Disk_blocks (F : Fun K "blocks" "Disk.blocks" s_Disk_blocks f fd) (T : Txt K mg a)  : FnOk P w K mg base (CXE P w) 1 f fd ["self"] (spBlocks K a) := by
 have nd := sc_Disk_blocks.nd
 refine F.okE sc_Disk_blocks (fun vs H Q E h => ?_) (fun cdv A outer s H vs Q E hr hA h => ?_)
 ·obtain ⟨d, kr, R, n, l, rfl, _⟩ := h
  rfl
 obtain ⟨d, kr, R, n, l, rfl, D, q⟩ := h
 obtain ⟨dx, rs, h1, h2, h3⟩ := D.ex
 refine ⟨_, (pss_one (ps_ret (pe_callB call_len_seq rfl T.len bt_len (pa_cons (pe_fld (pv 0) rfl) pa_nil)))), ?_⟩
 refine ⟨_, rfl, d, a.cDisk, dx, _, _, rfl, h1, T.clDisk, T.n_kept_rows, rfl, kr, _, rfl, .inl (SqL.of h2), ?_⟩
 rw [List.length_map, h3.1]
 exact q
def spRefuse (K : PySem.W.Frag) (a : Ad) : Sp := fun vs H Q E => ∃ (d kr : Addr) (R : List (List Int)) (n : Int) (l : Option Int) (v : V), vs = [.ref d, v] ∧ DiskAt a.cDisk H d kr R n l ∧ Kd K H v ∧
 if wholeV v 0 ((R.length : Int) - 1) = true then Q .non H else E (.ref a.cNoBlock) none H
theorem ok_Disk_refuse_no_block (F : Fun K "refuse_no_block" "Disk.refuse_no_block" s_Disk_refuse_no_block f fd) (T : Txt K mg a) (D_is_whole : Df P w K mg base CX0 1 "is_whole" ["thing", "least", "most"] (spWhole K a)) (M_Disk_blocks : Mf P w K mg base (CXE P w) 1 a.f_blocks ["self"] (spBlocks K a)) : FnOk P w K mg base (CXE P w) 2 f fd ["self", "block"] (spRefuse K a) := by
 obtain ⟨_, _, Gis_whole, bis_whole, kis_whole, mis_whole⟩ := D_is_whole
 obtain ⟨_, G_blocks, b_blocks⟩ := M_Disk_blocks
 have nd := sc_Disk_refuse_no_block.nd
 refine F.okE sc_Disk_refuse_no_block (fun vs H Q E h => ?_) (fun cdv A outer s H vs Q E hr hA h => ?_)
 ·obtain ⟨d, kr, R, n, l, v, rfl, _⟩ := h
  rfl
 obtain ⟨d, kr, R, n, l, v, rfl, D, kd, q⟩ := h
 obtain ⟨dx, h1⟩ := D.at
 refine ⟨_, (pss_one (ps_if (pt_not (pt_val (pe_call Gis_whole (hr.mono (by decide)) rfl mis_whole kis_whole bis_whole .nil pass0 (pa_cons (pv 1) (pa_cons pe_int (pa_cons (pe_op op_sub (pe_meth0 (pv 0) T.clDisk T.m_blocks G_blocks (hr.mono (by decide)) b_blocks .nil (passes_fn (fun _ _ _ h => h)) (hcm := (.inr hA))) pe_int) pa_nil)))))) (pss_one (ps_raise (out_fn (fun _ _ _ h => h)) rfl hA rfl T.mNoBlock T.xNoBlock (pa_cons pe_str pa_nil))) pss_nil)), ?_⟩
 refine ⟨_, rfl, _, rfl, d, dx, _, rfl, h1, rfl, d, kr, R, n, l, rfl, D, _, _, rfl, rfl, v, 0, _, rfl, kd, _, rfl, ?_⟩
 by_cases hw : wholeV v 0 ((R.length : Int) - 1) = true
 ·rw [if_pos hw] at q
  exact iteF' (by rw [hw]; rfl) q
 ·rw [if_neg hw] at q
  exact iteT' (by rw [Bool.eq_false_iff.mpr hw]; rfl) ⟨(by show 1 ≤ 1000; decide), q⟩
def spRead (K : PySem.W.Frag) (a : Ad) : Sp := fun vs H Q E => ∃ (d kr : Addr) (R : List (List Int)) (n : Int) (l : Option Int) (v : V), vs = [.ref d, v] ∧ DiskAt a.cDisk H d kr R n l ∧ Kd K H v ∧
 ((∃ (b : Nat) (row : List Int), v = .int b ∧ R[b]? = some row ∧ ∀ p H', H p = none → Same H H' → H' p = some (.lst (row.map V.int)) → Q (.ref p) H') ∨ (wholeV v 0 ((R.length : Int) - 1) = false ∧ E (.ref a.cNoBlock) none H))
theorem whole_of {b m : Nat} (h : b < m) : wholeV (.int (b : Int)) 0 ((m : Int) - 1) = true := by
 show (decide ((0 : Int) ≤ b) && decide ((b : Int) ≤ (m : Int) - 1)) = true
 rw [decide_eq_true (by omega), decide_eq_true (by omega)]; rfl
theorem ok_Disk_read (F : Fun K "read" "Disk.read" s_Disk_read f fd) (T : Txt K mg a) (M_Disk_refuse_no_block : Mf P w K mg base (CXE P w) 2 a.f_refuse_no_block ["self", "block"] (spRefuse K a)) : FnOk P w K mg base (CXE P w) 3 f fd ["self", "block"] (spRead K a) := by
 obtain ⟨_, G_refuse_no_block, b_refuse_no_block⟩ := M_Disk_refuse_no_block
 have nd := sc_Disk_read.nd
 refine F.okE sc_Disk_read (fun vs H Q E h => ?_) (fun cdv A outer s H vs Q E hr hA h => ?_)
 ·obtain ⟨d, kr, R, n, l, v, rfl, _⟩ := h
  rfl
 obtain ⟨d, kr, R, n, l, v, rfl, D, kd, hq⟩ := h
 obtain ⟨dx, rs, h1, h2, h3⟩ := D.ex
 refine ⟨_, (pss_cons (ps_expr (pe_meth (pv 0) T.clDisk T.m_refuse_no_block G_refuse_no_block (hr.mono (by decide)) b_refuse_no_block .nil (passes_fn (fun _ _ _ h => h)) (pa_cons (pv 1) pa_nil) (hcm := (.inr hA))))
  (pss_one (ps_ret (pe_callTy call_list_of rfl T.list bt_list (pa_cons (pe_ix ix_list (pe_fld (pv 0) rfl) (pv 1) (fun _ _ => rfl)) pa_nil))))), ?_⟩
 refine ⟨_, rfl, d, dx, _, rfl, h1, rfl, _, rfl, d, kr, R, n, l, v, rfl, D, kd, ?_⟩
 rcases hq with ⟨b, row, rfl, hb, q⟩ | ⟨hw, q⟩
 ·have hb' : b < R.length := (List.getElem?_eq_some_iff.mp hb).1
  refine iteT' (whole_of hb') ?_
  obtain ⟨r, e1, e2⟩ := h3.get hb'
  rw [show R[b] = row by rw [List.getElem?_eq_getElem hb'] at hb; exact Option.some.inj hb] at e2
  have e3 : atI (rs.map V.ref) (b : Int) = some (.ref r) := atI_nat (by rw [List.getElem?_map, e1]; rfl)
  refine ⟨_, rfl, d, a.cDisk, dx, _, _, rfl, h1, T.clDisk, T.n_kept_rows, rfl, _, rfl, kr, _, _, .ref r, rfl, rfl, SqL.of h2, e3, r, _, rfl, .inl (SqL.of e2), fun p np => ?_⟩
  exact q p _ np (same_new np _) upd_same
 ·exact iteF' hw q
def spWrites (_ : PySem.W.Frag) (a : Ad) : Sp := fun vs H Q _ => ∃ (d kr : Addr) (R : List (List Int)) (n : Int) (l : Option Int), vs = [.ref d] ∧ DiskAt a.cDisk H d kr R n l ∧ Q (.int n) H
theorem ok_Disk_writes (F : Fun K "writes" "Disk.writes" s_Disk_writes f fd) (T : Txt K mg a)  : FnOk P w K mg base CX0 1 f fd ["self"] (spWrites K a) := by
 have nd := sc_Disk_writes.nd
 refine F.ok sc_Disk_writes (fun vs H Q E h => ?_) (fun cdv A outer s H vs Q E hr h => ?_)
 ·obtain ⟨d, kr, R, n, l, rfl, _⟩ := h
  rfl
 obtain ⟨d, kr, R, n, l, rfl, D, q⟩ := h
 obtain ⟨dx, h1⟩ := D.at
 refine ⟨_, (pss_one (ps_ret (pe_fld (pv 0) rfl))), ?_⟩
 exact ⟨_, rfl, d, a.cDisk, dx, _, _, rfl, h1, T.clDisk, T.n_writes_done, rfl, q⟩
def spUseUp (_ : PySem.W.Frag) (a : Ad) : Sp := fun vs H Q E => ∃ (d kr : Addr) (R : List (List Int)) (n : Int) (l : Option Int), vs = [.ref d] ∧ DiskAt a.cDisk H d kr R n l ∧
 match l with
 | none => Q .non H
 | some k => (k < 1 → E (.ref a.cStopped) none H) ∧ (¬ k < 1 → ∀ H', Chg [d] H H' → DiskAt a.cDisk H' d kr R n (some (k - 1)) → Q .non H')
theorem ok_Disk_use_up_one (F : Fun K "use_up_one" "Disk.use_up_one" s_Disk_use_up_one f fd) (T : Txt K mg a)  : FnOk P w K mg base (CXE P w) 1 f fd ["self"] (spUseUp K a) := by
 have nd := sc_Disk_use_up_one.nd
 refine F.okE sc_Disk_use_up_one (fun vs H Q E h => ?_) (fun cdv A outer s H vs Q E hr hA h => ?_)
 ·obtain ⟨d, kr, R, n, l, rfl, _⟩ := h
  rfl
 obtain ⟨d, kr, R, n, l, rfl, D, q⟩ := h
 obtain ⟨dx, h1⟩ := D.at
 refine ⟨_, (pss_cons (ps_if (pt_cmpR op_isN (pe_fld (pv 0) rfl) pe_non (nomark _)) (pss_one ps_retN) pss_nil)
  (pss_cons (ps_if (pt_cmpR op_lt (pe_fld (pv 0) rfl) pe_int (nomark _)) (pss_one (ps_raise (out_fn (fun _ _ _ h => h)) rfl hA rfl T.mStopped T.xStopped (pa_cons pe_str pa_nil))) pss_nil)
  (pss_one (ps_fld (pv 0) (pe_op op_sub (pe_fld (pv 0) rfl) pe_int) rfl)))), ?_⟩
 cases l with
 | none => exact ⟨_, rfl, d, a.cDisk, dx, _, _, rfl, h1, T.clDisk, T.n_writes_left, rfl, rfl, _, rfl, iteT' (by rfl) q⟩
 | some k =>
  refine ⟨_, rfl, d, a.cDisk, dx, _, _, rfl, h1, T.clDisk, T.n_writes_left, rfl, rfl, _, rfl, iteF' (by rfl) ?_⟩
  refine ⟨_, rfl, d, a.cDisk, dx, _, _, rfl, h1, T.clDisk, T.n_writes_left, rfl, _, _, rfl, rfl, _, rfl, ?_⟩
  refine ite2 (fun c => ⟨(by show 1 ≤ 1000; decide), q.1 (of_decide_eq_true c)⟩) (fun c => ?_)
  refine ⟨_, rfl, d, a.cDisk, dx, _, _, rfl, h1, T.clDisk, T.n_writes_left, rfl, _, _, rfl, rfl, _, rfl, d, a.cDisk, dx, _, rfl, h1, T.clDisk, T.n_writes_left, (by show 3 < 1000; decide), ?_⟩
  exact q.2 (of_decide_eq_false (Bool.eq_false_iff.mpr c)) _ ((Chg.of (Same.refl _)).upd (by simp) _) (D.put (n' := n) (l' := some (k - 1)) h1)
def spWrite0 (K : PySem.W.Frag) (a : Ad) : Sp := fun vs H Q E => ∃ (d kr : Addr) (R : List (List Int)) (n : Int) (l : Option Int) (v r : V) (ok : Bool), vs = [.ref d, v, r] ∧ DiskAt a.cDisk H d kr R n l ∧ Kd K H v ∧ RowA K H r ok ∧
  ((wholeV v 0 ((R.length : Int) - 1) = false ∧ E (.ref a.cNoBlock) none H) ∨
   (wholeV v 0 ((R.length : Int) - 1) = true ∧ ok = false ∧ ∀ H', Same H H' → E (.ref a.cBadRow) none H') ∨
   (wholeV v 0 ((R.length : Int) - 1) = true ∧ ok = true ∧ (∃ k, l = some k ∧ k < 1) ∧ ∀ H', Same H H' → E (.ref a.cStopped) none H') ∨
   (∃ (b : Nat) (p : Addr) (row : List Int), v = .int b ∧ b < R.length ∧ r = .ref p ∧ H p = some (.lst (row.map V.int)) ∧ GoodRow row ∧ (∀ k, l = some k → ¬ k < 1) ∧
     ∀ H', Chg [d, kr] H H' → DiskAt a.cDisk H' d kr (R.set b row) (n + 1) (l.map (· - 1)) → (∀ u, H u ≠ none → NoRowAt H kr u → NoRowAt H' kr u) → Q .non H'))
@[irreducible] def spWrite (K : PySem.W.Frag) (a : Ad) : Sp := spWrite0 K a
theorem rowA_good {H : Hp} {p : Addr} {row : List Int} (hp : H p = some (.lst (row.map V.int))) (g : GoodRow row) : RowA K H (.ref p) true := by
 refine ⟨.lst hp, .inr ⟨p, _, rfl, hp, by rw [List.length_map, g.1]; decide, fun x hx => ?_, ?_⟩⟩
 ·obtain ⟨i, _, rfl⟩ := List.mem_map.mp hx
  exact .int i
 ·rw [List.length_map, g.1, good_ints row g.2]; rfl
theorem ok_Disk_write (F : Fun K "write" "Disk.write" s_Disk_write f fd) (T : Txt K mg a) (M_Disk_refuse_no_block : Mf P w K mg base (CXE P w) 2 a.f_refuse_no_block ["self", "block"] (spRefuse K a)) (M_Disk_use_up_one : Mf P w K mg base (CXE P w) 1 a.f_use_up_one ["self"] (spUseUp K a)) (D_is_row : Df P w K mg base CX0 4 "is_row" ["thing"] (spIsRow K a)) : FnOk P w K mg base (CXE P w) 5 f fd ["self", "block", "row"] (spWrite K a) := by
 obtain ⟨_, G_refuse_no_block, b_refuse_no_block⟩ := M_Disk_refuse_no_block
 obtain ⟨_, G_use_up_one, b_use_up_one⟩ := M_Disk_use_up_one
 obtain ⟨_, _, Gis_row, bis_row, kis_row, mis_row⟩ := D_is_row
 have nd := sc_Disk_write.nd
 refine F.okE sc_Disk_write (fun vs H Q E h => ?_) (fun cdv A outer s H vs Q E hr hA h => ?_)
 ·unfold spWrite at h
  obtain ⟨d, kr, R, n, l, v, r, ok, rfl, _⟩ := h
  rfl
 unfold spWrite at h
 obtain ⟨d, kr, R, n, l, v, r, ok, rfl, D, kd, rA, hq⟩ := h
 obtain ⟨dx, h1⟩ := D.at
 refine ⟨_, (pss_cons (ps_expr (pe_meth (pv 0) T.clDisk T.m_refuse_no_block G_refuse_no_block (hr.mono (by decide)) b_refuse_no_block .nil (passes_fn (fun _ _ _ h => h)) (pa_cons (pv 1) pa_nil) (hcm := (.inr hA))))
  (pss_cons (ps_if (pt_not (pt_val (pe_call Gis_row (hr.mono (by decide)) rfl mis_row kis_row bis_row .nil pass0 (pa_cons (pv 2) pa_nil)))) (pss_one (ps_raise (out_fn (fun _ _ _ h => h)) rfl hA rfl T.mBadRow T.xBadRow (pa_cons pe_str pa_nil))) pss_nil)
  (pss_cons (ps_expr (pe_meth0 (pv 0) T.clDisk T.m_use_up_one G_use_up_one (hr.mono (by decide)) b_use_up_one .nil (passes_fn (fun _ _ _ h => h)) (hcm := (.inr hA))))
  (pss_cons (ps_asg (pe_callTy call_list_of rfl T.list bt_list (pa_cons (pv 2) pa_nil)) (pg_sub (pe_fld (pv 0) rfl) (pv 1) set_list))
  (pss_one (ps_fld (pv 0) (pe_op op_add (pe_fld (pv 0) rfl) pe_int) rfl)))))), ?_⟩
 refine ⟨_, rfl, d, dx, _, rfl, h1, rfl, _, rfl, d, kr, R, n, l, v, rfl, D, kd, ?_⟩
 rcases hq with ⟨hw, q⟩ | ⟨hw, rfl, q⟩ | ⟨hw, rfl, ⟨k, rfl, hk⟩, q⟩ | ⟨b, p, row, rfl, hb, rfl, hp, g, hl, q⟩
 ·exact iteF' hw q
 ·refine iteT' hw ⟨_, rfl, r, false, rfl, rA, fun H1 s1 => ⟨_, rfl, iteT' (by rfl) ⟨(by show 1 ≤ 1000; decide), q H1 s1⟩⟩⟩
 ·refine iteT' hw ⟨_, rfl, r, true, rfl, rA, fun H1 s1 => ⟨_, rfl, iteF' (by rfl) ?_⟩⟩
  exact ⟨_, rfl, d, dx, _, rfl, s1 _ _ h1, rfl, d, kr, R, n, some k, rfl, D.same s1, fun _ => q H1 s1, fun z => absurd hk z⟩
 ·refine iteT' (whole_of hb) ⟨_, rfl, _, ok, rfl, rA, fun H1 s1 => ?_⟩
  have hok : ok = true := by
   obtain ⟨_, h⟩ := rA
   rcases h with ⟨hL, _⟩ | ⟨p', xs, e1, e2, _, _, e5⟩
   ·exfalso
    have : isL H (.ref p) = true := by show isLH (H _) = _; rw [hp]; rfl
    rw [this] at hL; cases hL
   ·cases e1
    rw [hp] at e2
    cases e2
    rw [e5, List.length_map, g.1, good_ints row g.2]; rfl
  subst hok
  refine ⟨_, rfl, iteF' (by rfl) ?_⟩
  have D1 := D.same s1
  have fin : ∀ H2 l', Chg [d] H1 H2 → DiskAt a.cDisk H2 d kr R n l' → l' = l.map (· - 1) → tSeq (tAsg (tCB (fun xs H Q => ∃ p ys, xs = [.ref p] ∧ (SqL K H p ys ∨ SqT K H p ys) ∧ ∀ l, H l = none → Q (.ref l) (upd H l (.lst ys))) (tCons (tVar 2) tNil)) (gSub (tFld K (tVar 0) "kept_rows") (tVar 1) rSetL)) (sFld K (tVar 0) (tOp (rI0 fun i j => .int (i + j)) (tFld K (tVar 0) "writes_done") (tC (.int 1))) "writes_done") { nx := fun _ H' => Q .non H', rt := Q } (start ["self", "block", "row"] [.ref d, .int b, .ref p]) H2 := by
   rintro H2 l' c2 D2 rfl
   have hp2 : H2 p = some (.lst (row.map V.int)) := c2 _ _ (s1 _ _ hp) (by
    simp only [List.mem_singleton]
    exact ne_of hp h1 (fun z => by cases z))
   obtain ⟨dx2, rs, g1, g2, g3⟩ := D2.ex
   refine ⟨_, rfl, p, _, rfl, .inl (SqL.of hp2), fun q1 nq => ?_⟩
   have s3 := same_new nq (.lst (row.map V.int))
   have g1' := s3 _ _ g1
   have g2' := s3 _ _ g2
   have nkd : kr ≠ d := ne_of g2 g1 (fun z => by cases z)
   refine ⟨_, rfl, d, a.cDisk, dx2, _, _, rfl, g1', T.clDisk, T.n_kept_rows, rfl, _, rfl, kr, _, _, b, rfl, rfl, g2', ?_, ?_⟩
   ·rw [List.length_map, g3.1]; unfold ixN; rw [if_pos (by omega), if_pos (by omega)]; simp
   ·rw [show (rs.map V.ref).set b (.ref q1) = (rs.set b q1).map V.ref by rw [List.map_set]]
    have g1'' : (upd (upd H2 q1 (.lst (row.map V.int))) kr (.lst ((rs.set b q1).map V.ref))) d = some (.ins a.cDisk dx2 [("kept_rows", .ref kr), ("writes_done", .int n), ("writes_left", lv (l.map (· - 1)))]) := by rw [upd_ne (Ne.symm nkd)]; exact g1'
    refine ⟨_, rfl, d, a.cDisk, dx2, _, _, rfl, g1'', T.clDisk, T.n_writes_done, rfl, _, _, rfl, rfl, _, rfl, d, a.cDisk, dx2, _, rfl, g1'', T.clDisk, T.n_writes_done, (by show 3 < 1000; decide), ?_⟩
    have cA : Chg [d, kr] H (upd (upd (upd H2 q1 (.lst (row.map V.int))) kr (.lst ((rs.set b q1).map V.ref))) d (.ins a.cDisk dx2 [("kept_rows", .ref kr), ("writes_done", .int (n + 1)), ("writes_left", lv (l.map (· - 1)))])) :=
     (((((Chg.of s1).trans (c2.mono (by simp))).new nq _)).upd (by simp) _).upd (by simp) _
    refine q _ cA ⟨⟨dx2, rs.set b q1, upd_same, ?_, ?_⟩, by rw [List.length_set]; exact D.lo, by rw [List.length_set]; exact D.hi, fun x hx => ?_⟩ (fun u hu nu rs' hrs' hm => ?_)
    ·rw [upd_ne nkd, upd_same]
    ·have nq1 : q1 ≠ kr := Ne.symm (ne_of_none g2 nq)
     have nq2 : q1 ≠ d := Ne.symm (ne_of_none g1 nq)
     refine RowsAt.set (row := row) ⟨g3.1, fun i r x e1 e2 => ?_⟩ b ?_
     ·have hr := g3.2 i r x e1 e2
      have gx := D.good x (List.mem_of_getElem? e2)
      rw [upd_ne (ne_of hr g1 (fun z => by cases z)), upd_ne (ne_of hr g2 (fun z => ref_ne_row gx.1 z.symm))]
      exact s3 _ _ hr
     ·rw [upd_ne nq2, upd_ne nq1, upd_same]
    ·rcases List.mem_or_eq_of_mem_set hx with z | z
     ·exact D.good x z
     ·rw [z]; exact g
    ·rw [upd_ne nkd, upd_same] at hrs'
     have er : rs.set b q1 = rs' := refs_inj (by injection hrs' with z; injection z)
     subst er
     rcases List.mem_or_eq_of_mem_set hm with z | z
     ·have nu2 : NoRowAt H2 kr u := (nu.chg D (Chg.of s1 (S := [])) (by simp)).chg D1 c2 (by simp only [List.mem_singleton]; exact nkd)
      exact nu2 rs g2 z
     ·subst z
      cases hu' : H u with
      | none => exact hu hu'
      | some o =>
       by_cases hud : u = d
       ·subst hud; rw [g1] at nq; cases nq
       ·have := c2 _ _ (s1 _ _ hu') (by simp only [List.mem_singleton]; exact hud)
        rw [this] at nq; cases nq
  refine ⟨_, rfl, d, dx, _, rfl, s1 _ _ h1, rfl, d, kr, R, n, l, rfl, D1, ?_⟩
  cases l with
  | none => exact fin H1 none (Chg.of (Same.refl _)) D1 rfl
  | some k => exact ⟨fun z => absurd z (hl k rfl), fun _ H2 c2 D2 => fin H2 (some (k - 1)) c2 D2 rfl⟩
end
end K9
end
section
set_option Elab.async false
set_option linter.all false
set_option maxRecDepth 100000
set_option maxHeartbeats 4000000
namespace K9
open PySem L2 BK
section
variable {P : Program} {w : World} {K : PySem.W.Frag} {mg : Str → Option Value} {base : Heap} {f : Addr} {fd : FuncData} {a : Ad}
def nodesAt (m : Int) : Int := 17 + (m + 16 - 1) / 16
def dataAt (m t : Int) : Int := nodesAt m + t
def Good (m t : Int) : Prop := 24 ≤ m ∧ m ≤ 96 ∧ 1 ≤ t ∧ t ≤ 8 ∧ dataAt m t < m
def LayAt (C : Addr) (H : Hp) (x : Addr) (m t : Int) : Prop := ∃ dx, H x = some (.ins C dx [("many", .int m), ("tables", .int t), ("maps_at", .int 17), ("nodes_at", .int (nodesAt m)), ("data_at", .int (dataAt m t))])
theorem LayAt.chg {C x : Addr} {H H' : Hp} {m t : Int} {S : List Addr} (h : LayAt C H x m t) (c : Chg S H H') (n : x ∉ S) : LayAt C H' x m t := let ⟨dx, e⟩ := h; ⟨dx, c _ _ e n⟩
theorem LayAt.same {C x : Addr} {H H' : Hp} {m t : Int} (h : LayAt C H x m t) (s : Same H H') : LayAt C H' x m t := let ⟨dx, e⟩ := h; ⟨dx, s _ _ e⟩
def spLInit (K : PySem.W.Frag) (a : Ad) : Sp := fun vs H Q E => ∃ (x dx : Addr) (v u : V), vs = [.ref x, v, u] ∧ H x = some (.ins a.cLayout dx []) ∧ Kd K H v ∧ Kd K H u ∧
  (((wholeV v 24 96 && wholeV u 1 8) = false ∧ E (.ref a.cBadDisk) none H) ∨
   (∃ m t : Int, v = .int m ∧ u = .int t ∧ 24 ≤ m ∧ m ≤ 96 ∧ 1 ≤ t ∧ t ≤ 8 ∧ (m ≤ dataAt m t → ∀ H', Chg [x] H H' → E (.ref a.cNoRoom) none H') ∧ (dataAt m t < m → ∀ H', Chg [x] H H' → LayAt a.cLayout H' x m t → Q .non H')))
theorem whole_in {i lo hi : Int} (h1 : lo ≤ i) (h2 : i ≤ hi) : wholeV (.int i) lo hi = true := by
 show (decide (lo ≤ i) && decide (i ≤ hi)) = true
 rw [decide_eq_true h1, decide_eq_true h2]; rfl
theorem ok_Layout___init__ (F : Fun K "__init__" "Layout.__init__" s_Layout___init__ f fd) (T : Txt K mg a) (D_is_whole : Df P w K mg base CX0 1 "is_whole" ["thing", "least", "most"] (spWhole K a)) : FnOk P w K mg base (CXE P w) 2 f fd ["self", "many", "tables"] (spLInit K a) := by
 obtain ⟨_, _, Gis_whole, bis_whole, kis_whole, mis_whole⟩ := D_is_whole
 have nd := sc_Layout___init__.nd
 refine F.okE sc_Layout___init__ (fun vs H Q E h => ?_) (fun cdv A outer s H vs Q E hr hA h => ?_)
 ·obtain ⟨x, dx, v, u, rfl, _⟩ := h
  rfl
 obtain ⟨x, dx, v, u, rfl, hx, kv, ku, hq⟩ := h
 refine ⟨_, (pss_cons (ps_if (pt_not (pt_val (pe_call Gis_whole (hr.mono (by decide)) rfl mis_whole kis_whole bis_whole .nil pass0 (pa_cons (pv 1) (pa_cons (pe_glob (v := .int 24) rfl T.cLEAST_BLOCKS.choose_spec ⟨_, rfl⟩) (pa_cons (pe_glob (v := .int 96) rfl T.cMOST_BLOCKS.choose_spec ⟨_, rfl⟩) pa_nil)))))) (pss_one (ps_raise (out_fn (fun _ _ _ h => h)) rfl hA rfl T.mBadDisk T.xBadDisk (pa_cons pe_str pa_nil))) pss_nil)
  (pss_cons (ps_if (pt_not (pt_val (pe_call Gis_whole (hr.mono (by decide)) rfl mis_whole kis_whole bis_whole .nil pass0 (pa_cons (pv 2) (pa_cons pe_int (pa_cons (pe_glob (v := .int 8) rfl T.cMOST_TABLES.choose_spec ⟨_, rfl⟩) pa_nil)))))) (pss_one (ps_raise (out_fn (fun _ _ _ h => h)) rfl hA rfl T.mBadDisk T.xBadDisk (pa_cons pe_str pa_nil))) pss_nil)
  (pss_cons (ps_fld (pv 0) (pv 1) rfl)
  (pss_cons (ps_fld (pv 0) (pv 2) rfl)
  (pss_cons (ps_fld (pv 0) (pe_glob (v := .int 17) rfl T.cMAPS_AT.choose_spec ⟨_, rfl⟩) rfl)
  (pss_cons (ps_fld (pv 0) (pe_op op_add (pe_glob (v := .int 17) rfl T.cMAPS_AT.choose_spec ⟨_, rfl⟩) (pe_op op_fdiv (pe_op op_sub (pe_op op_add (pv 1) (pe_glob (v := .int 16) rfl T.cROW_WORDS.choose_spec ⟨_, rfl⟩)) pe_int) (pe_glob (v := .int 16) rfl T.cROW_WORDS.choose_spec ⟨_, rfl⟩))) rfl)
  (pss_cons (ps_fld (pv 0) (pe_op op_add (pe_fld (pv 0) rfl) (pv 2)) rfl)
  (pss_one (ps_if (pt_cmpR op_ge (pe_fld (pv 0) rfl) (pv 1) (nomark _)) (pss_one (ps_raise (out_fn (fun _ _ _ h => h)) rfl hA rfl T.mNoRoom T.xNoRoom (pa_cons pe_str pa_nil))) pss_nil))))))))), ?_⟩
 refine ⟨_, rfl, v, 24, 96, rfl, kv, _, rfl, ?_⟩
 rcases hq with ⟨hw, q⟩ | ⟨m, t, rfl, rfl, h1, h2, h3, h4, q1, q2⟩
 ·by_cases hv : wholeV v 24 96 = true
  ·refine iteF' (by rw [hv]; rfl) ⟨_, rfl, u, 1, 8, rfl, ku, _, rfl, ?_⟩
   rw [hv, Bool.true_and] at hw
   exact iteT' (by rw [hw]; rfl) ⟨(by show 1 ≤ 1000; decide), q⟩
  ·exact iteT' (by rw [Bool.eq_false_iff.mpr hv]; rfl) ⟨(by show 1 ≤ 1000; decide), q⟩
 ·refine iteF' (by rw [whole_in h1 h2]; rfl) ⟨_, rfl, _, 1, 8, rfl, ku, _, rfl, iteF' (by rw [whole_in h3 h4]; rfl) ?_⟩
  refine ⟨_, rfl, _, rfl, x, a.cLayout, dx, _, rfl, hx, T.clLayout, T.n_many, by decide, ?_⟩
  refine ⟨_, rfl, _, rfl, x, a.cLayout, dx, _, rfl, upd_same, T.clLayout, T.n_tables, (by show 1 < 1000; decide), ?_⟩
  rw [upd_upd]
  refine ⟨_, rfl, x, a.cLayout, dx, _, rfl, upd_same, T.clLayout, T.n_maps_at, (by show 2 < 1000; decide), ?_⟩
  rw [upd_upd]
  refine ⟨_, rfl, _, _, rfl, rfl, _, _, rfl, rfl, _, _, rfl, rfl, ⟨by decide, by decide⟩, _, _, rfl, rfl, _, rfl, x, a.cLayout, dx, _, rfl, upd_same, T.clLayout, T.n_nodes_at, (by show 3 < 1000; decide), ?_⟩
  rw [upd_upd]
  refine ⟨_, rfl, x, a.cLayout, dx, _, _, rfl, upd_same, T.clLayout, T.n_nodes_at, rfl, _, rfl, _, _, rfl, rfl, _, rfl, x, a.cLayout, dx, _, rfl, upd_same, T.clLayout, T.n_data_at, (by show 4 < 1000; decide), ?_⟩
  rw [upd_upd]
  refine ⟨_, rfl, x, a.cLayout, dx, _, _, rfl, upd_same, T.clLayout, T.n_data_at, rfl, _, rfl, _, _, rfl, rfl, _, rfl, ?_⟩
  have c := (Chg.of (Same.refl H) (S := [x])).upd (a := x) (by simp) (.ins a.cLayout dx [("many", .int m), ("tables", .int t), ("maps_at", .int 17), ("nodes_at", .int (nodesAt m)), ("data_at", .int (dataAt m t))])
  by_cases hd : m ≤ dataAt m t
  ·exact iteT' (decide_eq_true hd) ⟨(by show 1 ≤ 1000; decide), q1 hd _ c⟩
  ·exact iteF' (decide_eq_false hd) (q2 (by omega) _ c ⟨dx, upd_same⟩)
end
end K9
end
section
set_option Elab.async false
set_option linter.all false
set_option maxRecDepth 100000
set_option maxHeartbeats 4000000
namespace K9
open PySem L2 BK
section
variable {P : Program} {w : World} {K : PySem.W.Frag} {mg : Str → Option Value} {base : Heap} {f : Addr} {fd : FuncData} {a : Ad}
def zeros : List Int := List.replicate 16 0
def spHome (K : PySem.W.Frag) (a : Ad) : Sp := fun vs H Q _ => ∃ (d kr : Addr) (S : DS) (v : V), vs = [.ref d, v] ∧ DkAt a.cDisk H d kr S ∧ Kd K H v ∧ Q (.bl (wholeV v 17 ((S.R.length : Int) - 1))) H
theorem ok_is_home (F : Fun K "is_home" "is_home" s_is_home f fd) (T : Txt K mg a) (D_is_whole : Df P w K mg base CX0 1 "is_whole" ["thing", "least", "most"] (spWhole K a)) (M_Disk_blocks : Mf P w K mg base (CXE P w) 1 a.f_blocks ["self"] (spBlocks K a)) : FnOk P w K mg base (CXE P w) 2 f fd ["disk", "block"] (spHome K a) := by
 obtain ⟨_, _, Gis_whole, bis_whole, kis_whole, mis_whole⟩ := D_is_whole
 obtain ⟨_, G_blocks, b_blocks⟩ := M_Disk_blocks
 have nd := sc_is_home.nd
 refine F.okE sc_is_home (fun vs H Q E h => ?_) (fun cdv A outer s H vs Q E hr hA h => ?_)
 ·obtain ⟨d, kr, S, v, rfl, _⟩ := h
  rfl
 obtain ⟨d, kr, S, v, rfl, D, kd, q⟩ := h
 obtain ⟨dx, h1⟩ := D.at
 refine ⟨_, (pss_one (ps_ret (pe_call Gis_whole (hr.mono (by decide)) rfl mis_whole kis_whole bis_whole .nil pass0 (pa_cons (pv 1) (pa_cons (pe_glob (v := .int 17) rfl T.cMAPS_AT.choose_spec ⟨_, rfl⟩) (pa_cons (pe_op op_sub (pe_meth0 (pv 0) T.clDisk T.m_blocks G_blocks (hr.mono (by decide)) b_blocks .nil (passes_fn (fun _ _ _ h => h)) (hcm := (.inr hA))) pe_int) pa_nil)))))), ?_⟩
 exact ⟨_, rfl, _, rfl, d, dx, _, rfl, h1, rfl, d, kr, S.R, S.n, S.l, rfl, D, _, _, rfl, rfl, v, 17, _, rfl, kd, q⟩
def beh (h : Option Int) (i : Int) : Bool := match h with
 | some j => decide (i ≤ j)
 | none => false
def wrong (m : Int) : Option Int → List (V × V × Bool) → Option Bool
 | _, [] => none
 | h, (v, _, ok) :: r => match v with
  | .int i => if (decide (17 ≤ i) && decide (i ≤ m - 1)) = true then (if beh h i = true then some true else if ok = true then wrong m (some i) r else some false) else some true
  | _ => some true
abbrev PairsK (K : PySem.W.Frag) : Hp → Addr → List (V × V × Bool) → Prop := PairsV K (RowA K)
def spRefuseP (K : PySem.W.Frag) (a : Ad) : Sp := fun vs H Q E => ∃ (d kr ps : Addr) (S : DS) (L : List (V × V × Bool)), vs = [.ref d, .ref ps] ∧ DkAt a.cDisk H d kr S ∧ PairsK K H ps L ∧ (15 < L.length → E (.ref a.cTooMuch) none H) ∧
 (L.length ≤ 15 → ∀ H', Same H H' → match wrong S.R.length none L with | none => Q .non H' | some true => E (.ref a.cNoBlock) none H' | some false => E (.ref a.cBadRow) none H')
theorem wrong_v {m : Int} {h : Option Int} {v r : V} {ok : Bool} {L : List (V × V × Bool)} (hw : wholeV v 17 (m - 1) = false) : wrong m h ((v, r, ok) :: L) = some true := by
 cases v with
 | int i =>
  have hw' : (decide (17 ≤ i) && decide (i ≤ m - 1)) = false := hw
  show (if (decide (17 ≤ i) && decide (i ≤ m - 1)) = true then _ else _) = _
  rw [hw', if_neg (by decide)]
 | _ => rfl
theorem wrong_i {m : Int} {h : Option Int} {i : Int} {r : V} {ok : Bool} {L : List (V × V × Bool)} (hw : wholeV (.int i) 17 (m - 1) = true) : wrong m h ((.int i, r, ok) :: L) = (if beh h i = true then some true else if ok = true then wrong m (some i) L else some false) := by
 have hw' : (decide (17 ≤ i) && decide (i ≤ m - 1)) = true := hw
 show (if (decide (17 ≤ i) && decide (i ≤ m - 1)) = true then _ else _) = _
 rw [hw', if_pos rfl]
theorem whole_int {v : V} {lo hi : Int} (h : wholeV v lo hi = true) : ∃ i, v = .int i ∧ lo ≤ i ∧ i ≤ hi := by
 cases v with
 | int i =>
  have h' : (decide (lo ≤ i) && decide (i ≤ hi)) = true := h
  rw [Bool.and_eq_true, decide_eq_true_eq, decide_eq_true_eq] at h'
  exact ⟨i, rfl, h'.1, h'.2⟩
 | _ => cases h
theorem ok_refuse_wrong_pairs (F : Fun K "refuse_wrong_pairs" "refuse_wrong_pairs" s_refuse_wrong_pairs f fd) (T : Txt K mg a) (D_is_home : Df P w K mg base (CXE P w) 2 "is_home" ["disk", "block"] (spHome K a)) (D_is_row : Df P w K mg base CX0 4 "is_row" ["thing"] (spIsRow K a)) : FnOk P w K mg base (CXE P w) 5 f fd ["disk", "pairs"] (spRefuseP K a) := by
 obtain ⟨_, _, Gis_home, bis_home, kis_home, mis_home⟩ := D_is_home
 obtain ⟨_, _, Gis_row, bis_row, kis_row, mis_row⟩ := D_is_row
 have nd := sc_refuse_wrong_pairs.nd
 refine F.okE sc_refuse_wrong_pairs (fun vs H Q E h => ?_) (fun cdv A outer s H vs Q E hr hA h => ?_)
 ·obtain ⟨d, kr, ps, S, L, rfl, _⟩ := h
  rfl
 obtain ⟨d, kr, ps, S, L, rfl, D, ⟨ts, h1, h2, h3⟩, q1, q2⟩ := h
 refine ⟨_, (pss_cons (ps_if (pt_cmpR op_gt (pe_callB call_len_seq rfl T.len bt_len (pa_cons (pv 1) pa_nil)) (pe_glob (v := .int 15) rfl T.cMOST_HOMES.choose_spec ⟨_, rfl⟩) (nomark _)) (pss_one (ps_raise (out_fn (fun _ _ _ h => h)) rfl hA rfl T.mTooMuch T.xTooMuch (pa_cons pe_str pa_nil))) pss_nil)
  (pss_cons (ps_set (i := 2) nd rfl (by first | exact Or.inl rfl | exact Or.inr rfl) pe_non)
  (pss_one (ps_for PassesOwn.leaving rfl (pi_list (pv 1)) (pg_tup hA (pgs_cons (pg_name (i := 3) nd rfl (by first | exact Or.inl rfl | exact Or.inr rfl)) (pgs_cons (pg_name (i := 4) nd rfl (by first | exact Or.inl rfl | exact Or.inr rfl)) pgs_nil))) (pss_cons (ps_if (pt_not (pt_val (pe_call Gis_home (hr.mono (by decide)) rfl mis_home kis_home bis_home .nil (passes_fn (fun _ _ _ h => h)) (pa_cons (pv 0) (pa_cons (pv 3) pa_nil)) (hcm := (.inr hA))))) (pss_one (ps_raise (out_fn (fun _ _ _ h => h)) rfl hA rfl T.mNoBlock T.xNoBlock (pa_cons pe_str pa_nil))) pss_nil)
  (pss_cons (ps_if (PW.pt (pw_and (pt_cmpR op_notN (pv 2) pe_non (nomark _)) (pw_and1 (pt_cmpR op_le (pv 3) (pv 2) (nomark _))))) (pss_one (ps_raise (out_fn (fun _ _ _ h => h)) rfl hA rfl T.mNoBlock T.xNoBlock (pa_cons pe_str pa_nil))) pss_nil)
  (pss_cons (ps_if (pt_not (pt_val (pe_call Gis_row (hr.mono (by decide)) rfl mis_row kis_row bis_row .nil pass0 (pa_cons (pv 4) pa_nil)))) (pss_one (ps_raise (out_fn (fun _ _ _ h => h)) rfl hA rfl T.mBadRow T.xBadRow (pa_cons pe_str pa_nil))) pss_nil)
  (pss_one (ps_set (i := 2) nd rfl (by first | exact Or.inl rfl | exact Or.inr rfl) (pv 3)))))))))), ?_⟩
 refine ⟨_, rfl, ps, _, rfl, .inl (SqL.of h1), _, _, rfl, rfl, _, rfl, ?_⟩
 rw [List.length_map, h2]
 by_cases hl : 15 < L.length
 ·exact iteT' (decide_eq_true (by omega)) ⟨(by show 1 ≤ 1000; decide), q1 hl⟩
 refine iteF' (decide_eq_false (by omega)) ?_
 have q3 := q2 (by omega)
 refine ⟨_, rfl, ps, rfl, ⟨_, SqL.of h1⟩, for_list (xs := ts.map V.ref) (fun i σ' H' => ∃ (hd : Option Int) (o3 o4 : Option V), σ' = [some (.ref d), some (.ref ps), some (lv hd), o3, o4] ∧ Same H H' ∧ wrong S.R.length none L = wrong S.R.length hd (L.drop i)) ⟨none, none, none, rfl, Same.refl _, rfl⟩ (fun i σ2 H2 _ ⟨_, _, _, _, s2, _⟩ => SqL.of (s2 _ _ h1)) ?_ ?_⟩
 ·rintro i v σ2 H2 hv ⟨hd, o3, o4, rfl, s2, ew⟩
  have hi : i < L.length := by
   have := (List.getElem?_eq_some_iff.mp hv).1
   rw [List.length_map, h2] at this
   exact this
  have ht : ts[i]? = some (ts[i]'(by omega)) := List.getElem?_eq_getElem (by omega)
  rw [List.getElem?_map, ht] at hv
  cases hv
  obtain ⟨p1, p2, p3⟩ := h3 i _ _ ht (List.getElem?_eq_getElem hi)
  rw [List.drop_eq_getElem_cons hi] at ew
  generalize L[i] = x at p1 p2 p3 ew
  obtain ⟨v, r, ok⟩ := x
  have D2 := D.same s2
  refine ⟨_, _, rfl, SqT.of (s2 _ _ p1), rfl, _, _, rfl, _, _, rfl, rfl, ?_⟩
  refine ⟨_, rfl, _, rfl, d, kr, S, v, rfl, D2, p2.same s2, _, rfl, ?_⟩
  have q4 := fun H' s' => q3 H' s'
  rw [ew] at q4
  by_cases hw : wholeV v 17 ((S.R.length : Int) - 1) = true
  case neg =>
   have hw' := Bool.eq_false_iff.mpr hw
   rw [wrong_v hw'] at q4
   exact iteT' (by rw [hw']; rfl) ⟨(by show 1 ≤ 1000; decide), q4 H2 s2⟩
  refine iteF' (by rw [hw]; rfl) ?_
  obtain ⟨j, rfl, hj1, hj2⟩ := whole_int hw
  rw [wrong_i hw] at q4 ew
  have fin : beh hd j = false → tSeq (tIfS (tNot (tB (tCall (spIsRow K a) [] E0 (tCons (tVar 4) tNil)))) (tRaise E a.cBadRow (tCons (tC (.str "a row is a list of 16 words")) tNil)) tNext) (tAsg (tVar 3) (gName 2)) { nx := fun σ' H' => ∃ (hd : Option Int) (o3 o4 : Option V), σ' = [some (.ref d), some (.ref ps), some (lv hd), o3, o4] ∧ Same H H' ∧ wrong S.R.length none L = wrong S.R.length hd (L.drop (i + 1)), rt := Q } [some (.ref d), some (.ref ps), some (lv hd), some (.int j), some r] H2 := by
   intro hn
   rw [hn, if_neg (by decide)] at q4 ew
   refine ⟨_, rfl, r, ok, rfl, p3.same s2, fun H3 s3 => ⟨_, rfl, ?_⟩⟩
   cases ok with
   | false =>
    rw [if_neg (by decide)] at q4
    exact iteT ⟨(by show 1 ≤ 1000; decide), q4 H3 (s2.trans s3)⟩
   | true =>
    rw [if_pos rfl] at ew
    exact iteF ⟨_, rfl, some j, _, _, rfl, s2.trans s3, ew⟩
  cases hd with
  | none => exact ⟨_, rfl, rfl, _, rfl, iteF' (by rfl) (iteF (fin rfl))⟩
  | some k =>
   refine ⟨_, rfl, rfl, _, rfl, iteT' (by rfl) ⟨_, rfl, _, rfl, _, _, rfl, rfl, _, rfl, ?_⟩⟩
   by_cases hk : j ≤ k
   ·refine iteT' (decide_eq_true hk) ⟨(by show 1 ≤ 1000; decide), ?_⟩
    have e : beh (some k) j = true := decide_eq_true hk
    rw [e, if_pos rfl] at q4
    exact q4 H2 s2
   ·exact iteF' (decide_eq_false hk) (fin (decide_eq_false hk))
 ·rintro σ2 H2 ⟨hd, o3, o4, rfl, s2, ew⟩
  have q4 := q3 H2 s2
  rw [ew, List.length_map, h2, List.drop_length] at q4
  exact q4
def spWHomes (K : PySem.W.Frag) (a : Ad) : Sp := fun vs H Q E => ∃ (d kr ps : Addr) (S : DS) (L : List (Nat × List Int)), vs = [.ref d, .ref ps] ∧ DkAt a.cDisk H d kr S ∧ PairsAt H ps L ∧ (∀ x ∈ L, x.1 < S.R.length ∧ GoodRow x.2) ∧
 ∀ H', Chg [d, kr] H H' → DkAt a.cDisk H' d kr (runW S (L ++ [(1, zeros)])).1 → (∀ u, H u ≠ none → NoRowAt H kr u → NoRowAt H' kr u) → if (runW S (L ++ [(1, zeros)])).2 = true then E (.ref a.cStopped) none H' else Q .non H'
theorem write_one {H : Hp} {d kr p : Addr} {S : DS} {b : Nat} {row : List Int} {Q : VK} {E : XK} (D : DkAt a.cDisk H d kr S) (hb : b < S.R.length) (hp : H p = some (.lst (row.map V.int))) (g : GoodRow row)
  (hs : S.stop = true → ∀ H', Same H H' → E (.ref a.cStopped) none H')
  (hn : ¬ S.stop = true → ∀ H', Chg [d, kr] H H' → DkAt a.cDisk H' d kr (S.put (b, row)) → (∀ u, H u ≠ none → NoRowAt H kr u → NoRowAt H' kr u) → Q .non H') :
  spWrite K a [.ref d, .int b, .ref p] H Q E := by
 unfold spWrite
 refine ⟨d, kr, S.R, S.n, S.l, .int b, .ref p, true, rfl, D, .int _, rowA_good hp g, ?_⟩
 by_cases h : S.stop = true
 ·exact .inr (.inr (.inl ⟨whole_of hb, rfl, stop_iff h, hs h⟩))
 ·exact .inr (.inr (.inr ⟨b, p, row, rfl, hb, rfl, hp, g, stop_not h, hn h⟩))
theorem put_len (S : DS) (x : Nat × List Int) : (S.put x).R.length = S.R.length := List.length_set
theorem chg_ne {S : List Addr} {H H' : Hp} {u : Addr} (c : Chg S H H') (n : ∀ b ∈ S, H' b ≠ none) (hu : H u ≠ none) : H' u ≠ none := by
 cases e : H u with
 | none => exact absurd e hu
 | some o =>
  by_cases hm : u ∈ S
  ·exact n u hm
  ·rw [c u o e hm]; simp
theorem dk_ne {H : Hp} {C d kr : Addr} {S : DS} (D : DkAt C H d kr S) : ∀ b ∈ [d, kr], H b ≠ none := by
 obtain ⟨dx, rs, g1, g2, _⟩ := D.ex
 intro b hb
 simp only [List.mem_cons, List.not_mem_nil, or_false] at hb
 rcases hb with e | e
 ·rw [e, g1]; simp
 ·rw [e, g2]; simp
theorem ok_write_homes (F : Fun K "write_homes" "write_homes" s_write_homes f fd) (T : Txt K mg a) (M_Disk_write : Mf P w K mg base (CXE P w) 5 a.f_write ["self", "block", "row"] (spWrite K a)) (D_empty_row : Df P w K mg base CX0 1 "empty_row" [] (spEmpty K a)) : FnOk P w K mg base (CXE P w) 6 f fd ["disk", "pairs"] (spWHomes K a) := by
 obtain ⟨_, G_write, b_write⟩ := M_Disk_write
 obtain ⟨_, _, Gempty_row, bempty_row, kempty_row, mempty_row⟩ := D_empty_row
 have nd := sc_write_homes.nd
 refine F.okE sc_write_homes (fun vs H Q E h => ?_) (fun cdv A outer s H vs Q E hr hA h => ?_)
 ·obtain ⟨d, kr, ps, S, L, rfl, _⟩ := h
  rfl
 obtain ⟨d, kr, ps, S, L, rfl, D, PA, gL, q⟩ := h
 refine ⟨_, (pss_cons (ps_for PassesOwn.leaving rfl (pi_list (pv 1)) (pg_tup hA (pgs_cons (pg_name (i := 2) nd rfl (by first | exact Or.inl rfl | exact Or.inr rfl)) (pgs_cons (pg_name (i := 3) nd rfl (by first | exact Or.inl rfl | exact Or.inr rfl)) pgs_nil))) (pss_one (ps_expr (pe_meth (pv 0) T.clDisk T.m_write G_write (hr.mono (by decide)) b_write .nil (passes_fn (fun _ _ _ h => h)) (pa_cons (pv 2) (pa_cons (pv 3) pa_nil)) (hcm := (.inr hA))))))
  (pss_one (ps_expr (pe_meth (pv 0) T.clDisk T.m_write G_write (hr.mono (by decide)) b_write .nil (passes_fn (fun _ _ _ h => h)) (pa_cons (pe_glob (v := .int 1) rfl T.cLOG_HEAD_AT.choose_spec ⟨_, rfl⟩) (pa_cons (pe_call0 Gempty_row (hr.mono (by decide)) rfl mempty_row kempty_row bempty_row .nil pass0) pa_nil)) (hcm := (.inr hA)))))), ?_⟩
 obtain ⟨ts, rs, PT⟩ := PA
 obtain ⟨h1, h2, h2', h3⟩ := id PT
 have gR : ∀ x ∈ L, GoodRow x.2 := fun x hx => (gL x hx).2
 have hlo := D.lo
 refine ⟨_, rfl, ps, rfl, ⟨_, SqL.of h1⟩, for_list (xs := ts.map V.ref) (fun i σ' H' => ∃ (o2 o3 : Option V), σ' = [some (.ref d), some (.ref ps), o2, o3] ∧ Chg [d, kr] H H' ∧ (runW S (L.take i)).2 = false ∧ DkAt a.cDisk H' d kr (runW S (L.take i)).1 ∧ (∀ u, H u ≠ none → NoRowAt H kr u → NoRowAt H' kr u)) ⟨none, none, rfl, Chg.of (Same.refl _), rfl, D, fun _ _ h => h⟩ (fun i σ2 H2 _ ⟨_, _, _, c2, _⟩ => SqL.of (PT.chg D gR c2).1) ?_ ?_⟩
 ·rintro i v σ2 H2 hv ⟨o2, o3, rfl, c2, ns, D2, nr2⟩
  have hi : i < L.length := by
   have := (List.getElem?_eq_some_iff.mp hv).1
   rw [List.length_map, h2] at this
   exact this
  have ht : ts[i]? = some (ts[i]'(by omega)) := List.getElem?_eq_getElem (by omega)
  rw [List.getElem?_map, ht] at hv
  cases hv
  obtain ⟨p1, p2⟩ := (PT.chg D gR c2).2.2.2 i (by omega) (by omega) hi
  have hm : L[i] ∈ L := List.getElem_mem hi
  have tk : L.take (i + 1) = L.take i ++ [L[i]] := by rw [List.take_add_one, List.getElem?_eq_getElem hi]; rfl
  have er : runW S (L.take (i + 1)) = runW (runW S (L.take i)).1 [L[i]] := by rw [tk, runW_app, ns, if_neg (by decide)]
  obtain ⟨dx, d1⟩ := D2.at
  refine ⟨_, _, rfl, SqT.of p1, rfl, _, _, rfl, _, _, rfl, rfl, ?_⟩
  refine ⟨_, rfl, d, dx, _, rfl, d1, rfl, _, rfl, _, rfl, write_one D2 (by rw [runW_len]; exact (gL _ hm).1) p2 (gL _ hm).2 (fun hs H3 s3 => ?_) (fun hs H3 c3 D3 nr3 => ?_)⟩
  ·have es : runW S (L ++ [(1, zeros)]) = ((runW S (L.take i)).1, true) := by
    have e1 : runW (runW S (L.take i)).1 ([L[i]] ++ (L.drop (i + 1) ++ [(1, zeros)])) = ((runW S (L.take i)).1, true) := if_pos hs
    rw [show L ++ [(1, zeros)] = L.take i ++ ([L[i]] ++ (L.drop (i + 1) ++ [(1, zeros)])) by rw [← List.append_assoc [L[i]], ← List.append_assoc, show L.take i ++ ([L[i]] ++ L.drop (i + 1)) = L by rw [← List.append_assoc, ← tk, List.take_append_drop]], runW_app, ns, if_neg (by decide), e1]
   have := q H3 (c2.trans (Chg.of s3)) (by rw [es]; exact D2.same s3) (fun u hu nu => (nr2 u hu nu).chg D2 (Chg.of s3 (S := [])) (by simp))
   rw [es, if_pos rfl] at this
   exact this
  ·have e1 : runW (runW S (L.take i)).1 [L[i]] = ((runW S (L.take i)).1.put L[i], false) := if_neg hs
   refine ⟨_, _, rfl, c2.trans c3, by rw [er, e1], by rw [er, e1]; exact D3, fun u hu nu => nr3 u (chg_ne c2 (dk_ne D2) hu) (nr2 u hu nu)⟩
 ·rintro σ2 H2 ⟨o2, o3, rfl, c2, ns, D2, nr2⟩
  rw [List.length_map, h2, List.take_length] at ns D2
  obtain ⟨dx, d1⟩ := D2.at
  have es : runW S (L ++ [(1, zeros)]) = runW (runW S L).1 [(1, zeros)] := by rw [runW_app, ns, if_neg (by decide)]
  refine ⟨_, rfl, d, dx, _, rfl, d1, rfl, rfl, fun p H3 np s3 hp => ?_⟩
  refine write_one (b := 1) (D2.same s3) (by rw [runW_len]; omega) hp good_zero (fun hs H4 s4 => ?_) (fun hs H4 c4 D4 nr4 => ?_)
  ·have e1 : runW (runW S L).1 [(1, zeros)] = ((runW S L).1, true) := if_pos hs
   have := q H4 (c2.trans (Chg.of (s3.trans s4))) (by rw [es, e1]; exact D2.same (s3.trans s4)) (fun u hu nu => (nr2 u hu nu).chg D2 (Chg.of (s3.trans s4) (S := [])) (by simp))
   rw [es, e1, if_pos rfl] at this
   exact this
  ·have e1 : runW (runW S L).1 [(1, zeros)] = ((runW S L).1.put (1, zeros), false) := if_neg hs
   have := q H4 ((c2.trans (Chg.of s3)).trans c4) (by rw [es, e1]; exact D4) (fun u hu nu => nr4 u (by
    have z := chg_ne c2 (dk_ne D2) hu
    cases e : H2 u with
    | none => exact absurd e z
    | some o => rw [s3 _ _ e]; simp) ((nr2 u hu nu).chg D2 (Chg.of s3 (S := [])) (by simp)))
   rw [es, e1] at this
   exact this
def headOf (L : List (Nat × List Int)) : List Int := [(L.length : Int)] ++ (L.map fun x => (x.1 : Int)) ++ List.replicate (15 - L.length) 0
def rowsOf (L : List (Nat × List Int)) (i : Nat) : List (Nat × List Int) := (List.range i).map fun j => (2 + j, (L.getD j (0, [])).2)
def logOf (L : List (Nat × List Int)) : List (Nat × List Int) := rowsOf L L.length ++ [(1, headOf L)]
def spWLog (K : PySem.W.Frag) (a : Ad) : Sp := fun vs H Q E => ∃ (d kr ps : Addr) (S : DS) (L : List (Nat × List Int)), vs = [.ref d, .ref ps] ∧ DkAt a.cDisk H d kr S ∧ PairsAt H ps L ∧ L.length ≤ 15 ∧ (∀ x ∈ L, x.1 < S.R.length ∧ GoodRow x.2) ∧
 ∀ H', Chg [d, kr] H H' → DkAt a.cDisk H' d kr (runW S (logOf L)).1 → (∀ u, H u ≠ none → NoRowAt H kr u → NoRowAt H' kr u) → if (runW S (logOf L)).2 = true then E (.ref a.cStopped) none H' else Q .non H'
theorem head_good {L : List (Nat × List Int)} (hl : L.length ≤ 15) {m : Nat} (hm : m ≤ 96) (g : ∀ x ∈ L, x.1 < m) : GoodRow (headOf L) := by
 refine ⟨by unfold headOf; simp; omega, fun x hx => ?_⟩
 unfold headOf at hx
 simp only [List.mem_append, List.mem_singleton, List.mem_map] at hx
 rcases hx with (e | ⟨y, hy, e⟩) | e
 ·subst e; omega
 ·have := g y hy; subst e; omega
 ·rw [List.eq_of_mem_replicate e]; decide
theorem rowsOf_succ {L : List (Nat × List Int)} {i : Nat} (hi : i < L.length) : rowsOf L (i + 1) = rowsOf L i ++ [(2 + i, L[i].2)] := by
 unfold rowsOf
 rw [List.range_succ, List.map_append]
 simp [List.getD_eq_getElem?_getD, List.getElem?_eq_getElem hi]
theorem noRow_off {H : Hp} {C d kr u : Addr} {S : DS} (D : DkAt C H d kr S) (n : NoRowAt H kr u) {p : Addr} (hp : p ≠ kr) (o : HO) : NoRowAt (L2.upd H p o) kr u := fun rs hrs => by
 rw [upd_ne (Ne.symm hp)] at hrs
 exact n rs hrs
theorem ok_write_log (F : Fun K "write_log" "write_log" s_write_log f fd) (T : Txt K mg a) (M_Disk_write : Mf P w K mg base (CXE P w) 5 a.f_write ["self", "block", "row"] (spWrite K a)) (D_changed : Df P w K mg base CX0 1 "changed" ["row", "at", "words"] (spChanged K a)) (D_empty_row : Df P w K mg base CX0 1 "empty_row" [] (spEmpty K a)) : FnOk P w K mg base (CXE P w) 6 f fd ["disk", "pairs"] (spWLog K a) := by
 obtain ⟨_, G_write, b_write⟩ := M_Disk_write
 obtain ⟨_, _, Gchanged, bchanged, kchanged, mchanged⟩ := D_changed
 obtain ⟨_, _, Gempty_row, bempty_row, kempty_row, mempty_row⟩ := D_empty_row
 have nd := sc_write_log.nd
 refine F.okE sc_write_log (fun vs H Q E h => ?_) (fun cdv A outer s H vs Q E hr hA h => ?_)
 ·obtain ⟨d, kr, ps, S, L, rfl, _⟩ := h
  rfl
 obtain ⟨d, kr, ps, S, L, rfl, D, PA, hl, gL, q⟩ := h
 refine ⟨_, (pss_cons (ps_set (i := 2) nd rfl (by first | exact Or.inl rfl | exact Or.inr rfl) (pe_lst pa_nil))
  (pss_cons (ps_for PassesOwn.leaving rfl (pi_list (pv 1)) (pg_tup hA (pgs_cons (pg_name (i := 3) nd rfl (by first | exact Or.inl rfl | exact Or.inr rfl)) (pgs_cons (pg_name (i := 4) nd rfl (by first | exact Or.inl rfl | exact Or.inr rfl)) pgs_nil))) (pss_cons (ps_expr (pe_meth (pv 0) T.clDisk T.m_write G_write (hr.mono (by decide)) b_write .nil (passes_fn (fun _ _ _ h => h)) (pa_cons (pe_op op_add (pe_glob (v := .int 2) rfl T.cLOG_ROWS_AT.choose_spec ⟨_, rfl⟩) (pe_callB call_len_seq rfl T.len bt_len (pa_cons (pv 2) pa_nil))) (pa_cons (pv 4) pa_nil)) (hcm := (.inr hA))))
  (pss_one (ps_expr (pe_bm PySem.F.plainAttrs_list PySem.F.slot_list_append PySem.F.type_list_append mt_append (pv 2) (pa_cons (pv 3) pa_nil))))))
  (pss_one (ps_expr (pe_meth (pv 0) T.clDisk T.m_write G_write (hr.mono (by decide)) b_write .nil (passes_fn (fun _ _ _ h => h)) (pa_cons (pe_glob (v := .int 1) rfl T.cLOG_HEAD_AT.choose_spec ⟨_, rfl⟩) (pa_cons (pe_call Gchanged (hr.mono (by decide)) rfl mchanged kchanged bchanged .nil pass0 (pa_cons (pe_call0 Gempty_row (hr.mono (by decide)) rfl mempty_row kempty_row bempty_row .nil pass0) (pa_cons pe_int (pa_cons (pe_op op_cat (pe_lst (pa_cons (pe_callB call_len_seq rfl T.len bt_len (pa_cons (pv 2) pa_nil)) pa_nil)) (pv 2)) pa_nil)))) pa_nil)) (hcm := (.inr hA))))))), ?_⟩
 obtain ⟨ts, rs, PT⟩ := PA
 obtain ⟨h1, h2, h2', h3⟩ := id PT
 have gR : ∀ x ∈ L, GoodRow x.2 := fun x hx => (gL x hx).2
 have hlo := D.lo
 have hhi := D.hi
 refine ⟨(by show 0 ≤ sizeLine; decide), fun hm nhm => ?_⟩
 have s0 := same_new nhm (.lst [])
 obtain ⟨dx0, rs0, y1, y2, _⟩ := D.ex
 have hmd : hm ≠ d := Ne.symm (ne_of_none y1 nhm)
 have hmk : hm ≠ kr := Ne.symm (ne_of_none y2 nhm)
 refine ⟨_, rfl, ps, rfl, ⟨_, SqL.of (s0 _ _ h1)⟩, for_list (xs := ts.map V.ref) (fun i σ' H' => ∃ (o3 o4 : Option V), σ' = [some (.ref d), some (.ref ps), some (.ref hm), o3, o4] ∧ Chg [d, kr] H H' ∧ H' hm = some (.lst ((L.take i).map fun x => V.int x.1)) ∧ (runW S (rowsOf L i)).2 = false ∧ DkAt a.cDisk H' d kr (runW S (rowsOf L i)).1 ∧ NoRowAt H' kr hm ∧ (∀ u, H u ≠ none → NoRowAt H kr u → NoRowAt H' kr u))
  ⟨none, none, rfl, Chg.of s0, upd_same, rfl, D.same s0, (D.noRow nhm).chg D (Chg.of s0 (S := [])) (by simp), fun u hu nu => nu.chg D (Chg.of s0 (S := [])) (by simp)⟩ (fun i σ2 H2 _ ⟨_, _, _, c2, _⟩ => SqL.of (PT.chg D gR c2).1) ?_ ?_⟩
 ·rintro i v σ2 H2 hv ⟨o3, o4, rfl, c2, hh2, ns, D2, nh2, nr2⟩
  have hi : i < L.length := by
   have := (List.getElem?_eq_some_iff.mp hv).1
   rw [List.length_map, h2] at this
   exact this
  have ht : ts[i]? = some (ts[i]'(by omega)) := List.getElem?_eq_getElem (by omega)
  rw [List.getElem?_map, ht] at hv
  cases hv
  obtain ⟨p1, p2⟩ := (PT.chg D gR c2).2.2.2 i (by omega) (by omega) hi
  have hm' : L[i] ∈ L := List.getElem_mem hi
  obtain ⟨dx, d1⟩ := D2.at
  refine ⟨_, _, rfl, SqT.of p1, rfl, _, _, rfl, _, _, rfl, rfl, ?_⟩
  refine ⟨_, rfl, d, dx, _, rfl, d1, rfl, _, rfl, hm, _, rfl, .inl (SqL.of hh2), _, _, rfl, rfl, _, rfl, ?_⟩
  dsimp only
  rw [show (2 : Int) + (((L.take i).map fun x => V.int x.1).length : Int) = ((2 + i : Nat) : Int) by rw [List.length_map, List.length_take]; omega]
  have er := rowsOf_succ hi
  refine write_one (b := 2 + i) D2 (by rw [runW_len]; omega) p2 (gL _ hm').2 (fun hs H3 s3 => ?_) (fun hs H3 c3 D3 nr3 => ?_)
  ·have es : runW S (logOf L) = ((runW S (rowsOf L i)).1, true) := by
    have hsp : ∀ k, i + 1 + k ≤ L.length → ∃ Z, rowsOf L (i + 1 + k) = rowsOf L (i + 1) ++ Z := fun k => by
     induction k with
     | zero => exact fun _ => ⟨[], by simp⟩
     | succ k ih =>
      intro hk
      obtain ⟨Z, hZ⟩ := ih (by omega)
      exact ⟨Z ++ [(2 + (i + 1 + k), L[i + 1 + k].2)], by rw [show i + 1 + (k + 1) = (i + 1 + k) + 1 by omega, rowsOf_succ (by omega), hZ, List.append_assoc]⟩
    obtain ⟨Z, hZ⟩ := hsp (L.length - (i + 1)) (by omega)
    rw [show i + 1 + (L.length - (i + 1)) = L.length by omega, er] at hZ
    have e1 : runW (runW S (rowsOf L i)).1 ([(2 + i, L[i].2)] ++ (Z ++ [(1, headOf L)])) = ((runW S (rowsOf L i)).1, true) := if_pos hs
    unfold logOf
    rw [hZ, List.append_assoc, List.append_assoc, runW_app, ns, if_neg (by decide), e1]
   have := q H3 (c2.trans (Chg.of s3)) (by rw [es]; exact D2.same s3) (fun u hu nu => (nr2 u hu nu).chg D2 (Chg.of s3 (S := [])) (by simp))
   rw [es, if_pos rfl] at this
   exact this
  ·have e1 : runW S (rowsOf L (i + 1)) = ((runW S (rowsOf L i)).1.put (2 + i, L[i].2), false) := by
    rw [er, runW_app, ns, if_neg (by decide)]; exact if_neg hs
   have hh3 : H3 hm = some (.lst ((L.take i).map fun x => V.int x.1)) := c3 _ _ hh2 (by simp [hmd, hmk])
   refine ⟨_, rfl, .inl ⟨rfl, _, SqL.of hh3⟩, _, rfl, hm, _, _, rfl, rfl, hh3, small1000 (by rw [List.length_map, List.length_take]; omega), ?_⟩
   have nh3 : NoRowAt H3 kr hm := nr3 hm (by rw [hh2]; simp) nh2
   refine ⟨_, _, rfl, (c2.trans c3).upd0 nhm _, ?_, by rw [e1], by rw [e1]; exact D3.off nh3 hmd hmk _, noRow_off D3 nh3 hmk _, fun u hu nu => noRow_off D3 (nr3 u (chg_ne c2 (dk_ne D2) hu) (nr2 u hu nu)) hmk _⟩
   rw [upd_same, List.take_add_one, List.getElem?_eq_getElem hi, List.map_append]
   rfl
 ·rintro σ2 H2 ⟨o3, o4, rfl, c2, hh2, ns, D2, nh2, nr2⟩
  rw [List.length_map, h2] at hh2 ns D2
  rw [List.take_length] at hh2
  obtain ⟨dx, d1⟩ := D2.at
  have es : runW S (logOf L) = runW (runW S (rowsOf L L.length)).1 [(1, headOf L)] := by unfold logOf; rw [runW_app, ns, if_neg (by decide)]
  refine ⟨_, rfl, d, dx, _, rfl, d1, rfl, rfl, fun p H3 np s3 hp => ?_⟩
  have hh3 := s3 _ _ hh2
  refine ⟨_, rfl, hm, _, rfl, .inl (SqL.of hh3), (by show 1 ≤ sizeLine; decide), fun l1 m1 => ?_⟩
  have t1 := same_new m1 (.lst [.int ((L.map fun x => V.int x.1).length : Int)])
  refine ⟨_, rfl, l1, hm, _, _, rfl, rfl, upd_same, t1 _ _ hh3, small (by rw [List.length_map]; simp; omega), fun l2 m2 => ?_⟩
  have t2 := t1.trans (same_new m2 (.lst ([.int ((L.map fun x => V.int x.1).length : Int)] ++ L.map fun x => V.int x.1)))
  refine ⟨p, l2, _, _, 0, rfl, t2 _ _ hp, upd_same, by simp, by simp; omega, fun p5 H5 n5 s5 h5 => ?_⟩
  have sA := s3.trans (t2.trans s5)
  have hrow : H5 p5 = some (.lst ((headOf L).map V.int)) := by
   rw [h5]
   have e0 : ((List.replicate 16 (0 : Int)).map V.int).drop (0 + ([V.int ((L.map fun x => V.int x.1).length : Int)] ++ L.map fun x => V.int x.1).length) = (List.replicate (15 - L.length) (0 : Int)).map V.int := by
    rw [List.map_replicate, List.map_replicate, List.drop_replicate]
    congr 1
    simp
   rw [e0, List.take_zero, List.nil_append]
   unfold headOf
   rw [List.map_append, List.map_append, List.length_map, List.map_map]
   rfl
  refine write_one (b := 1) (D2.same sA) (by rw [runW_len]; omega) hrow (head_good hl hhi fun x hx => (gL x hx).1) (fun hs H6 s6 => ?_) (fun hs H6 c6 D6 nr6 => ?_)
  ·have e1 : runW (runW S (rowsOf L L.length)).1 [(1, headOf L)] = ((runW S (rowsOf L L.length)).1, true) := if_pos hs
   have := q H6 (c2.trans (Chg.of (sA.trans s6))) (by rw [es, e1]; exact D2.same (sA.trans s6)) (fun u hu nu => (nr2 u hu nu).chg D2 (Chg.of (sA.trans s6) (S := [])) (by simp))
   rw [es, e1, if_pos rfl] at this
   exact this
  ·have e1 : runW (runW S (rowsOf L L.length)).1 [(1, headOf L)] = ((runW S (rowsOf L L.length)).1.put (1, headOf L), false) := if_neg hs
   have := q H6 ((c2.trans (Chg.of sA)).trans c6) (by rw [es, e1]; exact D6) (fun u hu nu => nr6 u (by
    have z := chg_ne c2 (dk_ne D2) hu
    cases e : H2 u with
    | none => exact absurd e z
    | some o => rw [sA _ _ e]; simp) ((nr2 u hu nu).chg D2 (Chg.of sA (S := [])) (by simp)))
   rw [es, e1] at this
   exact this
def allOf (L : List (Nat × List Int)) : List (Nat × List Int) := if L = [] then [] else logOf L ++ (L ++ [(1, zeros)])
def spCommit (K : PySem.W.Frag) (a : Ad) : Sp := fun vs H Q E => ∃ (d kr ps : Addr) (S : DS), vs = [.ref d, .ref ps] ∧ DkAt a.cDisk H d kr S ∧
  ((∃ L : List (V × V × Bool), PairsK K H ps L ∧ ((15 < L.length ∧ E (.ref a.cTooMuch) none H) ∨ (L.length ≤ 15 ∧ wrong S.R.length none L = some true ∧ ∀ H', Same H H' → E (.ref a.cNoBlock) none H') ∨ (L.length ≤ 15 ∧ wrong S.R.length none L = some false ∧ ∀ H', Same H H' → E (.ref a.cBadRow) none H'))) ∨
   (∃ G : List (Nat × List Int), PairsAt H ps G ∧ G.length ≤ 15 ∧ Rises S.R.length none G ∧ (∀ x ∈ G, GoodRow x.2) ∧
     ∀ H', Chg [d, kr] H H' → DkAt a.cDisk H' d kr (runW S (allOf G)).1 → (∀ u, H u ≠ none → NoRowAt H kr u → NoRowAt H' kr u) → if (runW S (allOf G)).2 = true then E (.ref a.cStopped) none H' else Q .non H'))
theorem good_right {m : Int} {h : Option Int} {G : List (Nat × List Int)} (r : Rises m h G) (rs : List Addr) (hl : rs.length = G.length) : wrong m h (List.zipWith (fun (x : Nat × List Int) r => (V.int x.1, V.ref r, true)) G rs) = none := by
 induction G generalizing h rs with
 | nil => rfl
 | cons x G ih =>
  cases rs with
  | nil => cases hl
  | cons p rs =>
   obtain ⟨r1, r2, r3, r4⟩ := r
   show wrong m h ((V.int x.1, V.ref p, true) :: List.zipWith _ G rs) = none
   rw [wrong_i (by show (decide (17 ≤ (x.1 : Int)) && decide ((x.1 : Int) ≤ m - 1)) = true; rw [decide_eq_true (by omega), decide_eq_true r2]; rfl)]
   have e : beh h (x.1 : Int) = false := by
    cases h with
    | none => rfl
    | some j => exact decide_eq_false (by have := r3 j rfl; omega)
   rw [e, if_neg (by decide), if_pos rfl]
   exact ih r4 rs (by simpa using hl)
theorem ok_commit (F : Fun K "commit" "commit" s_commit f fd) (T : Txt K mg a) (D_refuse_wrong_pairs : Df P w K mg base (CXE P w) 5 "refuse_wrong_pairs" ["disk", "pairs"] (spRefuseP K a)) (D_write_log : Df P w K mg base (CXE P w) 6 "write_log" ["disk", "pairs"] (spWLog K a)) (D_write_homes : Df P w K mg base (CXE P w) 6 "write_homes" ["disk", "pairs"] (spWHomes K a)) : FnOk P w K mg base (CXE P w) 7 f fd ["disk", "pairs"] (spCommit K a) := by
 obtain ⟨_, _, Grefuse_wrong_pairs, brefuse_wrong_pairs, krefuse_wrong_pairs, mrefuse_wrong_pairs⟩ := D_refuse_wrong_pairs
 obtain ⟨_, _, Gwrite_log, bwrite_log, kwrite_log, mwrite_log⟩ := D_write_log
 obtain ⟨_, _, Gwrite_homes, bwrite_homes, kwrite_homes, mwrite_homes⟩ := D_write_homes
 have nd := sc_commit.nd
 refine F.okE sc_commit (fun vs H Q E h => ?_) (fun cdv A outer s H vs Q E hr hA h => ?_)
 ·obtain ⟨d, kr, ps, S, rfl, _⟩ := h
  rfl
 obtain ⟨d, kr, ps, S, rfl, D, hq⟩ := h
 refine ⟨_, (pss_cons (ps_expr (pe_call Grefuse_wrong_pairs (hr.mono (by decide)) rfl mrefuse_wrong_pairs krefuse_wrong_pairs brefuse_wrong_pairs .nil (passes_fn (fun _ _ _ h => h)) (pa_cons (pv 0) (pa_cons (pv 1) pa_nil)) (hcm := (.inr hA))))
  (pss_one (ps_if (pt_cmpR op_gt (pe_callB call_len_seq rfl T.len bt_len (pa_cons (pv 1) pa_nil)) pe_int (nomark _)) (pss_cons (ps_expr (pe_call Gwrite_log (hr.mono (by decide)) rfl mwrite_log kwrite_log bwrite_log .nil (passes_fn (fun _ _ _ h => h)) (pa_cons (pv 0) (pa_cons (pv 1) pa_nil)) (hcm := (.inr hA))))
  (pss_one (ps_expr (pe_call Gwrite_homes (hr.mono (by decide)) rfl mwrite_homes kwrite_homes bwrite_homes .nil (passes_fn (fun _ _ _ h => h)) (pa_cons (pv 0) (pa_cons (pv 1) pa_nil)) (hcm := (.inr hA)))))) pss_nil))), ?_⟩
 rcases hq with ⟨L, PK, hq⟩ | ⟨G, PA, hl, ri, gG, q⟩
 ·refine ⟨_, rfl, _, rfl, d, kr, ps, S, L, rfl, D, PK, fun h => ?_, fun h H' s' => ?_⟩
  ·rcases hq with ⟨_, q⟩ | ⟨z, _⟩ | ⟨z, _⟩
   ·exact q
   ·omega
   ·omega
  ·rcases hq with ⟨z, _⟩ | ⟨_, e, q⟩ | ⟨_, e, q⟩
   ·omega
   ·rw [e]; exact q H' s'
   ·rw [e]; exact q H' s'
 ·obtain ⟨ts, rs, PT⟩ := id PA
  obtain ⟨h1, h2, h2', h3⟩ := id PT
  have lz : (List.zipWith (fun (x : Nat × List Int) r => (V.int x.1, V.ref r, true)) G rs).length = G.length := by rw [List.length_zipWith, h2']; omega
  refine ⟨_, rfl, _, rfl, d, kr, ps, S, List.zipWith (fun (x : Nat × List Int) r => (V.int x.1, V.ref r, true)) G rs, rfl, D, ⟨ts, h1, by rw [lz]; exact h2, fun i t x e1 e2 => ?_⟩, fun h => absurd h (by rw [lz]; omega), fun h H1 s1 => ?_⟩
  ·obtain ⟨hi, rfl⟩ := List.getElem?_eq_some_iff.mp e1
   obtain ⟨hj, rfl⟩ := List.getElem?_eq_some_iff.mp e2
   rw [List.getElem_zipWith]
   obtain ⟨p1, p2⟩ := h3 i hi (by omega) (by omega)
   exact ⟨p1, .int _, rowA_good p2 (gG _ (List.getElem_mem _))⟩
  ·rw [good_right ri rs h2']
   have D1 := D.same s1
   have PA1 := PA.same s1
   refine ⟨_, rfl, ps, _, rfl, .inl (SqL.of (s1 _ _ h1)), _, _, rfl, rfl, _, rfl, ?_⟩
   rw [List.length_map, h2]
   have gb : ∀ x ∈ G, x.1 < S.R.length ∧ GoodRow x.2 := fun x hx => ⟨by have := ri.all x hx; omega, gG x hx⟩
   have nrs : ∀ u, H u ≠ none → NoRowAt H kr u → H1 u ≠ none ∧ NoRowAt H1 kr u := fun u hu nu => ⟨by
    cases e : H u with
    | none => exact absurd e hu
    | some o => rw [s1 _ _ e]; simp, nu.chg D (Chg.of s1 (S := [])) (by simp)⟩
   by_cases hG : G = []
   ·subst hG
    refine iteF' (by simp) ?_
    have := q H1 (Chg.of s1) D1 (fun u hu nu => (nrs u hu nu).2)
    exact this
   ·have hpos : 0 < G.length := List.length_pos_iff.mpr hG
    refine iteT' (decide_eq_true (by omega)) ⟨_, rfl, _, rfl, d, kr, ps, S, G, rfl, D1, PA1, hl, gb, fun H2 c2 D2 nr2 => ?_⟩
    have ea : runW S (allOf G) = if (runW S (logOf G)).2 = true then runW S (logOf G) else runW (runW S (logOf G)).1 (G ++ [(1, zeros)]) := by
     unfold allOf; rw [if_neg hG, runW_app]
    by_cases hst : (runW S (logOf G)).2 = true
    ·rw [if_pos hst] at ea ⊢
     have := q H2 ((Chg.of s1).trans c2) (by rw [ea]; exact D2) (fun u hu nu => nr2 u (nrs u hu nu).1 (nrs u hu nu).2)
     rw [ea, if_pos hst] at this
     exact this
    ·rw [if_neg hst] at ea ⊢
     refine ⟨_, rfl, _, rfl, d, kr, ps, (runW S (logOf G)).1, G, rfl, D2, ?_, fun x hx => ⟨by rw [runW_len]; exact (gb x hx).1, (gb x hx).2⟩, fun H3 c3 D3 nr3 => ?_⟩
     ·obtain ⟨ts1, rs1, PT1⟩ := PA1
      exact ⟨ts1, rs1, PT1.chg D1 gG c2⟩
     ·have := q H3 (((Chg.of s1).trans c2).trans c3) (by rw [ea]; exact D3) (fun u hu nu => nr3 u (chg_ne c2 (dk_ne D2) (nrs u hu nu).1) (nr2 u (nrs u hu nu).1 (nrs u hu nu).2))
      rw [ea] at this
      split at this
      ·rename_i z; rw [if_pos z]; exact this
      ·rename_i z; rw [if_neg z]; exact this
end
end K9
end
section
set_option Elab.async false
set_option linter.all false
set_option maxRecDepth 100000
set_option maxHeartbeats 4000000
namespace K9
open PySem L2 BK
section
variable {P : Program} {w : World} {K : PySem.W.Frag} {mg : Str → Option Value} {base : Heap} {f : Addr} {fd : FuncData} {a : Ad}
def spBInit (K : PySem.W.Frag) (a : Ad) : Sp := fun vs H Q _ => ∃ (x dx d : Addr), vs = [.ref x, .ref d] ∧ H x = some (.ins a.cBatch dx []) ∧ ∀ nr H', H nr = none → Chg [x] H H' → (∀ (m : Int) (ρ : Int → List Int), Bat a.cBatch H' x d nr m [] ρ) → Q .non H'
theorem ok_Batch___init__ (F : Fun K "__init__" "Batch.__init__" s_Batch___init__ f fd) (T : Txt K mg a)  : FnOk P w K mg base (CXE P w) 1 f fd ["self", "disk"] (spBInit K a) := by
 have nd := sc_Batch___init__.nd
 refine F.okE sc_Batch___init__ (fun vs H Q E h => ?_) (fun cdv A outer s H vs Q E hr hA h => ?_)
 ·obtain ⟨x, dx, d, rfl, _⟩ := h
  rfl
 obtain ⟨x, dx, d, rfl, hx, q⟩ := h
 refine ⟨_, (pss_cons (ps_fld (pv 0) (pv 1) rfl)
  (pss_one (ps_fld (pv 0) pe_dict0 rfl))), ?_⟩
 refine ⟨_, rfl, _, rfl, x, a.cBatch, dx, _, rfl, hx, T.clBatch, T.n_disk, (by show 0 < 1000; decide), fun nr nnr => ?_⟩
 have hx1 := same_new nnr (.dK []) _ _ (upd_same (H := H) (a := x) (o := .ins a.cBatch dx [("disk", .ref d)]))
 refine ⟨_, rfl, x, a.cBatch, dx, _, rfl, hx1, T.clBatch, T.n_new_rows, (by show 1 < 1000; decide), ?_⟩
 have nxn : nr ≠ x := Ne.symm (ne_of_none (upd_same (H := H) (a := x) (o := .ins a.cBatch dx [("disk", .ref d)])) nnr)
 have nH : H nr = none := by rw [upd_ne nxn] at nnr; exact nnr
 refine q nr _ nH (((Chg.of (Same.refl _)).upd (by simp) _).new nnr _ |>.upd (by simp) _) fun m ρ => ⟨⟨dx, upd_same⟩, homes_nil ?_⟩
 rw [upd_ne nxn, upd_same]
def seen (R : List (List Int)) (ks : List Int) (ρ : Int → List Int) : V → Option (List Int)
 | .int i => if i ∈ ks then some (ρ i) else if 0 ≤ i then R[i.toNat]? else none
 | _ => none
def spBRead (K : PySem.W.Frag) (a : Ad) : Sp := fun vs H Q E => ∃ (b d kr nr : Addr) (S : DS) (ks : List Int) (ρ : Int → List Int) (v : V), vs = [.ref b, v] ∧ Bat a.cBatch H b d nr S.R.length ks ρ ∧ DkAt a.cDisk H d kr S ∧ Kd K H v ∧
 ((∃ row, seen S.R ks ρ v = some row ∧ ∀ p H', H p = none → Same H H' → H' p = some (.lst (row.map V.int)) → Q (.ref p) H') ∨ (seen S.R ks ρ v = none ∧ E (.ref a.cNoBlock) none H))
theorem ok_Batch_read (F : Fun K "read" "Batch.read" s_Batch_read f fd) (T : Txt K mg a) (M_Disk_read : Mf P w K mg base (CXE P w) 3 a.f_read ["self", "block"] (spRead K a)) (D_is_home : Df P w K mg base (CXE P w) 2 "is_home" ["disk", "block"] (spHome K a)) : FnOk P w K mg base (CXE P w) 4 f fd ["self", "block"] (spBRead K a) := by
 obtain ⟨_, G_read, b_read⟩ := M_Disk_read
 obtain ⟨_, _, Gis_home, bis_home, kis_home, mis_home⟩ := D_is_home
 have nd := sc_Batch_read.nd
 refine F.okE sc_Batch_read (fun vs H Q E h => ?_) (fun cdv A outer s H vs Q E hr hA h => ?_)
 ·obtain ⟨b, d, kr, nr, S, ks, ρ, v, rfl, _⟩ := h
  rfl
 obtain ⟨b, d, kr, nr, S, ks, ρ, v, rfl, B, D, kd, hq⟩ := h
 obtain ⟨bx, hb⟩ := B.ex
 obtain ⟨dx, hd⟩ := D.at
 refine ⟨_, (pss_cons (ps_if (PW.pt (pw_and (pt_val (pe_call Gis_home (hr.mono (by decide)) rfl mis_home kis_home bis_home .nil (passes_fn (fun _ _ _ h => h)) (pa_cons (pe_fld (pv 0) rfl) (pa_cons (pv 1) pa_nil)) (hcm := (.inr hA)))) (pw_and1 (pt_cmp (pc_din (hu_of hr) (pv 1) (pe_fld (pv 0) rfl)))))) (pss_one (ps_ret (pe_callTy call_list_of rfl T.list bt_list (pa_cons (pe_dget (hu_of hr) (pe_fld (pv 0) rfl) (pv 1) (fun _ _ => rfl)) pa_nil)))) pss_nil)
  (pss_one (ps_ret (pe_meth (pe_fld (pv 0) rfl) T.clDisk T.m_read G_read (hr.mono (by decide)) b_read .nil (passes_fn (fun _ _ _ h => h)) (pa_cons (pv 1) pa_nil) (hcm := (.inr hA)))))), ?_⟩
 have cls := T.clBatch
 refine ⟨_, rfl, b, a.cBatch, bx, _, _, rfl, hb, cls, T.n_disk, rfl, _, rfl, d, kr, S, v, rfl, D, kd, _, rfl, ?_⟩
 have fin : (∀ k, v = .int k → k ∉ ks) → tRet (tMeth a.cDisk "read" (spRead K a) [] E (tFld K (tVar 0) "disk") (tCons (tVar 1) tNil)) { nx := fun _ H' => Q .non H', rt := Q } (start ["self", "block"] [.ref b, v]) H := by
  intro hk
  refine ⟨_, rfl, b, a.cBatch, bx, _, _, rfl, hb, cls, T.n_disk, rfl, d, dx, _, rfl, hd, rfl, _, rfl, d, kr, S.R, S.n, S.l, v, rfl, D, kd, ?_⟩
  cases hv : wholeV v 0 ((S.R.length : Int) - 1) with
  | true =>
   obtain ⟨n, rfl, hn⟩ := whole_get hv
   have es : seen S.R ks ρ (.int n) = some S.R[n] := by
    show (if (n : Int) ∈ ks then some (ρ n) else if (0 : Int) ≤ n then S.R[(n : Int).toNat]? else none) = _
    rw [if_neg (hk n rfl), if_pos (by omega), show (n : Int).toNat = n by omega, List.getElem?_eq_getElem hn]
   rcases hq with ⟨row, e, q⟩ | ⟨e, _⟩
   ·rw [es] at e; cases e
    exact .inl ⟨n, _, rfl, List.getElem?_eq_getElem hn, q⟩
   ·rw [es] at e; cases e
  | false =>
   have es : seen S.R ks ρ v = none := by
    cases v with
    | int i =>
     have hv' : (decide ((0 : Int) ≤ i) && decide (i ≤ (S.R.length : Int) - 1)) = false := hv
     show (if i ∈ ks then some (ρ i) else if (0 : Int) ≤ i then S.R[i.toNat]? else none) = none
     rw [if_neg (hk i rfl)]
     split
     ·rename_i h0
      rw [decide_eq_true h0, Bool.true_and] at hv'
      have := of_decide_eq_false hv'
      exact List.getElem?_eq_none (by omega)
     ·rfl
    | _ => rfl
   rcases hq with ⟨row, e, _⟩ | ⟨_, q⟩
   ·rw [es] at e; cases e
   ·exact .inr ⟨rfl, q⟩
 by_cases hw : wholeV v 17 ((S.R.length : Int) - 1) = true
 ·obtain ⟨k, rfl, h1, h2⟩ := whole_int hw
  refine iteT' hw ?_
  by_cases hk : k ∈ ks
  ·obtain ⟨r, g, hr0⟩ := B.ho.get hk
   refine ⟨_, rfl, _, rfl, b, a.cBatch, bx, _, _, rfl, hb, cls, T.n_new_rows, rfl, nr, _, rfl, g, _, rfl, iteT' (by rfl) ?_⟩
   refine ⟨_, rfl, b, a.cBatch, bx, _, _, rfl, hb, cls, T.n_new_rows, rfl, _, rfl, nr, _, rfl, g, r, _, rfl, .inl (SqL.of hr0), fun p np => ?_⟩
   have es : seen S.R ks ρ (.int k) = some (ρ k) := if_pos hk
   rcases hq with ⟨row, e, q⟩ | ⟨e, _⟩
   ·rw [es] at e; cases e
    exact q p _ np (same_new np _) upd_same
   ·rw [es] at e; cases e
  ·refine ⟨_, rfl, _, rfl, b, a.cBatch, bx, _, _, rfl, hb, cls, T.n_new_rows, rfl, nr, _, rfl, B.ho.getN hk, _, rfl, iteF' (by rfl) ?_⟩
   exact fin fun j e => by cases e; exact hk
 ·refine iteF' (Bool.eq_false_iff.mpr hw) ?_
  refine iteF (fin fun k e hk => ?_)
  subst e
  obtain ⟨z1, z2⟩ := B.ho.inn k hk
  exact hw (by show (decide ((17 : Int) ≤ k) && decide (k ≤ (S.R.length : Int) - 1)) = true; rw [decide_eq_true z1, decide_eq_true z2]; rfl)
def spBWrite (K : PySem.W.Frag) (a : Ad) : Sp := fun vs H Q E => ∃ (b d kr nr : Addr) (S : DS) (ks : List Int) (ρ : Int → List Int) (v r : V) (ok : Bool), vs = [.ref b, v, r] ∧ Bat a.cBatch H b d nr S.R.length ks ρ ∧ DkAt a.cDisk H d kr S ∧ Kd K H v ∧ RowA K H r ok ∧ ks.length < 900 ∧
  ((wholeV v 17 ((S.R.length : Int) - 1) = false ∧ E (.ref a.cNoBlock) none H) ∨
   (wholeV v 17 ((S.R.length : Int) - 1) = true ∧ ok = false ∧ ∀ H', Same H H' → E (.ref a.cBadRow) none H') ∨
   (∃ (k : Int) (p : Addr) (row : List Int), v = .int k ∧ 17 ≤ k ∧ k ≤ (S.R.length : Int) - 1 ∧ r = .ref p ∧ H p = some (.lst (row.map V.int)) ∧ GoodRow row ∧
     ∀ H', Chg [nr] H H' → Bat a.cBatch H' b d nr S.R.length (insK ks k) (fun j => if j = k then row else ρ j) → DkAt a.cDisk H' d kr S → (∀ u, H u ≠ none → OffD H nr u → OffD H' nr u) → Q .non H'))
theorem ok_Batch_write (F : Fun K "write" "Batch.write" s_Batch_write f fd) (T : Txt K mg a) (D_is_home : Df P w K mg base (CXE P w) 2 "is_home" ["disk", "block"] (spHome K a)) (D_is_row : Df P w K mg base CX0 4 "is_row" ["thing"] (spIsRow K a)) : FnOk P w K mg base (CXE P w) 5 f fd ["self", "block", "row"] (spBWrite K a) := by
 obtain ⟨_, _, Gis_home, bis_home, kis_home, mis_home⟩ := D_is_home
 obtain ⟨_, _, Gis_row, bis_row, kis_row, mis_row⟩ := D_is_row
 have nd := sc_Batch_write.nd
 refine F.okE sc_Batch_write (fun vs H Q E h => ?_) (fun cdv A outer s H vs Q E hr hA h => ?_)
 ·obtain ⟨b, d, kr, nr, S, ks, ρ, v, r, ok, rfl, _⟩ := h
  rfl
 obtain ⟨b, d, kr, nr, S, ks, ρ, v, r, ok, rfl, B, D, kd, rA, hz, hq⟩ := h
 obtain ⟨bx, hb⟩ := B.ex
 refine ⟨_, (pss_cons (ps_if (pt_not (pt_val (pe_call Gis_home (hr.mono (by decide)) rfl mis_home kis_home bis_home .nil (passes_fn (fun _ _ _ h => h)) (pa_cons (pe_fld (pv 0) rfl) (pa_cons (pv 1) pa_nil)) (hcm := (.inr hA))))) (pss_one (ps_raise (out_fn (fun _ _ _ h => h)) rfl hA rfl T.mNoBlock T.xNoBlock (pa_cons pe_str pa_nil))) pss_nil)
  (pss_cons (ps_if (pt_not (pt_val (pe_call Gis_row (hr.mono (by decide)) rfl mis_row kis_row bis_row .nil pass0 (pa_cons (pv 2) pa_nil)))) (pss_one (ps_raise (out_fn (fun _ _ _ h => h)) rfl hA rfl T.mBadRow T.xBadRow (pa_cons pe_str pa_nil))) pss_nil)
  (pss_one (ps_dput (hu_of hr) (pe_fld (pv 0) rfl) (pv 1) (pe_callTy call_list_of rfl T.list bt_list (pa_cons (pv 2) pa_nil)) rfl)))), ?_⟩
 refine ⟨_, rfl, b, a.cBatch, bx, _, _, rfl, hb, T.clBatch, T.n_disk, rfl, _, rfl, d, kr, S, v, rfl, D, kd, _, rfl, ?_⟩
 rcases hq with ⟨hw, q⟩ | ⟨hw, rfl, q⟩ | ⟨k, p, row, rfl, h1, h2, rfl, hp, g, q⟩
 ·exact iteT' (by rw [hw]; rfl) ⟨(by show 1 ≤ 1000; decide), q⟩
 ·refine iteF' (by rw [hw]; rfl) ⟨_, rfl, r, false, rfl, rA, fun H1 s1 => ⟨_, rfl, iteT' (by rfl) ⟨(by show 1 ≤ 1000; decide), q H1 s1⟩⟩⟩
 ·have hw : wholeV (.int k) 17 ((S.R.length : Int) - 1) = true := by show (decide ((17 : Int) ≤ k) && decide (k ≤ (S.R.length : Int) - 1)) = true; rw [decide_eq_true h1, decide_eq_true h2]; rfl
  refine iteF' (by rw [hw]; rfl) ⟨_, rfl, .ref p, true, rfl, rowA_good hp g, fun H1 s1 => ⟨_, rfl, iteF' (by rfl) ?_⟩⟩
  refine ⟨_, rfl, p, _, rfl, .inl (SqL.of (s1 _ _ hp)), fun r1 n1 => ?_⟩
  have s2 := s1.trans (same_new n1 (.lst (row.map V.int)))
  have B2 := B.same s2
  obtain ⟨H3, dp, c3, Ho3, of3⟩ := B2.ho.put2 hz h1 h2 (r := r1) (row := row) upd_same g
  refine ⟨_, rfl, b, a.cBatch, bx, _, _, rfl, s2 _ _ hb, T.clBatch, T.n_new_rows, rfl, _, rfl, nr, H3, rfl, dp, ?_⟩
  obtain ⟨kvs, en⟩ := B2.ho.at
  have c : Chg [nr] H H3 := (Chg.of s2).trans c3
  have nbn : b ∉ [nr] := by simp only [List.mem_singleton]; exact ne_of (s2 _ _ hb) en (fun z => by cases z)
  refine q H3 c ⟨⟨bx, c3 _ _ (s2 _ _ hb) nbn⟩, Ho3⟩ (disk_dict (D.same s2) ⟨kvs, en⟩ c3) fun u hu ou => of3 u (ou.same B.ho s2) fun z => ?_
  subst z
  exact hu (s1.free n1)
def spBPairs (K : PySem.W.Frag) (a : Ad) : Sp := fun vs H Q _ => ∃ (b d nr : Addr) (m : Int) (ks : List Int) (ρ : Int → List Int), vs = [.ref b] ∧ Bat a.cBatch H b d nr m ks ρ ∧ ks.length < 64 ∧
 ∀ (p : Addr) (ts rs : List Addr) (ns : List Int) (H' : Hp), H p = none → Same H H' → Sorted ks ns → PairsTs H' p ts rs (byKeys ns ρ) → (∀ r ∈ rs, H r = none) → (∀ t ∈ ts, H t = none) → Q (.ref p) H'
theorem pairs_made {H2 H0 : Hp} {acc : Addr} {vs : List V} {ns ks : List Int} {ρ : Int → List Int} {m : Int} (hacc : H2 acc = some (.lst vs)) (hlv : vs.length = ns.length) (inn : ∀ k ∈ ns, 17 ≤ k ∧ k ≤ m - 1)
  (hg : ∀ i v, vs[i]? = some v → ∃ t r, v = .ref t ∧ H2 t = some (.tup [.int (ns.getD i 0), .ref r]) ∧ H2 r = some (.lst ((ρ (ns.getD i 0)).map V.int)) ∧ H0 r = none ∧ H0 t = none) :
  ∃ ts rs, PairsTs H2 acc ts rs (byKeys ns ρ) ∧ (∀ r ∈ rs, H0 r = none) ∧ ∀ t ∈ ts, H0 t = none := by
 obtain ⟨ts, rs, c1, c2, c3⟩ := choose2 (P := fun i t r => vs[i]? = some (.ref t) ∧ H2 t = some (.tup [.int (ns.getD i 0), .ref r]) ∧ H2 r = some (.lst ((ρ (ns.getD i 0)).map V.int)) ∧ H0 r = none ∧ H0 t = none) ns.length fun i hi => by
  obtain ⟨t, r, z1, z4, z5, z6⟩ := hg i _ (List.getElem?_eq_getElem (by omega))
  exact ⟨t, r, by rw [← z1]; exact List.getElem?_eq_getElem (by omega), z4, z5, z6⟩
 have ev : vs = ts.map V.ref := List.ext_getElem? fun i => by
  rw [List.getElem?_map]
  by_cases hi : i < ns.length
  ·rw [(c3 i (by omega) (by omega)).1, List.getElem?_eq_getElem (by omega)]; rfl
  ·rw [List.getElem?_eq_none (by omega), List.getElem?_eq_none (by omega)]; rfl
 subst ev
 refine ⟨ts, rs, ⟨hacc, by unfold byKeys; rw [List.length_map]; exact c1, by unfold byKeys; rw [List.length_map]; exact c2, fun i b1 b2 b3 => ?_⟩, fun r hr => ?_, fun t ht => ?_⟩
 ·obtain ⟨_, z4, z5, _⟩ := c3 i b1 b2
  have hi : i < ns.length := by omega
  have eg : ns.getD i 0 = ns[i] := by rw [List.getD_eq_getElem?_getD, List.getElem?_eq_getElem hi]; rfl
  rw [eg] at z4 z5
  have eb : (byKeys ns ρ)[i] = (ns[i].toNat, ρ ns[i]) := by simp [byKeys]
  rw [eb]
  have := inn _ (List.getElem_mem hi)
  exact ⟨by rw [z4]; show _ = some (HO.tup [V.int ((ns[i].toNat : Nat) : Int), _]); rw [show ((ns[i].toNat : Nat) : Int) = ns[i] by omega], z5⟩
 ·obtain ⟨i, hi, e⟩ := List.mem_iff_getElem.mp hr
  rw [← e]; exact (c3 i (by omega) hi).2.2.2.1
 ·obtain ⟨i, hi, e⟩ := List.mem_iff_getElem.mp ht
  rw [← e]; exact (c3 i hi (by omega)).2.2.2.2
theorem ok_Batch_pairs (F : Fun K "pairs" "Batch.pairs" s_Batch_pairs f fd) (T : Txt K mg a)  : FnOk P w K mg base CX0 1 f fd ["self"] (spBPairs K a) := by
 have nd := sc_Batch_pairs.nd
 refine F.ok sc_Batch_pairs (fun vs H Q E h => ?_) (fun cdv A outer s H vs Q E hr h => ?_)
 ·obtain ⟨b, d, nr, m, ks, ρ, rfl, _⟩ := h
  rfl
 obtain ⟨b, d, nr, m, ks, ρ, rfl, B, hz, q⟩ := h
 obtain ⟨bx, hb⟩ := B.ex
 refine ⟨_, (pss_one (ps_ret (pe_lc (cl := [("self", s.heap.objs.size + 1)]) (fj := [("self", 0)]) (by exact LcOk.of ["self"] rfl (by decide +kernel) rfl (by decide +kernel) rfl (fun p h => (by rw [List.mem_singleton.mp h]; rfl)) rfl (by decide +kernel) (fun p h => (by rw [List.mem_singleton.mp h]; exact ⟨rfl, rfl, .inl rfl⟩)) (by decide +kernel)) rfl (pi_list (pe_callB call_sortedDH rfl T.sorted bt_sorted (pa_cons (pe_fld (pv 0) rfl) pa_nil))) (fun _ _ _ => pf_nil) (fun _ _ _ => (pe_tup (pa_cons (pv 0) (pa_cons (pe_callTy (call_listK (K := K) rfl) rfl T.list bt_list (pa_cons (pe_dget (hu_of hr) (pe_fldK (K := K) rfl (pv 1) rfl) (pv 0) (fun _ _ => rfl)) pa_nil)) pa_nil))))))), ?_⟩
 obtain ⟨kvs, e1, e2, e3⟩ := B.ho.ex
 have hlen : kvs.length = ks.length := by have := congrArg List.length e2; simpa using this
 refine ⟨_, rfl, b, a.cBatch, bx, _, _, rfl, hb, T.clBatch, T.n_new_rows, rfl, nr, kvs, ks, rfl, e1, e2, by omega, fun l ns nl perm srt => ⟨l, rfl, ⟨_, SqL.of upd_same⟩, ?_⟩⟩
 have s2 := same_new nl (.lst (ns.map V.int))
 have mem : ∀ k, k ∈ ns → k ∈ ks := fun k hk => perm.mem_iff.mp hk
 have pw := lt_of_le_nodup srt (perm.nodup_iff.mpr B.ho.nd)
 have hl' : ns.length = ks.length := perm.length_eq
 refine lc_valsL (xs := ns.map V.int) (by rw [List.length_map]; omega) upd_same (fun acc H' i v => ∃ t r, v = .ref t ∧ t ≠ acc ∧ r ≠ acc ∧ H' t = some (.tup [.int (ns.getD i 0), .ref r]) ∧ H' r = some (.lst ((ρ (ns.getD i 0)).map V.int)) ∧ H r = none ∧ H t = none) ?_ ?_ ?_
 ·rintro acc H H' i v k ⟨t, r, z1, z2, z3, z4, z5, z6⟩
  exact ⟨t, r, z1, z2, z3, k _ _ z2 z4, k _ _ z3 z5, z6⟩
 ·intro acc i v H2 Qf hx h0 s3 ha k
  obtain ⟨hi, ev⟩ := List.getElem?_eq_some_iff.mp hx
  rw [List.length_map] at hi
  rw [List.getElem_map] at ev
  subst ev
  have eg : ns.getD i 0 = ns[i] := by rw [List.getD_eq_getElem?_getD, List.getElem?_eq_getElem hi]; rfl
  have s4 := s2.trans s3
  obtain ⟨r0, g, hr0⟩ := (B.ho.same s4).get (mem _ (List.getElem_mem hi))
  refine ⟨_, rfl, _, rfl, b, a.cBatch, bx, _, _, rfl, s4 _ _ hb, T.clBatch, T.n_new_rows, rfl, _, rfl, nr, _, rfl, g, r0, _, rfl, .inl (SqL.of hr0), fun r nr' => ⟨(by show 2 ≤ sizeLine; decide), fun t nt => ?_⟩⟩
  have y1 := same_new nr' (.lst ((ρ ns[i]).map V.int))
  refine k _ _ (y1.trans (same_new nt _)) ⟨t, r, rfl, fun z => ha (by rw [← z]; exact y1.free nt), fun z => ha (by rw [← z]; exact nr'), by rw [upd_same, eg], by rw [eg]; exact same_new nt _ _ _ upd_same, s4.free nr', s4.free (y1.free nt)⟩
 ·intro acc vs H2 h0 s3 hacc hlv hg
  rw [List.length_map] at hlv
  obtain ⟨ts, rs, PT, n1, n2⟩ := pairs_made (H0 := H) (ns := ns) (ks := ks) (ρ := ρ) (m := m) hacc hlv (fun k hk => B.ho.inn k (mem k hk)) fun i v hv => by
   obtain ⟨t, r, z1, _, _, z4, z5, z6, z7⟩ := hg i v hv
   exact ⟨t, r, z1, z4, z5, z6, z7⟩
  exact q acc ts rs ns H2 (s2.free h0) (s2.trans s3) ⟨perm, pw⟩ PT n1 n2
def spBFinish (K : PySem.W.Frag) (a : Ad) : Sp := fun vs H Q E => ∃ (b d kr nr : Addr) (S : DS) (ks : List Int) (ρ : Int → List Int), vs = [.ref b] ∧ Bat a.cBatch H b d nr S.R.length ks ρ ∧ DkAt a.cDisk H d kr S ∧ ks.length < 64 ∧ S.l = none ∧
  ((15 < ks.length ∧ ∀ H', Same H H' → E (.ref a.cTooMuch) none H') ∨
   (ks.length ≤ 15 ∧ ∀ (ns : List Int) (nr' : Addr) (H' : Hp), Sorted ks ns → H nr' = none → Chg [d, kr, b] H H' → DkAt a.cDisk H' d kr (runW S (allOf (byKeys ns ρ))).1 → (∀ (m : Int) (ρ' : Int → List Int), Bat a.cBatch H' b d nr' m [] ρ') → (∀ u, H u ≠ none → NoRowAt H kr u → NoRowAt H' kr u) → Q .non H'))
theorem ok_Batch_finish (F : Fun K "finish" "Batch.finish" s_Batch_finish f fd) (T : Txt K mg a) (D_commit : Df P w K mg base (CXE P w) 7 "commit" ["disk", "pairs"] (spCommit K a)) (M_Batch_pairs : Mf P w K mg base CX0 1 a.f_pairs ["self"] (spBPairs K a)) : FnOk P w K mg base (CXE P w) 8 f fd ["self"] (spBFinish K a) := by
 obtain ⟨_, _, Gcommit, bcommit, kcommit, mcommit⟩ := D_commit
 obtain ⟨_, G_pairs, b_pairs⟩ := M_Batch_pairs
 have nd := sc_Batch_finish.nd
 refine F.okE sc_Batch_finish (fun vs H Q E h => ?_) (fun cdv A outer s H vs Q E hr hA h => ?_)
 ·obtain ⟨b, d, kr, nr, S, ks, ρ, rfl, _⟩ := h
  rfl
 obtain ⟨b, d, kr, nr, S, ks, ρ, rfl, B, D, hz, hl, hq⟩ := h
 obtain ⟨bx, hb⟩ := B.ex
 refine ⟨_, (pss_cons (ps_expr (pe_call Gcommit (hr.mono (by decide)) rfl mcommit kcommit bcommit .nil (passes_fn (fun _ _ _ h => h)) (pa_cons (pe_fld (pv 0) rfl) (pa_cons (pe_meth0 (pv 0) T.clBatch T.m_pairs G_pairs (hr.mono (by decide)) b_pairs .nil pass0) pa_nil)) (hcm := (.inr hA))))
  (pss_one (ps_fld (pv 0) pe_dict0 rfl))), ?_⟩
 refine ⟨_, rfl, b, a.cBatch, bx, _, _, rfl, hb, T.clBatch, T.n_disk, rfl, _, rfl, b, bx, _, rfl, hb, rfl, b, d, nr, S.R.length, ks, ρ, rfl, B, hz, fun p ts rs ns H1 np s1 so PT n1 n2 => ?_⟩
 have D1 := D.same s1
 have B1 := B.same s1
 have mem : ∀ k, k ∈ ns → k ∈ ks := fun k hk => so.1.mem_iff.mp hk
 have hln : ns.length = ks.length := so.1.length_eq
 have lb : (byKeys ns ρ).length = ns.length := by unfold byKeys; simp
 have gb : ∀ x ∈ byKeys ns ρ, GoodRow x.2 := fun x hx => by
  unfold byKeys at hx
  obtain ⟨k, hk, rfl⟩ := List.mem_map.mp hx
  exact B.ho.good k (mem k hk)
 refine ⟨d, kr, p, S, rfl, D1, ?_⟩
 rcases hq with ⟨h15, q⟩ | ⟨h15, q⟩
 ·obtain ⟨h1, h2, h2', h3⟩ := id PT
  have lz : (List.zipWith (fun (x : Nat × List Int) r => (V.int x.1, V.ref r, true)) (byKeys ns ρ) rs).length = ns.length := by rw [List.length_zipWith, h2', lb]; omega
  refine .inl ⟨List.zipWith (fun (x : Nat × List Int) r => (V.int x.1, V.ref r, true)) (byKeys ns ρ) rs, ⟨ts, h1, by rw [lz, ← lb]; exact h2, fun i t x e1 e2 => ?_⟩, .inl ⟨by rw [lz]; omega, q H1 s1⟩⟩
  obtain ⟨hi, rfl⟩ := List.getElem?_eq_some_iff.mp e1
  obtain ⟨hj, rfl⟩ := List.getElem?_eq_some_iff.mp e2
  rw [List.getElem_zipWith]
  obtain ⟨p1, p2⟩ := h3 i hi (by omega) (by omega)
  exact ⟨p1, .int _, rowA_good p2 (gb _ (List.getElem_mem _))⟩
 ·have ri : Rises S.R.length none (byKeys ns ρ) := rises_of so.2 (fun k hk => B.ho.inn k (mem k hk)) (fun j e => by cases e)
  refine .inr ⟨byKeys ns ρ, ⟨ts, rs, PT⟩, by omega, ri, gb, fun H2 c2 D2 nr2 => ?_⟩
  have hf : (runW S (allOf (byKeys ns ρ))).2 = false := by rw [runW_free hl]
  rw [hf, if_neg (by decide)]
  have B2 := B1.disk D1 c2
  obtain ⟨bx2, hb2⟩ := B2.ex
  refine fun nr' nnr => ⟨_, rfl, b, a.cBatch, bx2, _, rfl, same_new nnr _ _ _ hb2, T.clBatch, T.n_new_rows, (by show 2 < 1000; decide), ?_⟩
  have nbn : nr' ≠ b := Ne.symm (ne_of_none hb2 nnr)
  have cA : Chg [d, kr, b] H H2 := ((Chg.of s1).trans c2).mono (by simp)
  have nH : H nr' = none := by
   cases e : H nr' with
   | none => rfl
   | some o =>
    exfalso
    have := chg_ne ((Chg.of s1).trans c2) (dk_ne D2) (u := nr') (by rw [e]; simp)
    exact this nnr
  obtain ⟨_, _, g1, g2, _⟩ := D2.ex
  have D3 := D2.same (same_new nnr (.dK []))
  have nob : NoRowAt (upd H2 nr' (.dK [])) kr b := fun rs' hrs' hm => by
   obtain ⟨_, rs2, _, z2, z3⟩ := D3.ex
   rw [z2] at hrs'
   have er : rs2 = rs' := refs_inj (by injection hrs' with z; injection z)
   subst er
   obtain ⟨row, _, e⟩ := z3.all hm
   rw [same_new nnr _ _ _ hb2] at e; cases e
  have nbd : b ≠ d := by
   intro z
   have hB := B2
   subst z
   rw [hb2] at g1
   injection g1 with g1
   injection g1 with _ _ g1
   injection g1 with g1
   injection g1 with g1
   exact absurd g1 (by decide)
  have nbk : b ≠ kr := ne_of hb2 g2 (fun z => by cases z)
  refine q ns nr' _ so nH ((cA.new nnr _).upd (by simp) _) (D3.off nob nbd nbk _) (fun m ρ' => ⟨⟨bx2, upd_same⟩, homes_nil (by rw [upd_ne nbn, upd_same])⟩) (fun u hu nu => ?_)
  refine noRow_off D3 ?_ nbk _
  refine (nr2 u ?_ (nu.chg D (Chg.of s1 (S := [])) (by simp))).chg D2 (Chg.of (same_new nnr _) (S := [])) (by simp)
  cases e : H u with
  | none => exact absurd e hu
  | some o => rw [s1 _ _ e]; simp
end
end K9
end
section
set_option Elab.async false
set_option linter.all false
set_option maxRecDepth 100000
set_option maxHeartbeats 4000000
namespace K9
open PySem L2 BK
section
variable {K : PySem.W.Frag} {a : Ad}
theorem seen_at {R : List (List Int)} {ks : List Int} {ρ : Int → List Int} {n : Nat} (hn : n < R.length) : seen R ks ρ (.int n) = some (if (n : Int) ∈ ks then ρ n else R[n]) := by
 show (if (n : Int) ∈ ks then some (ρ n) else if (0 : Int) ≤ n then R[(n : Int).toNat]? else none) = _
 by_cases h : (n : Int) ∈ ks
 ·rw [if_pos h, if_pos h]
 ·rw [if_neg h, if_neg h, if_pos (by omega), show (n : Int).toNat = n by omega, List.getElem?_eq_getElem hn]
structure Mp (a : Ad) (H : Hp) (b d kr nr y : Addr) (S : DS) (ks : List Int) (ρ : Int → List Int) (m t : Int) : Prop where
 bat : Bat a.cBatch H b d nr S.R.length ks ρ
 dk : DkAt a.cDisk H d kr S
 lay : LayAt a.cLayout H y m t
 good : Good m t
 len : (S.R.length : Int) = m
 few : ks.length < 800
theorem Mp.same {H H' : Hp} {b d kr nr y : Addr} {S : DS} {ks : List Int} {ρ : Int → List Int} {m t : Int} (x : Mp a H b d kr nr y S ks ρ m t) (s : Same H H') : Mp a H' b d kr nr y S ks ρ m t := ⟨x.bat.same s, x.dk.same s, x.lay.same s, x.good, x.len, x.few⟩
end
end K9
end
section
set_option Elab.async false
set_option linter.all false
set_option maxRecDepth 100000
set_option maxHeartbeats 4000000
namespace K9
open PySem L2 BK
section
variable {P : Program} {w : World} {K : PySem.W.Frag} {mg : Str → Option Value} {base : Heap} {f : Addr} {fd : FuncData} {a : Ad}
def mw (R : List (List Int)) (ks : List Int) (ρ : Int → List Int) (i : Nat) : Int := ((seen R ks ρ (.int ((17 + i / 16 : Nat) : Int))).getD []).getD (i % 16) 0
theorem Mp.row {H : Hp} {b d kr nr y : Addr} {S : DS} {ks : List Int} {ρ : Int → List Int} {m t : Int} (x : Mp a H b d kr nr y S ks ρ m t) {i : Nat} (hi : (i : Int) < m) : ∃ row, seen S.R ks ρ (.int ((17 + i / 16 : Nat) : Int)) = some row ∧ GoodRow row ∧ row[i % 16]? = some (mw S.R ks ρ i) ∧ 17 + i / 16 < S.R.length := by
 obtain ⟨g1, g2, g3, g4, g5⟩ := x.good
 have hl := x.len
 have hlt : 17 + i / 16 < S.R.length := by
  unfold dataAt nodesAt at g5
  omega
 have es := seen_at (ks := ks) (ρ := ρ) hlt
 have gr : GoodRow (if ((17 + i / 16 : Nat) : Int) ∈ ks then ρ ((17 + i / 16 : Nat) : Int) else S.R[17 + i / 16]) := by
  split
  ·rename_i h; exact x.bat.ho.good _ h
  ·exact x.dk.good _ (List.getElem_mem hlt)
 generalize (if ((17 + i / 16 : Nat) : Int) ∈ ks then ρ ((17 + i / 16 : Nat) : Int) else S.R[17 + i / 16]) = r at es gr
 have h16 : i % 16 < r.length := by rw [gr.1]; omega
 refine ⟨_, es, gr, ?_, hlt⟩
 unfold mw
 rw [es]
 show r[i % 16]? = some (r.getD (i % 16) 0)
 rw [List.getD_eq_getElem?_getD, List.getElem?_eq_getElem h16]
 rfl
def spIsFree (K : PySem.W.Frag) (a : Ad) : Sp := fun vs H Q E => ∃ (b d kr nr y : Addr) (S : DS) (ks : List Int) (ρ : Int → List Int) (m t : Int) (v : V), vs = [.ref b, .ref y, v] ∧ Mp a H b d kr nr y S ks ρ m t ∧ Kd K H v ∧
 ((∃ i : Nat, v = .int i ∧ (i : Int) < m ∧ ∀ H', Same H H' → Q (.bl (decide (mw S.R ks ρ i = 0))) H') ∨ (wholeV v 0 (m - 1) = false ∧ E (.ref a.cNoBlock) none H))
theorem ok_is_free (F : Fun K "is_free" "is_free" s_is_free f fd) (T : Txt K mg a) (M_Batch_read : Mf P w K mg base (CXE P w) 4 a.f_Batch_read ["self", "block"] (spBRead K a)) (D_is_whole : Df P w K mg base CX0 1 "is_whole" ["thing", "least", "most"] (spWhole K a)) : FnOk P w K mg base (CXE P w) 5 f fd ["batch", "layout", "block"] (spIsFree K a) := by
 obtain ⟨_, G_Batch_read, b_Batch_read⟩ := M_Batch_read
 obtain ⟨_, _, Gis_whole, bis_whole, kis_whole, mis_whole⟩ := D_is_whole
 have nd := sc_is_free.nd
 refine F.okE sc_is_free (fun vs H Q E h => ?_) (fun cdv A outer s H vs Q E hr hA h => ?_)
 ·obtain ⟨b, d, kr, nr, y, S, ks, ρ, m, t, v, rfl, _⟩ := h
  rfl
 obtain ⟨b, d, kr, nr, y, S, ks, ρ, m, t, v, rfl, X, kd, hq⟩ := h
 obtain ⟨yx, hy⟩ := X.lay
 refine ⟨_, (pss_cons (ps_if (pt_not (pt_val (pe_call Gis_whole (hr.mono (by decide)) rfl mis_whole kis_whole bis_whole .nil pass0 (pa_cons (pv 2) (pa_cons pe_int (pa_cons (pe_op op_sub (pe_fld (pv 1) rfl) pe_int) pa_nil)))))) (pss_one (ps_raise (out_fn (fun _ _ _ h => h)) rfl hA rfl T.mNoBlock T.xNoBlock (pa_cons pe_str pa_nil))) pss_nil)
  (pss_cons (ps_set (i := 3) nd rfl (by first | exact Or.inl rfl | exact Or.inr rfl) (pe_meth (pv 0) T.clBatch T.m_Batch_read G_Batch_read (hr.mono (by decide)) b_Batch_read .nil (passes_fn (fun _ _ _ h => h)) (pa_cons (pe_op op_add (pe_fld (pv 1) rfl) (pe_op op_fdiv (pv 2) (pe_glob (v := .int 16) rfl T.cROW_WORDS.choose_spec ⟨_, rfl⟩))) pa_nil) (hcm := (.inr hA))))
  (pss_one (ps_ret (pe_cmpR op_eq (pe_ix ix_list (pv 3) (pe_op op_mod (pv 2) (pe_glob (v := .int 16) rfl T.cROW_WORDS.choose_spec ⟨_, rfl⟩)) (fun _ _ => rfl)) (pe_glob (v := .int 0) rfl T.cFREE.choose_spec ⟨_, rfl⟩) (nomark _)))))), ?_⟩
 refine ⟨_, rfl, _, rfl, y, a.cLayout, yx, _, _, rfl, hy, T.clLayout, T.n_many, rfl, _, _, rfl, rfl, v, 0, _, rfl, kd, _, rfl, ?_⟩
 rcases hq with ⟨i, rfl, hi, q⟩ | ⟨hw, q⟩
 ·refine iteF' (by rw [whole_in (by omega) (by show (i : Int) ≤ m - 1; omega)]; rfl) ?_
  obtain ⟨row, es, gr, hg, hlt⟩ := X.row hi
  obtain ⟨bx, hb⟩ := X.bat.ex
  refine ⟨_, rfl, b, bx, _, rfl, hb, rfl, _, rfl, y, a.cLayout, yx, _, _, rfl, hy, T.clLayout, T.n_maps_at, rfl, _, rfl, _, _, rfl, rfl, ⟨by decide, by decide⟩, _, _, rfl, rfl, ?_⟩
  dsimp (config := { proj := false, iota := false, eta := false, zeta := false }) only
  rw [show (17 : Int) + (i : Int) / 16 = ((17 + i / 16 : Nat) : Int) by omega]
  refine ⟨b, d, kr, nr, S, ks, ρ, _, rfl, X.bat, X.dk, .int _, .inl ⟨row, es, fun p H1 np s1 hp => ?_⟩⟩
  refine ⟨_, rfl, _, rfl, _, _, rfl, rfl, (by show (0 : Int) < 16; decide), p, _, _, .int (mw S.R ks ρ i), rfl, rfl, SqL.of hp, ?_, rfl, ?_⟩
  ·rw [show (i : Int) % 16 = ((i % 16 : Nat) : Int) by omega]
   exact atI_nat (by rw [List.getElem?_map, hg]; rfl)
  ·rw [dec_V]; exact q H1 s1
 ·exact iteT' (by rw [hw]; rfl) ⟨(by show 1 ≤ 1000; decide), q⟩
def freeL (R : List (List Int)) (ks : List Int) (ρ : Int → List Int) (m : Nat) : List Nat := (List.range m).filter fun i => decide (mw R ks ρ i = 0)
def spFreeBlocks (_ : PySem.W.Frag) (a : Ad) : Sp := fun vs H Q _ => ∃ (b d kr nr y : Addr) (S : DS) (ks : List Int) (ρ : Int → List Int) (m t : Int), vs = [.ref b, .ref y] ∧ Mp a H b d kr nr y S ks ρ m t ∧
 ∀ p H', H p = none → Same H H' → H' p = some (.lst ((freeL S.R ks ρ m.toNat).map fun i : Nat => V.int (i : Int))) → Q (.ref p) H'
theorem ok_free_blocks (F : Fun K "free_blocks" "free_blocks" s_free_blocks f fd) (T : Txt K mg a) (D_is_free : Df P w K mg base (CXE P w) 5 "is_free" ["batch", "layout", "block"] (spIsFree K a)) : FnOk P w K mg base (CXE P w) 6 f fd ["batch", "layout"] (spFreeBlocks K a) := by
 obtain ⟨_, _, Gis_free, bis_free, kis_free, mis_free⟩ := D_is_free
 have nd := sc_free_blocks.nd
 refine F.okE sc_free_blocks (fun vs H Q E h => ?_) (fun cdv A outer s H vs Q E hr hA h => ?_)
 ·obtain ⟨b, d, kr, nr, y, S, ks, ρ, m, t, rfl, _⟩ := h
  rfl
 obtain ⟨b, d, kr, nr, y, S, ks, ρ, m, t, rfl, X, q⟩ := h
 obtain ⟨yx, hy⟩ := X.lay
 obtain ⟨g1, g2, _⟩ := X.good
 refine ⟨_, (pss_one (ps_ret (pe_lc (cl := [("layout", s.heap.objs.size + 2), ("batch", s.heap.objs.size + 1)]) (fj := [("batch", 0), ("layout", 1)]) (by exact LcOk.of ["layout", "batch"] rfl (by decide +kernel) rfl (by decide +kernel) rfl (fun p h => (by simp only [List.mem_cons, List.not_mem_nil, or_false] at h; rcases h with rfl | rfl <;> rfl)) rfl (by decide +kernel) (fun p h => (by simp only [List.mem_cons, List.not_mem_nil, or_false] at h; rcases h with rfl | rfl <;> exact ⟨rfl, rfl, .inl rfl⟩)) (by decide +kernel)) rfl (pi_range1 rfl T.range (pa_cons (pe_fld (pv 1) rfl) pa_nil)) (fun _ _ _ => (pf_one (pt_val (pe_call Gis_free (hr.mono (by decide)) rfl mis_free kis_free bis_free .nil passesE0 (pa_cons (pv 1) (pa_cons (pv 2) (pa_cons (pv 0) pa_nil))) (hcm := (.inr hA)))))) (fun _ _ _ => (pv 0))))), ?_⟩
 refine ⟨_, rfl, y, a.cLayout, yx, _, _, rfl, hy, T.clLayout, T.n_many, rfl, _, rfl, by omega, by omega, ?_⟩
 refine lc_rangeF (lo := 0) (n := m.toNat) (by omega) (fun i => decide (mw S.R ks ρ i = 0)) (fun i : Nat => V.int (i : Int)) (fun i H2 Qb hi s2 k => ?_) (fun i H2 Qf hi hg s2 k => ?_) fun acc H2 na s2 hacc => q acc H2 na s2 hacc
 ·refine ⟨_, rfl, _, rfl, _, rfl, b, d, kr, nr, y, S, ks, ρ, m, t, _, rfl, X.same s2, .int _, .inl ⟨i, by rw [Int.zero_add], by omega, fun H3 s3 => ⟨_, rfl, k H3 s3⟩⟩⟩
 ·refine ⟨_, rfl, ?_⟩
  rw [Int.zero_add]; exact k H2 (Same.refl _)
def setM (R : List (List Int)) (ks : List Int) (ρ : Int → List Int) (i : Nat) (x : Int) : Int → List Int := fun j => if j = ((17 + i / 16 : Nat) : Int) then ((seen R ks ρ (.int ((17 + i / 16 : Nat) : Int))).getD []).set (i % 16) x else ρ j
theorem mw_set {R : List (List Int)} {ks : List Int} {ρ : Int → List Int} {i j : Nat} {x : Int} (hi : 17 + i / 16 < R.length) (hl : ((seen R ks ρ (.int ((17 + i / 16 : Nat) : Int))).getD []).length = 16) : mw R (insK ks ((17 + i / 16 : Nat) : Int)) (setM R ks ρ i x) j = if j = i then x else mw R ks ρ j := by
 by_cases hb : j / 16 = i / 16
 ·have e1 : seen R (insK ks ((17 + i / 16 : Nat) : Int)) (setM R ks ρ i x) (.int ((17 + j / 16 : Nat) : Int)) = some (((seen R ks ρ (.int ((17 + i / 16 : Nat) : Int))).getD []).set (i % 16) x) := by
   rw [hb]
   show (if ((17 + i / 16 : Nat) : Int) ∈ insK ks ((17 + i / 16 : Nat) : Int) then _ else _) = _
   rw [if_pos (insK_mem.mpr (.inr rfl))]
   unfold setM
   rw [if_pos rfl]
  unfold mw
  rw [e1, hb]
  show (List.set _ (i % 16) x).getD (j % 16) 0 = _
  rw [List.getD_eq_getElem?_getD, List.getElem?_set]
  by_cases hj : j = i
  ·subst hj
   rw [if_pos rfl, if_pos (by rw [hl]; omega), if_pos rfl]; rfl
  ·rw [if_neg (by omega), if_neg hj, List.getD_eq_getElem?_getD]
 ·have hne : ((17 + j / 16 : Nat) : Int) ≠ ((17 + i / 16 : Nat) : Int) := by omega
  have e1 : seen R (insK ks ((17 + i / 16 : Nat) : Int)) (setM R ks ρ i x) (.int ((17 + j / 16 : Nat) : Int)) = seen R ks ρ (.int ((17 + j / 16 : Nat) : Int)) := by
   show (if ((17 + j / 16 : Nat) : Int) ∈ insK ks ((17 + i / 16 : Nat) : Int) then some (setM R ks ρ i x _) else _) = (if ((17 + j / 16 : Nat) : Int) ∈ ks then _ else _)
   by_cases hk : ((17 + j / 16 : Nat) : Int) ∈ ks
   ·rw [if_pos (insK_mem.mpr (.inl hk)), if_pos hk]
    unfold setM; rw [if_neg hne]
   ·rw [if_neg (fun z => (insK_mem.mp z).elim hk hne), if_neg hk]
  unfold mw
  rw [e1, if_neg (fun z => hb (by rw [z]))]
def spMark (K : PySem.W.Frag) (a : Ad) : Sp := fun vs H Q _ => ∃ (b d kr nr y : Addr) (S : DS) (ks : List Int) (ρ : Int → List Int) (m t x : Int) (i : Nat), vs = [.ref b, .ref y, .int i, .int x] ∧ Mp a H b d kr nr y S ks ρ m t ∧ (i : Int) < m ∧ 0 ≤ x ∧ x ≤ 1 ∧ ks.length < 700 ∧
 ∀ H', Chg [nr] H H' → Mp a H' b d kr nr y S (insK ks ((17 + i / 16 : Nat) : Int)) (setM S.R ks ρ i x) m t → (∀ u, H u ≠ none → OffD H nr u → OffD H' nr u) → Q .non H'
theorem ok_mark (F : Fun K "mark" "mark" s_mark f fd) (T : Txt K mg a) (M_Batch_write : Mf P w K mg base (CXE P w) 5 a.f_Batch_write ["self", "block", "row"] (spBWrite K a)) (D_changed : Df P w K mg base CX0 1 "changed" ["row", "at", "words"] (spChanged K a)) (M_Batch_read : Mf P w K mg base (CXE P w) 4 a.f_Batch_read ["self", "block"] (spBRead K a)) : FnOk P w K mg base (CXE P w) 6 f fd ["batch", "layout", "block", "word"] (spMark K a) := by
 obtain ⟨_, G_Batch_write, b_Batch_write⟩ := M_Batch_write
 obtain ⟨_, _, Gchanged, bchanged, kchanged, mchanged⟩ := D_changed
 obtain ⟨_, G_Batch_read, b_Batch_read⟩ := M_Batch_read
 have nd := sc_mark.nd
 refine F.okE sc_mark (fun vs H Q E h => ?_) (fun cdv A outer s H vs Q E hr hA h => ?_)
 ·obtain ⟨b, d, kr, nr, y, S, ks, ρ, m, t, x, i, rfl, _⟩ := h
  rfl
 obtain ⟨b, d, kr, nr, y, S, ks, ρ, m, t, x, i, rfl, X, hi, hx0, hx1, few, q⟩ := h
 obtain ⟨yx, hy⟩ := X.lay
 obtain ⟨bx, hb⟩ := X.bat.ex
 obtain ⟨row, es, gr, hg, hlt⟩ := X.row hi
 refine ⟨_, (pss_cons (ps_set (i := 4) nd rfl (by first | exact Or.inl rfl | exact Or.inr rfl) (pe_op op_add (pe_fld (pv 1) rfl) (pe_op op_fdiv (pv 2) (pe_glob (v := .int 16) rfl T.cROW_WORDS.choose_spec ⟨_, rfl⟩))))
  (pss_one (ps_expr (pe_meth (pv 0) T.clBatch T.m_Batch_write G_Batch_write (hr.mono (by decide)) b_Batch_write .nil (passes_fn (fun _ _ _ h => h)) (pa_cons (pv 4) (pa_cons (pe_call Gchanged (hr.mono (by decide)) rfl mchanged kchanged bchanged .nil pass0 (pa_cons (pe_meth (pv 0) T.clBatch T.m_Batch_read G_Batch_read (hr.mono (by decide)) b_Batch_read .nil (passes_fn (fun _ _ _ h => h)) (pa_cons (pv 4) pa_nil) (hcm := (.inr hA))) (pa_cons (pe_op op_mod (pv 2) (pe_glob (v := .int 16) rfl T.cROW_WORDS.choose_spec ⟨_, rfl⟩)) (pa_cons (pe_lst (pa_cons (pv 3) pa_nil)) pa_nil)))) pa_nil)) (hcm := (.inr hA)))))), ?_⟩
 refine ⟨_, rfl, y, a.cLayout, yx, _, _, rfl, hy, T.clLayout, T.n_maps_at, rfl, _, rfl, _, _, rfl, rfl, ⟨by decide, by decide⟩, _, _, rfl, rfl, ?_⟩
 dsimp (config := { proj := false, iota := false, eta := false, zeta := false }) only
 rw [show (17 : Int) + (i : Int) / 16 = ((17 + i / 16 : Nat) : Int) by omega]
 refine ⟨_, rfl, b, bx, _, rfl, hb, rfl, _, rfl, _, rfl, b, bx, _, rfl, hb, rfl, _, rfl, b, d, kr, nr, S, ks, ρ, _, rfl, X.bat, X.dk, .int _, .inl ⟨row, es, fun p H1 np s1 hp => ?_⟩⟩
 refine ⟨_, rfl, _, _, rfl, rfl, (by show (0 : Int) < 16; decide), _, rfl, (by show 1 ≤ sizeLine; decide), fun l1 m1 => ?_⟩
 have t1 := same_new m1 (.lst [V.int x])
 dsimp (config := { proj := false, iota := false, eta := false, zeta := false }) only
 rw [show (i : Int) % 16 = ((i % 16 : Nat) : Int) by omega]
 refine ⟨p, l1, _, _, i % 16, rfl, t1 _ _ hp, upd_same, by rw [List.length_map, gr.1]; decide, (by show 1 ≤ 300; decide), fun p2 H2 n2 s2 hp2 => ?_⟩
 have sA := s1.trans (t1.trans s2)
 have er : (row.map V.int).take (i % 16) ++ [V.int x] ++ (row.map V.int).drop (i % 16 + [V.int x].length) = (row.set (i % 16) x).map V.int := by
  rw [List.map_set, List.set_eq_take_append_cons_drop, if_pos (by rw [List.length_map, gr.1]; omega)]
  simp
 rw [er] at hp2
 have gs : GoodRow (row.set (i % 16) x) := ⟨by rw [List.length_set]; exact gr.1, fun z hz => by
  rcases List.mem_or_eq_of_mem_set hz with e | e
  ·exact gr.2 z e
  ·subst e; omega⟩
 have X2 := X.same sA
 refine ⟨b, d, kr, nr, S, ks, ρ, _, _, true, rfl, X2.bat, X2.dk, .int _, rowA_good hp2 gs, by omega, .inr (.inr ⟨((17 + i / 16 : Nat) : Int), p2, _, rfl, by omega, by omega, rfl, hp2, gs, fun H3 c3 B3 D3 of3 => ?_⟩)⟩
 obtain ⟨kvs, en⟩ := X2.bat.ho.at
 have ll := insK_len (ks := ks) (k := ((17 + i / 16 : Nat) : Int))
 have eρ : setM S.R ks ρ i x = fun j => if j = ((17 + i / 16 : Nat) : Int) then row.set (i % 16) x else ρ j := by
  unfold setM; rw [es]; rfl
 rw [eρ] at q
 refine q H3 ((Chg.of sA).trans c3) ⟨B3, D3, X2.lay.chg c3 ?_, X.good, X.len, by omega⟩ fun u hu ou => of3 u ?_ (ou.same X.bat.ho sA)
 ·obtain ⟨yx2, hy2⟩ := X2.lay
  simp only [List.mem_singleton]; exact ne_of hy2 en (fun z => by cases z)
 ·cases e : H u with
  | none => exact absurd e hu
  | some o => rw [sA _ _ e]; simp
def spTake (K : PySem.W.Frag) (a : Ad) : Sp := fun vs H Q E => ∃ (b d kr nr y : Addr) (S : DS) (ks : List Int) (ρ : Int → List Int) (m t : Int), vs = [.ref b, .ref y] ∧ Mp a H b d kr nr y S ks ρ m t ∧ ks.length < 700 ∧
  ((freeL S.R ks ρ m.toNat = [] ∧ ∀ H', Same H H' → E (.ref a.cNoRoom) none H') ∨
   (∃ i l, freeL S.R ks ρ m.toNat = i :: l ∧ ∀ H', Chg [nr] H H' → Mp a H' b d kr nr y S (insK ks ((17 + i / 16 : Nat) : Int)) (setM S.R ks ρ i 1) m t → (∀ u, H u ≠ none → OffD H nr u → OffD H' nr u) → Q (.int i) H'))
theorem free_lt {R : List (List Int)} {ks : List Int} {ρ : Int → List Int} {m : Nat} : ∀ i ∈ freeL R ks ρ m, i < m := fun i hi => by
 unfold freeL at hi
 have := (List.mem_filter.mp hi).1
 simpa using this
theorem ok_take (F : Fun K "take" "take" s_take f fd) (T : Txt K mg a) (D_free_blocks : Df P w K mg base (CXE P w) 6 "free_blocks" ["batch", "layout"] (spFreeBlocks K a)) (D_mark : Df P w K mg base (CXE P w) 6 "mark" ["batch", "layout", "block", "word"] (spMark K a)) : FnOk P w K mg base (CXE P w) 7 f fd ["batch", "layout"] (spTake K a) := by
 obtain ⟨_, _, Gfree_blocks, bfree_blocks, kfree_blocks, mfree_blocks⟩ := D_free_blocks
 obtain ⟨_, _, Gmark, bmark, kmark, mmark⟩ := D_mark
 have nd := sc_take.nd
 refine F.okE sc_take (fun vs H Q E h => ?_) (fun cdv A outer s H vs Q E hr hA h => ?_)
 ·obtain ⟨b, d, kr, nr, y, S, ks, ρ, m, t, rfl, _⟩ := h
  rfl
 obtain ⟨b, d, kr, nr, y, S, ks, ρ, m, t, rfl, X, few, hq⟩ := h
 refine ⟨_, (pss_cons (ps_set (i := 2) nd rfl (by first | exact Or.inl rfl | exact Or.inr rfl) (pe_call Gfree_blocks (hr.mono (by decide)) rfl mfree_blocks kfree_blocks bfree_blocks .nil (passes_fn (fun _ _ _ h => h)) (pa_cons (pv 0) (pa_cons (pv 1) pa_nil)) (hcm := (.inr hA))))
  (pss_cons (ps_if (pt_cmpR op_eq (pe_callB call_len_seq rfl T.len bt_len (pa_cons (pv 2) pa_nil)) pe_int (nomark _)) (pss_one (ps_raise (out_fn (fun _ _ _ h => h)) rfl hA rfl T.mNoRoom T.xNoRoom (pa_cons pe_str pa_nil))) pss_nil)
  (pss_cons (ps_expr (pe_call Gmark (hr.mono (by decide)) rfl mmark kmark bmark .nil (passes_fn (fun _ _ _ h => h)) (pa_cons (pv 0) (pa_cons (pv 1) (pa_cons (pe_ix ix_list (pv 2) pe_int (fun _ _ => rfl)) (pa_cons (pe_glob (v := .int 1) rfl T.cUSED.choose_spec ⟨_, rfl⟩) pa_nil)))) (hcm := (.inr hA))))
  (pss_one (ps_ret (pe_ix ix_list (pv 2) pe_int (fun _ _ => rfl))))))), ?_⟩
 refine ⟨_, rfl, _, rfl, b, d, kr, nr, y, S, ks, ρ, m, t, rfl, X, fun p H1 np s1 hp => ?_⟩
 refine ⟨_, rfl, p, _, rfl, .inl (SqL.of hp), rfl, _, rfl, ?_⟩
 rw [List.length_map]
 rcases hq with ⟨e, q⟩ | ⟨i, l, e, q⟩
 ·refine iteT' (by rw [e]; rfl) ⟨(by show 1 ≤ 1000; decide), q H1 s1⟩
 ·have hi := free_lt i (by rw [e]; simp)
  rw [e] at hp ⊢
  have hat : atI ((i :: l).map fun i : Nat => V.int (i : Int)) 0 = some (.int i) := atI_nat (j := 0) rfl
  refine iteF' (by rw [dec_V]; exact decide_eq_false (by simp; omega)) ?_
  refine ⟨_, rfl, _, rfl, _, rfl, p, _, 0, _, rfl, rfl, SqL.of hp, hat, ?_⟩
  refine ⟨b, d, kr, nr, y, S, ks, ρ, m, t, 1, i, rfl, X.same s1, by have := X.good.1; omega, by decide, by decide, few, fun H2 c2 X2 of2 => ?_⟩
  obtain ⟨kvs, en⟩ := (X.bat.ho.same s1).at
  have hp2 : H2 p = some (.lst ((i :: l).map fun i : Nat => V.int (i : Int))) := c2 _ _ hp (by simp only [List.mem_singleton]; exact ne_of hp en (fun z => by cases z))
  refine ⟨_, rfl, p, _, 0, _, rfl, rfl, SqL.of hp2, hat, ?_⟩
  exact q H2 ((Chg.of s1).trans c2) X2 fun u hu ou => of2 u (by
   cases e : H u with
   | none => exact absurd e hu
   | some o => rw [s1 _ _ e]; simp) (ou.same X.bat.ho s1)
def spGive (K : PySem.W.Frag) (a : Ad) : Sp := fun vs H Q E => ∃ (b d kr nr y : Addr) (S : DS) (ks : List Int) (ρ : Int → List Int) (m t : Int) (v : V), vs = [.ref b, .ref y, v] ∧ Mp a H b d kr nr y S ks ρ m t ∧ Kd K H v ∧ ks.length < 700 ∧
  ((wholeV v (dataAt m t) (m - 1) = false ∧ E (.ref a.cNoBlock) none H) ∨
   (∃ i : Nat, v = .int i ∧ dataAt m t ≤ (i : Int) ∧ (i : Int) < m ∧ ((mw S.R ks ρ i = 0 ∧ ∀ H', Same H H' → E (.ref a.cNoBlock) none H') ∨
     (mw S.R ks ρ i ≠ 0 ∧ ∀ H', Chg [nr] H H' → Mp a H' b d kr nr y S (insK ks ((17 + i / 16 : Nat) : Int)) (setM S.R ks ρ i 0) m t → (∀ u, H u ≠ none → OffD H nr u → OffD H' nr u) → Q .non H'))))
theorem ok_give (F : Fun K "give" "give" s_give f fd) (T : Txt K mg a) (D_is_free : Df P w K mg base (CXE P w) 5 "is_free" ["batch", "layout", "block"] (spIsFree K a)) (D_mark : Df P w K mg base (CXE P w) 6 "mark" ["batch", "layout", "block", "word"] (spMark K a)) (D_is_whole : Df P w K mg base CX0 1 "is_whole" ["thing", "least", "most"] (spWhole K a)) : FnOk P w K mg base (CXE P w) 7 f fd ["batch", "layout", "block"] (spGive K a) := by
 obtain ⟨_, _, Gis_free, bis_free, kis_free, mis_free⟩ := D_is_free
 obtain ⟨_, _, Gmark, bmark, kmark, mmark⟩ := D_mark
 obtain ⟨_, _, Gis_whole, bis_whole, kis_whole, mis_whole⟩ := D_is_whole
 have nd := sc_give.nd
 refine F.okE sc_give (fun vs H Q E h => ?_) (fun cdv A outer s H vs Q E hr hA h => ?_)
 ·obtain ⟨b, d, kr, nr, y, S, ks, ρ, m, t, v, rfl, _⟩ := h
  rfl
 obtain ⟨b, d, kr, nr, y, S, ks, ρ, m, t, v, rfl, X, kd, few, hq⟩ := h
 obtain ⟨yx, hy⟩ := X.lay
 refine ⟨_, (pss_cons (ps_if (pt_not (pt_val (pe_call Gis_whole (hr.mono (by decide)) rfl mis_whole kis_whole bis_whole .nil pass0 (pa_cons (pv 2) (pa_cons (pe_fld (pv 1) rfl) (pa_cons (pe_op op_sub (pe_fld (pv 1) rfl) pe_int) pa_nil)))))) (pss_one (ps_raise (out_fn (fun _ _ _ h => h)) rfl hA rfl T.mNoBlock T.xNoBlock (pa_cons pe_str pa_nil))) pss_nil)
  (pss_cons (ps_if (pt_val (pe_call Gis_free (hr.mono (by decide)) rfl mis_free kis_free bis_free .nil (passes_fn (fun _ _ _ h => h)) (pa_cons (pv 0) (pa_cons (pv 1) (pa_cons (pv 2) pa_nil))) (hcm := (.inr hA)))) (pss_one (ps_raise (out_fn (fun _ _ _ h => h)) rfl hA rfl T.mNoBlock T.xNoBlock (pa_cons pe_str pa_nil))) pss_nil)
  (pss_one (ps_expr (pe_call Gmark (hr.mono (by decide)) rfl mmark kmark bmark .nil (passes_fn (fun _ _ _ h => h)) (pa_cons (pv 0) (pa_cons (pv 1) (pa_cons (pv 2) (pa_cons (pe_glob (v := .int 0) rfl T.cFREE.choose_spec ⟨_, rfl⟩) pa_nil)))) (hcm := (.inr hA))))))), ?_⟩
 refine ⟨_, rfl, _, rfl, y, a.cLayout, yx, _, _, rfl, hy, T.clLayout, T.n_data_at, rfl, _, rfl, y, a.cLayout, yx, _, _, rfl, hy, T.clLayout, T.n_many, rfl, _, _, rfl, rfl, v, _, _, rfl, kd, _, rfl, ?_⟩
 rcases hq with ⟨hw, q⟩ | ⟨i, rfl, h1, h2, hq⟩
 ·exact iteT' (by rw [hw]; rfl) ⟨(by show 1 ≤ 1000; decide), q⟩
 ·refine iteF' (by rw [whole_in h1 (by show (i : Int) ≤ m - 1; omega)]; rfl) ?_
  refine ⟨_, rfl, _, rfl, _, rfl, b, d, kr, nr, y, S, ks, ρ, m, t, _, rfl, X, .int _, .inl ⟨i, rfl, h2, fun H1 s1 => ⟨_, rfl, ?_⟩⟩⟩
  rcases hq with ⟨e, q⟩ | ⟨e, q⟩
  ·exact iteT' (decide_eq_true e) ⟨(by show 1 ≤ 1000; decide), q H1 s1⟩
  ·refine iteF' (decide_eq_false e) ?_
   refine ⟨_, rfl, _, rfl, _, rfl, b, d, kr, nr, y, S, ks, ρ, m, t, 0, i, rfl, X.same s1, h2, by decide, by decide, few, fun H2 c2 X2 of2 => ?_⟩
   exact q H2 ((Chg.of s1).trans c2) X2 fun u hu ou => of2 u (by
    cases e : H u with
    | none => exact absurd e hu
    | some o => rw [s1 _ _ e]; simp) (ou.same X.bat.ho s1)
end
end K9
end
section
set_option Elab.async false
set_option linter.all false
set_option maxRecDepth 100000
set_option maxHeartbeats 4000000
namespace K9
open PySem L2 BK
section
variable {P : Program} {w : World} {K : PySem.W.Frag} {mg : Str → Option Value} {base : Heap} {f : Addr} {fd : FuncData} {a : Ad}
def mapsN (m : Int) : Nat := ((m + 16 - 1) / 16).toNat
def newW (m t : Int) : List Int := List.replicate (dataAt m t).toNat 1 ++ List.replicate (m - dataAt m t).toNat 0 ++ List.replicate (16 * (mapsN m : Int) - m).toNat 1
def newRow (m t : Int) (j : Nat) : List Int := ((newW m t).drop (16 * j)).take 16
theorem newW_len {m t : Int} (g : Good m t) : (newW m t).length = 16 * mapsN m := by
 obtain ⟨g1, g2, g3, g4, g5⟩ := g
 unfold newW mapsN
 simp only [List.length_append, List.length_replicate]
 unfold dataAt nodesAt at *
 omega
theorem newW_at {m t : Int} (g : Good m t) {i : Nat} (hi : i < 16 * mapsN m) : (newW m t)[i]? = some (if dataAt m t ≤ (i : Int) ∧ (i : Int) < m then 0 else 1) := by
 have hl := newW_len g
 obtain ⟨g1, g2, g3, g4, g5⟩ := g
 have hd : 0 ≤ dataAt m t := by unfold dataAt nodesAt; omega
 unfold newW at hl ⊢
 simp only [List.length_append, List.length_replicate] at hl
 by_cases h1 : (i : Int) < dataAt m t
 ·rw [List.getElem?_append_left (by simp only [List.length_append, List.length_replicate]; omega), List.getElem?_append_left (by rw [List.length_replicate]; omega), List.getElem?_replicate, if_pos (by omega), if_neg (by omega)]
 ·by_cases h2 : (i : Int) < m
  ·rw [List.getElem?_append_left (by simp only [List.length_append, List.length_replicate]; omega), List.getElem?_append_right (by rw [List.length_replicate]; omega), List.getElem?_replicate, if_pos (by rw [List.length_replicate]; omega), if_pos ⟨by omega, h2⟩]
  ·rw [List.getElem?_append_right (by simp only [List.length_append, List.length_replicate]; omega), List.getElem?_replicate, if_pos (by simp only [List.length_append, List.length_replicate]; omega), if_neg (by omega)]
theorem newRow_good {m t : Int} (g : Good m t) {j : Nat} (hj : j < mapsN m) : GoodRow (newRow m t j) := by
 have hl := newW_len g
 refine ⟨by unfold newRow; rw [List.length_take, List.length_drop, hl]; omega, fun x hx => ?_⟩
 have hx' : x ∈ newW m t := List.mem_of_mem_drop (List.mem_of_mem_take hx)
 unfold newW at hx'
 rcases List.mem_append.mp hx' with z | z
 ·rcases List.mem_append.mp z with z | z
  ·rw [List.eq_of_mem_replicate z]; decide
  ·rw [List.eq_of_mem_replicate z]; decide
 ·rw [List.eq_of_mem_replicate z]; decide
def spNewMaps (_ : PySem.W.Frag) (a : Ad) : Sp := fun vs H Q _ => ∃ (y : Addr) (m t : Int), vs = [.ref y] ∧ LayAt a.cLayout H y m t ∧ Good m t ∧
 ∀ p rs H', H p = none → Same H H' → H' p = some (.lst (rs.map V.ref)) → RowsAt H' rs ((List.range (mapsN m)).map (newRow m t)) → (∀ r ∈ rs, H r = none) → rs.Nodup → Q (.ref p) H'
theorem flat_one (n : Nat) (x : Int) : (List.replicate n [V.int x]).flatten = (List.replicate n x).map V.int := by
 induction n with
 | zero => rfl
 | succ n ih => rw [List.replicate_succ, List.flatten_cons, ih, List.replicate_succ]; rfl
theorem lc_stepD {It0 : It} {fj : List (Str × Nat)} {te : TE} {σ : L2.St} {H : Hp} {Q : Addr → Hp → Prop} {n : Nat} (hn : n ≤ 1000) (xv : Nat → V) (hgo : ∀ i H, i < n → It0.go i H) (hstop : ∀ H, It0.stop n H) (hy : ∀ i H x H', It0.yld i H x H' → H' = H ∧ x = xv i)
  (g : Nat → List Int)
  (hs : ∀ (i : Nat) (H' : Hp) (Qf : VK), i < n → Same H H' → (∀ r, H' r = none → Qf (.ref r) (upd H' r (.lst ((g i).map V.int)))) → te (some (xv i) :: frees σ fj) H' Qf)
  (hd : ∀ acc rs H', H acc = none → Same H H' → H' acc = some (.lst (rs.map V.ref)) → RowsAt H' rs ((List.range n).map g) → (∀ r ∈ rs, H r = none) → rs.Nodup → Q acc H') :
  ∀ acc, H acc = none → ∃ W : Nat → Nat → List V → Hp → Prop, (∃ m, W 0 m [] (upd H acc (.lst []))) ∧ ∀ i m ys H, W i m ys H →
   (It0.stop i H ∧ Q acc H) ∨ (It0.go i H ∧ ∀ x H', It0.yld i H x H' → tYes (some x :: frees σ fj) H' fun b H2 =>
    if b = true then te (some x :: frees σ fj) H2 fun v H3 => H3 acc = some (.lst ys) ∧ ys.length < sizeLine ∧ ∃ m', m' < m ∧ W (i + 1) m' (ys ++ [v]) (upd H3 acc (.lst (ys ++ [v])))
    else ∃ m', m' < m ∧ W (i + 1) m' ys H2) := by
 intro acc hacc
 refine ⟨fun i m ys H' => m = n - i ∧ i ≤ n ∧ ∃ rs : List Addr, ys = rs.map V.ref ∧ rs.length = i ∧ H' acc = some (.lst ys) ∧ Same H H' ∧ RowsAt H' rs ((List.range i).map g) ∧ (∀ r ∈ rs, H r = none ∧ H' r ≠ none ∧ r ≠ acc) ∧ rs.Nodup, ⟨n, rfl, Nat.zero_le _, [], rfl, rfl, upd_same, same_new hacc _, ⟨rfl, fun i r row e1 _ => by simp at e1⟩, fun r hr => (by cases hr), List.nodup_nil⟩, ?_⟩
 rintro i m ys H' ⟨rfl, hi, rs, rfl, h0, h1, s1, hR, hN, nd⟩
 by_cases hlt : i < n
 ·refine .inr ⟨hgo i H' hlt, fun x H2 y => ?_⟩
  obtain ⟨rfl, rfl⟩ := hy i H' x H2 y
  refine hs i _ _ hlt s1 fun r nr => ?_
  have nra : r ≠ acc := fun z => by rw [z, h1] at nr; cases nr
  have nrr : r ∉ rs := fun z => (hN r z).2.1 nr
  have h1' : (upd H2 r (.lst ((g i).map V.int))) acc = some (.lst (rs.map V.ref)) := by rw [upd_ne (Ne.symm nra)]; exact h1
  refine ⟨h1', small1000 (by rw [List.length_map]; omega), n - (i + 1), by omega, rfl, hlt, rs ++ [r], by simp, by simp [h0], upd_same, same_upd hacc (s1.trans (same_new nr _)) _, ⟨by simp [h0], fun j u row e1 e2 => ?_⟩, fun u hu => ?_, ?_⟩
  ·by_cases hj : j < rs.length
   ·rw [List.getElem?_append_left hj] at e1
    rw [List.range_succ, List.map_append, List.getElem?_append_left (by simp; omega)] at e2
    have hu := List.mem_of_getElem? e1
    rw [upd_ne (hN u hu).2.2, upd_ne (fun z => nrr (by rw [← z]; exact hu))]
    exact hR.2 j u row e1 e2
   ·rw [List.getElem?_append_right (by omega)] at e1
    have ej : j = i := by
     rcases Nat.lt_or_ge (j - rs.length) 1 with z | z
     ·omega
     ·rw [List.getElem?_eq_none (by simpa using z)] at e1; cases e1
    subst ej
    rw [show j - rs.length = 0 by omega] at e1
    rw [List.getElem?_map, List.getElem?_range (by omega)] at e2
    cases e1; cases e2
    rw [upd_ne nra, upd_same]
  ·rcases List.mem_append.mp hu with z | z
   ·obtain ⟨z1, z2, z3⟩ := hN u z
    refine ⟨z1, ?_, z3⟩
    rw [upd_ne z3, upd_ne (fun e => nrr (by rw [← e]; exact z))]
    exact z2
   ·rw [List.mem_singleton.mp z]
    exact ⟨s1.free nr, by rw [upd_ne nra, upd_same]; simp, nra⟩
  ·rw [List.nodup_append]
   exact ⟨nd, by simp, fun x hx y hy z => nrr (by rw [List.mem_singleton.mp hy] at z; rw [← z]; exact hx)⟩
 ·have e : i = n := by omega
  subst e
  exact .inl ⟨hstop H', hd acc rs H' hacc s1 h1 hR (fun r hr => (hN r hr).1) nd⟩
theorem getD_all (R : List (List Int)) : (List.range R.length).map (fun i => R.getD i []) = R := by
 apply List.ext_getElem?
 intro i
 rw [List.getElem?_map]
 by_cases hi : i < R.length
 ·rw [List.getElem?_range hi]; simp [List.getD_eq_getElem?_getD, hi]
 ·rw [List.getElem?_eq_none (by simpa using hi), List.getElem?_eq_none (by simpa using hi)]; rfl
theorem ok_new_maps (F : Fun K "new_maps" "new_maps" s_new_maps f fd) (T : Txt K mg a)  : FnOk P w K mg base (CXE P w) 1 f fd ["layout"] (spNewMaps K a) := by
 have nd := sc_new_maps.nd
 refine F.okE sc_new_maps (fun vs H Q E h => ?_) (fun cdv A outer s H vs Q E hr hA h => ?_)
 ·obtain ⟨y, m, t, rfl, _⟩ := h
  rfl
 obtain ⟨y, m, t, rfl, ⟨yx, hy⟩, g, q⟩ := h
 obtain ⟨g1, g2, g3, g4, g5⟩ := id g
 refine ⟨_, (pss_cons (ps_set (i := 1) nd rfl (by first | exact Or.inl rfl | exact Or.inr rfl) (pe_op op_mul (pe_glob (v := .int 16) rfl T.cROW_WORDS.choose_spec ⟨_, rfl⟩) (pe_op op_sub (pe_fld (pv 0) rfl) (pe_fld (pv 0) rfl))))
  (pss_cons (ps_set (i := 2) nd rfl (by first | exact Or.inl rfl | exact Or.inr rfl) (pe_op op_rep (pe_lst (pa_cons (pe_glob (v := .int 0) rfl T.cFREE.choose_spec ⟨_, rfl⟩) pa_nil)) (pe_op op_sub (pe_fld (pv 0) rfl) (pe_fld (pv 0) rfl))))
  (pss_cons (ps_set (i := 3) nd rfl (by first | exact Or.inl rfl | exact Or.inr rfl) (pe_op op_cat (pe_op op_cat (pe_op op_rep (pe_lst (pa_cons (pe_glob (v := .int 1) rfl T.cUSED.choose_spec ⟨_, rfl⟩) pa_nil)) (pe_fld (pv 0) rfl)) (pv 2)) (pe_op op_rep (pe_lst (pa_cons (pe_glob (v := .int 1) rfl T.cUSED.choose_spec ⟨_, rfl⟩) pa_nil)) (pe_op op_sub (pv 1) (pe_fld (pv 0) rfl)))))
  (pss_one (ps_ret (pe_lc (cl := [("words", s.heap.objs.size + 1)]) (fj := [("words", 3)]) (by exact LcOk.of ["words"] rfl (by decide +kernel) rfl (by decide +kernel) rfl (fun p h => (by rw [List.mem_singleton.mp h]; rfl)) rfl (by decide +kernel) (fun p h => (by rw [List.mem_singleton.mp h]; exact ⟨rfl, rfl, .inl rfl⟩)) (by decide +kernel)) rfl (L2.pi_range3 rfl T.range (pa_cons pe_int (pa_cons (pv 1) (pa_cons (pe_glob (v := .int 16) rfl T.cROW_WORDS.choose_spec ⟨_, rfl⟩) pa_nil)))) (fun _ _ _ => pf_nil) (fun _ _ _ => (pe_slice (sl_listK (K := K) rfl) (pv 1) (po_some (pv 0)) (po_some (pe_op op_add (pv 0) (pe_glob (v := .int 16) rfl T.cROW_WORDS.choose_spec ⟨_, rfl⟩))))))))))), ?_⟩
 have ek : nodesAt m - 17 = (mapsN m : Int) := by unfold nodesAt mapsN; omega
 have hk : (mapsN m : Int) ≤ 6 := by unfold mapsN; omega
 have hk16 : m ≤ 16 * (mapsN m : Int) := by unfold mapsN; omega
 have hd0 : 0 ≤ dataAt m t := by unfold dataAt nodesAt; omega
 refine ⟨_, rfl, y, a.cLayout, yx, _, _, rfl, hy, T.clLayout, T.n_nodes_at, rfl, _, rfl, y, a.cLayout, yx, _, _, rfl, hy, T.clLayout, T.n_maps_at, rfl, _, _, rfl, rfl, _, _, rfl, rfl, .inl ⟨by decide, by decide⟩, ?_⟩
 dsimp (config := { proj := false, iota := false, eta := false, zeta := false }) only
 rw [ek]
 refine ⟨(by show 1 ≤ sizeLine; decide), fun l1 m1 => ?_⟩
 have t1 := same_new m1 (.lst [.int 0])
 refine ⟨_, rfl, y, a.cLayout, yx, _, _, rfl, t1 _ _ hy, T.clLayout, T.n_many, rfl, _, rfl, y, a.cLayout, yx, _, _, rfl, t1 _ _ hy, T.clLayout, T.n_data_at, rfl, _, _, rfl, rfl, l1, m - dataAt m t, [.int 0], rfl, rfl, upd_same, by omega, by omega, small (by show 1 * (m - dataAt m t).toNat ≤ 1000; omega), fun l2 m2 => ?_⟩
 rw [flat_one]
 have t2 := t1.trans (same_new m2 (.lst ((List.replicate (m - dataAt m t).toNat (0 : Int)).map V.int)))
 have hl2 := upd_same (H := upd H l1 (.lst [.int 0])) (a := l2) (o := .lst ((List.replicate (m - dataAt m t).toNat (0 : Int)).map V.int))
 generalize upd (upd H l1 (.lst [.int 0])) l2 (.lst ((List.replicate (m - dataAt m t).toNat (0 : Int)).map V.int)) = H2 at t2 hl2 ⊢
 refine ⟨(by show 1 ≤ sizeLine; decide), fun l3 m3 => ?_⟩
 have u3 := same_new m3 (.lst [.int 1])
 refine ⟨_, rfl, y, a.cLayout, yx, _, _, rfl, (t2.trans u3) _ _ hy, T.clLayout, T.n_data_at, rfl, l3, dataAt m t, [.int 1], rfl, rfl, upd_same, by omega, by omega, small (by show 1 * (dataAt m t).toNat ≤ 1000; omega), fun l4 m4 => ?_⟩
 rw [flat_one]
 have u4 := u3.trans (same_new m4 (.lst ((List.replicate (dataAt m t).toNat (1 : Int)).map V.int)))
 refine ⟨_, rfl, l4, l2, _, _, rfl, rfl, upd_same, u4 _ _ hl2, small (by simp only [List.length_map, List.length_replicate]; omega), fun l5 m5 => ?_⟩
 have u5 := u4.trans (same_new m5 (.lst ((List.replicate (dataAt m t).toNat (1 : Int)).map V.int ++ (List.replicate (m - dataAt m t).toNat (0 : Int)).map V.int)))
 refine ⟨(by show 1 ≤ sizeLine; decide), fun l6 m6 => ?_⟩
 have w6 := same_new m6 (.lst [.int 1])
 have hl5 := w6 _ _ (upd_same (a := l5) (o := .lst ((List.replicate (dataAt m t).toNat (1 : Int)).map V.int ++ (List.replicate (m - dataAt m t).toNat (0 : Int)).map V.int)))
 have u6 := u5.trans w6
 refine ⟨_, rfl, _, rfl, y, a.cLayout, yx, _, _, rfl, (t2.trans u6) _ _ hy, T.clLayout, T.n_many, rfl, _, _, rfl, rfl, l6, 16 * (mapsN m : Int) - m, [.int 1], rfl, rfl, upd_same, by omega, by omega, small (by show 1 * (16 * (mapsN m : Int) - m).toNat ≤ 1000; omega), fun l7 m7 => ?_⟩
 rw [flat_one]
 have w7 := same_new m7 (.lst ((List.replicate (16 * (mapsN m : Int) - m).toNat (1 : Int)).map V.int))
 refine ⟨l5, l7, _, _, rfl, rfl, w7 _ _ hl5, upd_same, small (by simp only [List.length_append, List.length_map, List.length_replicate]; omega), fun l8 m8 => ?_⟩
 have eW : (List.replicate (dataAt m t).toNat (1 : Int)).map V.int ++ (List.replicate (m - dataAt m t).toNat (0 : Int)).map V.int ++ (List.replicate (16 * (mapsN m : Int) - m).toNat (1 : Int)).map V.int = (newW m t).map V.int := by
  unfold newW; rw [List.map_append, List.map_append]
 rw [eW]
 have u8 := (t2.trans u6).trans (w7.trans (same_new m8 (.lst ((newW m t).map V.int))))
 have hW := upd_same (H := upd (upd (upd (upd (upd H2 l3 (.lst [.int 1])) l4 (.lst ((List.replicate (dataAt m t).toNat (1 : Int)).map V.int))) l5 (.lst ((List.replicate (dataAt m t).toNat (1 : Int)).map V.int ++ (List.replicate (m - dataAt m t).toNat (0 : Int)).map V.int))) l6 (.lst [.int 1])) l7 (.lst ((List.replicate (16 * (mapsN m : Int) - m).toNat (1 : Int)).map V.int))) (a := l8) (o := .lst ((newW m t).map V.int))
 generalize upd (upd (upd (upd (upd (upd H2 l3 (.lst [.int 1])) l4 (.lst ((List.replicate (dataAt m t).toNat (1 : Int)).map V.int))) l5 (.lst ((List.replicate (dataAt m t).toNat (1 : Int)).map V.int ++ (List.replicate (m - dataAt m t).toNat (0 : Int)).map V.int))) l6 (.lst [.int 1])) l7 (.lst ((List.replicate (16 * (mapsN m : Int) - m).toNat (1 : Int)).map V.int))) l8 (.lst ((newW m t).map V.int)) = H8 at u8 hW ⊢
 obtain ⟨sm, rz⟩ := small_up (a := 0) (b := 16 * (mapsN m : Int)) (c := 16) (by decide) (by decide) (by decide) (by decide) (by omega) (by omega)
 rw [show ((16 * (mapsN m : Int) - 0 + 16 - 1) / 16).toNat = mapsN m by omega] at rz
 refine ⟨_, rfl, 0, 16 * (mapsN m : Int), 16, mapsN m, rfl, by decide, by decide, sm, rz, ?_⟩
 refine lc_stepD (n := mapsN m) (by omega) (fun i => .int (0 + (i : Int) * 16)) (fun i H h => h) (fun H => Nat.le_refl _) (fun i H x H' h => h) (newRow m t) (fun i H9 Qf hi s9 k => ?_) fun acc rs H9 h0 s9 hacc hR nn nd => q acc rs H9 (u8.free h0) (u8.trans s9) hacc hR (fun r hr => u8.free (nn r hr)) nd
 refine ⟨_, rfl, _, rfl, _, rfl, _, rfl, _, _, rfl, rfl, _, rfl, l8, _, rfl, SqL.of (s9 _ _ hW), fun r nr => ?_⟩
 have hl := newW_len g
 have e : cutV ((newW m t).map V.int) (some (0 + (i : Int) * 16)) (some (0 + (i : Int) * 16 + 16)) = (newRow m t i).map V.int := by
  rw [show (0 : Int) + (i : Int) * 16 = ((16 * i : Nat) : Int) by omega, show ((16 * i : Nat) : Int) + 16 = ((16 * i + 16 : Nat) : Int) by omega]
  unfold cutV
  rw [HT.sIx_nat, HT.sIx_nat, List.length_map, hl, Nat.min_eq_left (by omega), Nat.min_eq_left (by omega), show 16 * i + 16 - 16 * i = 16 by omega]
  unfold newRow
  rw [List.map_take, List.map_drop]
 rw [e]
 exact k r nr
end
end K9
end
section
set_option Elab.async false
set_option linter.all false
set_option maxRecDepth 100000
set_option maxHeartbeats 4000000
namespace K9
open PySem L2 BK
section
variable {P : Program} {w : World} {K : PySem.W.Frag} {mg : Str → Option Value} {base : Heap} {f : Addr} {fd : FuncData} {a : Ad}
def cell (ns : List Int) (k : Int) : Int := ns.getD k.toNat 0
def spCell (K : PySem.W.Frag) (_ : Ad) : Sp := fun vs H Q _ => ∃ (p : Addr) (ns : List Int) (k : Int), vs = [.ref p, .int k] ∧ SqL K H p (ns.map V.int) ∧ 0 ≤ k ∧ Q (.int (cell ns k)) H
theorem ok__law_cell_at (F : Fun K "_law_cell_at" "_law_cell_at" s__law_cell_at f fd) (T : Txt K mg a)  : FnOk P w K mg base CX0 1 f fd ["_law_script", "_law_k"] (spCell K a) := by
 have nd := sc__law_cell_at.nd
 refine F.ok sc__law_cell_at (fun vs H Q E h => ?_) (fun cdv A outer s H vs Q E hr h => ?_)
 ·obtain ⟨p, ns, k, rfl, _⟩ := h
  rfl
 obtain ⟨p, ns, k, rfl, hS, h0, q⟩ := h
 refine ⟨_, (pss_cons (ps_if (pt_cmpR op_lt (pv 1) (pe_callB call_len_seq rfl T.len bt_len (pa_cons (pv 0) pa_nil)) (nomark _)) (pss_one (ps_ret (pe_ix ix_list (pv 0) (pv 1) (fun _ _ => rfl)))) pss_nil)
  (pss_one (ps_ret pe_int))), ?_⟩
 refine ⟨_, rfl, _, rfl, p, _, rfl, .inl hS, _, _, rfl, rfl, _, rfl, ?_⟩
 refine ite2 (fun c => ?_) (fun c => ?_)
 ·have c' : k < (((ns.map V.int).length : Nat) : Int) := of_decide_eq_true c
  rw [List.length_map] at c'
  have hk : k.toNat < ns.length := by omega
  have e : atI (ns.map V.int) ((k.toNat : Nat) : Int) = some (.int ns[k.toNat]) := atI_nat (by rw [List.getElem?_map, List.getElem?_eq_getElem hk]; rfl)
  rw [show ((k.toNat : Nat) : Int) = k by omega] at e
  refine ⟨_, rfl, _, rfl, p, _, k, _, rfl, rfl, hS, e, ?_⟩
  rw [show ns[k.toNat] = cell ns k by unfold cell; rw [List.getD_eq_getElem?_getD, List.getElem?_eq_getElem hk]; rfl]
  exact q
 ·have c' : ¬ k < (((ns.map V.int).length : Nat) : Int) := of_decide_eq_false (Bool.eq_false_iff.mpr c)
  rw [List.length_map] at c'
  rw [show cell ns k = 0 by unfold cell; rw [List.getD_eq_getElem?_getD, List.getElem?_eq_none (by omega)]; rfl] at q
  exact q
theorem kd_list {H : Hp} {p : Addr} {xs : List V} (h : H p = some (.lst xs)) : ∃ t, TyOf K H (.ref p) t ∧ PySem.W.kitOne K t (.type "list") = some true := by
 obtain ⟨t, ty, _, _, e3⟩ := Kd.lst (K := K) h
 rw [show isL H (.ref p) = true by show isLH (H p) = _; rw [h]; rfl] at e3
 exact ⟨t, ty, e3⟩
theorem chg_same {T : List Addr} {H H1 H2 : Hp} (s : Same H H1) (c : Chg T H1 H2) (n : ∀ p ∈ T, H p = none) : Same H H2 := fun b o e => c b o (s b o e) fun z => by rw [n b z] at e; cases e
def intV : V → Bool
 | .int _ => true
 | _ => false
def spWholeL (K : PySem.W.Frag) (_ : Ad) : Sp := fun vs H Q _ => ∃ v, vs = [v] ∧ Kd K H v ∧ Q (.bl (intV v)) H
theorem ok__law_whole (F : Fun K "_law_whole" "_law_whole" s__law_whole f fd) (T : Txt K mg a)  : FnOk P w K mg base CX0 1 f fd ["_law_found"] (spWholeL K a) := by
 have nd := sc__law_whole.nd
 refine F.ok sc__law_whole (fun vs H Q E h => ?_) (fun cdv A outer s H vs Q E hr h => ?_)
 ·obtain ⟨v, rfl, _⟩ := h
  rfl
 obtain ⟨v, rfl, ⟨t, ty, e1, e2, _⟩, q⟩ := h
 refine ⟨_, (pss_one (ps_ret (pe_and (pe_callB (call_isinst (T := "int")) rfl T.isinstance bt_isinstance (pa_cons (pv 0) (pa_cons (pe_bltn (v := .ty "int") rfl T.int bt_int rfl) pa_nil))) (pe_one (pe_not (pe_callB (call_isinst (T := "bool")) rfl T.isinstance bt_isinstance (pa_cons (pv 0) (pa_cons (pe_bltn (v := .ty "bool") rfl T.bool bt_bool rfl) pa_nil)))))))), ?_⟩
 refine ⟨_, rfl, _, t, _, rfl, ty, e1, _, rfl, ?_⟩
 cases v with
 | int i => exact iteT ⟨_, rfl, _, t, _, rfl, ty, e2, _, rfl, q⟩
 | bl b => exact iteT ⟨_, rfl, _, t, _, rfl, ty, e2, _, rfl, q⟩
 | _ => exact iteF q
def spRowsQ (K : PySem.W.Frag) (_ : Ad) : Sp := fun vs H Q _ => ∃ (p : Addr) (rs : List Addr) (R : List (List Int)), vs = [.ref p] ∧ H p = some (.lst (rs.map V.ref)) ∧ RowsAt H rs R ∧ (∀ row ∈ R, row.length = 16) ∧ ∀ H', Same H H' → Q (.bl true) H'
theorem ok__law_rows (F : Fun K "_law_rows" "_law_rows" s__law_rows f fd) (T : Txt K mg a) (D__law_whole : Df P w K mg base CX0 1 "_law_whole" ["_law_found"] (spWholeL K a)) : FnOk P w K mg base (CXE P w) 2 f fd ["_law_found"] (spRowsQ K a) := by
 obtain ⟨_, _, Gl_whole, bl_whole, kl_whole, ml_whole⟩ := D__law_whole
 have nd := sc__law_rows.nd
 refine F.okE sc__law_rows (fun vs H Q E h => ?_) (fun cdv A outer s H vs Q E hr hA h => ?_)
 ·obtain ⟨p, rs, R, rfl, _⟩ := h
  rfl
 obtain ⟨p, rs, R, rfl, hp, hR, h16, q⟩ := h
 refine ⟨_, (pss_cons (ps_if (pt_not (pt_val (pe_callB (call_isinst (T := "list")) rfl T.isinstance bt_isinstance (pa_cons (pv 0) (pa_cons (pe_bltn (v := .ty "list") rfl T.list bt_list rfl) pa_nil))))) (pss_one (ps_ret pe_bl)) pss_nil)
  (pss_cons (ps_for PassesOwn.leaving rfl (pi_list (pv 0)) (pg_name (i := 1) nd rfl (by first | exact Or.inl rfl | exact Or.inr rfl)) (pss_one (ps_if (PW.pt (pw_or (pt_not (pt_val (pe_callB (call_isinst (T := "list")) rfl T.isinstance bt_isinstance (pa_cons (pv 1) (pa_cons (pe_bltn (v := .ty "list") rfl T.list bt_list rfl) pa_nil))))) (pw_or (pt_cmpR op_ne (pe_callB call_len_seq rfl T.len bt_len (pa_cons (pv 1) pa_nil)) pe_int (nomark _)) (pw_or1 (pt_cmpR (op_neD hr.units) (pe_lc (cl := []) (fj := []) (by exact ⟨rfl, by decide +kernel, rfl, by decide +kernel, rfl, fun _ h => (by cases h), by decide +kernel, fun _ h => (by cases h), by decide +kernel⟩) rfl (pi_list (pv 1)) (fun _ _ _ => (pf_one (pt_not (pt_val (pe_call Gl_whole (hr.mono (by decide)) rfl ml_whole kl_whole bl_whole .nil pass0 (pa_cons (pv 0) pa_nil)))))) (fun _ _ _ => (pv 0))) (pe_lst pa_nil) (nomark _)))))) (pss_one (ps_ret pe_bl)) pss_nil)))
  (pss_one (ps_ret pe_bl)))), ?_⟩
 obtain ⟨t0, ty0, ki0⟩ := kd_list (K := K) hp
 refine ⟨_, rfl, _, t0, true, rfl, ty0, ki0, _, rfl, iteF' (by rfl) ?_⟩
 refine ⟨_, rfl, p, rfl, ⟨_, SqL.of hp⟩, for_list (xs := rs.map V.ref) (fun i σ' H' => (∃ o : Option V, σ' = [some (.ref p), o]) ∧ Same H H') ⟨⟨_, rfl⟩, Same.refl _⟩ (fun i σ2 H2 _ h2 => SqL.of (h2.2 _ _ hp)) ?_ ?_⟩
 ·rintro i v σ2 HA hv ⟨⟨o, rfl⟩, sA⟩
  obtain ⟨hi, ev⟩ := List.getElem?_eq_some_iff.mp hv
  rw [List.length_map] at hi
  rw [List.getElem_map] at ev
  subst ev
  obtain ⟨row, hrow, er⟩ := hR.all (List.getElem_mem hi)
  have er' := sA _ _ er
  obtain ⟨t, ty, ki⟩ := kd_list (K := K) er'
  refine ⟨_, rfl, _, t, true, rfl, ty, ki, _, rfl, iteF' (by rfl) ⟨_, rfl, rs[i], _, rfl, .inl (SqL.of er'), rfl, _, rfl, iteF' (by rw [List.length_map, h16 row hrow]; rfl) ?_⟩⟩
  refine ⟨_, rfl, rs[i], rfl, ⟨_, SqL.of er'⟩, lc_listN (xs := row.map V.int) er' (fun j v H3 Qb hv s3 k => ?_) fun acc H3 nacc s3 hacc => ?_⟩
  ·obtain ⟨x, _, rfl⟩ := List.mem_map.mp (List.mem_of_getElem? hv)
   exact ⟨_, rfl, _, rfl, .int _, _, rfl, k⟩
  refine ⟨(by show 0 ≤ sizeLine; decide), fun em nem => ?_⟩
  have w1 := same_new nem (.lst [])
  refine ⟨.list [], .list [], .lst (SqL.of (w1 _ _ hacc)) .nil, .lst (SqL.of upd_same) .nil, rfl, rfl, _, rfl, iteF' (by rfl) ?_⟩
  exact ⟨⟨_, rfl⟩, sA.trans (s3.trans w1)⟩
 ·rintro σ2 HA ⟨⟨o, rfl⟩, sA⟩
  exact q HA sA
theorem lc_copy {fj : List (Str × Nat)} {te : TE} {σ : L2.St} {H : Hp} {Q : Addr → Hp → Prop} {p : Addr} {rs : List Addr} {R : List (List Int)} (hp : H p = some (.lst (rs.map V.ref))) (hR : RowsAt H rs R) (hn : rs.length ≤ 1000)
  (hs : ∀ (r : Addr) (row : List Int) (H1 : Hp) (Qf : VK), Same H H1 → H1 r = some (.lst (row.map V.int)) → (∀ p', H1 p' = none → Qf (.ref p') (upd H1 p' (.lst (row.map V.int)))) → te (some (.ref r) :: frees σ fj) H1 Qf)
  (hd : ∀ acc qs H', H acc = none → Same H H' → H' acc = some (.lst (qs.map V.ref)) → RowsAt H' qs R → (∀ r ∈ qs, H r = none) → Q acc H') :
  ∀ acc, H acc = none → ∃ W : Nat → Nat → List V → Hp → Prop, (∃ m, W 0 m [] (upd H acc (.lst []))) ∧ ∀ i m ys H, W i m ys H →
   ((Itl K p).stop i H ∧ Q acc H) ∨ ((Itl K p).go i H ∧ ∀ x H', (Itl K p).yld i H x H' → tYes (some x :: frees σ fj) H' fun b H2 =>
    if b = true then te (some x :: frees σ fj) H2 fun v H3 => H3 acc = some (.lst ys) ∧ ys.length < sizeLine ∧ ∃ m', m' < m ∧ W (i + 1) m' (ys ++ [v]) (upd H3 acc (.lst (ys ++ [v])))
    else ∃ m', m' < m ∧ W (i + 1) m' ys H2) := by
 refine lc_valsL (xs := rs.map V.ref) (by rw [List.length_map]; exact hn) hp (fun acc H' i v => ∃ r, v = .ref r ∧ r ≠ acc ∧ H' r = some (.lst ((R.getD i []).map V.int)) ∧ H r = none) ?_ ?_ ?_
 ·rintro acc H H' i v k ⟨r, e1, e2, e3, e4⟩
  exact ⟨r, e1, e2, k _ _ e2 e3, e4⟩
 ·intro acc i v H1 Qf hx h0 s1 ha k
  obtain ⟨hi, ev⟩ := List.getElem?_eq_some_iff.mp hx
  rw [List.length_map] at hi
  rw [List.getElem_map] at ev
  subst ev
  have hi' : i < R.length := by rw [← hR.1]; exact hi
  have er := hR.2 i _ _ (List.getElem?_eq_getElem hi) (List.getElem?_eq_getElem hi')
  refine hs _ _ H1 Qf s1 (s1 _ _ er) fun p' np => k _ _ (same_new np _) ⟨p', rfl, fun z => ha (by rw [← z]; exact np), ?_, s1.free np⟩
  rw [upd_same, List.getD_eq_getElem?_getD, List.getElem?_eq_getElem hi']; rfl
 ·intro acc vs H1 h0 s1 hacc hl hg
  rw [List.length_map] at hl
  obtain ⟨qs, rfl, nm, hR'⟩ := rows_of (n := R.length) (by rw [hl, hR.1]) (fun i => R.getD i []) fun i v hv => by
   obtain ⟨r, z1, z2, z3, _⟩ := hg i v hv
   exact ⟨r, z1, z2, z3⟩
  rw [getD_all] at hR'
  refine hd acc qs H1 h0 s1 hacc hR' fun r hr => ?_
  obtain ⟨i, hi, e⟩ := List.mem_iff_getElem.mp hr
  obtain ⟨r', z1, _, _, z4⟩ := hg i (.ref r) (by rw [List.getElem?_map, List.getElem?_eq_getElem hi, e]; rfl)
  cases z1
  exact z4
theorem rows_drop {H : Hp} {rs : List Addr} {R : List (List Int)} (h : RowsAt H rs R) (n : Nat) : RowsAt H (rs.drop n) (R.drop n) := ⟨by rw [List.length_drop, List.length_drop, h.1], fun i r row e1 e2 => by
 rw [List.getElem?_drop] at e1 e2
 exact h.2 _ r row e1 e2⟩
def newRs (m t : Int) : List (List Int) := (List.range (mapsN m)).map (newRow m t)
theorem newRs_len {m t : Int} : (newRs m t).length = mapsN m := by unfold newRs; rw [List.length_map, List.length_range]
theorem newRs_good {m t : Int} (g : Good m t) : ∀ row ∈ newRs m t, GoodRow row := fun row hr => by
 unfold newRs at hr
 obtain ⟨i, hi, rfl⟩ := List.mem_map.mp hr
 exact newRow_good g (List.mem_range.mp hi)
theorem mapsN_2 {m t : Int} (g : Good m t) : 2 ≤ mapsN m ∧ mapsN m ≤ 6 := by
 obtain ⟨g1, g2, _⟩ := g
 unfold mapsN
 omega
def spApart (K : PySem.W.Frag) (a : Ad) : Sp := fun vs H Q _ => ∃ (y p : Addr) (rs : List Addr) (m t : Int), vs = [.ref y, .ref p] ∧ LayAt a.cLayout H y m t ∧ Good m t ∧ H p = some (.lst (rs.map V.ref)) ∧ RowsAt H rs (newRs m t) ∧ ∀ H', Same H H' → Q (.bl true) H'
theorem ok__law_apart (F : Fun K "_law_apart" "_law_apart" s__law_apart f fd) (T : Txt K mg a) (D_new_maps : Df P w K mg base (CXE P w) 1 "new_maps" ["layout"] (spNewMaps K a)) : FnOk P w K mg base (CXE P w) 2 f fd ["_law_layout", "_law_rows_here"] (spApart K a) := by
 obtain ⟨_, _, Gnew_maps, bnew_maps, knew_maps, mnew_maps⟩ := D_new_maps
 have nd := sc__law_apart.nd
 refine F.okE sc__law_apart (fun vs H Q E h => ?_) (fun cdv A outer s H vs Q E hr hA h => ?_)
 ·obtain ⟨y, p, rs, m, t, rfl, _⟩ := h
  rfl
 obtain ⟨y, p, rs, m, t, rfl, L, g, hp, hR, q⟩ := h
 refine ⟨_, (pss_cons (ps_setLc (j := 2) (cl := []) (fj := []) (by exact ⟨rfl, by decide +kernel, rfl, by decide +kernel, rfl, fun _ h => (by cases h), by decide +kernel, fun _ h => (by cases h), by decide +kernel⟩) rfl nd rfl (by first | exact Or.inl rfl | exact Or.inr rfl) (pi_list (pv 1)) (fun _ _ _ => pf_nil) (fun _ _ _ => (pe_callTy (call_listK (K := K) rfl) rfl T.list bt_list (pa_cons (pv 0) pa_nil))))
  (pss_cons (ps_set (i := 3) nd rfl (by first | exact Or.inl rfl | exact Or.inr rfl) (pe_call Gnew_maps (hr.mono (by decide)) rfl mnew_maps knew_maps bnew_maps .nil (passes_fn (fun _ _ _ h => h)) (pa_cons (pv 0) pa_nil) (hcm := (.inr hA))))
  (pss_cons (ps_asg pe_int (pg_sub (pe_ix ix_list (pv 3) pe_int (fun _ _ => rfl)) pe_int set_list))
  (pss_cons (ps_expr (pe_bm PySem.F.plainAttrs_list PySem.F.slot_list_append PySem.F.type_list_append mt_append (pe_ix ix_list (pv 3) pe_int (fun _ _ => rfl)) (pa_cons pe_int pa_nil)))
  (pss_cons (ps_if (PW.pt (pw_or (pt_cmpR (op_neD hr.units) (pv 1) (pv 2) (nomark _)) (pw_or1 (pt_cmpR (op_neD hr.units) (pe_slice sl_list (pv 3) (po_some pe_int) po_none) (pe_slice sl_list (pv 2) (po_some pe_int) po_none) (nomark _))))) (pss_one (ps_ret pe_bl)) pss_nil)
  (pss_one (ps_ret (pe_and (pe_cmpR (op_eqD hr.units) (pe_call Gnew_maps (hr.mono (by decide)) rfl mnew_maps knew_maps bnew_maps .nil (passes_fn (fun _ _ _ h => h)) (pa_cons (pv 0) pa_nil) (hcm := (.inr hA))) (pv 2) (nomark _)) (pe_and (pe_cmpR (op_eqD hr.units) (pv 1) (pv 2) (nomark _)) (pe_one (pe_cmpR op_eq (pe_ix ix_list (pe_ix ix_list (pv 3) pe_int (fun _ _ => rfl)) pe_int (fun _ _ => rfl)) pe_int (nomark _)))))))))))), ?_⟩
 obtain ⟨h2, h6⟩ := mapsN_2 g
 have hln : rs.length = mapsN m := by rw [hR.1, newRs_len]
 refine ⟨_, rfl, p, rfl, ⟨_, SqL.of hp⟩, lc_copy hp hR (by omega) (fun r row H1 Qf s1 hr1 k => ⟨_, rfl, r, _, rfl, .inl (SqL.of hr1), k⟩) fun cp qs H1 ncp s1 hcp hQ nqs => ?_⟩
 refine ⟨_, rfl, y, m, t, rfl, L.same s1, g, fun o os H2 no s2 ho hO nos nd => ?_⟩
 have hO : RowsAt H2 os (newRs m t) := hO
 have hlo : os.length = mapsN m := by rw [hO.1, newRs_len]
 have h0 : 0 < os.length := by omega
 have a0 : atI (os.map V.ref) 0 = some (.ref os[0]) := atI_nat (j := 0) (by rw [List.getElem?_map, List.getElem?_eq_getElem h0]; rfl)
 have hr0 : 0 < (newRs m t).length := by rw [newRs_len]; omega
 have er0 := hO.2 0 _ _ (List.getElem?_eq_getElem h0) (List.getElem?_eq_getElem hr0)
 have g0 := newRs_good g _ (List.getElem_mem hr0)
 generalize (newRs m t)[0] = row0 at er0 g0
 have n0 : H1 os[0] = none := nos _ (List.getElem_mem h0)
 have neo : o ≠ os[0] := fun z => by rw [← z] at er0; rw [ho] at er0; exact ref_ne_row g0.1 (Option.some.inj er0)
 refine ⟨_, rfl, o, _, 0, _, rfl, rfl, SqL.of ho, a0, os[0], _, 0, 0, rfl, rfl, er0, (by rw [List.length_map, g0.1]; rfl), ?_⟩
 have ho3 : (upd H2 os[0] (.lst ((row0.map V.int).set 0 (.int 7)))) o = some (.lst (os.map V.ref)) := by rw [upd_ne neo]; exact ho
 refine ⟨_, rfl, o, _, 0, _, rfl, rfl, SqL.of ho3, a0, .inl ⟨rfl, _, SqL.of upd_same⟩, os[0], _, _, rfl, rfl, upd_same, small1000 (by rw [List.length_set, List.length_map, g0.1]; decide), ?_⟩
 rw [upd_upd]
 have c3 : Chg [os[0]] H2 (upd H2 os[0] (.lst ((row0.map V.int).set 0 (.int 7) ++ [.int 1]))) := (Chg.of (Same.refl _)).upd (by simp) _
 have hx3 := upd_same (H := H2) (a := os[0]) (o := .lst ((row0.map V.int).set 0 (.int 7) ++ [.int 1]))
 generalize upd H2 os[0] (.lst ((row0.map V.int).set 0 (.int 7) ++ [.int 1])) = H3 at c3 hx3 ⊢
 have ho4 : H3 o = some (.lst (os.map V.ref)) := c3 _ _ ho (by simp only [List.mem_singleton]; exact neo)
 have s3 : Same H1 H3 := chg_same s2 c3 (by simp [n0])
 have hp3 := s3 _ _ (s1 _ _ hp)
 have hR3 := hR.chg (Chg.of (s1.trans s3) (S := [])) (by simp)
 have hcp3 := s3 _ _ hcp
 have hQ3 := hQ.chg (Chg.of s3 (S := [])) (by simp)
 refine ⟨_, rfl, _, rfl, .list ((newRs m t).map fun row => PyData.list (row.map PyData.int)), .list ((newRs m t).map fun row => PyData.list (row.map PyData.int)), .lst (SqL.of hp3) (dvs_rows hR3), .lst (SqL.of hcp3) (dvs_rows hQ3), shaped_rows _, shaped_rows _, _, rfl, iteF' (by rw [eqv_same (shaped_rows _)]; rfl) ?_⟩
 refine ⟨_, rfl, _, rfl, o, _, rfl, SqL.of ho4, fun x1 m1 => ?_⟩
 rw [show cutV (os.map V.ref) (some (1 : Int)) none = (os.drop 1).map V.ref by rw [show (1 : Int) = ((1 : Nat) : Int) from rfl, cut_from, List.map_drop]]
 have u1 := same_new m1 (.lst ((os.drop 1).map V.ref))
 refine ⟨_, rfl, _, rfl, cp, _, rfl, SqL.of (u1 _ _ hcp3), fun x2 m2 => ?_⟩
 rw [show cutV (qs.map V.ref) (some (1 : Int)) none = (qs.drop 1).map V.ref by rw [show (1 : Int) = ((1 : Nat) : Int) from rfl, cut_from, List.map_drop]]
 have w2 := same_new m2 (.lst ((qs.drop 1).map V.ref))
 have u2 := u1.trans w2
 have hO3 : RowsAt H3 (os.drop 1) ((newRs m t).drop 1) := (rows_drop hO 1).chg c3 fun r hr z => by
  rw [List.mem_singleton.mp z] at hr
  obtain ⟨j, hj, e⟩ := List.mem_iff_getElem.mp hr
  rw [List.getElem_drop] at e
  exact (List.pairwise_iff_getElem.mp nd) 0 (1 + j) h0 (by rw [List.length_drop] at hj; omega) (by omega) e.symm
 have hO5 := hO3.chg (Chg.of u2 (S := [])) (by simp)
 have hQ5 := (rows_drop hQ3 1).chg (Chg.of u2 (S := [])) (by simp)
 have hx1 := w2 _ _ (upd_same (H := H3) (a := x1) (o := .lst ((os.drop 1).map V.ref)))
 refine ⟨.list (((newRs m t).drop 1).map fun row => PyData.list (row.map PyData.int)), .list (((newRs m t).drop 1).map fun row => PyData.list (row.map PyData.int)), .lst (SqL.of hx1) (dvs_rows hO5), .lst (SqL.of upd_same) (dvs_rows hQ5), shaped_rows _, shaped_rows _, _, rfl, iteF' (by rw [eqv_same (shaped_rows _)]; rfl) ?_⟩
 have s5 := (s1.trans s3).trans u2
 have ho5 := u2 _ _ ho4
 have hx5 := u2 _ _ hx3
 have hp5 := u2 _ _ hp3
 have hR5 := hR3.chg (Chg.of u2 (S := [])) (by simp)
 have hcp5 := u2 _ _ hcp3
 have hQ6 := hQ3.chg (Chg.of u2 (S := [])) (by simp)
 generalize upd (upd H3 x1 (.lst ((os.drop 1).map V.ref))) x2 (.lst ((qs.drop 1).map V.ref)) = H5 at s5 ho5 hx5 hp5 hR5 hcp5 hQ6 ⊢
 refine ⟨_, rfl, y, m, t, rfl, L.same s5, g, fun o6 os6 H6 no6 s6 ho6 hO6 _ _ => ?_⟩
 refine ⟨_, rfl, .list ((newRs m t).map fun row => PyData.list (row.map PyData.int)), .list ((newRs m t).map fun row => PyData.list (row.map PyData.int)), .lst (SqL.of ho6) (dvs_rows hO6), .lst (SqL.of (s6 _ _ hcp5)) (dvs_rows (hQ6.chg (Chg.of s6 (S := [])) (by simp))), shaped_rows _, shaped_rows _, _, rfl, iteT' (by simp [eqv_same (shaped_rows _)]) ?_⟩
 refine ⟨_, rfl, _, rfl, .list ((newRs m t).map fun row => PyData.list (row.map PyData.int)), .list ((newRs m t).map fun row => PyData.list (row.map PyData.int)), .lst (SqL.of (s6 _ _ hp5)) (dvs_rows (hR5.chg (Chg.of s6 (S := [])) (by simp))), .lst (SqL.of (s6 _ _ hcp5)) (dvs_rows (hQ6.chg (Chg.of s6 (S := [])) (by simp))), shaped_rows _, shaped_rows _, _, rfl, iteT' (by simp [eqv_same (shaped_rows _)]) ?_⟩
 have a7 : atI ((row0.map V.int).set 0 (.int 7) ++ [.int 1]) 0 = some (.int 7) := atI_nat (j := 0) (by
  rw [List.getElem?_append_left (by rw [List.length_set, List.length_map, g0.1]; decide), List.getElem?_set, if_pos rfl, if_pos (by rw [List.length_map, g0.1]; decide)])
 refine ⟨_, rfl, o, _, 0, _, rfl, rfl, SqL.of (s6 _ _ ho5), a0, os[0], _, 0, _, rfl, rfl, SqL.of (s6 _ _ hx5), a7, rfl, ?_⟩
 have := q H6 (s5.trans s6)
 simpa using this
end
end K9
end
section
set_option Elab.async false
set_option linter.all false
set_option maxRecDepth 100000
set_option maxHeartbeats 4000000
namespace K9
open PySem L2 BK
section
variable {P : Program} {w : World} {K : PySem.W.Frag} {mg : Str → Option Value} {base : Heap} {f : Addr} {fd : FuncData} {a : Ad}
structure FrAt (H : Hp) (fr : Addr) (fs : List Int) : Prop where
 ex : ∃ kvs : List (Key × V), H fr = some (.dK kvs) ∧ kvs.map (·.1) = fs.map (Sum.inl : Int → Key)
 nd : fs.Nodup
theorem FrAt.chg {S : List Addr} {H H' : Hp} {fr : Addr} {fs : List Int} (h : FrAt H fr fs) (c : Chg S H H') (n : fr ∉ S) : FrAt H' fr fs := let ⟨kvs, e, k⟩ := h.ex; ⟨⟨kvs, c _ _ e n, k⟩, h.nd⟩
theorem FrAt.same {H H' : Hp} {fr : Addr} {fs : List Int} (h : FrAt H fr fs) (s : Same H H') : FrAt H' fr fs := h.chg (S := []) (Chg.of s) (by simp)
theorem inl_mem {z : Int} {fs : List Int} : (Sum.inl z : Key) ∈ fs.map (Sum.inl : Int → Key) ↔ z ∈ fs := ⟨fun h => by
 obtain ⟨j, hj, e⟩ := List.mem_map.mp h
 cases e; exact hj, fun h => List.mem_map.mpr ⟨z, h, rfl⟩⟩
theorem FrAt.get {H : Hp} {fr : Addr} {fs : List Int} (h : FrAt H fr fs) (z : Int) : ∃ o, DGet H fr (.int z) o ∧ o.isSome = decide (z ∈ fs) := by
 obtain ⟨kvs, e, k⟩ := h.ex
 refine ⟨_, DGet.k (k := .inl z) e, ?_⟩
 by_cases hz : z ∈ fs
 ·obtain ⟨v, hv⟩ := valV_keys (kvs := kvs) (k := .inl z) (by rw [k]; exact inl_mem.mpr hz)
  rw [hv, decide_eq_true hz]; rfl
 ·cases hv : valV kvs (.inl z) with
  | none => rw [decide_eq_false hz]; rfl
  | some v => exact absurd (inl_mem.mp (by rw [← k]; exact valV_in hv)) hz
theorem FrAt.pop {H : Hp} {fr : Addr} {fs : List Int} (h : FrAt H fr fs) {z : Int} (hz : z ∈ fs) : ∃ (kvs : List (Key × V)) (v : V), H fr = some (.dK kvs) ∧ valV kvs (.inl z) = some v ∧ FrAt (upd H fr (.dK (dropK kvs (.inl z)))) fr (fs.filter fun x => decide (x ≠ z)) := by
 obtain ⟨kvs, e, k⟩ := h.ex
 obtain ⟨v, hv⟩ := valV_keys (kvs := kvs) (k := .inl z) (by rw [k]; exact inl_mem.mpr hz)
 refine ⟨kvs, v, e, hv, ⟨_, upd_same, ?_⟩, h.nd.filter _⟩
 unfold dropK
 have : (kvs.filter fun kv => decide (kv.1 ≠ Sum.inl z)).map (·.1) = (kvs.map (·.1)).filter fun x => decide (x ≠ Sum.inl z) := by rw [List.filter_map]; rfl
 rw [this, k, List.filter_map]
 congr 1
 refine List.filter_congr fun x _ => ?_
 exact decide_eq_decide.mpr ⟨fun q r => q (by rw [r]), fun q r => q (Sum.inl.inj r)⟩
theorem FrAt.put {H : Hp} {fr : Addr} {fs : List Int} (h : FrAt H fr fs) (z : Int) (hl : fs.length < 1000) (v : V) : ∃ H', DPut H fr (.int z) v H' ∧ Chg [fr] H H' ∧ FrAt H' fr (insK fs z) := by
 obtain ⟨kvs, e, k⟩ := h.ex
 have hlen : kvs.length = fs.length := by have := congrArg List.length k; simpa using this
 exact ⟨_, DPut.k (k := .inl z) e (small1000 (by omega)), (Chg.of (Same.refl _)).upd (by simp) _, ⟨_, upd_same, putK_ins k z v⟩, insK_nd h.nd⟩
theorem FrAt.isD {H : Hp} {fr : Addr} {fs : List Int} (h : FrAt H fr fs) : IsD H fr := let ⟨kvs, e, _⟩ := h.ex; .inl ⟨kvs, .inl e⟩
def spDrawn (K : PySem.W.Frag) (a : Ad) : Sp := fun vs H Q _ => ∃ (y fr : Addr) (c m t : Int) (fs : List Int), vs = [.ref y, .ref fr, .int c] ∧ LayAt a.cLayout H y m t ∧ Good m t ∧ FrAt H fr fs ∧ ∀ v H', Same H H' → Kd K H' v → Q v H'
theorem ok__law_drawn (F : Fun K "_law_drawn" "_law_drawn" s__law_drawn f fd) (T : Txt K mg a)  : FnOk P w K mg base (CXE P w) 1 f fd ["_law_layout", "_law_free", "_law_cell"] (spDrawn K a) := by
 have nd := sc__law_drawn.nd
 refine F.okE sc__law_drawn (fun vs H Q E h => ?_) (fun cdv A outer s H vs Q E hr hA h => ?_)
 ·obtain ⟨y, fr, c, m, t, fs, rfl, _⟩ := h
  rfl
 obtain ⟨y, fr, c, m, t, fs, rfl, ⟨yx, hy⟩, g, F, q⟩ := h
 refine ⟨_, (pss_cons (ps_if (pt_cmpR op_eq (pe_op op_mod (pv 2) pe_int) pe_int (nomark _)) (pss_one (ps_ret (pe_ix ix_list (pe_lst (pa_cons (pe_un un_neg pe_int) (pa_cons (pe_fld (pv 0) rfl) (pa_cons pe_bl (pa_cons pe_bl (pa_cons pe_non (pa_cons pe_str (pa_cons (pe_op op_add (pe_fld (pv 0) rfl) (pe_op op_pow pe_int pe_int)) (pa_cons (pe_op op_sub (pe_fld (pv 0) rfl) pe_int) pa_nil))))))))) (pe_op op_mod (pe_op op_fdiv (pv 2) pe_int) pe_int) (fun _ _ => rfl)))) pss_nil)
  (pss_cons (ps_if (pt_cmpR op_gt (pe_op op_mod (pv 2) pe_int) pe_int (nomark _)) (pss_one (ps_ret (pe_op op_add (pe_fld (pv 0) rfl) (pe_op op_mod (pe_op op_fdiv (pv 2) pe_int) (pe_op op_sub (pe_fld (pv 0) rfl) (pe_fld (pv 0) rfl)))))) pss_nil)
  (pss_cons (ps_setLc (j := 3) (cl := [("_law_free", s.heap.objs.size + 1)]) (fj := [("_law_free", 1)]) (by exact LcOk.of ["_law_free"] rfl (by decide +kernel) rfl (by decide +kernel) rfl (fun p h => (by rw [List.mem_singleton.mp h]; rfl)) rfl (by decide +kernel) (fun p h => (by rw [List.mem_singleton.mp h]; exact ⟨rfl, rfl, .inl rfl⟩)) (by decide +kernel)) rfl nd rfl (by first | exact Or.inl rfl | exact Or.inr rfl) (pi_range2 rfl T.range (pa_cons (pe_fld (pv 0) rfl) (pa_cons (pe_fld (pv 0) rfl) pa_nil))) (fun _ _ _ => (pf_one (pt_cmp (pc_dnotin (hu_of hr) (pv 0) (pv 1))))) (fun _ _ _ => (pv 0)))
  (pss_cons (ps_if (pt_cmpR (op_eqD hr.units) (pv 3) (pe_lst pa_nil) (nomark _)) (pss_one (ps_ret (pe_op op_mod (pe_op op_fdiv (pv 2) pe_int) (pe_fld (pv 0) rfl)))) pss_nil)
  (pss_one (ps_ret (pe_ix ix_list (pv 3) (pe_op op_mod (pe_op op_fdiv (pv 2) pe_int) (pe_callB call_len_seq rfl T.len bt_len (pa_cons (pv 3) pa_nil))) (fun _ _ => rfl)))))))), ?_⟩
 obtain ⟨g1, g2, g3, g4, g5⟩ := id g
 have hd0 : 0 ≤ dataAt m t := by unfold dataAt nodesAt; omega
 refine t_modeq (c := c) rfl (by decide) ?_
 by_cases h6 : c % 7 = 6
 ·refine iteT' (decide_eq_true h6) ?_
  refine ⟨_, rfl, _, rfl, y, a.cLayout, yx, _, _, rfl, hy, T.clLayout, T.n_many, rfl, _, rfl, y, a.cLayout, yx, _, _, rfl, hy, T.clLayout, T.n_many, rfl, _, _, rfl, rfl, ⟨by decide, by decide, by decide⟩, _, _, rfl, rfl, _, rfl, y, a.cLayout, yx, _, _, rfl, hy, T.clLayout, T.n_data_at, rfl, _, _, rfl, rfl, (by show 8 ≤ sizeLine; decide), fun l1 m1 => ?_⟩
  have s1 := same_new m1 (.lst [V.int (-1), .int m, .bl true, .bl false, .non, .str "20", .int (m + (10 : Int) ^ (20 : Int).toNat), .int (dataAt m t - 1)])
  obtain ⟨v, hv, kv⟩ : ∃ v, atI [V.int (-1), .int m, .bl true, .bl false, .non, .str "20", .int (m + (10 : Int) ^ (20 : Int).toNat), .int (dataAt m t - 1)] (c / 7 % 8) = some v ∧ Kd K (upd H l1 (.lst [V.int (-1), .int m, .bl true, .bl false, .non, .str "20", .int (m + (10 : Int) ^ (20 : Int).toNat), .int (dataAt m t - 1)])) v := by
   rcases (show c / 7 % 8 = 0 ∨ c / 7 % 8 = 1 ∨ c / 7 % 8 = 2 ∨ c / 7 % 8 = 3 ∨ c / 7 % 8 = 4 ∨ c / 7 % 8 = 5 ∨ c / 7 % 8 = 6 ∨ c / 7 % 8 = 7 by omega) with z | z | z | z | z | z | z | z <;> rw [z]
   ·exact ⟨_, rfl, .int _⟩
   ·exact ⟨_, rfl, .int _⟩
   ·exact ⟨_, rfl, .bl _⟩
   ·exact ⟨_, rfl, .bl _⟩
   ·exact ⟨_, rfl, .non⟩
   ·exact ⟨_, rfl, .str _⟩
   ·exact ⟨_, rfl, .int _⟩
   ·exact ⟨_, rfl, .int _⟩
  exact ⟨_, rfl, _, _, rfl, rfl, ⟨by decide, by decide⟩, _, _, rfl, rfl, (by show (0 : Int) < 8; decide), l1, _, _, v, rfl, rfl, SqL.of upd_same, hv, q v _ s1 kv⟩
 refine iteF' (decide_eq_false h6) ?_
 refine ⟨_, rfl, _, _, rfl, rfl, (by show (0 : Int) < 7; decide), _, _, rfl, rfl, _, rfl, ?_⟩
 by_cases h2 : 2 < c % 7
 ·refine iteT' (decide_eq_true h2) ?_
  exact ⟨_, rfl, y, a.cLayout, yx, _, _, rfl, hy, T.clLayout, T.n_data_at, rfl, _, rfl, _, _, rfl, rfl, ⟨by decide, by decide⟩, _, rfl, y, a.cLayout, yx, _, _, rfl, hy, T.clLayout, T.n_many, rfl, _, rfl, y, a.cLayout, yx, _, _, rfl, hy, T.clLayout, T.n_data_at, rfl, _, _, rfl, rfl, _, _, rfl, rfl, (by show (0 : Int) < m - dataAt m t; omega), _, _, rfl, rfl, q _ _ (Same.refl _) (.int _)⟩
 refine iteF' (decide_eq_false h2) ?_
 refine ⟨_, rfl, y, a.cLayout, yx, _, _, rfl, hy, T.clLayout, T.n_data_at, rfl, _, rfl, y, a.cLayout, yx, _, _, rfl, hy, T.clLayout, T.n_many, rfl, _, _, rfl, ⟨by omega, by omega, by omega, by omega⟩, ?_⟩
 refine lc_rangeF (lo := dataAt m t) (n := (m - dataAt m t).toNat) (by omega) (fun i => !decide (dataAt m t + (i : Int) ∈ fs)) (fun i : Nat => V.int (dataAt m t + (i : Int))) (fun i H2 Qb hi s2 k => ?_) (fun i H2 Qf hi hg s2 k => ⟨_, rfl, k H2 (Same.refl _)⟩) fun acc H2 na s2 hacc => ?_
 ·obtain ⟨o, dg, eo⟩ := (F.same s2).get (dataAt m t + (i : Int))
  refine ⟨_, rfl, _, rfl, fr, _, rfl, dg, _, rfl, ?_⟩
  rw [eo]
  exact k H2 (Same.refl _)
 generalize hus : (((List.range (m - dataAt m t).toNat).filter fun i : Nat => !decide (dataAt m t + (i : Int) ∈ fs)).map fun i : Nat => dataAt m t + (i : Int)) = us
 have eus : (((List.range (m - dataAt m t).toNat).filter fun i : Nat => !decide (dataAt m t + (i : Int) ∈ fs)).map fun i : Nat => V.int (dataAt m t + (i : Int))) = us.map V.int := by rw [← hus, List.map_map]; rfl
 rw [eus] at hacc
 refine ⟨_, rfl, (by show 0 ≤ sizeLine; decide), fun em nem => ?_⟩
 have w1 := same_new nem (.lst [])
 refine ⟨.list (us.map PyData.int), .list (([] : List Int).map PyData.int), .lst (SqL.of (w1 _ _ hacc)) (dvs_ints _), .lst (SqL.of upd_same) .nil, PySem.W.ke_shaped_ints _, PySem.W.ke_shaped_ints _, _, rfl, ?_⟩
 have s3 := s2.trans w1
 rw [eqv_ints]
 by_cases hu : us = []
 ·refine iteT' (by simp [hu]) ?_
  exact ⟨_, rfl, _, _, rfl, rfl, ⟨by decide, by decide⟩, _, rfl, y, a.cLayout, yx, _, _, rfl, s3 _ _ hy, T.clLayout, T.n_many, rfl, _, _, rfl, rfl, (by show (0 : Int) < m; omega), q _ _ s3 (.int _)⟩
 ·refine iteF' (by simp [hu]) ?_
  have hl : 0 < us.length := List.length_pos_iff.mpr hu
  have b1 := Int.emod_nonneg (c / 7) (show (us.length : Int) ≠ 0 by omega)
  have b2 := Int.emod_lt_of_pos (c / 7) (show (0 : Int) < (us.length : Int) by omega)
  obtain ⟨v, hv, hm⟩ := atI_mem (us.map V.int) (c / 7 % (us.length : Int)) b1 (by rw [List.length_map]; exact b2)
  obtain ⟨z, _, rfl⟩ := List.mem_map.mp hm
  refine ⟨_, rfl, _, rfl, _, _, rfl, rfl, ⟨by decide, by decide⟩, _, rfl, acc, _, rfl, .inl (SqL.of (w1 _ _ hacc)), _, _, rfl, rfl, (by rw [List.length_map]; show (0 : Int) < (us.length : Int); omega), acc, _, _, .int z, rfl, rfl, SqL.of (w1 _ _ hacc), ?_, q _ _ s3 (.int z)⟩
  rw [List.length_map]; exact hv
def Is2 (K : PySem.W.Frag) (a : Ad) (C : Addr) (j : Nat) : Prop := ExcK K C ∧ PySem.W.kitOne K (.ref C) (.ref a.cNoBlock) = some (decide (j = 0)) ∧ PySem.W.kitOne K (.ref C) (.ref a.cNoRoom) = some (decide (j = 1)) ∧ PySem.W.kitOne K (.ref C) (.ref a.cNoNode) = some false ∧ PySem.W.kitOne K (.ref C) (.ref a.cNoNodes) = some false ∧ PySem.W.kitOne K (.ref C) (.type "ValueError") = some true ∧ j < 2
theorem is_block (T : Txt K mg a) : Is2 K a a.cNoBlock 0 := ⟨T.eNoBlock, T.qNoBlock_NoBlock, T.qNoBlock_NoRoom, T.qNoBlock_NoNode, T.qNoBlock_NoNodes, T.qNoBlock_ValueError, by decide⟩
theorem is_room (T : Txt K mg a) : Is2 K a a.cNoRoom 1 := ⟨T.eNoRoom, T.qNoRoom_NoBlock, T.qNoRoom_NoRoom, T.qNoRoom_NoNode, T.qNoRoom_NoNodes, T.qNoRoom_ValueError, by decide⟩
def kword (j : Nat) : Str := if j = 0 then "block" else "room"
def spRefused (K : PySem.W.Frag) (a : Ad) : Sp := fun vs H Q _ => ∃ (b d kr nr y : Addr) (S : DS) (ks : List Int) (ρ : Int → List Int) (m t way : Int) (v : V) (j : Nat), vs = [.ref b, .ref y, .int way, v] ∧ Mp a H b d kr nr y S ks ρ m t ∧ Kd K H v ∧ ks.length < 700 ∧
  ((way = 0 ∧ j = 1 ∧ freeL S.R ks ρ m.toNat = []) ∨
   (way = 1 ∧ j = 0 ∧ (wholeV v (dataAt m t) (m - 1) = false ∨ ∃ i : Nat, v = .int i ∧ dataAt m t ≤ (i : Int) ∧ (i : Int) < m ∧ mw S.R ks ρ i = 0)) ∨
   (way = 2 ∧ j = 0 ∧ wholeV v 0 (m - 1) = false)) ∧ ∀ H', Same H H' → Q (.str (kword j)) H'
theorem ok__law_refused (F : Fun K "_law_refused" "_law_refused" s__law_refused f fd) (T : Txt K mg a) (D_take : Df P w K mg base (CXE P w) 7 "take" ["batch", "layout"] (spTake K a)) (D_give : Df P w K mg base (CXE P w) 7 "give" ["batch", "layout", "block"] (spGive K a)) (D_is_free : Df P w K mg base (CXE P w) 5 "is_free" ["batch", "layout", "block"] (spIsFree K a)) : FnOk P w K mg base (CXE P w) 8 f fd ["_law_batch", "_law_layout", "_law_way", "_law_block"] (spRefused K a) := by
 obtain ⟨_, _, Gtake, btake, ktake, mtake⟩ := D_take
 obtain ⟨_, _, Ggive, bgive, kgive, mgive⟩ := D_give
 obtain ⟨_, _, Gis_free, bis_free, kis_free, mis_free⟩ := D_is_free
 have nd := sc__law_refused.nd
 refine F.okE sc__law_refused (fun vs H Q E h => ?_) (fun cdv A outer s H vs Q E hr hA h => ?_)
 ·obtain ⟨b, d, kr, nr, y, S, ks, ρ, m, t, way, v, j, rfl, _⟩ := h
  rfl
 obtain ⟨b, d, kr, nr, y, S, ks, ρ, m, t, way, v, j, rfl, X, kd, few, hq, q⟩ := h
 refine ⟨_, (pss_cons (ps_try (i := 4) [] rfl rfl rfl rfl nd rfl rfl rfl T.mKeepError T.kKeepError (fun Ex pn fx xe hfx O => (pss_one (ps_if (pt_cmpR op_eq (pv 2) pe_int (nomark _)) (pss_one (ps_expr (pe_call Gtake (hr.mono (by decide)) rfl mtake ktake btake .nil (passes_out O rfl rfl) (pa_cons (pv 0) (pa_cons (pv 1) pa_nil)) (hcm := (.inr hA))))) (pss_one (ps_if (pt_cmpR op_eq (pv 2) pe_int (nomark _)) (pss_one (ps_expr (pe_call Ggive (hr.mono (by decide)) rfl mgive kgive bgive .nil (passes_out O rfl rfl) (pa_cons (pv 0) (pa_cons (pv 1) (pa_cons (pv 3) pa_nil))) (hcm := (.inr hA))))) (pss_one (ps_expr (pe_call Gis_free (hr.mono (by decide)) rfl mis_free kis_free bis_free .nil (passes_out O rfl rfl) (pa_cons (pv 0) (pa_cons (pv 1) (pa_cons (pv 3) pa_nil))) (hcm := (.inr hA)))))))))) (fun e c pn => (pss_cons (ps_set (i := 5) nd rfl (by first | exact Or.inl rfl | exact Or.inr rfl) (pe_lst (pa_cons (pe_callB (call_isinstCK (K := K) (C := a.cNoBlock) rfl) rfl T.isinstance bt_isinstance (pa_cons (pv 4) (pa_cons (pe_glob (v := .ref a.cNoBlock) rfl T.mNoBlock rfl) pa_nil))) (pa_cons (pe_callB (call_isinstCK (K := K) (C := a.cNoRoom) rfl) rfl T.isinstance bt_isinstance (pa_cons (pv 4) (pa_cons (pe_glob (v := .ref a.cNoRoom) rfl T.mNoRoom rfl) pa_nil))) pa_nil))))
  (pss_cons (ps_if (PW.pt (pw_or (pt_not (pt_val (pe_callB (call_isinstK (K := K) (T := "ValueError") rfl) rfl T.isinstance bt_isinstance (pa_cons (pv 4) (pa_cons (pe_bltn (v := .ty "ValueError") rfl T.ValueError bt_ValueError rfl) pa_nil))))) (pw_or (pt_cmpR op_ne (pe_bmK (K := K) rfl PySem.F.plainAttrs_list PySem.F.slot_list_count PySem.F.type_list_count mt_count (pv 5) (pa_cons pe_bl pa_nil)) pe_int (nomark _)) (pw_or1 (pt_val (pe_callB (call_isinstTK (K := K) rfl) rfl T.isinstance bt_isinstance (pa_cons (pv 4) (pa_cons (pe_tup (pa_cons (pe_glob (v := .ref a.cNoNode) rfl T.mNoNode rfl) (pa_cons (pe_glob (v := .ref a.cNoNodes) rfl T.mNoNodes rfl) pa_nil))) pa_nil)))))))) (pss_one (ps_ret pe_str)) pss_nil)
  (pss_one (ps_ret (pe_ix (ix_listK (K := K) rfl) (pe_lst (pa_cons pe_str (pa_cons pe_str pa_nil))) (pe_bmK (K := K) rfl PySem.F.plainAttrs_list PySem.F.slot_list_index PySem.F.type_list_index mt_index (pv 5) (pa_cons pe_bl pa_nil)) (fun _ _ => rfl))))))))
  (pss_one (ps_ret pe_str))), ?_⟩
 generalize hTL : tSeq (tAsg (tLst _) (gName 5)) _ = TL
 have fin : ∀ (C : Addr) (H1 : Hp) (e : Addr) (D' : Ends), Is2 K a C j → Same H H1 → H1 e = none → (∀ v' H', Same H H' → v' = .str (kword j) → D'.rt v' H') → TL D' [some (.ref b), some (.ref y), some (.int way), some v, some (.ref e), none] (upd H1 e (.exc (.ref C))) := by
  rintro C H1 e D' ⟨eC, k0, k1, k2, k3, kV, hj⟩ s1 ne qq
  rw [← hTL]
  have he := upd_same (H := H1) (a := e) (o := .exc (.ref C))
  have s2 := s1.trans (same_new ne (.exc (.ref C)))
  generalize upd H1 e (.exc (.ref C)) = H2 at he s2 ⊢
  have ty : TyOf K H2 (.ref e) (.ref C) := .exc he eC
  refine ⟨_, rfl, _, .ref C, _, rfl, ty, k0, _, rfl, _, .ref C, _, rfl, ty, k1, (by show 2 ≤ sizeLine; decide), fun p np => ?_⟩
  have s3 := same_new np (.lst [.bl (decide (j = 0)), .bl (decide (j = 1))])
  have hp := upd_same (H := H2) (a := p) (o := .lst [.bl (decide (j = 0)), .bl (decide (j = 1))])
  have ty3 := tyof_same s3 ty
  have s4 := s2.trans s3
  generalize upd H2 p (.lst [.bl (decide (j = 0)), .bl (decide (j = 1))]) = H3 at s3 hp ty3 s4 ⊢
  refine ⟨_, rfl, _, .ref C, true, rfl, ty3, kV, _, rfl, iteF' (by rfl) ?_⟩
  refine ⟨_, rfl, .inl ⟨rfl, _, SqL.of hp⟩, p, _, _, rfl, rfl, hp, rfl, rfl, rfl, _, rfl, iteF' (by rcases (show j = 0 ∨ j = 1 by omega) with z | z <;> (subst z; rfl)) ?_⟩
  refine ⟨_, rfl, (by show 2 ≤ sizeLine; decide), fun p2 np2 => ?_⟩
  have w4 := same_new np2 (.tup [.ref a.cNoNode, .ref a.cNoNodes])
  have kn : PySem.W.kitAny K (.ref C) ([a.cNoNode, a.cNoNodes].map Value.ref) = some false := by
   simp only [List.map_cons, List.map_nil, PySem.W.kitAny, k2, k3]
  refine ⟨_, p2, [a.cNoNode, a.cNoNodes], _, false, rfl, upd_same, tyof_same w4 ty3, kn, _, rfl, iteF' (by rfl) ?_⟩
  have hp4 := w4 _ _ hp
  refine ⟨(by show 2 ≤ sizeLine; decide), fun p5 np5 => ?_⟩
  have w5 := same_new np5 (.lst [.str "block", .str "room"])
  refine ⟨_, rfl, .inl ⟨rfl, _, SqL.of (w5 _ _ hp4)⟩, p, _, _, j, rfl, rfl, w5 _ _ hp4, rfl, rfl, ?_, ?_, p5, _, _, .str (kword j), rfl, rfl, SqL.of upd_same, ?_, qq _ _ ((s4.trans w4).trans w5) rfl⟩
  ·rcases (show j = 0 ∨ j = 1 by omega) with z | z <;> (subst z; exact ⟨_, rfl, rfl⟩)
  ·rcases (show j = 0 ∨ j = 1 by omega) with z | z <;> subst z
   ·intro i u hi; omega
   ·intro i u hi hu
    have : i = 0 := by omega
    subst this
    cases hu; rfl
  ·rcases (show j = 0 ∨ j = 1 by omega) with z | z <;> (subst z; rfl)
 rcases hq with ⟨rfl, rfl, hf⟩ | ⟨rfl, rfl, hw⟩ | ⟨rfl, rfl, hw⟩
 ·refine ⟨_, rfl, rfl, _, rfl, iteT' (by rfl) ?_⟩
  refine ⟨_, rfl, _, rfl, b, d, kr, nr, y, S, ks, ρ, m, t, rfl, X, few, .inl ⟨hf, fun H1 s1 => ⟨⟨_, rfl, T.sNoRoom_KeepError⟩, fun e ne => ?_⟩⟩⟩
  exact fin _ _ _ _ (is_room T) s1 ne fun v' H' s' e' => by rw [e']; exact q H' s'
 ·refine ⟨_, rfl, rfl, _, rfl, iteF' (by rfl) ⟨_, rfl, rfl, _, rfl, iteT' (by rfl) ?_⟩⟩
  refine ⟨_, rfl, _, rfl, _, rfl, b, d, kr, nr, y, S, ks, ρ, m, t, v, rfl, X, kd, few, ?_⟩
  rcases hw with hw | ⟨i, rfl, h1, h2, h3⟩
  ·exact .inl ⟨hw, ⟨_, rfl, T.sNoBlock_KeepError⟩, fun e ne => fin _ _ _ _ (is_block T) (Same.refl _) ne fun v' H' s' e' => by rw [e']; exact q H' s'⟩
  ·exact .inr ⟨i, rfl, h1, h2, .inl ⟨h3, fun H1 s1 => ⟨⟨_, rfl, T.sNoBlock_KeepError⟩, fun e ne => fin _ _ _ _ (is_block T) s1 ne fun v' H' s' e' => by rw [e']; exact q H' s'⟩⟩⟩
 ·refine ⟨_, rfl, rfl, _, rfl, iteF' (by rfl) ⟨_, rfl, rfl, _, rfl, iteF' (by rfl) ?_⟩⟩
  refine ⟨_, rfl, _, rfl, _, rfl, b, d, kr, nr, y, S, ks, ρ, m, t, v, rfl, X, kd, .inr ⟨hw, ⟨_, rfl, T.sNoBlock_KeepError⟩, fun e ne => ?_⟩⟩
  exact fin _ _ _ _ (is_block T) (Same.refl _) ne fun v' H' s' e' => by rw [e']; exact q H' s'
end
end K9
end
section
set_option Elab.async false
set_option linter.all false
set_option maxRecDepth 100000
set_option maxHeartbeats 4000000
namespace K9
open PySem L2 BK
section
variable {P : Program} {w : World} {K : PySem.W.Frag} {mg : Str → Option Value} {base : Heap} {f : Addr} {fd : FuncData} {a : Ad}
structure Wh (a : Ad) (H : Hp) (b d kr nr y fr : Addr) (S : DS) (ks : List Int) (ρ : Int → List Int) (m t : Int) (fs : List Int) : Prop where
 mp : Mp a H b d kr nr y S ks ρ m t
 fa : FrAt H fr fs
 ne : fr ≠ nr
 inn : ∀ x ∈ fs, dataAt m t ≤ x ∧ x < m
 map : ∀ i : Nat, i < 16 * mapsN m → mw S.R ks ρ i = if (i : Int) ∈ fs then 0 else 1
 old : ∀ i : Nat, dataAt m t ≤ (i : Int) → (i : Int) < m → seen S.R ks ρ (.int i) = some (List.replicate 16 (i : Int))
 kin : ∀ k ∈ ks, k < nodesAt m
 go : S.l = none
section
variable {H H' : Hp} {b d kr nr y fr : Addr} {S : DS} {ks : List Int} {ρ : Int → List Int} {m t : Int} {fs : List Int}
theorem Wh.same (x : Wh a H b d kr nr y fr S ks ρ m t fs) (s : Same H H') : Wh a H' b d kr nr y fr S ks ρ m t fs := ⟨x.mp.same s, x.fa.same s, x.ne, x.inn, x.map, x.old, x.kin, x.go⟩
theorem few_of {lo : Int} : ∀ (n : Nat) (l : List Int), l.Nodup → (∀ x ∈ l, lo ≤ x ∧ x < lo + n) → l.length ≤ n
 | 0, l, _, h => by
  cases l with
  | nil => exact Nat.le_refl _
  | cons x r => have := h x (by simp); omega
 | n + 1, l, nd, h => by
  have ih := few_of (lo := lo) n (l.erase (lo + n)) (nd.erase _) fun x hx => by
   obtain ⟨h1, h2⟩ := nd.mem_erase_iff.mp hx
   have := h x h2
   omega
  rw [List.length_erase] at ih
  split at ih <;> omega
theorem Wh.few (x : Wh a H b d kr nr y fr S ks ρ m t fs) : ks.length ≤ 6 := by
 obtain ⟨g1, g2, _⟩ := x.mp.good
 refine few_of (lo := 17) 6 ks x.mp.bat.ho.nd fun k hk => ?_
 have h1 := (x.mp.bat.ho.inn k hk).1
 have h2 := x.kin k hk
 unfold nodesAt at h2
 omega
theorem Wh.fewF (x : Wh a H b d kr nr y fr S ks ρ m t fs) : fs.length ≤ 96 := by
 obtain ⟨g1, g2, g3, g4, g5⟩ := x.mp.good
 refine few_of (lo := 0) 96 fs x.fa.nd fun k hk => ?_
 have := x.inn k hk
 unfold dataAt nodesAt at this
 omega
theorem m_le {m t : Int} (g : Good m t) : m ≤ 16 * (mapsN m : Int) ∧ (mapsN m : Int) = nodesAt m - 17 ∧ 0 ≤ dataAt m t ∧ nodesAt m < dataAt m t := by
 obtain ⟨g1, g2, g3, g4, g5⟩ := g
 unfold mapsN dataAt nodesAt
 omega
theorem Wh.free (x : Wh a H b d kr nr y fr S ks ρ m t fs) : freeL S.R ks ρ m.toNat = (List.range m.toNat).filter fun i : Nat => decide ((i : Int) ∈ fs) := by
 have := m_le x.mp.good
 unfold freeL
 refine List.filter_congr fun i hi => ?_
 rw [x.map i (by have := List.mem_range.mp hi; omega)]
 by_cases h : (i : Int) ∈ fs <;> simp [h]
theorem Wh.mem (x : Wh a H b d kr nr y fr S ks ρ m t fs) (i : Nat) : i ∈ freeL S.R ks ρ m.toNat ↔ (i : Int) ∈ fs := by
 rw [x.free, List.mem_filter, List.mem_range, decide_eq_true_eq]
 refine ⟨fun h => h.2, fun h => ⟨?_, h⟩⟩
 have := x.inn _ h
 omega
theorem Wh.sorted (x : Wh a H b d kr nr y fr S ks ρ m t fs) {ns : List Int} (perm : ns.Perm fs) (srt : ns.Pairwise (· ≤ ·)) : (freeL S.R ks ρ m.toNat).map (fun i : Nat => V.int (i : Int)) = ns.map V.int := by
 have e : (freeL S.R ks ρ m.toNat).map (fun i : Nat => (i : Int)) = ns := by
  refine rising_uniq ?_ (lt_of_le_nodup srt (perm.nodup_iff.mpr x.fa.nd)) fun z => ?_
  ·rw [List.pairwise_map, x.free]
   exact (List.pairwise_lt_range.imp fun h => by omega).filter _
  ·rw [perm.mem_iff, List.mem_map]
   refine ⟨fun ⟨i, hi, e⟩ => by rw [← e]; exact (x.mem i).mp hi, fun hz => ?_⟩
   have h1 := x.inn z hz
   have h2 := m_le x.mp.good
   refine ⟨z.toNat, (x.mem _).mpr ?_, by omega⟩
   rw [show ((z.toNat : Nat) : Int) = z by omega]; exact hz
 rw [← e, List.map_map]; rfl
theorem seen_off {R : List (List Int)} {ks : List Int} {ρ ρ' : Int → List Int} {k j : Int} (h : j ≠ k) (e : ρ' j = ρ j) : seen R (insK ks k) ρ' (.int j) = seen R ks ρ (.int j) := by
 show (if j ∈ insK ks k then some (ρ' j) else _) = (if j ∈ ks then some (ρ j) else _)
 by_cases hk : j ∈ ks
 ·rw [if_pos (insK_mem.mpr (.inl hk)), if_pos hk, e]
 ·rw [if_neg (fun z => (insK_mem.mp z).elim hk h), if_neg hk]
theorem Wh.set (X : Wh a H b d kr nr y fr S ks ρ m t fs) {i : Nat} (h1 : dataAt m t ≤ (i : Int)) (h2 : (i : Int) < m) {x : Int} (hx : x = 0 ∨ x = 1) {fs' : List Int} (M : Mp a H' b d kr nr y S (insK ks ((17 + i / 16 : Nat) : Int)) (setM S.R ks ρ i x) m t) (F : FrAt H' fr fs') (hm : ∀ z, z ∈ fs' ↔ (if z = (i : Int) then x = 0 else z ∈ fs)) :
  Wh a H' b d kr nr y fr S (insK ks ((17 + i / 16 : Nat) : Int)) (setM S.R ks ρ i x) m t fs' := by
 obtain ⟨row, es, gr, hg, hlt⟩ := X.mp.row h2
 have hm2 := m_le X.mp.good
 refine ⟨M, F, X.ne, fun z hz => ?_, fun j hj => ?_, fun j hj1 hj2 => ?_, fun k hk => ?_, X.go⟩
 ·have := (hm z).mp hz
  split at this
  ·rename_i e; rw [e]; exact ⟨h1, h2⟩
  ·exact X.inn z this
 ·rw [mw_set hlt (by rw [es]; exact gr.1)]
  by_cases e : j = i
  ·subst e
   rw [if_pos rfl]
   have := hm (j : Int)
   rw [if_pos rfl] at this
   rcases hx with z | z
   ·rw [if_pos (this.mpr z), z]
   ·rw [if_neg (fun q => by have := this.mp q; omega), z]
  ·rw [if_neg e, X.map j hj]
   have := hm (j : Int)
   rw [if_neg (by omega)] at this
   by_cases q : (j : Int) ∈ fs
   ·rw [if_pos q, if_pos (this.mpr q)]
   ·rw [if_neg q, if_neg (fun z => q (this.mp z))]
 ·have hne : (j : Int) ≠ ((17 + i / 16 : Nat) : Int) := by unfold nodesAt at hm2; omega
  rw [seen_off hne (by unfold setM; rw [if_neg hne])]
  exact X.old j hj1 hj2
 ·rcases insK_mem.mp hk with z | z
  ·exact X.kin k z
  ·rw [z]; unfold nodesAt; omega
theorem Wh.no (X : Wh a H b d kr nr y fr S ks ρ m t fs) : ∃ kvs, H nr = some (.dK kvs) := X.mp.bat.ho.at
theorem Mp.chgF (x : Mp a H b d kr nr y S ks ρ m t) (F : FrAt H fr fs) (ne : fr ≠ nr) (c : Chg [fr] H H') : Mp a H' b d kr nr y S ks ρ m t := by
 obtain ⟨kvs, e, _⟩ := F.ex
 obtain ⟨bx, hb⟩ := x.bat.ex
 obtain ⟨yx, hy⟩ := x.lay
 refine ⟨x.bat.chg c (by simp only [List.mem_singleton]; exact ne_of hb e (fun z => by cases z)) (by simp only [List.mem_singleton]; exact Ne.symm ne) fun u hu => ?_, disk_dict x.dk ⟨kvs, e⟩ c, x.lay.chg c (by simp only [List.mem_singleton]; exact ne_of hy e (fun z => by cases z)), x.good, x.len, x.few⟩
 rw [List.mem_singleton.mp hu]
 exact x.bat.ho.offo e fun row _ z => by cases z
end
def spAsked (K : PySem.W.Frag) (a : Ad) : Sp := fun vs H Q _ => ∃ (b d kr nr y fr : Addr) (S : DS) (ks : List Int) (ρ : Int → List Int) (m t : Int) (fs : List Int) (c : Int), vs = [.ref b, .ref y, .ref fr, .int c] ∧ Wh a H b d kr nr y fr S ks ρ m t fs ∧ ∀ H', Same H H' → Q (.bl true) H'
theorem ok__law_asked (F : Fun K "_law_asked" "_law_asked" s__law_asked f fd) (T : Txt K mg a) (D_free_blocks : Df P w K mg base (CXE P w) 6 "free_blocks" ["batch", "layout"] (spFreeBlocks K a)) (D__law_drawn : Df P w K mg base (CXE P w) 1 "_law_drawn" ["_law_layout", "_law_free", "_law_cell"] (spDrawn K a)) (D_is_free : Df P w K mg base (CXE P w) 5 "is_free" ["batch", "layout", "block"] (spIsFree K a)) (D__law_whole : Df P w K mg base CX0 1 "_law_whole" ["_law_found"] (spWholeL K a)) (D__law_refused : Df P w K mg base (CXE P w) 8 "_law_refused" ["_law_batch", "_law_layout", "_law_way", "_law_block"] (spRefused K a)) : FnOk P w K mg base (CXE P w) 9 f fd ["_law_batch", "_law_layout", "_law_free", "_law_cell"] (spAsked K a) := by
 obtain ⟨_, _, Gfree_blocks, bfree_blocks, kfree_blocks, mfree_blocks⟩ := D_free_blocks
 obtain ⟨_, _, Gl_drawn, bl_drawn, kl_drawn, ml_drawn⟩ := D__law_drawn
 obtain ⟨_, _, Gis_free, bis_free, kis_free, mis_free⟩ := D_is_free
 obtain ⟨_, _, Gl_whole, bl_whole, kl_whole, ml_whole⟩ := D__law_whole
 obtain ⟨_, _, Gl_refused, bl_refused, kl_refused, ml_refused⟩ := D__law_refused
 have nd := sc__law_asked.nd
 refine F.okE sc__law_asked (fun vs H Q E h => ?_) (fun cdv A outer s H vs Q E hr hA h => ?_)
 ·obtain ⟨b, d, kr, nr, y, fr, S, ks, ρ, m, t, fs, c, rfl, _⟩ := h
  rfl
 obtain ⟨b, d, kr, nr, y, fr, S, ks, ρ, m, t, fs, c, rfl, X, q⟩ := h
 refine ⟨_, (pss_cons (ps_set (i := 4) nd rfl (by first | exact Or.inl rfl | exact Or.inr rfl) (pe_call Gfree_blocks (hr.mono (by decide)) rfl mfree_blocks kfree_blocks bfree_blocks .nil (passes_fn (fun _ _ _ h => h)) (pa_cons (pv 0) (pa_cons (pv 1) pa_nil)) (hcm := (.inr hA))))
  (pss_cons (ps_if (PW.pt (pw_or (pt_not (pt_val (pe_callB (call_isinst (T := "list")) rfl T.isinstance bt_isinstance (pa_cons (pv 4) (pa_cons (pe_bltn (v := .ty "list") rfl T.list bt_list rfl) pa_nil))))) (pw_or1 (pt_cmpR (op_neD hr.units) (pv 4) (pe_callB L2.call_sortL rfl T.sorted bt_sorted (pa_cons (pe_callTy (call_listD hA) rfl T.list bt_list (pa_cons (pv 2) pa_nil)) pa_nil)) (nomark _))))) (pss_one (ps_ret pe_bl)) pss_nil)
  (pss_cons (ps_if (pt_cmpR (op_neD hr.units) (pe_lc (cl := []) (fj := []) (by exact ⟨rfl, by decide +kernel, rfl, by decide +kernel, rfl, fun _ h => (by cases h), by decide +kernel, fun _ h => (by cases h), by decide +kernel⟩) rfl (pi_list (pv 4)) (fun _ _ _ => (pf_one (pt_not (pt_val (pe_call Gl_whole (hr.mono (by decide)) rfl ml_whole kl_whole bl_whole .nil pass0 (pa_cons (pv 0) pa_nil)))))) (fun _ _ _ => (pv 0))) (pe_lst pa_nil) (nomark _)) (pss_one (ps_ret pe_bl)) pss_nil)
  (pss_cons (ps_expr (pe_bm PySem.F.plainAttrs_list PySem.F.slot_list_append PySem.F.type_list_append mt_append (pv 4) (pa_cons pe_int pa_nil)))
  (pss_cons (ps_set (i := 5) nd rfl (by first | exact Or.inl rfl | exact Or.inr rfl) (pe_call Gl_drawn (hr.mono (by decide)) rfl ml_drawn kl_drawn bl_drawn .nil (passes_fn (fun _ _ _ h => h)) (pa_cons (pv 1) (pa_cons (pv 2) (pa_cons (pv 3) pa_nil))) (hcm := (.inr hA))))
  (pss_cons (ps_if (PW.pt (pw_or (pt_not (pt_val (pe_call Gl_whole (hr.mono (by decide)) rfl ml_whole kl_whole bl_whole .nil pass0 (pa_cons (pv 5) pa_nil)))) (pw_or1 (pt_not (pt_chain op_le op_lt pe_int (pv 5) (pe_fld (pv 1) rfl)))))) (pss_one (ps_ret (pe_cmpR op_eq (pe_call Gl_refused (hr.mono (by decide)) rfl ml_refused kl_refused bl_refused .nil (passes_fn (fun _ _ _ h => h)) (pa_cons (pv 0) (pa_cons (pv 1) (pa_cons pe_int (pa_cons (pv 5) pa_nil)))) (hcm := (.inr hA))) pe_str (nomark _)))) pss_nil)
  (pss_cons (ps_set (i := 6) nd rfl (by first | exact Or.inl rfl | exact Or.inr rfl) (pe_call Gis_free (hr.mono (by decide)) rfl mis_free kis_free bis_free .nil (passes_fn (fun _ _ _ h => h)) (pa_cons (pv 0) (pa_cons (pv 1) (pa_cons (pv 5) pa_nil))) (hcm := (.inr hA))))
  (pss_one (ps_ret (pe_and (pe_callB (call_isinst (T := "bool")) rfl T.isinstance bt_isinstance (pa_cons (pv 6) (pa_cons (pe_bltn (v := .ty "bool") rfl T.bool bt_bool rfl) pa_nil))) (pe_one (pe_cmpR op_eq (pv 6) (pe_cmp (pc_din (hu_of hr) (pv 5) (pv 2))) (nomark _))))))))))))), ?_⟩
 have few := X.few
 have fewF := X.fewF
 refine ⟨_, rfl, _, rfl, b, d, kr, nr, y, S, ks, ρ, m, t, rfl, X.mp, fun p H1 np s1 hp => ?_⟩
 obtain ⟨t0, ty0, ki0⟩ := kd_list (K := K) hp
 obtain ⟨kvs, ek, kk⟩ := (X.fa.same s1).ex
 refine ⟨_, rfl, _, t0, true, rfl, ty0, ki0, _, rfl, iteF' (by rfl) ?_⟩
 refine ⟨_, rfl, _, rfl, fr, kvs, fs, rfl, ek, kk, fun l1 m1 => ⟨l1, fs, rfl, SqL.of upd_same, fun l2 ns m2 perm srt => ?_⟩⟩
 have u2 := (same_new m1 (.lst (fs.map V.int))).trans (same_new m2 (.lst (ns.map V.int)))
 rw [X.sorted perm srt] at hp
 have hp2 := u2 _ _ hp
 have hl : ns.length = fs.length := perm.length_eq
 refine ⟨.list (ns.map PyData.int), .list (ns.map PyData.int), .lst (SqL.of hp2) (dvs_ints _), .lst (SqL.of upd_same) (dvs_ints _), PySem.W.ke_shaped_ints _, PySem.W.ke_shaped_ints _, _, rfl, iteF' (by rw [eqv_ints]; simp) ?_⟩
 have s2 := s1.trans u2
 generalize upd (upd H1 l1 (.lst (fs.map V.int))) l2 (.lst (ns.map V.int)) = H2 at u2 hp2 s2 ⊢
 refine ⟨_, rfl, p, rfl, ⟨_, SqL.of hp2⟩, lc_listN (xs := ns.map V.int) hp2 (fun j v H3 Qb hv s3 k => ?_) fun acc H3 nacc s3 hacc => ?_⟩
 ·obtain ⟨x, _, rfl⟩ := List.mem_map.mp (List.mem_of_getElem? hv)
  exact ⟨_, rfl, _, rfl, .int _, _, rfl, k⟩
 refine ⟨(by show 0 ≤ sizeLine; decide), fun em nem => ?_⟩
 have w1 := same_new nem (.lst [])
 refine ⟨.list [], .list [], .lst (SqL.of (w1 _ _ hacc)) .nil, .lst (SqL.of upd_same) .nil, rfl, rfl, _, rfl, iteF' (by rfl) ?_⟩
 have s4 := s3.trans w1
 have hp4 := s4 _ _ hp2
 have s5 := s2.trans s4
 generalize upd H3 em (.lst []) = H4 at s4 hp4 s5 ⊢
 refine ⟨_, rfl, .inl ⟨rfl, _, SqL.of hp4⟩, p, _, _, rfl, rfl, hp4, small1000 (by rw [List.length_map]; omega), ?_⟩
 have s6 : Same H (upd H4 p (.lst (ns.map V.int ++ [.int 0]))) := chg_same s5 ((Chg.of (Same.refl _) (S := [p])).upd (by simp) _) (by simp [np])
 generalize upd H4 p (.lst (ns.map V.int ++ [.int 0])) = H6 at s6 ⊢
 have X6 := X.same s6
 refine ⟨_, rfl, _, rfl, _, rfl, y, fr, c, m, t, fs, rfl, X6.mp.lay, X6.mp.good, X6.fa, fun v H7 s7 kd => ?_⟩
 have X7 := X6.same s7
 have sA := s6.trans s7
 obtain ⟨yx, hy⟩ := X7.mp.lay
 have bad : wholeV v 0 (m - 1) = false → tRet (tOp rEq (tCall (spRefused K a) [] E0 (tCons (tVar 0) (tCons (tVar 1) (tCons (tC (.int 2)) (tCons (tVar 5) tNil))))) (tC (.str "block"))) { nx := fun _ H' => Q .non H', rt := Q } [some (.ref b), some (.ref y), some (.ref fr), some (.int c), some (.ref p), some v, none] H7 := by
  intro hw
  refine ⟨_, rfl, _, rfl, _, rfl, b, d, kr, nr, y, S, ks, ρ, m, t, 2, v, 0, rfl, X7.mp, kd, by omega, .inr (.inr ⟨rfl, rfl, hw⟩), fun H8 s8 => ⟨rfl, ?_⟩⟩
  have := q H8 (sA.trans s8)
  simpa [kword] using this
 refine ⟨_, rfl, v, rfl, kd, _, rfl, ?_⟩
 cases v with
 | int i =>
  refine iteF' (by rfl) ⟨_, rfl, _, _, rfl, rfl, _, rfl, ?_⟩
  by_cases h0 : 0 ≤ i
  ·refine iteT' (decide_eq_true h0) ⟨_, rfl, y, a.cLayout, yx, _, _, rfl, hy, T.clLayout, T.n_many, rfl, _, _, rfl, rfl, _, rfl, ?_⟩
   by_cases h1 : i < m
   ·refine iteF' (by rw [decide_eq_true h1]; rfl) ?_
    obtain ⟨n, rfl⟩ : ∃ n : Nat, i = (n : Int) := ⟨i.toNat, by omega⟩
    refine ⟨_, rfl, _, rfl, _, rfl, b, d, kr, nr, y, S, ks, ρ, m, t, _, rfl, X7.mp, .int _, .inl ⟨n, rfl, h1, fun H8 s8 => ?_⟩⟩
    obtain ⟨t8, ty8, _, ki8, _⟩ := Kd.bl (K := K) (H := H8) (decide (mw S.R ks ρ n = 0))
    obtain ⟨o, dg, eo⟩ := (X7.fa.same s8).get (n : Int)
    refine ⟨_, rfl, _, t8, true, rfl, ty8, ki8, _, rfl, iteT ⟨_, rfl, _, rfl, _, rfl, fr, _, rfl, dg, rfl, ?_⟩⟩
    have hm := m_le X.mp.good
    have e1 : decide (mw S.R ks ρ n = 0) = o.isSome := by
     rw [eo, X.map n (by omega)]
     by_cases z : (n : Int) ∈ fs <;> simp [z]
    rw [e1]
    have := q H8 (sA.trans s8)
    simpa using this
   ·refine iteT' (by rw [decide_eq_false h1]; rfl) (bad ?_)
    show (decide ((0 : Int) ≤ i) && decide (i ≤ m - 1)) = false
    rw [decide_eq_false (show ¬ i ≤ m - 1 by omega), Bool.and_false]
  ·refine iteF' (decide_eq_false h0) ⟨_, rfl, iteT' (by rfl) (bad ?_)⟩
   show (decide ((0 : Int) ≤ i) && decide (i ≤ m - 1)) = false
   rw [decide_eq_false h0, Bool.false_and]
 | _ => exact iteT' (by rfl) (bad rfl)
def rowOf (R : List (List Int)) (ks : List Int) (ρ : Int → List Int) (j : Nat) : List Int := (seen R ks ρ (.int ((17 + j : Nat) : Int))).getD []
theorem flat_rows {R : List (List Int)} {ks : List Int} {ρ : Int → List Int} : ∀ n : Nat, (∀ j, j < n → (rowOf R ks ρ j).length = 16) → ((List.range n).map (rowOf R ks ρ)).flatten = (List.range (16 * n)).map (mw R ks ρ)
 | 0, _ => rfl
 | n + 1, h => by
  rw [List.range_succ, List.map_append, List.flatten_append, flat_rows n (fun j hj => h j (by omega)), show 16 * (n + 1) = 16 * n + 16 by omega, List.range_add, List.map_append, List.map_map]
  congr 1
  have hl := h n (by omega)
  show ([rowOf R ks ρ n]).flatten = _
  rw [List.flatten_cons, List.flatten_nil, List.append_nil]
  apply List.ext_getElem
  ·rw [hl, List.length_map, List.length_range]
  ·intro k h1 h2
   rw [hl] at h1
   rw [List.getElem_map, List.getElem_range]
   show _ = mw R ks ρ (16 * n + k)
   unfold mw
   rw [show (16 * n + k) / 16 = n by omega, show (16 * n + k) % 16 = k by omega]
   show _ = (rowOf R ks ρ n).getD k 0
   rw [List.getD_eq_getElem?_getD, List.getElem?_eq_getElem (by omega)]; rfl
def spTold (K : PySem.W.Frag) (a : Ad) : Sp := fun vs H Q _ => ∃ (b d kr nr y fr : Addr) (S : DS) (ks : List Int) (ρ : Int → List Int) (m t : Int) (fs : List Int), vs = [.ref b, .ref y, .ref fr] ∧ Wh a H b d kr nr y fr S ks ρ m t fs ∧ ∀ H', Same H H' → Q (.bl true) H'
theorem ok__law_told (F : Fun K "_law_told" "_law_told" s__law_told f fd) (T : Txt K mg a) (M_Batch_read : Mf P w K mg base (CXE P w) 4 a.f_Batch_read ["self", "block"] (spBRead K a)) : FnOk P w K mg base (CXE P w) 5 f fd ["_law_batch", "_law_layout", "_law_free"] (spTold K a) := by
 obtain ⟨_, G_Batch_read, b_Batch_read⟩ := M_Batch_read
 have nd := sc__law_told.nd
 refine F.okE sc__law_told (fun vs H Q E h => ?_) (fun cdv A outer s H vs Q E hr hA h => ?_)
 ·obtain ⟨b, d, kr, nr, y, fr, S, ks, ρ, m, t, fs, rfl, _⟩ := h
  rfl
 obtain ⟨b, d, kr, nr, y, fr, S, ks, ρ, m, t, fs, rfl, X, q⟩ := h
 refine ⟨_, (pss_cons (ps_setLc (j := 3) (cl := [("_law_layout", s.heap.objs.size + 2), ("_law_batch", s.heap.objs.size + 1)]) (fj := [("_law_batch", 0), ("_law_layout", 1)]) (by exact LcOk.of ["_law_layout", "_law_batch"] rfl (by decide +kernel) rfl (by decide +kernel) rfl (fun p h => (by simp only [List.mem_cons, List.not_mem_nil, or_false] at h; rcases h with rfl | rfl <;> rfl)) rfl (by decide +kernel) (fun p h => (by simp only [List.mem_cons, List.not_mem_nil, or_false] at h; rcases h with rfl | rfl <;> exact ⟨rfl, rfl, .inl rfl⟩)) (by decide +kernel)) rfl nd rfl (by first | exact Or.inl rfl | exact Or.inr rfl) (pi_range1 rfl T.range (pa_cons (pe_op op_sub (pe_fld (pv 1) rfl) (pe_fld (pv 1) rfl)) pa_nil)) (fun _ _ _ => pf_nil) (fun _ _ _ => (pe_meth (pv 1) T.clBatch T.m_Batch_read G_Batch_read (hr.mono (by decide)) b_Batch_read .nil passesE0 (pa_cons (pe_op op_add (pe_fldK (K := K) rfl (pv 2) rfl) (pv 0)) pa_nil) (hcm := (.inr hA)))))
  (pss_cons (ps_set (i := 4) nd rfl (by first | exact Or.inl rfl | exact Or.inr rfl) (pe_lst pa_nil))
  (pss_cons (ps_for PassesOwn.leaving rfl (pi_list (pv 3)) (pg_name (i := 5) nd rfl (by first | exact Or.inl rfl | exact Or.inr rfl)) (pss_one (ps_expr (pe_bm PySem.F.plainAttrs_list PySem.F.slot_list_extend PySem.F.type_list_extend mt_extend (pv 4) (pa_cons (pv 5) pa_nil)))))
  (pss_one (ps_ret (pe_cmpR (op_eqD hr.units) (pv 4) (pe_lc (cl := [("_law_free", s.heap.objs.size + 3)]) (fj := [("_law_free", 2)]) (by exact LcOk.of ["_law_free"] rfl (by decide +kernel) rfl (by decide +kernel) rfl (fun p h => (by rw [List.mem_singleton.mp h]; rfl)) rfl (by decide +kernel) (fun p h => (by rw [List.mem_singleton.mp h]; exact ⟨rfl, rfl, .inl rfl⟩)) (by decide +kernel)) rfl (pi_range1 rfl T.range (pa_cons (pe_callB call_len_seq rfl T.len bt_len (pa_cons (pv 4) pa_nil)) pa_nil)) (fun _ _ _ => pf_nil) (fun _ _ _ => (pe_callTy call_int1 rfl T.int bt_int (pa_cons (pe_cmp (pc_dnotin (hu_of hr) (pv 0) (pv 1))) pa_nil)))) (nomark _))))))), ?_⟩
 have hm := m_le X.mp.good
 have h26 := mapsN_2 X.mp.good
 obtain ⟨g1, g2, g3, g4, g5⟩ := X.mp.good
 have hlen := X.mp.len
 obtain ⟨yx, hy⟩ := X.mp.lay
 have hrow : ∀ j, j < mapsN m → seen S.R ks ρ (.int ((17 + j : Nat) : Int)) = some (rowOf S.R ks ρ j) ∧ GoodRow (rowOf S.R ks ρ j) := fun j hj => by
  obtain ⟨row, es, gr, _⟩ := X.mp.row (i := 16 * j) (by unfold mapsN at hj; omega)
  rw [show 16 * j / 16 = j by omega] at es
  have e : rowOf S.R ks ρ j = row := by unfold rowOf; rw [es]; rfl
  rw [e]; exact ⟨es, gr⟩
 refine ⟨_, rfl, y, a.cLayout, yx, _, _, rfl, hy, T.clLayout, T.n_nodes_at, rfl, _, rfl, y, a.cLayout, yx, _, _, rfl, hy, T.clLayout, T.n_maps_at, rfl, _, _, rfl, rfl, _, rfl, (by show -(2 ^ 62) ≤ nodesAt m - 17; omega), (by show nodesAt m - 17 < 2 ^ 62; omega), ?_⟩
 rw [show (nodesAt m - 17).toNat = mapsN m by omega]
 refine lc_vals (n := mapsN m) (by omega) (fun acc H' i v => ∃ r, v = .ref r ∧ r ≠ acc ∧ H' r = some (.lst ((rowOf S.R ks ρ i).map V.int))) ?_ ?_ ?_
 ·rintro acc H H' i v k ⟨r, e1, e2, e3⟩
  exact ⟨r, e1, e2, k _ _ e2 e3⟩
 ·intro acc i H1 Qf hi h0 s1 ha k
  have X1 := X.same s1
  obtain ⟨bx, hb⟩ := X1.mp.bat.ex
  obtain ⟨yx1, hy1⟩ := X1.mp.lay
  refine ⟨_, rfl, b, bx, _, rfl, hb, rfl, _, rfl, y, a.cLayout, yx1, _, _, rfl, hy1, T.clLayout, T.n_maps_at, rfl, _, rfl, _, _, rfl, rfl, ?_⟩
  dsimp (config := { proj := false, iota := false, eta := false, zeta := false }) only
  rw [show (17 : Int) + (0 + (i : Int)) = ((17 + i : Nat) : Int) by omega]
  exact ⟨b, d, kr, nr, S, ks, ρ, _, rfl, X1.mp.bat, X1.mp.dk, .int _, .inl ⟨_, (hrow i hi).1, fun p H2 np s2 hp => k _ _ s2 ⟨p, rfl, fun z => ha (by rw [← z]; exact np), hp⟩⟩⟩
 intro acc vs H1 h0 s1 hacc hl hg
 obtain ⟨rs, rfl, nm, hR⟩ := rows_of hl (rowOf S.R ks ρ) hg
 rw [List.length_map] at hl
 refine ⟨(by show 0 ≤ sizeLine; decide), fun wd nwd => ?_⟩
 have w1 := same_new nwd (.lst [])
 have hacc2 := w1 _ _ hacc
 refine ⟨_, rfl, acc, rfl, ⟨_, SqL.of hacc2⟩, for_list (xs := rs.map V.ref) (fun i σ' H' => (∃ o5 : Option V, σ' = [some (.ref b), some (.ref y), some (.ref fr), some (.ref acc), some (.ref wd), o5]) ∧ Same H1 H' ∧ H' wd = some (.lst ((((List.range i).map (rowOf S.R ks ρ)).flatten).map V.int))) ⟨⟨_, rfl⟩, w1, upd_same⟩ (fun i σ2 H2 _ ⟨_, s2, _⟩ => SqL.of (s2 _ _ hacc)) ?_ ?_⟩
 ·rintro i v σ2 HA hv ⟨⟨o5, rfl⟩, sA, hw⟩
  obtain ⟨hi, ev⟩ := List.getElem?_eq_some_iff.mp hv
  rw [List.length_map] at hi
  rw [List.getElem_map] at ev
  subst ev
  have er := hR.2 i rs[i] (rowOf S.R ks ρ i) (List.getElem?_eq_getElem hi) (by rw [List.getElem?_map, List.getElem?_range (by omega)]; rfl)
  have hfl := congrArg List.length (flat_rows (R := S.R) (ks := ks) (ρ := ρ) i fun j hj => (hrow j (by omega)).2.1)
  rw [List.length_map, List.length_range] at hfl
  refine ⟨_, rfl, .inl ⟨rfl, _, SqL.of hw⟩, _, rfl, wd, rs[i], _, _, rfl, rfl, hw, sA _ _ er, small (by rw [List.length_map, List.length_map, hfl, (hrow i (by omega)).2.1]; omega), ?_⟩
  refine ⟨⟨_, rfl⟩, chg_same sA ((Chg.of (Same.refl _) (S := [wd])).upd (by simp) _) (by simp [nwd]), ?_⟩
  rw [upd_same, List.range_succ, List.map_append (f := rowOf S.R ks ρ), List.flatten_append, List.map_append]
  simp
 ·rintro σ2 HA ⟨⟨o5, rfl⟩, sA, hw⟩
  rw [List.length_map, hl, flat_rows _ fun j hj => (hrow j hj).2.1] at hw
  have XA := X.same (s1.trans sA)
  refine ⟨_, rfl, _, rfl, wd, _, rfl, .inl (SqL.of hw), _, rfl, ?_⟩
  rw [List.length_map, List.length_map, List.length_range]
  refine ⟨by omega, by omega, ?_⟩
  rw [show ((16 * mapsN m : Nat) : Int).toNat = 16 * mapsN m by omega]
  refine lc_ints (n := 16 * mapsN m) (by omega) (mw S.R ks ρ) (fun i H2 Qf hi s2 k => ?_) fun acc2 H2 na2 s2 hacc2 => ?_
  ·obtain ⟨o, dg, eo⟩ := (XA.fa.same s2).get (0 + (i : Int))
   refine ⟨_, rfl, _, rfl, fr, _, rfl, dg, .inr ⟨_, rfl, ?_⟩⟩
   have e : (if (!o.isSome) = true then (1 : Int) else 0) = mw S.R ks ρ i := by
    rw [eo, X.map i hi, Int.zero_add]
    by_cases z : (i : Int) ∈ fs <;> simp [z]
   rw [e]
   exact k H2 (Same.refl _)
  refine ⟨.list (((List.range (16 * mapsN m)).map (mw S.R ks ρ)).map PyData.int), .list (((List.range (16 * mapsN m)).map (mw S.R ks ρ)).map PyData.int), .lst (SqL.of (s2 _ _ hw)) (dvs_ints _), .lst (SqL.of hacc2) (dvs_ints _), PySem.W.ke_shaped_ints _, PySem.W.ke_shaped_ints _, ?_⟩
  rw [eqv_ints]
  have := q H2 ((s1.trans sA).trans s2)
  simpa using this
end
end K9
end
section
set_option Elab.async false
set_option linter.all false
set_option maxRecDepth 100000
set_option maxHeartbeats 4000000
namespace K9
open PySem L2 BK
section
variable {P : Program} {w : World} {K : PySem.W.Frag} {mg : Str → Option Value} {base : Heap} {f : Addr} {fd : FuncData} {a : Ad}
def spDeed (K : PySem.W.Frag) (a : Ad) : Sp := fun vs H Q _ => ∃ (b d kr nr y fr : Addr) (S : DS) (ks : List Int) (ρ : Int → List Int) (m t : Int) (fs : List Int) (c : Int), vs = [.ref b, .ref y, .ref fr, .int c] ∧ Wh a H b d kr nr y fr S ks ρ m t fs ∧
 ∀ ks' ρ' fs' H', Chg [nr, fr] H H' → Wh a H' b d kr nr y fr S ks' ρ' m t fs' → Q (.bl true) H'
theorem old_read {H : Hp} {b d kr nr y fr : Addr} {S : DS} {ks : List Int} {ρ : Int → List Int} {m t : Int} {fs : List Int} (T : Txt K mg a) (X : Wh a H b d kr nr y fr S ks ρ m t fs) {i : Nat} (h1 : dataAt m t ≤ (i : Int)) (h2 : (i : Int) < m) {σ : L2.St} {Q : VK} (jb : Nat) {E : XK} (eb : σ[0]? = some (some (.ref b))) (ej : σ[jb]? = some (some (.int i))) (q : ∀ H', Same H H' → Q (.bl true) H') :
  tOp (rEqD K false) (tMeth a.cBatch "read" (spBRead K a) [] E (tVar 0) (tCons (tVar jb) tNil)) (tOp rRep (tLst (tCons (tVar jb) tNil)) (tC (.int 16))) σ H Q := by
 obtain ⟨bx, hb⟩ := X.mp.bat.ex
 refine ⟨_, eb, b, bx, _, rfl, hb, rfl, _, ej, b, d, kr, nr, S, ks, ρ, _, rfl, X.mp.bat, X.mp.dk, .int _, .inl ⟨_, X.old i h1 h2, fun p H1 np s1 hp => ?_⟩⟩
 refine ⟨_, ej, (by show 1 ≤ sizeLine; decide), fun l1 m1 => ⟨l1, 16, [.int i], rfl, rfl, upd_same, by decide, by decide, (by show 1 * 16 ≤ sizeLine; decide), fun l2 m2 => ?_⟩⟩
 rw [show (16 : Int).toNat = 16 from rfl, flat_one]
 have u2 := (same_new m1 (.lst [.int i])).trans (same_new m2 (.lst ((List.replicate 16 (i : Int)).map V.int)))
 refine ⟨.list ((List.replicate 16 (i : Int)).map PyData.int), .list ((List.replicate 16 (i : Int)).map PyData.int), .lst (SqL.of (u2 _ _ hp)) (dvs_ints _), .lst (SqL.of upd_same) (dvs_ints _), PySem.W.ke_shaped_ints _, PySem.W.ke_shaped_ints _, ?_⟩
 rw [eqv_ints]
 have := q _ (s1.trans u2)
 simpa using this
theorem ok__law_deed (F : Fun K "_law_deed" "_law_deed" s__law_deed f fd) (T : Txt K mg a) (D__law_drawn : Df P w K mg base (CXE P w) 1 "_law_drawn" ["_law_layout", "_law_free", "_law_cell"] (spDrawn K a)) (D_take : Df P w K mg base (CXE P w) 7 "take" ["batch", "layout"] (spTake K a)) (D__law_whole : Df P w K mg base CX0 1 "_law_whole" ["_law_found"] (spWholeL K a)) (D__law_refused : Df P w K mg base (CXE P w) 8 "_law_refused" ["_law_batch", "_law_layout", "_law_way", "_law_block"] (spRefused K a)) (D_give : Df P w K mg base (CXE P w) 7 "give" ["batch", "layout", "block"] (spGive K a)) (M_Batch_read : Mf P w K mg base (CXE P w) 4 a.f_Batch_read ["self", "block"] (spBRead K a)) : FnOk P w K mg base (CXE P w) 9 f fd ["_law_batch", "_law_layout", "_law_free", "_law_cell"] (spDeed K a) := by
 obtain ⟨_, _, Gl_drawn, bl_drawn, kl_drawn, ml_drawn⟩ := D__law_drawn
 obtain ⟨_, _, Gtake, btake, ktake, mtake⟩ := D_take
 obtain ⟨_, _, Gl_whole, bl_whole, kl_whole, ml_whole⟩ := D__law_whole
 obtain ⟨_, _, Gl_refused, bl_refused, kl_refused, ml_refused⟩ := D__law_refused
 obtain ⟨_, _, Ggive, bgive, kgive, mgive⟩ := D_give
 obtain ⟨_, G_Batch_read, b_Batch_read⟩ := M_Batch_read
 have nd := sc__law_deed.nd
 refine F.okE sc__law_deed (fun vs H Q E h => ?_) (fun cdv A outer s H vs Q E hr hA h => ?_)
 ·obtain ⟨b, d, kr, nr, y, fr, S, ks, ρ, m, t, fs, c, rfl, _⟩ := h
  rfl
 obtain ⟨b, d, kr, nr, y, fr, S, ks, ρ, m, t, fs, c, rfl, X, q⟩ := h
 refine ⟨_, (pss_cons (ps_if (pt_cmpR op_lt (pe_op op_mod (pv 3) pe_int) pe_int (nomark _)) (pss_cons (ps_if (pt_cmpR (op_eqD0 (Nat.lt_of_le_of_lt (Nat.le_add_right _ _) hr.units)) (pv 2) pe_dict0 (nomark _)) (pss_one (ps_ret (pe_cmpR op_eq (pe_call Gl_refused (hr.mono (by decide)) rfl ml_refused kl_refused bl_refused .nil (passes_fn (fun _ _ _ h => h)) (pa_cons (pv 0) (pa_cons (pv 1) (pa_cons pe_int (pa_cons pe_non pa_nil)))) (hcm := (.inr hA))) pe_str (nomark _)))) pss_nil)
  (pss_cons (ps_set (i := 4) nd rfl (by first | exact Or.inl rfl | exact Or.inr rfl) (pe_call Gtake (hr.mono (by decide)) rfl mtake ktake btake .nil (passes_fn (fun _ _ _ h => h)) (pa_cons (pv 0) (pa_cons (pv 1) pa_nil)) (hcm := (.inr hA))))
  (pss_cons (ps_set (i := 5) nd rfl (by first | exact Or.inl rfl | exact Or.inr rfl) (pe_callB (call_minL hA) rfl T.min bt_min (pa_cons (pe_callTy (call_listD hA) rfl T.list bt_list (pa_cons (pv 2) pa_nil)) pa_nil)))
  (pss_cons (ps_expr (pe_dpop1 (pv 2) (pv 5) ⟨rfl, rfl, rfl, rfl⟩))
  (pss_one (ps_ret (pe_and (pe_call Gl_whole (hr.mono (by decide)) rfl ml_whole kl_whole bl_whole .nil pass0 (pa_cons (pv 4) pa_nil)) (pe_and (pe_cmpR op_eq (pv 4) (pv 5) (nomark _)) (pe_one (pe_cmpR (op_eqD hr.units) (pe_meth (pv 0) T.clBatch T.m_Batch_read G_Batch_read (hr.mono (by decide)) b_Batch_read .nil (passes_fn (fun _ _ _ h => h)) (pa_cons (pv 4) pa_nil) (hcm := (.inr hA))) (pe_op op_rep (pe_lst (pa_cons (pv 4) pa_nil)) pe_int) (nomark _))))))))))) pss_nil)
  (pss_cons (ps_set (i := 4) nd rfl (by first | exact Or.inl rfl | exact Or.inr rfl) (pe_call Gl_drawn (hr.mono (by decide)) rfl ml_drawn kl_drawn bl_drawn .nil (passes_fn (fun _ _ _ h => h)) (pa_cons (pv 1) (pa_cons (pv 2) (pa_cons (pe_op op_fdiv (pv 3) pe_int) pa_nil))) (hcm := (.inr hA))))
  (pss_cons (ps_set (i := 6) nd rfl (by first | exact Or.inl rfl | exact Or.inr rfl) (pe_and (pe_call Gl_whole (hr.mono (by decide)) rfl ml_whole kl_whole bl_whole .nil pass0 (pa_cons (pv 4) pa_nil)) (pe_and (pe_chain op_le op_lt (pe_fld (pv 1) rfl) (pv 4) (pe_fld (pv 1) rfl)) (pe_one (pe_cmp (pc_dnotin (hu_of hr) (pv 4) (pv 2)))))))
  (pss_cons (ps_if (pt_not (pt_val (pv 6))) (pss_one (ps_ret (pe_cmpR op_eq (pe_call Gl_refused (hr.mono (by decide)) rfl ml_refused kl_refused bl_refused .nil (passes_fn (fun _ _ _ h => h)) (pa_cons (pv 0) (pa_cons (pv 1) (pa_cons pe_int (pa_cons (pv 4) pa_nil)))) (hcm := (.inr hA))) pe_str (nomark _)))) pss_nil)
  (pss_cons (ps_dput (hu_of hr) (pv 2) (pv 4) pe_bl rfl)
  (pss_one (ps_ret (pe_and (pe_cmpR op_isN (pe_call Ggive (hr.mono (by decide)) rfl mgive kgive bgive .nil (passes_fn (fun _ _ _ h => h)) (pa_cons (pv 0) (pa_cons (pv 1) (pa_cons (pv 4) pa_nil))) (hcm := (.inr hA))) pe_non (nomark _)) (pe_one (pe_cmpR (op_eqD hr.units) (pe_meth (pv 0) T.clBatch T.m_Batch_read G_Batch_read (hr.mono (by decide)) b_Batch_read .nil (passes_fn (fun _ _ _ h => h)) (pa_cons (pv 4) pa_nil) (hcm := (.inr hA))) (pe_op op_rep (pe_lst (pa_cons (pv 4) pa_nil)) pe_int) (nomark _))))))))))), ?_⟩
 have few := X.few
 have fewF := X.fewF
 have hm := m_le X.mp.good
 obtain ⟨kvn, en⟩ := X.no
 refine ⟨_, rfl, _, _, rfl, rfl, (by show (0 : Int) < 8; decide), _, _, rfl, rfl, _, rfl, ?_⟩
 by_cases h4 : c % 8 < 4
 ·refine iteT' (decide_eq_true h4) ?_
  obtain ⟨kvs, ek, kk⟩ := X.fa.ex
  refine ⟨_, rfl, fun e0 ne0 => ?_⟩
  have s0 := same_new ne0 (.dK [])
  refine ⟨fr, e0, kvs, rfl, rfl, s0 _ _ ek, upd_same, _, rfl, ?_⟩
  have X0 := X.same s0
  generalize upd H e0 (.dK []) = H0 at s0 X0 ⊢
  have hlen : kvs.length = fs.length := by have := congrArg List.length kk; simpa using this
  by_cases hf : fs = []
  ·refine iteT' (by rw [List.isEmpty_iff, ← List.length_eq_zero_iff, hlen, hf]; rfl) ?_
   have hfl : freeL S.R ks ρ m.toNat = [] := by
    cases e : freeL S.R ks ρ m.toNat with
    | nil => rfl
    | cons i l =>
     have := (X.mem i).mp (by rw [e]; simp)
     rw [hf] at this; cases this
   refine ⟨_, rfl, _, rfl, b, d, kr, nr, y, S, ks, ρ, m, t, 0, .non, 1, rfl, X0.mp, .non, by omega, .inl ⟨rfl, rfl, hfl⟩, fun H1 s1 => ⟨rfl, ?_⟩⟩
   have := q ks ρ fs H1 (Chg.of (s0.trans s1)) (X0.same s1)
   simpa [kword] using this
  ·refine iteF' (by
    cases kvs with
    | nil => exact absurd (List.length_eq_zero_iff.mp hlen.symm) hf
    | cons => rfl) ?_
   obtain ⟨i, l, hfl⟩ : ∃ i l, freeL S.R ks ρ m.toNat = i :: l := by
    cases e : freeL S.R ks ρ m.toNat with
    | nil =>
     obtain ⟨z, r, ez⟩ := List.exists_cons_of_ne_nil hf
     have h1 := X.inn z (by rw [ez]; simp)
     have := (X.mem z.toNat).mpr (by rw [show ((z.toNat : Nat) : Int) = z by omega, ez]; simp)
     rw [e] at this; cases this
    | cons i l => exact ⟨i, l, rfl⟩
   have hi : (i : Int) ∈ fs := (X.mem i).mp (by rw [hfl]; simp)
   have hmin : ∀ z ∈ fs, (i : Int) ≤ z := fun z hz => by
    have h1 := X.inn z hz
    have hz' := (X.mem z.toNat).mpr (by rw [show ((z.toNat : Nat) : Int) = z by omega]; exact hz)
    have pw : (freeL S.R ks ρ m.toNat).Pairwise (· < ·) := by rw [X.free]; exact List.pairwise_lt_range.filter _
    rw [hfl] at hz' pw
    rcases List.mem_cons.mp hz' with e | e
    ·omega
    ·have := (List.pairwise_cons.mp pw).1 _ e; omega
   obtain ⟨i1, i2⟩ := X.inn _ hi
   refine ⟨_, rfl, _, rfl, b, d, kr, nr, y, S, ks, ρ, m, t, rfl, X0.mp, by omega, .inr ⟨i, l, hfl, fun H2 c2 X2 of2 => ?_⟩⟩
   have F2 := X0.fa.chg c2 (by simp only [List.mem_singleton]; exact X.ne)
   obtain ⟨kv2, ek2, kk2⟩ := F2.ex
   refine ⟨_, rfl, fr, kv2, fs, rfl, ek2, kk2, fun l1 m1 => ⟨l1, fs, (i : Int), rfl, SqL.of upd_same, hi, hmin, ?_⟩⟩
   have s3 := same_new m1 (.lst (fs.map V.int))
   have F3 := F2.same s3
   have M3 := X2.same s3
   generalize upd H2 l1 (.lst (fs.map V.int)) = H3 at s3 F3 M3 ⊢
   obtain ⟨kv3, v3, ek3, hv3, F4⟩ := F3.pop hi
   refine ⟨_, rfl, fr, rfl, F3.isD, _, rfl, kv3, .inl (i : Int), v3, ek3, rfl, hv3, ?_⟩
   have c4 : Chg [fr] H3 (upd H3 fr (.dK (dropK kv3 (.inl (i : Int))))) := (Chg.of (Same.refl _)).upd (by simp) _
   have M4 := M3.chgF F3 X.ne c4
   generalize upd H3 fr (.dK (dropK kv3 (.inl (i : Int)))) = H4 at c4 M4 F4 ⊢
   have X4 := X.set (fs' := fs.filter fun x => decide (x ≠ (i : Int))) i1 i2 (.inr rfl) M4 F4 fun z => by
    rw [List.mem_filter, decide_eq_true_eq]
    by_cases e : z = (i : Int)
    ·rw [if_pos e]; exact ⟨fun h => absurd e h.2, fun h => by omega⟩
    ·rw [if_neg e]; exact ⟨fun h => h.1, fun h => ⟨h, e⟩⟩
   have c5 : Chg [nr, fr] H H4 := ((Chg.of s0).trans (c2.mono (by simp))).trans ((Chg.of s3).trans (c4.mono (by simp)))
   refine ⟨_, rfl, _, rfl, .int _, _, rfl, iteT ⟨_, rfl, _, rfl, rfl, _, rfl, iteT' (by simp) ?_⟩⟩
   exact old_read T X4 i1 i2 4 rfl rfl fun H5 s5 => q _ _ _ H5 (c5.trans (Chg.of s5)) (X4.same s5)
 refine iteF' (decide_eq_false h4) ?_
 refine ⟨_, rfl, _, rfl, _, rfl, _, _, rfl, rfl, ⟨by decide, by decide⟩, y, fr, _, m, t, fs, rfl, X.mp.lay, X.mp.good, X.fa, fun v H1 s1 kd => ?_⟩
 have X1 := X.same s1
 obtain ⟨yx, hy⟩ := X1.mp.lay
 generalize hTL : tSeq (tIfS (tNot (tB (tVar 6))) _ _) _ = TL
 have bad : ∀ (o5 : Option V), (wholeV v (dataAt m t) (m - 1) = false ∨ ∃ i : Nat, v = .int i ∧ dataAt m t ≤ (i : Int) ∧ (i : Int) < m ∧ mw S.R ks ρ i = 0) → TL { nx := fun _ H' => Q .non H', rt := Q } [some (.ref b), some (.ref y), some (.ref fr), some (.int c), some v, o5, some (.bl false)] H1 := by
  intro o5 hw
  rw [← hTL]
  refine ⟨_, rfl, _, rfl, iteT' (by rfl) ⟨_, rfl, _, rfl, _, rfl, b, d, kr, nr, y, S, ks, ρ, m, t, 1, v, 0, rfl, X1.mp, kd, by omega, .inr (.inl ⟨rfl, rfl, hw⟩), fun H2 s2 => ⟨rfl, ?_⟩⟩⟩
  have := q ks ρ fs H2 (Chg.of (s1.trans s2)) (X1.same s2)
  simpa [kword] using this
 refine ⟨_, rfl, v, rfl, kd, _, rfl, ?_⟩
 cases v with
 | int i =>
  refine iteT' (by rfl) ⟨_, rfl, y, a.cLayout, yx, _, _, rfl, hy, T.clLayout, T.n_data_at, rfl, _, rfl, _, _, rfl, rfl, _, rfl, ?_⟩
  by_cases h0 : dataAt m t ≤ i
  case neg =>
   refine iteF' (decide_eq_false h0) ⟨_, rfl, iteF' (by rfl) (bad _ (.inl ?_))⟩
   show (decide (dataAt m t ≤ i) && decide (i ≤ m - 1)) = false
   rw [decide_eq_false h0, Bool.false_and]
  refine iteT' (decide_eq_true h0) ⟨_, rfl, y, a.cLayout, yx, _, _, rfl, hy, T.clLayout, T.n_many, rfl, _, _, rfl, rfl, _, rfl, ?_⟩
  by_cases h1 : i < m
  case neg =>
   refine iteF' (decide_eq_false h1) (bad _ (.inl ?_))
   show (decide (dataAt m t ≤ i) && decide (i ≤ m - 1)) = false
   rw [decide_eq_false (show ¬ i ≤ m - 1 by omega), Bool.and_false]
  refine iteT' (decide_eq_true h1) ?_
  obtain ⟨n, rfl⟩ : ∃ n : Nat, i = (n : Int) := ⟨i.toNat, by omega⟩
  obtain ⟨o, dg, eo⟩ := X1.fa.get (n : Int)
  refine ⟨_, rfl, _, rfl, fr, _, rfl, dg, ?_⟩
  rw [eo]
  have hmn := X.map n (by omega)
  by_cases hn : (n : Int) ∈ fs
  ·rw [decide_eq_true hn]
   rw [if_pos hn] at hmn
   exact bad _ (.inr ⟨n, rfl, h0, h1, hmn⟩)
  ·rw [decide_eq_false hn]
   rw [if_neg hn] at hmn
   rw [← hTL]
   refine ⟨_, rfl, _, rfl, iteF' (by rfl) ?_⟩
   obtain ⟨H2, dp, c2, F2⟩ := X1.fa.put (n : Int) (by omega) (.bl true)
   have M2 := X1.mp.chgF X1.fa X.ne c2
   refine ⟨_, rfl, _, rfl, fr, H2, rfl, dp, ?_⟩
   refine ⟨_, rfl, _, rfl, _, rfl, b, d, kr, nr, y, S, ks, ρ, m, t, _, rfl, M2, .int _, by omega, .inr ⟨n, rfl, h0, h1, .inr ⟨by rw [hmn]; decide, fun H3 c3 M3 of3 => ?_⟩⟩⟩
   have F3 := F2.chg c3 (by simp only [List.mem_singleton]; exact X.ne)
   have X3 := X.set (fs' := insK fs (n : Int)) h0 h1 (.inl rfl) M3 F3 fun z => by
    rw [insK_mem]
    by_cases e : z = (n : Int)
    ·rw [if_pos e]; exact ⟨fun _ => rfl, fun _ => .inr e⟩
    ·rw [if_neg e]; exact ⟨fun h => h.resolve_right e, .inl⟩
   have c5 : Chg [nr, fr] H H3 := ((Chg.of s1).trans (c2.mono (by simp))).trans (c3.mono (by simp))
   refine ⟨rfl, _, rfl, iteT' (by simp) ?_⟩
   exact old_read T X3 h0 h1 4 rfl rfl fun H5 s5 => q _ _ _ H5 (c5.trans (Chg.of s5)) (X3.same s5)
 | _ => exact iteF' (by rfl) (bad _ (.inl rfl))
def spWritten (K : PySem.W.Frag) (a : Ad) : Sp := fun vs H Q _ => ∃ (b d kr nr y fr : Addr) (S : DS) (ks : List Int) (ρ : Int → List Int) (m t : Int) (fs : List Int) (c : Int), vs = [.ref b, .ref y, .ref fr, .int c] ∧ Wh a H b d kr nr y fr S ks ρ m t fs ∧
 ∀ ks' ρ' fs' H', Chg [nr, fr] H H' → Wh a H' b d kr nr y fr S ks' ρ' m t fs' → Q .non H'
theorem ok__law_written (F : Fun K "_law_written" "_law_written" s__law_written f fd) (T : Txt K mg a) (M_Batch_read : Mf P w K mg base (CXE P w) 4 a.f_Batch_read ["self", "block"] (spBRead K a)) (M_Batch_write : Mf P w K mg base (CXE P w) 5 a.f_Batch_write ["self", "block", "row"] (spBWrite K a)) : FnOk P w K mg base (CXE P w) 6 f fd ["_law_batch", "_law_layout", "_law_free", "_law_cell"] (spWritten K a) := by
 obtain ⟨_, G_Batch_read, b_Batch_read⟩ := M_Batch_read
 obtain ⟨_, G_Batch_write, b_Batch_write⟩ := M_Batch_write
 have nd := sc__law_written.nd
 refine F.okE sc__law_written (fun vs H Q E h => ?_) (fun cdv A outer s H vs Q E hr hA h => ?_)
 ·obtain ⟨b, d, kr, nr, y, fr, S, ks, ρ, m, t, fs, c, rfl, _⟩ := h
  rfl
 obtain ⟨b, d, kr, nr, y, fr, S, ks, ρ, m, t, fs, c, rfl, X, q⟩ := h
 refine ⟨_, (pss_cons (ps_set (i := 4) nd rfl (by first | exact Or.inl rfl | exact Or.inr rfl) (pe_op op_add (pe_fld (pv 1) rfl) (pe_op op_mod (pv 3) (pe_op op_sub (pe_fld (pv 1) rfl) (pe_fld (pv 1) rfl)))))
  (pss_cons (ps_set (i := 5) nd rfl (by first | exact Or.inl rfl | exact Or.inr rfl) (pe_meth (pv 0) T.clBatch T.m_Batch_read G_Batch_read (hr.mono (by decide)) b_Batch_read .nil (passes_fn (fun _ _ _ h => h)) (pa_cons (pe_op op_add (pe_fld (pv 1) rfl) (pe_op op_fdiv (pv 4) pe_int)) pa_nil) (hcm := (.inr hA))))
  (pss_cons (ps_asg (pe_callTy call_int1 rfl T.int bt_int (pa_cons (pe_cmp (pc_din (hu_of hr) (pv 4) (pv 2))) pa_nil)) (pg_sub (pv 5) (pe_op op_mod (pv 4) pe_int) set_list))
  (pss_cons (ps_expr (pe_meth (pv 0) T.clBatch T.m_Batch_write G_Batch_write (hr.mono (by decide)) b_Batch_write .nil (passes_fn (fun _ _ _ h => h)) (pa_cons (pe_op op_add (pe_fld (pv 1) rfl) (pe_op op_fdiv (pv 4) pe_int)) (pa_cons (pv 5) pa_nil)) (hcm := (.inr hA))))
  (pss_one (ps_if (pt_cmp (pc_din (hu_of hr) (pv 4) (pv 2))) (pss_one (ps_expr (pe_dpop1 (pv 2) (pv 4) ⟨rfl, rfl, rfl, rfl⟩))) (pss_one (ps_dput (hu_of hr) (pv 2) (pv 4) pe_bl rfl)))))))), ?_⟩
 have few := X.few
 have fewF := X.fewF
 have hm := m_le X.mp.good
 obtain ⟨g1, g2, g3, g4, g5⟩ := X.mp.good
 obtain ⟨yx, hy⟩ := X.mp.lay
 obtain ⟨bx, hb⟩ := X.mp.bat.ex
 refine ⟨_, rfl, y, a.cLayout, yx, _, _, rfl, hy, T.clLayout, T.n_data_at, rfl, _, rfl, _, rfl, y, a.cLayout, yx, _, _, rfl, hy, T.clLayout, T.n_many, rfl, _, rfl, y, a.cLayout, yx, _, _, rfl, hy, T.clLayout, T.n_data_at, rfl, _, _, rfl, rfl, _, _, rfl, rfl, (by show (0 : Int) < m - dataAt m t; omega), _, _, rfl, rfl, ?_⟩
 have b1 := Int.emod_nonneg c (show m - dataAt m t ≠ 0 by omega)
 have b2 := Int.emod_lt_of_pos c (show 0 < m - dataAt m t by omega)
 obtain ⟨n, en⟩ : ∃ n : Nat, dataAt m t + c % (m - dataAt m t) = (n : Int) := ⟨(dataAt m t + c % (m - dataAt m t)).toNat, by omega⟩
 dsimp (config := { proj := false, iota := false, eta := false, zeta := false }) only
 rw [en]
 have h1 : dataAt m t ≤ (n : Int) := by omega
 have h2 : (n : Int) < m := by omega
 clear b1 b2 en
 obtain ⟨row, es, gr, hg, hlt⟩ := X.mp.row h2
 refine ⟨_, rfl, b, bx, _, rfl, hb, rfl, _, rfl, y, a.cLayout, yx, _, _, rfl, hy, T.clLayout, T.n_maps_at, rfl, _, rfl, _, _, rfl, rfl, ⟨by decide, by decide⟩, _, _, rfl, rfl, ?_⟩
 dsimp (config := { proj := false, iota := false, eta := false, zeta := false }) only
 rw [show (17 : Int) + (n : Int) / 16 = ((17 + n / 16 : Nat) : Int) by omega]
 refine ⟨b, d, kr, nr, S, ks, ρ, _, rfl, X.mp.bat, X.mp.dk, .int _, .inl ⟨row, es, fun p H1 np s1 hp => ?_⟩⟩
 have X1 := X.same s1
 obtain ⟨o, dg, eo⟩ := X1.fa.get (n : Int)
 refine ⟨_, rfl, _, rfl, fr, _, rfl, dg, .inr ⟨_, rfl, _, rfl, _, rfl, _, _, rfl, rfl, (by show (0 : Int) < 16; decide), p, _, _, n % 16, rfl, rfl, hp, ?_, ?_⟩⟩
 ·rw [List.length_map, gr.1]
  show ixN 16 ((n : Int) % 16) = some (n % 16)
  rw [show (n : Int) % 16 = ((n % 16 : Nat) : Int) by omega]
  unfold ixN; rw [if_pos (by omega), if_pos (by omega)]; congr 1
 rw [eo]
 generalize hx : (if decide ((n : Int) ∈ fs) = true then (1 : Int) else 0) = x
 have hx' : x = 0 ∨ x = 1 := by rw [← hx]; split <;> simp
 have s2 : Same H (upd H1 p (.lst ((row.map V.int).set (n % 16) (.int x)))) := chg_same s1 ((Chg.of (Same.refl _) (S := [p])).upd (by simp) _) (by simp [np])
 have hp2 := upd_same (H := H1) (a := p) (o := .lst ((row.map V.int).set (n % 16) (.int x)))
 rw [show (row.map V.int).set (n % 16) (.int x) = (row.set (n % 16) x).map V.int by rw [List.map_set]] at hp2 s2 ⊢
 have gs : GoodRow (row.set (n % 16) x) := ⟨by rw [List.length_set]; exact gr.1, fun z hz => by
  rcases List.mem_or_eq_of_mem_set hz with e | e
  ·exact gr.2 z e
  ·subst e; omega⟩
 have X2 := X.same s2
 generalize upd H1 p (.lst ((row.set (n % 16) x).map V.int)) = H2 at s2 hp2 X2 ⊢
 obtain ⟨yx2, hy2⟩ := X2.mp.lay
 obtain ⟨bx2, hb2⟩ := X2.mp.bat.ex
 refine ⟨_, rfl, b, bx2, _, rfl, hb2, rfl, _, rfl, y, a.cLayout, yx2, _, _, rfl, hy2, T.clLayout, T.n_maps_at, rfl, _, rfl, _, _, rfl, rfl, ⟨by decide, by decide⟩, _, _, rfl, rfl, _, rfl, ?_⟩
 dsimp (config := { proj := false, iota := false, eta := false, zeta := false }) only
 rw [show (17 : Int) + (n : Int) / 16 = ((17 + n / 16 : Nat) : Int) by omega]
 refine ⟨b, d, kr, nr, S, ks, ρ, _, _, true, rfl, X2.mp.bat, X2.mp.dk, .int _, rowA_good hp2 gs, by omega, .inr (.inr ⟨((17 + n / 16 : Nat) : Int), p, _, rfl, by omega, by omega, rfl, hp2, gs, fun H3 c3 B3 D3 of3 => ?_⟩)⟩
 have eρ : setM S.R ks ρ n x = fun j => if j = ((17 + n / 16 : Nat) : Int) then row.set (n % 16) x else ρ j := by
  unfold setM; rw [es]; rfl
 rw [← eρ] at B3
 have ll := insK_len (ks := ks) (k := ((17 + n / 16 : Nat) : Int))
 obtain ⟨kvn, ekn⟩ := X2.no
 have M3 : Mp a H3 b d kr nr y S (insK ks ((17 + n / 16 : Nat) : Int)) (setM S.R ks ρ n x) m t := ⟨B3, D3, X2.mp.lay.chg c3 (by simp only [List.mem_singleton]; exact ne_of hy2 ekn (fun z => by cases z)), X.mp.good, X.mp.len, by omega⟩
 have F3 := X2.fa.chg c3 (by simp only [List.mem_singleton]; exact X.ne)
 obtain ⟨o3, dg3, eo3⟩ := F3.get (n : Int)
 have cA : Chg [nr, fr] H H3 := (Chg.of s2).trans (c3.mono (by simp))
 refine ⟨_, rfl, _, rfl, fr, _, rfl, dg3, _, rfl, ?_⟩
 rw [eo3]
 by_cases hn : (n : Int) ∈ fs
 ·refine iteT' (decide_eq_true hn) ?_
  rw [decide_eq_true hn] at hx
  obtain ⟨kv3, v3, ek3, hv3, F4⟩ := F3.pop hn
  refine ⟨_, rfl, fr, rfl, F3.isD, _, rfl, kv3, .inl (n : Int), v3, ek3, rfl, hv3, ?_⟩
  have c4 : Chg [fr] H3 (upd H3 fr (.dK (dropK kv3 (.inl (n : Int))))) := (Chg.of (Same.refl _)).upd (by simp) _
  have M4 := M3.chgF F3 X.ne c4
  refine q _ _ _ _ (cA.trans (c4.mono (by simp))) (X.set h1 h2 hx' M4 F4 fun z => ?_)
  rw [List.mem_filter, decide_eq_true_eq]
  have hx1 : x = 1 := by rw [← hx]; rfl
  by_cases e : z = (n : Int)
  ·rw [if_pos e]; exact ⟨fun h => absurd e h.2, fun h => by omega⟩
  ·rw [if_neg e]; exact ⟨fun h => h.1, fun h => ⟨h, e⟩⟩
 ·refine iteF' (decide_eq_false hn) ?_
  rw [decide_eq_false hn] at hx
  obtain ⟨H4, dp, c4, F4⟩ := F3.put (n : Int) (by omega) (.bl true)
  have M4 := M3.chgF F3 X.ne c4
  refine ⟨_, rfl, _, rfl, fr, H4, rfl, dp, ?_⟩
  refine q _ _ _ _ (cA.trans (c4.mono (by simp))) (X.set h1 h2 hx' M4 F4 fun z => ?_)
  have hx0 : x = 0 := by rw [← hx]; rfl
  rw [insK_mem]
  by_cases e : z = (n : Int)
  ·rw [if_pos e]; exact ⟨fun _ => hx0, fun _ => .inr e⟩
  ·rw [if_neg e]; exact ⟨fun h => h.resolve_right e, .inl⟩
end
end K9
end
section
set_option Elab.async false
set_option linter.all false
set_option maxRecDepth 100000
set_option maxHeartbeats 4000000
namespace K9
open PySem L2 BK
section
variable {P : Program} {w : World} {K : PySem.W.Frag} {mg : Str → Option Value} {base : Heap} {f : Addr} {fd : FuncData} {a : Ad}
theorem foldl_off {i : Nat} : ∀ (W : List (Nat × List Int)), (∀ x ∈ W, x.1 ≠ i) → ∀ R : List (List Int), (W.foldl (fun R x => R.set x.1 x.2) R)[i]? = R[i]?
 | [], _, _ => rfl
 | x :: W, h, R => by
  rw [List.foldl_cons, foldl_off W (fun y hy => h y (by simp [hy])), List.getElem?_set_ne (h x (by simp))]
theorem foldl_keys {ρ : Int → List Int} {i : Nat} : ∀ (ns : List Int), ns.Pairwise (· < ·) → (∀ k ∈ ns, 0 ≤ k) → ∀ R : List (List Int), i < R.length → ((byKeys ns ρ).foldl (fun R x => R.set x.1 x.2) R)[i]? = if (i : Int) ∈ ns then some (ρ i) else R[i]?
 | [], _, _, R, _ => by simp [byKeys]
 | k :: ns, hp, h0, R, hi => by
  obtain ⟨p1, p2⟩ := List.pairwise_cons.mp hp
  have hk := h0 k (by simp)
  show ((byKeys ns ρ).foldl (fun R x => R.set x.1 x.2) (R.set k.toNat (ρ k)))[i]? = _
  rw [foldl_keys ns p2 (fun j hj => h0 j (by simp [hj])) _ (by rw [List.length_set]; exact hi)]
  by_cases e : (i : Int) = k
  ·have e' : k.toNat = i := by omega
   rw [if_neg (fun z => by have := p1 _ z; omega), if_pos (by simp [e]), e', List.getElem?_set_self hi, e]
  ·have e' : k.toNat ≠ i := by omega
   rw [List.getElem?_set_ne e']
   by_cases hm : (i : Int) ∈ ns
   ·rw [if_pos hm, if_pos (by simp [hm])]
   ·rw [if_neg hm, if_neg (by simp [hm, e])]
def afterR (R : List (List Int)) (ns : List Int) (ρ : Int → List Int) : List (List Int) := (allOf (byKeys ns ρ)).foldl (fun R x => R.set x.1 x.2) R
section
variable {R : List (List Int)} {ns : List Int} {ρ : Int → List Int}
theorem log_low {G : List (Nat × List Int)} (hl : G.length ≤ 15) : ∀ x ∈ logOf G, 1 ≤ x.1 ∧ x.1 < 17 := fun x hx => by
 unfold logOf at hx
 rcases List.mem_append.mp hx with z | z
 ·unfold rowsOf at z
  obtain ⟨j, hj, rfl⟩ := List.mem_map.mp z
  rw [List.mem_range] at hj
  exact ⟨by show 1 ≤ 2 + j; omega, by show 2 + j < 17; omega⟩
 ·rw [List.mem_singleton.mp z]; exact ⟨Nat.le_refl 1, by show 1 < 17; decide⟩
theorem after_hi (hl : ns.length ≤ 15) (pw : ns.Pairwise (· < ·)) (h0 : ∀ k ∈ ns, 0 ≤ k) {i : Nat} (hi : i < R.length) (h17 : 17 ≤ i) : (afterR R ns ρ)[i]? = some (if (i : Int) ∈ ns then ρ i else R[i]) := by
 have lb : (byKeys ns ρ).length ≤ 15 := by unfold byKeys; simpa using hl
 unfold afterR allOf
 split
 ·rename_i e
  have : ns = [] := by unfold byKeys at e; simpa using e
  subst this
  simp [List.getElem?_eq_getElem hi]
 ·rw [List.foldl_append, List.foldl_append, foldl_off [(1, zeros)] (fun x hx => by rw [List.mem_singleton.mp hx]; show 1 ≠ i; omega), foldl_keys ns pw h0 _ (by rw [foldl_len]; exact hi), foldl_off _ (fun x hx => by have := log_low lb x hx; omega)]
  split
  ·rfl
  ·exact List.getElem?_eq_getElem hi
end
def spLaw (K : PySem.W.Frag) : Sp := fun vs H Q _ => ∃ (p : Addr) (ns : List Int), vs = [.ref p] ∧ SqL K H p (ns.map V.int) ∧ ns.length ≤ 63 ∧ ∀ H', Q (.bl true) H'
abbrev spLawA (K : PySem.W.Frag) (_ : Ad) : Sp := spLaw K
section
variable {H H' : Hp} {b d kr nr y fr : Addr} {S : DS} {ks : List Int} {ρ : Int → List Int} {m t : Int} {fs : List Int}
theorem seen_after (hl : S.l = none) (nd : ks.Nodup) (inn : ∀ k ∈ ks, 17 ≤ k) (few : ks.length ≤ 15) {ns : List Int} (so : Sorted ks ns) {ρ' : Int → List Int} {i : Nat} (h1 : 17 ≤ i) (h2 : i < S.R.length) : seen (runW S (allOf (byKeys ns ρ))).1.R [] ρ' (.int i) = seen S.R ks ρ (.int i) := by
 rw [runW_free hl]
 show (if (i : Int) ∈ ([] : List Int) then some (ρ' i) else if (0 : Int) ≤ i then (afterR S.R ns ρ)[(i : Int).toNat]? else none) = _
 rw [if_neg (by simp), if_pos (by omega), show (i : Int).toNat = i by omega, after_hi (by rw [so.1.length_eq]; exact few) so.2 (fun k hk => by have := inn k (so.1.mem_iff.mp hk); omega) h2 h1, seen_at h2]
 congr 1
 by_cases q : (i : Int) ∈ ks
 ·rw [if_pos q, if_pos (so.1.mem_iff.mpr q)]
 ·rw [if_neg q, if_neg (fun z => q (so.1.mem_iff.mp z))]
theorem Wh.next (X : Wh a H b d kr nr y fr S ks ρ m t fs) {ns : List Int} (so : Sorted ks ns) {b2 nr2 : Addr} {ρ' : Int → List Int} (D : DkAt a.cDisk H' d kr (runW S (allOf (byKeys ns ρ))).1) (B : Bat a.cBatch H' b2 d nr2 m [] ρ') (L : LayAt a.cLayout H' y m t) (F : FrAt H' fr fs) (ne : fr ≠ nr2) :
  Wh a H' b2 d kr nr2 y fr (runW S (allOf (byKeys ns ρ))).1 [] ρ' m t fs := by
 have few := X.few
 have hm := m_le X.mp.good
 have hlen := X.mp.len
 obtain ⟨g1, g2, g3, g4, g5⟩ := X.mp.good
 have sa : ∀ {i : Nat}, 17 ≤ i → i < S.R.length → seen (runW S (allOf (byKeys ns ρ))).1.R [] ρ' (.int i) = seen S.R ks ρ (.int i) := fun h1 h2 => seen_after X.go X.mp.bat.ho.nd (fun k hk => (X.mp.bat.ho.inn k hk).1) (by omega) so h1 h2
 have hl : (((runW S (allOf (byKeys ns ρ))).1.R.length : Nat) : Int) = m := by rw [runW_len]; exact hlen
 refine ⟨⟨by rw [hl]; exact B, D, L, X.mp.good, hl, by decide⟩, F, ne, X.inn, fun i hi => ?_, fun i h1 h2 => ?_, fun k hk => (by cases hk), by rw [runW_free X.go]⟩
 ·rw [← X.map i hi]
  unfold mw
  rw [sa (by omega) (by unfold nodesAt at hm; omega)]
 ·rw [sa (by unfold nodesAt at hm; omega) (by omega)]
  exact X.old i h1 h2
theorem mw_new (g : Good m t) {R : List (List Int)} (hk : ∀ k, k ∈ ks ↔ 17 ≤ k ∧ k < 17 + (mapsN m : Int)) (hr : ∀ j, j < mapsN m → ρ ((17 + j : Nat) : Int) = newRow m t j) {i : Nat} (hi : i < 16 * mapsN m) : mw R ks ρ i = if dataAt m t ≤ (i : Int) ∧ (i : Int) < m then 0 else 1 := by
 have e : seen R ks ρ (.int ((17 + i / 16 : Nat) : Int)) = some (newRow m t (i / 16)) := by
  show (if ((17 + i / 16 : Nat) : Int) ∈ ks then some (ρ ((17 + i / 16 : Nat) : Int)) else _) = _
  rw [if_pos ((hk _).mpr ⟨by omega, by omega⟩), hr _ (by omega)]
 unfold mw
 rw [e]
 show (newRow m t (i / 16)).getD (i % 16) 0 = _
 unfold newRow
 rw [List.getD_eq_getElem?_getD, List.getElem?_take, if_pos (by omega), List.getElem?_drop, show 16 * (i / 16) + i % 16 = i by omega, newW_at g hi]
 rfl
end
theorem ref_ne_ints {rs : List Addr} {row : List Int} (h : rs ≠ []) : (HO.lst (rs.map V.ref)) ≠ HO.lst (row.map V.int) := by
 intro z
 cases rs with
 | nil => exact h rfl
 | cons => cases row with
  | nil => cases z
  | cons => cases z
structure All (a : Ad) (H0 H : Hp) (b d kr nr y fr hl kl : Addr) (hs qs : List Addr) (LL : List (List Int)) (S : DS) (ks : List Int) (ρ : Int → List Int) (m t : Int) (fs : List Int) : Prop where
 st : Wh a H b d kr nr y fr S ks ρ m t fs
 hh : H hl = some (.lst (hs.map V.ref))
 hr : RowsAt H hs LL
 kh : H kl = some (.lst (qs.map V.ref))
 kq : RowsAt H qs LL
 n1 : hl ≠ kr
 n2 : kl ≠ kr
 n3 : hl ≠ kl
 pos : 0 < LL.length
 sm : Same H0 H
 fd : H0 d = none
 fk : H0 kr = none
 fb : H0 b = none
 fn : H0 nr = none
 ff : H0 fr = none
 fh : H0 hl = none
 fl : H0 kl = none
section
variable {H0 H H' : Hp} {b d kr nr y fr hl kl : Addr} {hs qs : List Addr} {LL : List (List Int)} {S S' : DS} {ks ks' : List Int} {ρ ρ' : Int → List Int} {m t : Int} {fs fs' : List Int}
theorem rows_same {rs : List Addr} {R : List (List Int)} (h : RowsAt H rs R) (s : Same H H') : RowsAt H' rs R := h.chg (S := []) (Chg.of s) (by simp)
theorem All.same (x : All a H0 H b d kr nr y fr hl kl hs qs LL S ks ρ m t fs) (s : Same H H') : All a H0 H' b d kr nr y fr hl kl hs qs LL S ks ρ m t fs :=
 ⟨x.st.same s, s _ _ x.hh, rows_same x.hr s, s _ _ x.kh, rows_same x.kq s, x.n1, x.n2, x.n3, x.pos, x.sm.trans s, x.fd, x.fk, x.fb, x.fn, x.ff, x.fh, x.fl⟩
theorem All.dicts (x : All a H0 H b d kr nr y fr hl kl hs qs LL S ks ρ m t fs) (c : Chg [nr, fr] H H') (X : Wh a H' b d kr nr y fr S ks' ρ' m t fs') : All a H0 H' b d kr nr y fr hl kl hs qs LL S ks' ρ' m t fs' := by
 obtain ⟨kn, en⟩ := x.st.no
 obtain ⟨ko, eo, _⟩ := x.st.fa.ex
 have off : ∀ {u : Addr} {xs : List V}, H u = some (.lst xs) → u ∉ [nr, fr] := fun hu => by
  simp only [List.mem_cons, List.not_mem_nil, or_false, not_or]
  exact ⟨ne_of hu en (fun z => by cases z), ne_of hu eo (fun z => by cases z)⟩
 refine ⟨X, c _ _ x.hh (off x.hh), x.hr.chg c fun r hr => ?_, c _ _ x.kh (off x.kh), x.kq.chg c fun r hr => ?_, x.n1, x.n2, x.n3, x.pos, chg_same x.sm c (by simp [x.fn, x.ff]), x.fd, x.fk, x.fb, x.fn, x.ff, x.fh, x.fl⟩
 ·obtain ⟨row, _, e⟩ := x.hr.all hr
  exact off e
 ·obtain ⟨row, _, e⟩ := x.kq.all hr
  exact off e
theorem ints_off (D : DkAt a.cDisk H d kr S) {r : Addr} {row : List Int} (h : H r = some (.lst (row.map V.int))) : r ∉ [d, kr] := by
 obtain ⟨dx, rs, g1, g2, g3⟩ := D.ex
 have hlo : 24 ≤ S.R.length := D.lo
 have hl := g3.1
 simp only [List.mem_cons, List.not_mem_nil, or_false, not_or]
 refine ⟨ne_of h g1 (fun z => by cases z), ne_of h g2 fun z => ref_ne_ints (fun e => ?_) z.symm⟩
 rw [e] at hl
 simp at hl
 omega
theorem rows_app {rs : List Addr} {R : List (List Int)} (h : RowsAt H rs R) {r : Addr} {row : List Int} (hr : H r = some (.lst (row.map V.int))) : RowsAt H (rs ++ [r]) (R ++ [row]) := by
 obtain ⟨h1, h2⟩ := h
 refine ⟨by simp [h1], fun i u z e1 e2 => ?_⟩
 by_cases hi : i < rs.length
 ·rw [List.getElem?_append_left hi] at e1
  rw [List.getElem?_append_left (by omega)] at e2
  exact h2 i u z e1 e2
 ·rw [List.getElem?_append_right (by omega)] at e1
  rw [List.getElem?_append_right (by omega), ← h1] at e2
  rcases Nat.lt_or_ge (i - rs.length) 1 with q | q
  ·rw [show i - rs.length = 0 by omega] at e1 e2
   cases e1; cases e2; exact hr
  ·rw [List.getElem?_eq_none (by simpa using q)] at e1; cases e1
end
end
end K9
end
section
set_option Elab.async false
set_option linter.all false
set_option maxRecDepth 100000
set_option maxHeartbeats 4000000
namespace K9
open PySem L2 BK
section
variable {P : Program} {w : World} {K : PySem.W.Frag} {mg : Str → Option Value} {base : Heap} {f : Addr} {fd : FuncData} {a : Ad}
theorem ok_law (F : Fun K "law" "law" s_law f fd) (T : Txt K mg a) (M_Layout___init__ : Mf P w K mg base (CXE P w) 2 a.fLayout_init ["self", "many", "tables"] (spLInit K a)) (M_Disk___init__ : Mf P w K mg base (CXE P w) 2 a.fDisk_init ["self", "many"] (spInit K a)) (M_Batch___init__ : Mf P w K mg base (CXE P w) 1 a.fBatch_init ["self", "disk"] (spBInit K a)) (D_new_maps : Df P w K mg base (CXE P w) 1 "new_maps" ["layout"] (spNewMaps K a)) (M_Disk_writes : Mf P w K mg base CX0 1 a.f_writes ["self"] (spWrites K a)) (M_Disk_write : Mf P w K mg base (CXE P w) 5 a.f_write ["self", "block", "row"] (spWrite K a)) (M_Batch_write : Mf P w K mg base (CXE P w) 5 a.f_Batch_write ["self", "block", "row"] (spBWrite K a)) (D__law_told : Df P w K mg base (CXE P w) 5 "_law_told" ["_law_batch", "_law_layout", "_law_free"] (spTold K a)) (D__law_cell_at : Df P w K mg base CX0 1 "_law_cell_at" ["_law_script", "_law_k"] (spCell K a)) (D__law_rows : Df P w K mg base (CXE P w) 2 "_law_rows" ["_law_found"] (spRowsQ K a)) (D__law_apart : Df P w K mg base (CXE P w) 2 "_law_apart" ["_law_layout", "_law_rows_here"] (spApart K a)) (D__law_written : Df P w K mg base (CXE P w) 6 "_law_written" ["_law_batch", "_law_layout", "_law_free", "_law_cell"] (spWritten K a)) (D_free_blocks : Df P w K mg base (CXE P w) 6 "free_blocks" ["batch", "layout"] (spFreeBlocks K a)) (M_Batch_finish : Mf P w K mg base (CXE P w) 8 a.f_finish ["self"] (spBFinish K a)) (D__law_asked : Df P w K mg base (CXE P w) 9 "_law_asked" ["_law_batch", "_law_layout", "_law_free", "_law_cell"] (spAsked K a)) (D__law_deed : Df P w K mg base (CXE P w) 9 "_law_deed" ["_law_batch", "_law_layout", "_law_free", "_law_cell"] (spDeed K a)) : FnOk P w K mg base (CXE P w) 10 f fd ["_law_script"] (spLawA K a) := by
 obtain ⟨_, GLayout_init, bLayout_init⟩ := M_Layout___init__
 obtain ⟨_, GDisk_init, bDisk_init⟩ := M_Disk___init__
 obtain ⟨_, GBatch_init, bBatch_init⟩ := M_Batch___init__
 obtain ⟨_, _, Gnew_maps, bnew_maps, knew_maps, mnew_maps⟩ := D_new_maps
 obtain ⟨_, G_writes, b_writes⟩ := M_Disk_writes
 obtain ⟨_, G_write, b_write⟩ := M_Disk_write
 obtain ⟨_, G_Batch_write, b_Batch_write⟩ := M_Batch_write
 obtain ⟨_, _, Gl_told, bl_told, kl_told, ml_told⟩ := D__law_told
 obtain ⟨_, _, Gl_cell_at, bl_cell_at, kl_cell_at, ml_cell_at⟩ := D__law_cell_at
 obtain ⟨_, _, Gl_rows, bl_rows, kl_rows, ml_rows⟩ := D__law_rows
 obtain ⟨_, _, Gl_apart, bl_apart, kl_apart, ml_apart⟩ := D__law_apart
 obtain ⟨_, _, Gl_written, bl_written, kl_written, ml_written⟩ := D__law_written
 obtain ⟨_, _, Gfree_blocks, bfree_blocks, kfree_blocks, mfree_blocks⟩ := D_free_blocks
 obtain ⟨_, G_finish, b_finish⟩ := M_Batch_finish
 obtain ⟨_, _, Gl_asked, bl_asked, kl_asked, ml_asked⟩ := D__law_asked
 obtain ⟨_, _, Gl_deed, bl_deed, kl_deed, ml_deed⟩ := D__law_deed
 have nd := sc_law.nd
 refine F.okE sc_law (fun vs H Q E h => ?_) (fun cdv A outer s H vs Q E hr hA h => ?_)
 ·obtain ⟨sc, ns, rfl, _⟩ := h
  rfl
 obtain ⟨sc, ns, rfl, hS, h63, q⟩ := h
 refine ⟨_, (pss_cons (ps_set (i := 1) nd rfl (by first | exact Or.inl rfl | exact Or.inr rfl) (pe_op op_add pe_int (pe_op op_mod (pe_call Gl_cell_at (hr.mono (by decide)) rfl ml_cell_at kl_cell_at bl_cell_at .nil pass0 (pa_cons (pv 0) (pa_cons pe_int pa_nil))) pe_int)))
  (pss_cons (ps_if (pt_cmpR op_eq (pe_op op_mod (pe_op op_fdiv (pe_call Gl_cell_at (hr.mono (by decide)) rfl ml_cell_at kl_cell_at bl_cell_at .nil pass0 (pa_cons (pv 0) (pa_cons pe_int pa_nil))) pe_int) pe_int) pe_int (nomark _)) (pss_one (ps_set (i := 1) nd rfl (by first | exact Or.inl rfl | exact Or.inr rfl) (pe_op op_add pe_int (pe_op op_mod (pe_op op_fdiv (pe_call Gl_cell_at (hr.mono (by decide)) rfl ml_cell_at kl_cell_at bl_cell_at .nil pass0 (pa_cons (pv 0) (pa_cons pe_int pa_nil))) pe_int) pe_int)))) pss_nil)
  (pss_cons (ps_set (i := 2) nd rfl (by first | exact Or.inl rfl | exact Or.inr rfl) (pe_make T.mkLayout GLayout_init (hr.mono (by decide)) rfl T.mLayout bLayout_init .nil (passes_fn (fun _ _ _ h => h)) (pa_cons (pv 1) (pa_cons (pe_op op_add pe_int (pe_op op_mod (pe_call Gl_cell_at (hr.mono (by decide)) rfl ml_cell_at kl_cell_at bl_cell_at .nil pass0 (pa_cons (pv 0) (pa_cons pe_int pa_nil))) pe_int)) pa_nil)) (hcm := (.inr hA))))
  (pss_cons (ps_set (i := 3) nd rfl (by first | exact Or.inl rfl | exact Or.inr rfl) (pe_make T.mkDisk GDisk_init (hr.mono (by decide)) rfl T.mDisk bDisk_init .nil (passes_fn (fun _ _ _ h => h)) (pa_cons (pv 1) pa_nil) (hcm := (.inr hA))))
  (pss_cons (ps_for PassesOwn.leaving rfl (pi_range2 rfl T.range (pa_cons (pe_fld (pv 2) rfl) (pa_cons (pv 1) pa_nil))) (pg_name (i := 4) nd rfl (by first | exact Or.inl rfl | exact Or.inr rfl)) (pss_one (ps_expr (pe_meth (pv 3) T.clDisk T.m_write G_write (hr.mono (by decide)) b_write .nil (passes_fn (fun _ _ _ h => h)) (pa_cons (pv 4) (pa_cons (pe_op op_rep (pe_lst (pa_cons (pv 4) pa_nil)) pe_int) pa_nil)) (hcm := (.inr hA))))))
  (pss_cons (ps_set (i := 5) nd rfl (by first | exact Or.inl rfl | exact Or.inr rfl) (pe_make T.mkBatch GBatch_init (hr.mono (by decide)) rfl T.mBatch bBatch_init .nil (passes_fn (fun _ _ _ h => h)) (pa_cons (pv 3) pa_nil) (hcm := (.inr hA))))
  (pss_cons (ps_set (i := 6) nd rfl (by first | exact Or.inl rfl | exact Or.inr rfl) (pe_call Gnew_maps (hr.mono (by decide)) rfl mnew_maps knew_maps bnew_maps .nil (passes_fn (fun _ _ _ h => h)) (pa_cons (pv 2) pa_nil) (hcm := (.inr hA))))
  (pss_cons (ps_if (PW.pt (pw_or (pt_not (pt_val (pe_call Gl_rows (hr.mono (by decide)) rfl ml_rows kl_rows bl_rows .nil (passes_fn (fun _ _ _ h => h)) (pa_cons (pv 6) pa_nil) (hcm := (.inr hA))))) (pw_or (pt_cmpR op_ne (pe_callB call_len_seq rfl T.len bt_len (pa_cons (pv 6) pa_nil)) (pe_op op_sub (pe_fld (pv 2) rfl) (pe_fld (pv 2) rfl)) (nomark _)) (pw_or1 (pt_not (pt_val (pe_call Gl_apart (hr.mono (by decide)) rfl ml_apart kl_apart bl_apart .nil (passes_fn (fun _ _ _ h => h)) (pa_cons (pv 2) (pa_cons (pv 6) pa_nil)) (hcm := (.inr hA))))))))) (pss_one (ps_ret pe_bl)) pss_nil)
  (pss_cons (ps_for PassesOwn.leaving rfl (pi_range1 rfl T.range (pa_cons (pe_callB call_len_seq rfl T.len bt_len (pa_cons (pv 6) pa_nil)) pa_nil)) (pg_name (i := 7) nd rfl (by first | exact Or.inl rfl | exact Or.inr rfl)) (pss_one (ps_expr (pe_meth (pv 5) T.clBatch T.m_Batch_write G_Batch_write (hr.mono (by decide)) b_Batch_write .nil (passes_fn (fun _ _ _ h => h)) (pa_cons (pe_op op_add (pe_fld (pv 2) rfl) (pv 7)) (pa_cons (pe_ix ix_list (pv 6) (pv 7) (fun _ _ => rfl)) pa_nil)) (hcm := (.inr hA))))))
  (pss_cons (ps_set (i := 8) nd rfl (by first | exact Or.inl rfl | exact Or.inr rfl) pe_dict0)
  (pss_cons (ps_for PassesOwn.leaving rfl (pi_range2 rfl T.range (pa_cons (pe_fld (pv 2) rfl) (pa_cons (pv 1) pa_nil))) (pg_name (i := 4) nd rfl (by first | exact Or.inl rfl | exact Or.inr rfl)) (pss_one (ps_dput (hu_of hr) (pv 8) (pv 4) pe_bl rfl)))
  (pss_cons (ps_set (i := 9) nd rfl (by first | exact Or.inl rfl | exact Or.inr rfl) (pe_meth0 (pv 3) T.clDisk T.m_writes G_writes (hr.mono (by decide)) b_writes .nil pass0))
  (pss_cons (ps_set (i := 10) nd rfl (by first | exact Or.inl rfl | exact Or.inr rfl) (pe_callTy call_list_of rfl T.list bt_list (pa_cons (pv 6) pa_nil)))
  (pss_cons (ps_setLc (j := 11) (cl := []) (fj := []) (by exact ⟨rfl, by decide +kernel, rfl, by decide +kernel, rfl, fun _ h => (by cases h), by decide +kernel, fun _ h => (by cases h), by decide +kernel⟩) rfl nd rfl (by first | exact Or.inl rfl | exact Or.inr rfl) (pi_list (pv 6)) (fun _ _ _ => pf_nil) (fun _ _ _ => (pe_callTy (call_listK (K := K) rfl) rfl T.list bt_list (pa_cons (pv 0) pa_nil))))
  (pss_cons (ps_for PassesOwn.leaving rfl (pi_enum rfl T.enumerate (pa_cons (pe_slice sl_list (pv 0) (po_some pe_int) (po_some pe_int)) pa_nil)) (pg_tup hA (pgs_cons (pg_name (i := 7) nd rfl (by first | exact Or.inl rfl | exact Or.inr rfl)) (pgs_cons (pg_name (i := 12) nd rfl (by first | exact Or.inl rfl | exact Or.inr rfl)) pgs_nil))) (pss_cons (ps_if (pt_cmpR op_eq (pe_op op_mod (pv 12) pe_int) pe_int (nomark _)) (pss_one (ps_expr (pe_call Gl_written (hr.mono (by decide)) rfl ml_written kl_written bl_written .nil (passes_fn (fun _ _ _ h => h)) (pa_cons (pv 5) (pa_cons (pv 2) (pa_cons (pv 8) (pa_cons (pe_op op_fdiv (pv 12) pe_int) pa_nil)))) (hcm := (.inr hA))))) pss_nil)
  (pss_cons (ps_if (PW.pt (pw_or (pt_not (pt_val (pe_call Gl_asked (hr.mono (by decide)) rfl ml_asked kl_asked bl_asked .nil (passes_fn (fun _ _ _ h => h)) (pa_cons (pv 5) (pa_cons (pv 2) (pa_cons (pv 8) (pa_cons (pe_op op_add (pe_op op_fdiv (pv 12) pe_int) (pv 7)) pa_nil)))) (hcm := (.inr hA))))) (pw_or1 (pt_not (pt_val (pe_call Gl_deed (hr.mono (by decide)) rfl ml_deed kl_deed bl_deed .nil (passes_fn (fun _ _ _ h => h)) (pa_cons (pv 5) (pa_cons (pv 2) (pa_cons (pv 8) (pa_cons (pv 12) pa_nil)))) (hcm := (.inr hA)))))))) (pss_one (ps_ret pe_bl)) pss_nil)
  (pss_cons (ps_if (PW.pt (pw_or (pt_not (pt_val (pe_call Gl_asked (hr.mono (by decide)) rfl ml_asked kl_asked bl_asked .nil (passes_fn (fun _ _ _ h => h)) (pa_cons (pv 5) (pa_cons (pv 2) (pa_cons (pv 8) (pa_cons (pe_op op_add (pe_op op_fdiv (pv 12) pe_int) (pv 7)) pa_nil)))) (hcm := (.inr hA))))) (pw_or1 (pt_not (pt_val (pe_call Gl_told (hr.mono (by decide)) rfl ml_told kl_told bl_told .nil (passes_fn (fun _ _ _ h => h)) (pa_cons (pv 5) (pa_cons (pv 2) (pa_cons (pv 8) pa_nil))) (hcm := (.inr hA)))))))) (pss_one (ps_ret pe_bl)) pss_nil)
  (pss_cons (ps_expr (pe_bm PySem.F.plainAttrs_list PySem.F.slot_list_append PySem.F.type_list_append mt_append (pv 10) (pa_cons (pe_call Gfree_blocks (hr.mono (by decide)) rfl mfree_blocks kfree_blocks bfree_blocks .nil (passes_fn (fun _ _ _ h => h)) (pa_cons (pv 5) (pa_cons (pv 2) pa_nil)) (hcm := (.inr hA))) pa_nil)))
  (pss_cons (ps_expr (pe_bm PySem.F.plainAttrs_list PySem.F.slot_list_append PySem.F.type_list_append mt_append (pv 11) (pa_cons (pe_callTy call_list_of rfl T.list bt_list (pa_cons (pe_ix ix_list (pv 10) (pe_un un_neg pe_int) (fun _ _ => rfl)) pa_nil)) pa_nil)))
  (pss_cons (ps_if (pt_cmpR op_ne (pe_meth0 (pv 3) T.clDisk T.m_writes G_writes (hr.mono (by decide)) b_writes .nil pass0) (pv 9) (nomark _)) (pss_one (ps_ret pe_bl)) pss_nil)
  (pss_one (ps_if (pt_cmpR op_eq (pe_op op_mod (pv 12) pe_int) pe_int (nomark _)) (pss_cons (ps_expr (pe_meth0 (pv 5) T.clBatch T.m_finish G_finish (hr.mono (by decide)) b_finish .nil (passes_fn (fun _ _ _ h => h)) (hcm := (.inr hA))))
  (pss_cons (ps_set (i := 5) nd rfl (by first | exact Or.inl rfl | exact Or.inr rfl) (pe_make T.mkBatch GBatch_init (hr.mono (by decide)) rfl T.mBatch bBatch_init .nil (passes_fn (fun _ _ _ h => h)) (pa_cons (pv 3) pa_nil) (hcm := (.inr hA))))
  (pss_one (ps_set (i := 9) nd rfl (by first | exact Or.inl rfl | exact Or.inr rfl) (pe_meth0 (pv 3) T.clDisk T.m_writes G_writes (hr.mono (by decide)) b_writes .nil pass0))))) pss_nil)))))))))
  (pss_one (ps_ret (pe_and (pe_cmpR (op_eqD hr.units) (pv 10) (pv 11) (nomark _)) (pe_one (pe_call Gl_told (hr.mono (by decide)) rfl ml_told kl_told bl_told .nil (passes_fn (fun _ _ _ h => h)) (pa_cons (pv 5) (pa_cons (pv 2) (pa_cons (pv 8) pa_nil))) (hcm := (.inr hA)))))))))))))))))))))), ?_⟩
 refine ⟨_, rfl, sc, ns, 0, rfl, hS, by decide, _, _, rfl, rfl, (by show (0 : Int) < 25; decide), _, _, rfl, rfl, ?_⟩
 generalize hTL : tSeq (tAsg _ (gName 2)) _ = TL
 have main : ∀ mm : Int, 24 ≤ mm → mm ≤ 96 → TL { nx := fun _ H' => Q .non H', rt := Q } [some (.ref sc), some (.int mm), none, none, none, none, none, none, none, none, none, none, none] H := by
  intro mm hm1 hm2
  rw [← hTL]
  obtain ⟨t, et, ht1, ht2⟩ : ∃ t : Int, 1 + cell ns 1 % 4 = t ∧ 1 ≤ t ∧ t ≤ 4 := ⟨_, rfl, by omega, by omega⟩
  refine ⟨_, rfl, _, rfl, sc, ns, 1, rfl, hS, by decide, _, _, rfl, rfl, (by show (0 : Int) < 4; decide), _, _, rfl, rfl, fun y yx ny nyx ney => ?_⟩
  dsimp (config := { proj := false, iota := false, eta := false, zeta := false }) only
  rw [et]
  have hd : dataAt mm t < mm := by unfold dataAt nodesAt; omega
  have g : Good mm t := ⟨hm1, hm2, ht1, by omega, hd⟩
  have hm := m_le g
  have h26 := mapsN_2 g
  refine ⟨y, yx, _, _, rfl, upd_same, .int _, .int _, .inr ⟨mm, t, rfl, rfl, hm1, hm2, ht1, by omega, fun z => absurd z (by omega), fun _ Hy cy L => ⟨rfl, ?_⟩⟩⟩
  have sy0 : Same H (upd (upd H yx (.own y)) y (.ins a.cLayout yx [])) := fun b o e => by
   rw [upd_ne (ne_of_none e ny), upd_ne (ne_of_none e nyx)]
   exact e
  have sy : Same H Hy := chg_same sy0 cy (by simp [ny])
  obtain ⟨m, em⟩ : ∃ m : Nat, mm = (m : Int) := ⟨mm.toNat, by omega⟩
  subst em
  refine ⟨_, rfl, fun d dx nd' ndx nex => ⟨d, dx, _, rfl, upd_same, .int _, .inl ⟨m, rfl, by omega, by omega, fun kr H1 nkr c1 D1 => ⟨rfl, ?_⟩⟩⟩⟩
  have s0 : Same Hy (upd (upd Hy dx (.own d)) d (.ins a.cDisk dx [])) := fun b o e => by
   rw [upd_ne (ne_of_none e nd'), upd_ne (ne_of_none e ndx)]
   exact e
  have s1 : Same Hy H1 := chg_same s0 c1 (by simp [nd'])
  have nkrY : Hy kr = none := s0.free nkr
  clear hTL
  obtain ⟨yx1, hy1⟩ := L.same s1
  refine ⟨_, rfl, y, a.cLayout, yx1, _, _, rfl, hy1, T.clLayout, T.n_data_at, rfl, _, rfl, _, _, rfl, ⟨by omega, by omega, by omega, by omega⟩, ?_⟩
  refine for_range (lo := dataAt m t) (n := ((m : Int) - dataAt m t).toNat) (fun i σ' H' => ∃ (S : DS) (o4 : Option V), σ' = [some (.ref sc), some (.int m), some (.ref y), some (.ref d), o4, none, none, none, none, none, none, none, none] ∧ Same Hy H' ∧ DkAt a.cDisk H' d kr S ∧ S.R.length = m ∧ S.l = none ∧ ∀ j : Nat, dataAt m t ≤ (j : Int) → (j : Int) < dataAt m t + i → S.R[j]? = some (List.replicate 16 (j : Int)))
   ⟨⟨List.replicate m (List.replicate 16 0), 0, none⟩, none, rfl, s1, D1, by simp, rfl, fun j h1 h2 => absurd h2 (by omega)⟩ ?_ ?_
  ·rintro i σ' H' hi ⟨S, o4, rfl, sH, D, hR, hl, hz⟩
   obtain ⟨dy, d1⟩ := D.at
   obtain ⟨bk, eb⟩ : ∃ bk : Nat, dataAt m t + (i : Int) = (bk : Int) := ⟨(dataAt m t + (i : Int)).toNat, by omega⟩
   rw [eb]
   refine ⟨_, rfl, d, dy, _, rfl, d1, rfl, _, rfl, _, rfl, (by show 1 ≤ sizeLine; decide), fun l1 m1 => ⟨l1, 16, [.int bk], rfl, rfl, upd_same, by decide, by decide, (by show 1 * 16 ≤ sizeLine; decide), fun l2 m2 => ?_⟩⟩
   rw [show (16 : Int).toNat = 16 from rfl, flat_one]
   have u2 := (same_new m1 (.lst [.int bk])).trans (same_new m2 (.lst ((List.replicate 16 (bk : Int)).map V.int)))
   have gb : GoodRow (List.replicate 16 (bk : Int)) := ⟨by simp, fun x hx => by rw [List.eq_of_mem_replicate hx]; omega⟩
   have hns : ¬ S.stop = true := by unfold DS.stop; rw [hl]; decide
   refine write_one (b := bk) (D.same u2) (by omega) upd_same gb (fun z => absurd z hns) (fun _ H3 c3 D3 _ => ?_)
   refine ⟨S.put (bk, List.replicate 16 (bk : Int)), _, rfl, chg_same (sH.trans u2) c3 (by simp [nd', nkrY]), D3, by rw [put_len]; exact hR, by show S.l.map _ = none; rw [hl]; rfl, fun j h1 h2 => ?_⟩
   show (S.R.set bk _)[j]? = _
   rw [List.getElem?_set]
   by_cases e : bk = j
   ·rw [if_pos e, if_pos (by omega), e]
   ·rw [if_neg e]; exact hz j h1 (by omega)
  rintro σ' H' ⟨S, o4, rfl, sH, D, hR, hl, hz⟩
  refine ⟨_, rfl, fun b bx nb nbx nebx => ⟨b, bx, d, rfl, upd_same, fun nr H3 nnr c3 B3 => ⟨rfl, ?_⟩⟩⟩
  have s3a : Same H' (upd (upd H' bx (.own b)) b (.ins a.cBatch bx [])) := fun u o e => by
   rw [upd_ne (ne_of_none e nb), upd_ne (ne_of_none e nbx)]
   exact e
  have s3 : Same H' H3 := chg_same s3a c3 (by simp [nb])
  have D3 := D.same s3
  have L3 := L.same (sH.trans s3)
  have sH3 : Same H H3 := sy.trans (sH.trans s3)
  have fb : H b = none := (sy.trans sH).free nb
  have fn : H nr = none := (sy.trans sH).free (s3a.free nnr)
  have fd' : H d = none := sy.free nd'
  have fk' : H kr = none := sy.free nkrY
  clear c3 s3a s3 D s0 s1 D1 c1 cy sy0
  refine ⟨_, rfl, y, _, t, rfl, L3, g, fun p rs H4 np s4 hp hRs _ _ => ?_⟩
  have hlr : rs.length = mapsN m := by rw [hRs.1]; exact newRs_len
  refine ⟨_, rfl, p, rs, newRs m t, rfl, hp, hRs, fun row hr => (newRs_good g row hr).1, fun H5 s5 => ⟨_, rfl, iteF' (by rfl) ?_⟩⟩
  have L5 := L3.same (s4.trans s5)
  obtain ⟨yx5, hy5⟩ := L5
  refine ⟨_, rfl, p, _, rfl, .inl (SqL.of (s5 _ _ hp)), _, rfl, y, a.cLayout, yx5, _, _, rfl, hy5, T.clLayout, T.n_nodes_at, rfl, _, rfl, y, a.cLayout, yx5, _, _, rfl, hy5, T.clLayout, T.n_maps_at, rfl, _, _, rfl, rfl, rfl, _, rfl, iteF' (by rw [dec_V, List.length_map, hlr, decide_eq_true (show ((mapsN m : Nat) : Int) = nodesAt m - 17 by omega)]; rfl) ?_⟩
  refine ⟨_, rfl, _, rfl, y, p, rs, m, t, rfl, L3.same (s4.trans s5), g, s5 _ _ hp, rows_same hRs s5, fun H6 s6 => ⟨_, rfl, iteF' (by rfl) ?_⟩⟩
  have s46 := s4.trans (s5.trans s6)
  have hp6 := (s5.trans s6) _ _ hp
  have hR6 := rows_same hRs (s5.trans s6)
  have D6 := D3.same s46
  have L6 := L3.same s46
  have B6 := (B3 m fun _ => []).same s46
  have sH6 := sH3.trans s46
  refine ⟨_, rfl, p, _, rfl, .inl (SqL.of hp6), _, rfl, (by rw [List.length_map]; omega), (by rw [List.length_map]; omega), ?_⟩
  rw [List.length_map, hlr, show ((mapsN m : Nat) : Int).toNat = mapsN m by omega]
  refine for_range (lo := 0) (n := mapsN m) (fun i σ' H' => ∃ (ks : List Int) (ρ : Int → List Int) (o7 : Option V), σ' = [some (.ref sc), some (.int m), some (.ref y), some (.ref d), o4, some (.ref b), some (.ref p), o7, none, none, none, none, none] ∧ Chg [nr] H6 H' ∧ DkAt a.cDisk H' d kr S ∧ Bat a.cBatch H' b d nr m ks ρ ∧ ks.length ≤ i ∧ (∀ k, k ∈ ks ↔ 17 ≤ k ∧ k < 17 + (i : Int)) ∧ ∀ j, j < i → ρ ((17 + j : Nat) : Int) = newRow m t j)
   ⟨[], _, none, rfl, Chg.of (Same.refl _), D6, B6, Nat.le_refl _, fun k => ⟨fun h => (by cases h), fun h => absurd h.2 (by omega)⟩, fun j hj => absurd hj (by omega)⟩ ?_ ?_
  ·rintro i σ' H' hi ⟨ks, ρ, o7, rfl, c, D, B, hks, hk, hr⟩
   obtain ⟨bx, hb⟩ := B.ex
   obtain ⟨kvs, en⟩ := B6.ho.at
   have lst : ∀ {u : Addr} {o : HO}, H6 u = some o → (∀ kvs, o ≠ .dK kvs) → H' u = some o := fun hu no => c _ _ hu (by simp only [List.mem_singleton]; exact ne_of hu en (no _))
   obtain ⟨yx6, hy6⟩ := L6
   have hy' := lst hy6 fun _ z => by cases z
   have hi' : i < rs.length := by omega
   have hir : i < (newRs m t).length := by rw [newRs_len]; exact hi
   have er0 := hR6.2 i _ _ (List.getElem?_eq_getElem hi') (List.getElem?_eq_getElem hir)
   have gr := newRs_good g _ (List.getElem_mem hir)
   have er1 : (newRs m t)[i] = newRow m t i := by simp [newRs]
   rw [er1] at er0 gr
   have er := lst er0 fun _ z => by cases z
   have hat : atI (rs.map V.ref) (0 + (i : Int)) = some (.ref rs[i]) := by
    rw [Int.zero_add]
    exact atI_nat (by rw [List.getElem?_map, List.getElem?_eq_getElem hi']; rfl)
   have hlen : (S.R.length : Int) = m := by rw [hR]
   refine ⟨_, rfl, b, bx, _, rfl, hb, rfl, _, rfl, y, a.cLayout, yx6, _, _, rfl, hy', T.clLayout, T.n_maps_at, rfl, _, rfl, _, _, rfl, rfl, _, rfl, _, rfl, p, _, _, _, rfl, rfl, SqL.of (lst hp6 fun _ z => by cases z), hat, ?_⟩
   dsimp (config := { proj := false, iota := false, eta := false, zeta := false }) only
   rw [show (17 : Int) + (0 + (i : Int)) = ((17 + i : Nat) : Int) by omega]
   have hlt : 17 + i < m := by unfold nodesAt at hm; unfold dataAt nodesAt at hd; omega
   refine ⟨b, d, kr, nr, S, ks, ρ, _, _, true, rfl, by rw [hlen]; exact B, D, .int _, rowA_good er gr, by omega, .inr (.inr ⟨((17 + i : Nat) : Int), rs[i], _, rfl, by omega, by omega, rfl, er, gr, fun H8 c8 B8 D8 _ => ?_⟩)⟩
   have ll := insK_len (ks := ks) (k := ((17 + i : Nat) : Int))
   refine ⟨_, _, _, rfl, c.trans c8, D8, by rw [← hlen]; exact B8, by omega, fun k => ?_, fun j hj => ?_⟩
   ·rw [insK_mem, hk]; omega
   ·by_cases e : j = i
    ·subst e; rw [if_pos rfl]
    ·rw [if_neg (by omega)]; exact hr j (by omega)
  rintro σ' H7 ⟨ks, ρ, o7, rfl, c7, D7, B7, hks, hk, hr⟩
  obtain ⟨kvs7, en7⟩ := B6.ho.at
  have lst7 : ∀ {u : Addr} {o : HO}, H6 u = some o → (∀ kvs, o ≠ .dK kvs) → H7 u = some o := fun hu no => c7 _ _ hu (by simp only [List.mem_singleton]; exact ne_of hu en7 (no _))
  have hp7 := lst7 hp6 fun _ z => by cases z
  have hR7 : RowsAt H7 rs (newRs m t) := hR6.chg c7 fun r hr' => by
   obtain ⟨row, _, e⟩ := hR6.all hr'
   simp only [List.mem_singleton]; exact ne_of e en7 (fun z => by cases z)
  have L7 : LayAt a.cLayout H7 y m t := by
   obtain ⟨yx6, hy6⟩ := L6
   exact ⟨yx6, lst7 hy6 fun _ z => by cases z⟩
  have sH7 : Same H H7 := chg_same sH6 c7 (by simp [fn])
  clear c7 D6 L6 B6 hp6 hR6 sH6 D3 L3 hp hRs hy1 hy5 lst7 en7
  refine fun fr nfr => ?_
  have w8 := same_new nfr (.dK [])
  have ff : H fr = none := sH7.free nfr
  have hfr0 := upd_same (H := H7) (a := fr) (o := .dK [])
  generalize upd H7 fr (.dK []) = H8 at w8 hfr0 ⊢
  obtain ⟨yx8, hy8⟩ := L7.same w8
  refine ⟨_, rfl, y, a.cLayout, yx8, _, _, rfl, hy8, T.clLayout, T.n_data_at, rfl, _, rfl, _, _, rfl, ⟨by omega, by omega, by omega, by omega⟩, ?_⟩
  refine for_range (lo := dataAt m t) (n := ((m : Int) - dataAt m t).toNat) (fun i σ' H' => ∃ (fs : List Int) (o4 : Option V), σ' = [some (.ref sc), some (.int m), some (.ref y), some (.ref d), o4, some (.ref b), some (.ref p), o7, some (.ref fr), none, none, none, none] ∧ Same H7 H' ∧ FrAt H' fr fs ∧ fs.length ≤ i ∧ ∀ z, z ∈ fs ↔ dataAt m t ≤ z ∧ z < dataAt m t + i)
   ⟨[], _, rfl, w8, ⟨⟨[], hfr0, rfl⟩, .nil⟩, Nat.le_refl _, fun z => ⟨fun h => (by cases h), fun h => absurd h.2 (by omega)⟩⟩ ?_ ?_
  ·rintro i σ' H' hi ⟨fs, o4', rfl, sA, F, hlf, hfs⟩
   obtain ⟨H9, dp, c9, F9⟩ := F.put (dataAt m t + (i : Int)) (by omega) (.bl true)
   have ll := insK_len (ks := fs) (k := dataAt m t + (i : Int))
   refine ⟨_, rfl, _, rfl, fr, H9, rfl, dp, ?_⟩
   refine ⟨_, _, rfl, chg_same sA c9 (by simp [nfr]), F9, by omega, fun z => ?_⟩
   rw [insK_mem, hfs]; omega
  rintro σ' H9 ⟨fs, o4', rfl, s79, F9, hlf, hfs⟩
  have hfs' : ∀ z, z ∈ fs ↔ dataAt m t ≤ z ∧ z < m := fun z => by rw [hfs]; omega
  have D9 := D7.same s79
  have hlen : (S.R.length : Int) = m := by rw [hR]
  have nfn : fr ≠ nr := by
   obtain ⟨k', z⟩ := B7.ho.at
   exact Ne.symm (ne_of_none z nfr)
  have X9 : Wh a H9 b d kr nr y fr S ks ρ m t fs := by
   refine ⟨⟨by rw [hlen]; exact B7.same s79, D9, L7.same s79, g, hlen, by omega⟩, F9, nfn, fun z hz' => (hfs' z).mp hz', fun i hi => ?_, fun i h1 h2 => ?_, fun k hk' => ?_, hl⟩
   ·rw [mw_new g hk hr hi]
    by_cases e : (i : Int) ∈ fs
    ·rw [if_pos e, if_pos ((hfs' _).mp e)]
    ·rw [if_neg e, if_neg (fun z => e ((hfs' _).mpr z))]
   ·have hni : (i : Int) ∉ ks := fun z => by have := (hk _).mp z; omega
    have hz' := hz i h1 (by omega)
    rw [seen_at (by omega), if_neg hni]
    rw [List.getElem?_eq_getElem (by omega)] at hz'
    exact hz'
   ·have := (hk k).mp hk'; omega
  obtain ⟨dx9, hd9⟩ := D9.at
  refine ⟨_, rfl, d, dx9, _, rfl, hd9, rfl, d, kr, S.R, S.n, S.l, rfl, D9, ?_⟩
  have hp9 := s79 _ _ hp7
  have hR9 := rows_same hR7 s79
  have sH9 := sH7.trans s79
  refine ⟨_, rfl, p, _, rfl, .inl (SqL.of hp9), fun hl' nhl => ?_⟩
  have wA := same_new nhl (.lst (rs.map V.ref))
  have hhA := upd_same (H := H9) (a := hl') (o := .lst (rs.map V.ref))
  have nk1 : hl' ≠ kr := by
   obtain ⟨_, _, _, z2, _⟩ := D9.ex
   exact Ne.symm (ne_of_none z2 nhl)
  have fhl : H hl' = none := sH9.free nhl
  generalize upd H9 hl' (.lst (rs.map V.ref)) = HA at wA hhA ⊢
  refine ⟨_, rfl, p, rfl, ⟨_, SqL.of (wA _ _ hp9)⟩, lc_copy (wA _ _ hp9) (rows_same hR9 wA) (by omega) (fun r row H1 Qf s1 hr1 k => ⟨_, rfl, r, _, rfl, .inl (SqL.of hr1), k⟩) fun kl qs HB nkl sB hkl hQ nqs => ?_⟩
  have sH' := sH9.trans (wA.trans sB)
  have AB : All a H HB b d kr nr y fr hl' kl rs qs (newRs m t) S ks ρ m t fs :=
   ⟨X9.same (wA.trans sB), sB _ _ hhA, rows_same hR9 (wA.trans sB), hkl, hQ, nk1, (by
    obtain ⟨_, _, _, z2, _⟩ := (D9.same wA).ex
    exact Ne.symm (ne_of_none z2 nkl)), ne_of_none hhA nkl, by rw [newRs_len]; omega, sH', fd', fk', fb, fn, ff, fhl, (sH9.trans wA).free nkl⟩
  clear hQ nqs hkl nkl wA hhA nhl nk1 sH9 hR9 hp9 X9 D9 hd9 F9 hfs hfs' s79 nfr D7 B7 hR7 hp7 L7 sH7 w8 hfr0 hy8 hz sH sB sH' hk hr hks
  refine ⟨_, rfl, _, rfl, _, rfl, sc, _, rfl, AB.sm.seq hS, fun sl nsl => ?_⟩
  have hln : newRs_len (m := m) (t := t) = newRs_len := rfl
  obtain ⟨cs, ecs, hcs⟩ : ∃ cs : List Int, cutV (ns.map V.int) (some (2 : Int)) (some (26 : Int)) = cs.map V.int ∧ cs.length ≤ 24 := by
   refine ⟨(ns.drop (min 2 ns.length)).take (min 26 ns.length - min 2 ns.length), ?_, by rw [List.length_take]; omega⟩
   rw [show (2 : Int) = ((2 : Nat) : Int) from rfl, show (26 : Int) = ((26 : Nat) : Int) from rfl]
   unfold cutV
   rw [HT.sIx_nat, HT.sIx_nat, List.length_map, List.map_take, List.map_drop]
  rw [ecs]
  have wS := same_new nsl (.lst (cs.map V.int))
  have hsl := upd_same (H := HB) (a := sl) (o := .lst (cs.map V.int))
  have AS := AB.same wS
  have nslH : H sl = none := AB.sm.free nsl
  generalize upd HB sl (.lst (cs.map V.int)) = HS at wS hsl AS ⊢
  obtain ⟨xx, hx0⟩ : ∃ o : Option V, o = some (.int (S.n)) := ⟨_, rfl⟩
  clear xx hx0
  refine ⟨sl, rfl, ⟨_, SqL.of hsl⟩, for_enum (xs := cs.map V.int) (fun i σ' H' => ∃ (b nr : Addr) (hs qs : List Addr) (LL : List (List Int)) (S : DS) (ks : List Int) (ρ : Int → List Int) (fs : List Int) (o4 o7 o12 : Option V), σ' = [some (.ref sc), some (.int m), some (.ref y), some (.ref d), o4, some (.ref b), some (.ref p), o7, some (.ref fr), some (.int S.n), some (.ref hl'), some (.ref kl), o12] ∧ All a H H' b d kr nr y fr hl' kl hs qs LL S ks ρ m t fs ∧ LL.length ≤ 6 + i ∧ H' sl = some (.lst (cs.map V.int)) ∧ sl ≠ hl' ∧ sl ≠ kl)
   ⟨b, nr, rs, qs, newRs m t, S, ks, ρ, fs, _, _, _, rfl, AS, by rw [newRs_len]; omega, hsl, (fun z => by rw [z] at nsl; rw [AB.hh] at nsl; cases nsl), (fun z => by rw [z] at nsl; rw [AB.kh] at nsl; cases nsl)⟩ (fun i σ' H' _ ⟨_, _, _, _, _, _, _, _, _, _, _, _, _, _, _, z, _⟩ => SqL.of z) ?_ ?_⟩
  ·clear AS AB hsl wS nsl hln hlf hl hR hlen hlr
   rintro i v σ' H' tp hv ⟨b, nr, hs, qs, LL, S, ks, ρ, fs, o4, o7, o12, rfl, A, hLL, hsl, nsh, nsk⟩ ntp
   have hi : i < 24 := by
    have := (List.getElem?_eq_some_iff.mp hv).1
    rw [List.length_map] at this
    omega
   obtain ⟨c, _, rfl⟩ := List.mem_map.mp (List.mem_of_getElem? hv)
   have wT := same_new ntp (.tup [.int i, .int c])
   refine ⟨_, _, rfl, SqT.of upd_same, rfl, _, _, rfl, _, _, rfl, rfl, ?_⟩
   have A1 := A.same wT
   have hsl1 := wT _ _ hsl
   generalize upd H' tp (.tup [.int i, .int c]) = H1 at wT A1 hsl1 ⊢
   clear A wT ntp hsl
   generalize hT1 : tSeq (tIfS (tOr (tNot (tB (tCall (spAsked K a) _ _ _))) (tNot (tB (tCall (spDeed K a) _ _ _)))) _ _) _ = T1
   have go1 : ∀ (ks : List Int) (ρ : Int → List Int) (fs : List Int) (H1 : Hp), All a H H1 b d kr nr y fr hl' kl hs qs LL S ks ρ m t fs → H1 sl = some (.lst (cs.map V.int)) → ∀ D' : Ends, (∀ σ H', (∃ (b nr : Addr) (hs qs : List Addr) (LL : List (List Int)) (S : DS) (ks : List Int) (ρ : Int → List Int) (fs : List Int) (o4 o7 o12 : Option V), σ = [some (.ref sc), some (.int m), some (.ref y), some (.ref d), o4, some (.ref b), some (.ref p), o7, some (.ref fr), some (.int S.n), some (.ref hl'), some (.ref kl), o12] ∧ All a H H' b d kr nr y fr hl' kl hs qs LL S ks ρ m t fs ∧ LL.length ≤ 6 + (i + 1) ∧ H' sl = some (.lst (cs.map V.int)) ∧ sl ≠ hl' ∧ sl ≠ kl) → D'.nx σ H') →
     T1 D' [some (.ref sc), some (.int m), some (.ref y), some (.ref d), o4, some (.ref b), some (.ref p), some (.int i), some (.ref fr), some (.int S.n), some (.ref hl'), some (.ref kl), some (.int c)] H1 := by
    intro ks ρ fs H1 A1 hsl1 D' fin'
    rw [← hT1]
    refine ⟨_, rfl, _, rfl, _, rfl, _, rfl, _, _, rfl, rfl, ⟨by decide, by decide⟩, _, rfl, _, _, rfl, rfl, b, d, kr, nr, y, fr, S, ks, ρ, m, t, fs, _, rfl, A1.st, fun H2 s2 => ⟨_, rfl, iteF' (by rfl) ?_⟩⟩
    have A2 := A1.same s2
    refine ⟨_, rfl, _, rfl, _, rfl, _, rfl, b, d, kr, nr, y, fr, S, ks, ρ, m, t, fs, c, rfl, A2.st, fun ks3 ρ3 fs3 H3 c3 X3 => ⟨_, rfl, iteF' (by rfl) ?_⟩⟩
    have A3 := A2.dicts c3 X3
    have hsl3 : H3 sl = some (.lst (cs.map V.int)) := c3 _ _ (s2 _ _ hsl1) (by
     obtain ⟨kn, en⟩ := A2.st.no
     obtain ⟨ko, eo, _⟩ := A2.st.fa.ex
     simp only [List.mem_cons, List.not_mem_nil, or_false, not_or]
     exact ⟨ne_of (s2 _ _ hsl1) en (fun z => by cases z), ne_of (s2 _ _ hsl1) eo (fun z => by cases z)⟩)
    clear A1 A2 hsl1 s2 c3 X3
    refine ⟨_, rfl, _, rfl, _, rfl, _, rfl, _, _, rfl, rfl, ⟨by decide, by decide⟩, _, rfl, _, _, rfl, rfl, b, d, kr, nr, y, fr, S, ks3, ρ3, m, t, fs3, _, rfl, A3.st, fun H4 s4 => ⟨_, rfl, iteF' (by rfl) ?_⟩⟩
    have A4 := A3.same s4
    refine ⟨_, rfl, _, rfl, _, rfl, b, d, kr, nr, y, fr, S, ks3, ρ3, m, t, fs3, rfl, A4.st, fun H5 s5 => ⟨_, rfl, iteF' (by rfl) ?_⟩⟩
    have A5 := A4.same s5
    have hsl5 := (s4.trans s5) _ _ hsl3
    clear A3 A4 hsl3 s4 s5
    refine ⟨_, rfl, .inl ⟨rfl, _, SqL.of A5.hh⟩, _, rfl, _, rfl, b, d, kr, nr, y, S, ks3, ρ3, m, t, rfl, A5.st.mp, fun fp H6 nfp s6 hfp => ?_⟩
    have A6 := A5.same s6
    have hsl6 := s6 _ _ hsl5
    have e6 : (freeL S.R ks3 ρ3 (m : Int).toNat).map (fun i : Nat => V.int (i : Int)) = ((freeL S.R ks3 ρ3 (m : Int).toNat).map (fun i : Nat => (i : Int))).map V.int := by rw [List.map_map]; rfl
    rw [e6] at hfp
    generalize (freeL S.R ks3 ρ3 (m : Int).toNat).map (fun i : Nat => (i : Int)) = row at hfp
    have fpH : H fp = none := A5.sm.free nfp
    have hlen1 : hs.length = LL.length := A6.hr.1
    have hlen2 : qs.length = LL.length := A6.kq.1
    have hpos := A6.pos
    have hs0 : hs ≠ [] := fun z => by rw [z] at hlen1; simp at hlen1; omega
    have qs0 : qs ≠ [] := fun z => by rw [z] at hlen2; simp at hlen2; omega
    refine ⟨hl', _, _, rfl, rfl, A6.hh, small1000 (by rw [List.length_map]; omega), ?_⟩
    have ehs : hs.map V.ref ++ [V.ref fp] = (hs ++ [fp]).map V.ref := by simp
    rw [ehs]
    have offh : ∀ {r : Addr} {row : List Int}, H6 r = some (.lst (row.map V.int)) → r ≠ hl' := fun e => ne_of e A6.hh fun z => ref_ne_ints hs0 z.symm
    have offk : ∀ {r : Addr} {row : List Int}, H6 r = some (.lst (row.map V.int)) → r ≠ kl := fun e => ne_of e A6.kh fun z => ref_ne_ints qs0 z.symm
    have c7 : Chg [hl', kl] H6 (upd H6 hl' (.lst ((hs ++ [fp]).map V.ref))) := (Chg.of (Same.refl _)).upd (by simp) _
    have hk7 : (upd H6 hl' (.lst ((hs ++ [fp]).map V.ref))) kl = some (.lst (qs.map V.ref)) := by rw [upd_ne (Ne.symm A6.n3)]; exact A6.kh
    have hf7 : (upd H6 hl' (.lst ((hs ++ [fp]).map V.ref))) fp = some (.lst (row.map V.int)) := by rw [upd_ne (offh hfp)]; exact hfp
    have hh7 := upd_same (H := H6) (a := hl') (o := .lst ((hs ++ [fp]).map V.ref))
    generalize upd H6 hl' (.lst ((hs ++ [fp]).map V.ref)) = H7 at c7 hk7 hf7 hh7 ⊢
    have hat : atI ((hs ++ [fp]).map V.ref) (-1) = some (.ref fp) := by rw [List.map_append]; exact atI_last _ _
    refine ⟨_, rfl, .inl ⟨rfl, _, SqL.of hk7⟩, _, rfl, _, rfl, hl', _, _, _, rfl, rfl, SqL.of hh7, hat, fp, _, rfl, .inl (SqL.of hf7), fun cp ncp => ?_⟩
    have w8 := same_new ncp (.lst (row.map V.int))
    have ncpk : cp ≠ kl := Ne.symm (ne_of_none hk7 ncp)
    refine ⟨kl, _, _, rfl, rfl, w8 _ _ hk7, small1000 (by rw [List.length_map]; omega), ?_⟩
    have eqs : qs.map V.ref ++ [V.ref cp] = (qs ++ [cp]).map V.ref := by simp
    rw [eqs]
    have c9 : Chg [hl', kl] H6 (upd (upd H7 cp (.lst (row.map V.int))) kl (.lst ((qs ++ [cp]).map V.ref))) := (c7.trans (Chg.of w8)).upd (by simp) _
    have hk9 := upd_same (H := upd H7 cp (.lst (row.map V.int))) (a := kl) (o := .lst ((qs ++ [cp]).map V.ref))
    have hh9 : (upd (upd H7 cp (.lst (row.map V.int))) kl (.lst ((qs ++ [cp]).map V.ref))) hl' = some (.lst ((hs ++ [fp]).map V.ref)) := by rw [upd_ne A6.n3]; exact w8 _ _ hh7
    have hc9 : (upd (upd H7 cp (.lst (row.map V.int))) kl (.lst ((qs ++ [cp]).map V.ref))) cp = some (.lst (row.map V.int)) := by rw [upd_ne ncpk, upd_same]
    generalize upd (upd H7 cp (.lst (row.map V.int))) kl (.lst ((qs ++ [cp]).map V.ref)) = H9 at c9 hk9 hh9 hc9 ⊢
    have off2 : ∀ {r : Addr} {row : List Int}, H6 r = some (.lst (row.map V.int)) → r ∉ [hl', kl] := fun e => by
     simp only [List.mem_cons, List.not_mem_nil, or_false, not_or]
     exact ⟨offh e, offk e⟩
    have offo : ∀ {r : Addr} {o : HO}, H6 r = some o → (∀ xs, o ≠ .lst xs) → r ∉ [hl', kl] := fun e no => by
     simp only [List.mem_cons, List.not_mem_nil, or_false, not_or]
     exact ⟨ne_of e A6.hh (no _), ne_of e A6.kh (no _)⟩
    have X9 : Wh a H9 b d kr nr y fr S ks3 ρ3 m t fs3 := by
     have X := A6.st
     obtain ⟨bx, hb⟩ := X.mp.bat.ex
     obtain ⟨yx, hy⟩ := X.mp.lay
     obtain ⟨kn, en⟩ := X.no
     obtain ⟨ko, eo, _⟩ := X.fa.ex
     obtain ⟨dx, drs, g1, g2, g3⟩ := X.mp.dk.ex
     refine ⟨⟨X.mp.bat.chg c9 (offo hb fun _ z => by cases z) (offo en fun _ z => by cases z) fun u hu => ?_, ?_, X.mp.lay.chg c9 (offo hy fun _ z => by cases z), X.mp.good, X.mp.len, X.mp.few⟩, X.fa.chg c9 (offo eo fun _ z => by cases z), X.ne, X.inn, X.map, X.old, X.kin, X.go⟩
     ·simp only [List.mem_cons, List.not_mem_nil, or_false] at hu
      rcases hu with z | z <;> subst z
      ·exact X.mp.bat.ho.offo A6.hh fun row h16 z => ref_ne_row h16 z
      ·exact X.mp.bat.ho.offo A6.kh fun row h16 z => ref_ne_row h16 z
     ·refine X.mp.dk.offs c9 (offo g1 fun _ z => by cases z) (by simp only [List.mem_cons, List.not_mem_nil, or_false, not_or]; exact ⟨Ne.symm A6.n1, Ne.symm A6.n2⟩) fun u hu rs' hrs hm' => ?_
      rw [g2] at hrs
      have e := refs_inj (by injection hrs with z; injection z)
      subst e
      obtain ⟨row', hrow', er'⟩ := g3.all hm'
      exact absurd hu (off2 er')
    have A9 : All a H H9 b d kr nr y fr hl' kl (hs ++ [fp]) (qs ++ [cp]) (LL ++ [row]) S ks3 ρ3 m t fs3 :=
     ⟨X9, hh9, rows_app (A6.hr.chg c9 fun r hr' => by obtain ⟨_, _, e⟩ := A6.hr.all hr'; exact off2 e) (c9 _ _ hfp (off2 hfp)), hk9, rows_app (A6.kq.chg c9 fun r hr' => by obtain ⟨_, _, e⟩ := A6.kq.all hr'; exact off2 e) hc9, A6.n1, A6.n2, A6.n3, by simp, chg_same A6.sm c9 (by simp [A6.fh, A6.fl]), A6.fd, A6.fk, A6.fb, A6.fn, A6.ff, A6.fh, A6.fl⟩
    have hsl9 : H9 sl = some (.lst (cs.map V.int)) := c9 _ _ hsl6 (by simp only [List.mem_cons, List.not_mem_nil, or_false, not_or]; exact ⟨nsh, nsk⟩)
    have hL9 : (LL ++ [row]).length ≤ 6 + (i + 1) := by rw [List.length_append]; simp; omega
    clear hc9 hk9 hh9 c9 w8 ncp ncpk hat c7 hk7 hf7 hh7 offh offk off2 offo X9 hsl6 A6 A5 hfp s6 hsl5
    generalize hs ++ [fp] = hs9 at A9
    generalize qs ++ [cp] = qs9 at A9
    generalize LL ++ [row] = LL9 at A9 hL9
    obtain ⟨dx9, hd9⟩ := A9.st.mp.dk.at
    refine ⟨_, rfl, d, dx9, _, rfl, hd9, rfl, d, kr, S.R, S.n, S.l, rfl, A9.st.mp.dk, _, rfl, rfl, _, rfl, iteF' (by simp) ?_⟩
    refine t_modeq (c := c) rfl (by decide) ?_
    by_cases h5 : c % 5 = 1
    case neg => exact iteF' (decide_eq_false h5) (fin' _ _ ⟨b, nr, hs9, qs9, LL9, S, ks3, ρ3, fs3, _, _, _, rfl, A9, hL9, hsl9, nsh, nsk⟩)
    refine iteT' (decide_eq_true h5) ?_
    have few9 := A9.st.few
    obtain ⟨bx9, hb9⟩ := A9.st.mp.bat.ex
    refine ⟨_, rfl, b, bx9, _, rfl, hb9, rfl, b, d, kr, nr, S, ks3, ρ3, rfl, A9.st.mp.bat, A9.st.mp.dk, by omega, A9.st.go, .inr ⟨by omega, fun ns9 nrA HA so nnr cA DA BA nrw => ?_⟩⟩
    refine ⟨_, rfl, fun b2 bx2 nb2 nbx2 nebx2 => ⟨b2, bx2, d, rfl, upd_same, fun nr2 HC nnr2 cC BC => ⟨rfl, ?_⟩⟩⟩
    have sCa : Same HA (upd (upd HA bx2 (.own b2)) b2 (.ins a.cBatch bx2 [])) := fun u o e => by
     rw [upd_ne (ne_of_none e nb2), upd_ne (ne_of_none e nbx2)]
     exact e
    have sC : Same HA HC := chg_same sCa cC (by simp [nb2])
    have DC := DA.same sC
    obtain ⟨dxC, hdC⟩ := DC.at
    refine ⟨_, rfl, d, dxC, _, rfl, hdC, rfl, d, kr, _, _, _, rfl, DC, ?_⟩
    have off3 : ∀ {r : Addr} {row : List Int}, H9 r = some (.lst (row.map V.int)) → r ∉ [d, kr, b] := fun e => by
     have := ints_off A9.st.mp.dk e
     simp only [List.mem_cons, List.not_mem_nil, or_false, not_or] at this ⊢
     exact ⟨this.1, this.2, ne_of e hb9 (fun z => by cases z)⟩
    have offl : ∀ {r : Addr} {xs : List V}, H9 r = some (.lst xs) → r ≠ kr → r ∉ [d, kr, b] := fun e nk => by
     simp only [List.mem_cons, List.not_mem_nil, or_false, not_or]
     exact ⟨ne_of e hd9 (fun z => by cases z), nk, ne_of e hb9 (fun z => by cases z)⟩
    obtain ⟨ko, eo, ek⟩ := A9.st.fa.ex
    obtain ⟨yx9, hy9⟩ := A9.st.mp.lay
    have hkr : ∃ xs, H9 kr = some (.lst xs) := by obtain ⟨_, _, _, z2, _⟩ := A9.st.mp.dk.ex; exact ⟨_, z2⟩
    obtain ⟨kxs, ekr⟩ := hkr
    have FA : FrAt HC fr fs3 := (A9.st.fa.chg cA (by
     simp only [List.mem_cons, List.not_mem_nil, or_false, not_or]
     exact ⟨ne_of eo hd9 (fun z => by cases z), ne_of eo ekr (fun z => by cases z), ne_of eo hb9 (fun z => by cases z)⟩)).same sC
    have neyb : y ≠ b := fun z => by
     rw [z, hb9] at hy9
     injection hy9 with hy9
     injection hy9 with _ _ hy9
     cases hy9
    have neyd : y ≠ d := fun z => by
     rw [z, hd9] at hy9
     injection hy9 with hy9
     injection hy9 with _ _ hy9
     cases hy9
    have LA : LayAt a.cLayout HC y m t := (A9.st.mp.lay.chg cA (by
     simp only [List.mem_cons, List.not_mem_nil, or_false, not_or]
     exact ⟨neyd, ne_of hy9 ekr (fun z => by cases z), neyb⟩)).same sC
    have nfn2 : fr ≠ nr2 := by
     obtain ⟨k', z, _⟩ := (A9.st.fa.chg cA (by
      simp only [List.mem_cons, List.not_mem_nil, or_false, not_or]
      exact ⟨ne_of eo hd9 (fun z => by cases z), ne_of eo ekr (fun z => by cases z), ne_of eo hb9 (fun z => by cases z)⟩)).ex
     exact ne_of_none (sCa _ _ z) nnr2
    have XC := A9.st.next so (ρ' := fun _ => []) DC (BC _ _) LA FA nfn2
    have smA : Same H HA := chg_same A9.sm cA (by simp [A9.fd, A9.fk, A9.fb])
    have smC := smA.trans sC
    have AC : All a H HC b2 d kr nr2 y fr hl' kl hs9 qs9 LL9 (runW S (allOf (byKeys ns9 ρ3))).1 [] (fun _ => []) m t fs3 :=
     ⟨XC, sC _ _ (cA _ _ A9.hh (offl A9.hh A9.n1)), rows_same (A9.hr.chg cA fun r hr' => by obtain ⟨_, _, e⟩ := A9.hr.all hr'; exact off3 e) sC, sC _ _ (cA _ _ A9.kh (offl A9.kh A9.n2)), rows_same (A9.kq.chg cA fun r hr' => by obtain ⟨_, _, e⟩ := A9.kq.all hr'; exact off3 e) sC, A9.n1, A9.n2, A9.n3, A9.pos, smC, A9.fd, A9.fk, smA.free nb2, smA.free (sCa.free nnr2), A9.ff, A9.fh, A9.fl⟩
    have hslC : HC sl = some (.lst (cs.map V.int)) := sC _ _ (cA _ _ hsl9 (off3 hsl9))
    exact fin' _ _ ⟨b2, nr2, hs9, qs9, LL9, _, [], _, fs3, _, _, _, rfl, AC, hL9, hslC, nsh, nsk⟩
   refine t_modeq (c := c) rfl (by decide) ?_
   by_cases h9 : c % 9 = 4
   case neg => exact iteF' (decide_eq_false h9) (go1 ks ρ fs H1 A1 hsl1 _ (fun σ H h => h))
   refine iteT' (decide_eq_true h9) ?_
   refine ⟨_, rfl, _, rfl, _, rfl, _, rfl, _, _, rfl, rfl, ⟨by decide, by decide⟩, b, d, kr, nr, y, fr, S, ks, ρ, m, t, fs, _, rfl, A1.st, fun ks2 ρ2 fs2 H2 c2 X2 => ?_⟩
   have hsl2 : H2 sl = some (.lst (cs.map V.int)) := c2 _ _ hsl1 (by
    obtain ⟨kn, en⟩ := A1.st.no
    obtain ⟨ko, eo, _⟩ := A1.st.fa.ex
    simp only [List.mem_cons, List.not_mem_nil, or_false, not_or]
    exact ⟨ne_of hsl1 en (fun z => by cases z), ne_of hsl1 eo (fun z => by cases z)⟩)
   exact go1 ks2 ρ2 fs2 H2 (A1.dicts c2 X2) hsl2 _ (fun σ H h => h)
  ·rintro σ' H' ⟨b, nr, hs, qs, LL, S, ks, ρ, fs, o4, o7, o12, rfl, A, hLL, hsl, nsh, nsk⟩
   refine ⟨_, rfl, _, rfl, .list (LL.map fun row => PyData.list (row.map PyData.int)), .list (LL.map fun row => PyData.list (row.map PyData.int)), .lst (SqL.of A.hh) (dvs_rows A.hr), .lst (SqL.of A.kh) (dvs_rows A.kq), shaped_rows _, shaped_rows _, _, rfl, iteT' (by simp [eqv_same (shaped_rows _)]) ?_⟩
   exact ⟨_, rfl, _, rfl, _, rfl, b, d, kr, nr, y, fr, S, ks, ρ, m, t, fs, rfl, A.st, fun H2 _ => q H2⟩
 refine ⟨_, rfl, sc, ns, 0, rfl, hS, by decide, _, _, rfl, rfl, ⟨by decide, by decide⟩, _, _, rfl, rfl, (by show (0 : Int) < 8; decide), rfl, _, rfl, ?_⟩
 by_cases h8 : cell ns 0 / 25 % 8 = 1
 ·refine iteT' (by rw [dec_V]; exact decide_eq_true h8) ?_
  refine ⟨_, rfl, sc, ns, 0, rfl, hS, by decide, _, _, rfl, rfl, ⟨by decide, by decide⟩, _, _, rfl, rfl, (by show (0 : Int) < 73; decide), _, _, rfl, rfl, ?_⟩
  exact main _ (by omega) (by omega)
 ·refine iteF' (by rw [dec_V]; exact decide_eq_false h8) ?_
  exact main _ (by omega) (by omega)
end
end K9
end
section
set_option Elab.async false
set_option linter.all false
set_option maxRecDepth 100000
set_option maxHeartbeats 4000000
namespace K9
open PySem L2 BK
theorem all_mk {l : W.OpenLaw} {w : World} {K : W.Frag} {h : Heap} {mg : Str → Option Value} {fa : Addr} {cKeepError cBadRow cNoBlock cStopped cBadDisk cNoRoom cTooMuch cNoNode cNoNodes cDisk cLayout cBatch fLayout_init fDisk_init fBatch_init f_writes f_blocks f_refuse_no_block f_use_up_one f_write f_Batch_write f_read f_Batch_read f_pairs f_finish : Addr} (X : K.In h) (G : h.Ns mainGlobals mg) (hfa : mg "law" = some (.ref fa))
  {tROW_WORDS tMOST_WORD tFREE tUSED tLEAST_BLOCKS tMOST_BLOCKS tLOG_HEAD_AT tLOG_ROWS_AT tMAPS_AT tMOST_TABLES tMOST_HOMES : Tok}
  {od1 an1 od2 an2 od3 an3 od4 an4 od5 an5 od6 an6 od7 an7 od8 an8 od9 an9 od10 an10 od11 an11 od12 an12 od13 an13 od14 an14 od15 an15 od16 an16 od17 an17 od18 an18 od19 an19 od20 an20 od21 an21 od22 an22 od23 an23 od24 an24 od25 an25 od26 an26 od27 an27 od28 an28 od29 an29 od30 an30 od31 an31 od32 an32 od33 an33 od34 an34 od35 an35 od36 an36 od37 an37 od38 an38 od39 an39 od40 an40 od41 an41 : Option Addr} {sl1 sl2 sl3 sl4 sl5 sl6 sl7 sl8 sl9 sl10 sl11 sl12 sl13 sl14 sl15 sl16 sl17 sl18 sl19 sl20 sl21 sl22 sl23 sl24 sl25 sl26 sl27 sl28 sl29 sl30 sl31 sl32 sl33 sl34 sl35 sl36 sl37 sl38 sl39 sl40 sl41 : Array (Option Value)} {oc1 kV1 dc1 pm1 cd1 ct1 oc2 kV2 dc2 pm2 cd2 ct2 oc3 kV3 dc3 pm3 cd3 ct3 oc4 kV4 dc4 pm4 cd4 ct4 oc5 kV5 dc5 pm5 cd5 ct5 oc6 kV6 dc6 pm6 cd6 ct6 oc7 kV7 dc7 pm7 cd7 ct7 oc8 kV8 dc8 pm8 cd8 ct8 oc9 kV9 dc9 pm9 cd9 ct9 oc10 kV10 dc10 pm10 cd10 ct10 oc11 kV11 dc11 pm11 cd11 ct11 oc12 kV12 dc12 pm12 cd12 ct12 oc13 kV13 dc13 pm13 cd13 ct13 oc14 kV14 dc14 pm14 cd14 ct14 oc15 kV15 dc15 pm15 cd15 ct15 oc16 kV16 dc16 pm16 cd16 ct16 oc17 kV17 dc17 pm17 cd17 ct17 oc18 kV18 dc18 pm18 cd18 ct18 oc19 kV19 dc19 pm19 cd19 ct19 oc20 kV20 dc20 pm20 cd20 ct20 oc21 kV21 dc21 pm21 cd21 ct21 oc22 kV22 dc22 pm22 cd22 ct22 oc23 kV23 dc23 pm23 cd23 ct23 oc24 kV24 dc24 pm24 cd24 ct24 oc25 kV25 dc25 pm25 cd25 ct25 oc26 kV26 dc26 pm26 cd26 ct26 oc27 kV27 dc27 pm27 cd27 ct27 oc28 kV28 dc28 pm28 cd28 ct28 oc29 kV29 dc29 pm29 cd29 ct29 oc30 kV30 dc30 pm30 cd30 ct30 oc31 kV31 dc31 pm31 cd31 ct31 oc32 kV32 dc32 pm32 cd32 ct32 oc33 kV33 dc33 pm33 cd33 ct33 oc34 kV34 dc34 pm34 cd34 ct34 oc35 kV35 dc35 pm35 cd35 ct35 oc36 kV36 dc36 pm36 cd36 ct36 oc37 kV37 dc37 pm37 cd37 ct37 oc38 kV38 dc38 pm38 cd38 ct38 oc39 kV39 dc39 pm39 cd39 ct39 oc40 kV40 dc40 pm40 cd40 ct40 oc41 kV41 dc41 pm41 cd41 ct41 : Value} {f1 f3 f6 f11 f12 f13 f15 f19 f20 f21 f22 f23 f24 f25 f26 f27 f28 f29 f30 f31 f34 f35 f36 f37 f38 f39 f40 f41 : Addr}
  (n_KeepError : W.nsIn K mainGlobals "KeepError" = some (some (.ref cKeepError)))
  (n_BadRow : W.nsIn K mainGlobals "BadRow" = some (some (.ref cBadRow)))
  (n_NoBlock : W.nsIn K mainGlobals "NoBlock" = some (some (.ref cNoBlock)))
  (n_Stopped : W.nsIn K mainGlobals "Stopped" = some (some (.ref cStopped)))
  (n_BadDisk : W.nsIn K mainGlobals "BadDisk" = some (some (.ref cBadDisk)))
  (n_NoRoom : W.nsIn K mainGlobals "NoRoom" = some (some (.ref cNoRoom)))
  (n_TooMuch : W.nsIn K mainGlobals "TooMuch" = some (some (.ref cTooMuch)))
  (n_NoNode : W.nsIn K mainGlobals "NoNode" = some (some (.ref cNoNode)))
  (n_NoNodes : W.nsIn K mainGlobals "NoNodes" = some (some (.ref cNoNodes)))
  (n_Disk : W.nsIn K mainGlobals "Disk" = some (some (.ref cDisk)))
  (n_Layout : W.nsIn K mainGlobals "Layout" = some (some (.ref cLayout)))
  (n_Batch : W.nsIn K mainGlobals "Batch" = some (some (.ref cBatch)))
  (a_fDisk_init : W.findIn K (.ref cDisk) "__init__" = some (some (.ref fDisk_init)))
  (a_f_writes : W.findIn K (.ref cDisk) "writes" = some (some (.ref f_writes)))
  (a_f_blocks : W.findIn K (.ref cDisk) "blocks" = some (some (.ref f_blocks)))
  (a_f_refuse_no_block : W.findIn K (.ref cDisk) "refuse_no_block" = some (some (.ref f_refuse_no_block)))
  (a_f_use_up_one : W.findIn K (.ref cDisk) "use_up_one" = some (some (.ref f_use_up_one)))
  (a_f_write : W.findIn K (.ref cDisk) "write" = some (some (.ref f_write)))
  (a_f_read : W.findIn K (.ref cDisk) "read" = some (some (.ref f_read)))
  (a_fLayout_init : W.findIn K (.ref cLayout) "__init__" = some (some (.ref fLayout_init)))
  (a_fBatch_init : W.findIn K (.ref cBatch) "__init__" = some (some (.ref fBatch_init)))
  (a_f_Batch_write : W.findIn K (.ref cBatch) "write" = some (some (.ref f_Batch_write)))
  (a_f_Batch_read : W.findIn K (.ref cBatch) "read" = some (some (.ref f_Batch_read)))
  (a_f_pairs : W.findIn K (.ref cBatch) "pairs" = some (some (.ref f_pairs)))
  (a_f_finish : W.findIn K (.ref cBatch) "finish" = some (some (.ref f_finish)))
  (a1 : W.nsIn K mainGlobals "is_whole" = some (some (.ref f1)))
  (a3 : W.nsIn K mainGlobals "empty_row" = some (some (.ref f3)))
  (a6 : W.nsIn K mainGlobals "new_maps" = some (some (.ref f6)))
  (a11 : W.nsIn K mainGlobals "is_word" = some (some (.ref f11)))
  (a12 : W.nsIn K mainGlobals "are_words" = some (some (.ref f12)))
  (a13 : W.nsIn K mainGlobals "is_row" = some (some (.ref f13)))
  (a15 : W.nsIn K mainGlobals "is_home" = some (some (.ref f15)))
  (a19 : W.nsIn K mainGlobals "_law_told" = some (some (.ref f19)))
  (a20 : W.nsIn K mainGlobals "_law_cell_at" = some (some (.ref f20)))
  (a21 : W.nsIn K mainGlobals "_law_whole" = some (some (.ref f21)))
  (a22 : W.nsIn K mainGlobals "_law_rows" = some (some (.ref f22)))
  (a23 : W.nsIn K mainGlobals "_law_apart" = some (some (.ref f23)))
  (a24 : W.nsIn K mainGlobals "_law_written" = some (some (.ref f24)))
  (a25 : W.nsIn K mainGlobals "is_free" = some (some (.ref f25)))
  (a26 : W.nsIn K mainGlobals "free_blocks" = some (some (.ref f26)))
  (a27 : W.nsIn K mainGlobals "refuse_wrong_pairs" = some (some (.ref f27)))
  (a28 : W.nsIn K mainGlobals "changed" = some (some (.ref f28)))
  (a29 : W.nsIn K mainGlobals "write_log" = some (some (.ref f29)))
  (a30 : W.nsIn K mainGlobals "write_homes" = some (some (.ref f30)))
  (a31 : W.nsIn K mainGlobals "commit" = some (some (.ref f31)))
  (a34 : W.nsIn K mainGlobals "_law_drawn" = some (some (.ref f34)))
  (a35 : W.nsIn K mainGlobals "mark" = some (some (.ref f35)))
  (a36 : W.nsIn K mainGlobals "take" = some (some (.ref f36)))
  (a37 : W.nsIn K mainGlobals "give" = some (some (.ref f37)))
  (a38 : W.nsIn K mainGlobals "_law_refused" = some (some (.ref f38)))
  (a39 : W.nsIn K mainGlobals "_law_asked" = some (some (.ref f39)))
  (a40 : W.nsIn K mainGlobals "_law_deed" = some (some (.ref f40)))
  (a41 : W.nsIn K mainGlobals "law" = some (some (.ref f41)))
  (z_isinstance : W.nsIn K mainGlobals "isinstance" = some none)
  (z_int : W.nsIn K mainGlobals "int" = some none)
  (z_bool : W.nsIn K mainGlobals "bool" = some none)
  (z_list : W.nsIn K mainGlobals "list" = some none)
  (z_len : W.nsIn K mainGlobals "len" = some none)
  (z_all : W.nsIn K mainGlobals "all" = some none)
  (z_range : W.nsIn K mainGlobals "range" = some none)
  (z_ValueError : W.nsIn K mainGlobals "ValueError" = some none)
  (z_min : W.nsIn K mainGlobals "min" = some none)
  (z_sorted : W.nsIn K mainGlobals "sorted" = some none)
  (z_enumerate : W.nsIn K mainGlobals "enumerate" = some none)
  (v_ROW_WORDS : W.nsIn K mainGlobals "ROW_WORDS" = some (some (.int 16 tROW_WORDS)))
  (v_MOST_WORD : W.nsIn K mainGlobals "MOST_WORD" = some (some (.int 999999999 tMOST_WORD)))
  (v_FREE : W.nsIn K mainGlobals "FREE" = some (some (.int 0 tFREE)))
  (v_USED : W.nsIn K mainGlobals "USED" = some (some (.int 1 tUSED)))
  (v_LEAST_BLOCKS : W.nsIn K mainGlobals "LEAST_BLOCKS" = some (some (.int 24 tLEAST_BLOCKS)))
  (v_MOST_BLOCKS : W.nsIn K mainGlobals "MOST_BLOCKS" = some (some (.int 96 tMOST_BLOCKS)))
  (v_LOG_HEAD_AT : W.nsIn K mainGlobals "LOG_HEAD_AT" = some (some (.int 1 tLOG_HEAD_AT)))
  (v_LOG_ROWS_AT : W.nsIn K mainGlobals "LOG_ROWS_AT" = some (some (.int 2 tLOG_ROWS_AT)))
  (v_MAPS_AT : W.nsIn K mainGlobals "MAPS_AT" = some (some (.int 17 tMAPS_AT)))
  (v_MOST_TABLES : W.nsIn K mainGlobals "MOST_TABLES" = some (some (.int 8 tMOST_TABLES)))
  (v_MOST_HOMES : W.nsIn K mainGlobals "MOST_HOMES" = some (some (.int 15 tMOST_HOMES)))
  (x_BadRow : W.excIn K cBadRow veMro "ValueError.__new__" = true)
  (x_NoBlock : W.excIn K cNoBlock veMro "ValueError.__new__" = true)
  (x_Stopped : W.excIn K cStopped veMro "ValueError.__new__" = true)
  (x_BadDisk : W.excIn K cBadDisk veMro "ValueError.__new__" = true)
  (x_TooMuch : W.excIn K cTooMuch veMro "ValueError.__new__" = true)
  (x_NoRoom : W.excIn K cNoRoom veMro "ValueError.__new__" = true)
  (g0_NoBlock : W.findIn K (.ref cNoBlock) "__getattribute__" = some (some (.builtin "BaseException.__getattribute__")))
  (g1_NoBlock : W.findIn K (.ref cNoBlock) "__getattr__" = some none)
  (g2_NoBlock : W.findIn K (.ref cNoBlock) "__class__" = some (some (.builtin "object.__class__")))
  (g3_NoBlock : W.mroIn K cNoBlock (.type "BaseException") = some true)
  (g4_NoBlock : W.mroIn K cNoBlock (.type "object") = some true)
  (g5_NoBlock : W.findObj K cNoBlock none "__class__" = some (.bind (.builtin "getset_descriptor.__get__") (.builtin "object.__class__")))
  (g6_NoBlock : (W.clsIn K cNoBlock).isSome = true)
  (g0_NoRoom : W.findIn K (.ref cNoRoom) "__getattribute__" = some (some (.builtin "BaseException.__getattribute__")))
  (g1_NoRoom : W.findIn K (.ref cNoRoom) "__getattr__" = some none)
  (g2_NoRoom : W.findIn K (.ref cNoRoom) "__class__" = some (some (.builtin "object.__class__")))
  (g3_NoRoom : W.mroIn K cNoRoom (.type "BaseException") = some true)
  (g4_NoRoom : W.mroIn K cNoRoom (.type "object") = some true)
  (g5_NoRoom : W.findObj K cNoRoom none "__class__" = some (.bind (.builtin "getset_descriptor.__get__") (.builtin "object.__class__")))
  (g6_NoRoom : (W.clsIn K cNoRoom).isSome = true)
  (h0_KeepError : (match K.lookup cKeepError with | some ⟨.type "type", _, .cls _, _⟩ => true | _ => false) = true)
  (h1_KeepError : W.mroIn K cKeepError (.type "BaseException") = some true)
  (s_BadRow_KeepError : W.mroIn K cBadRow (.ref cKeepError) = some true)
  (s_NoBlock_KeepError : W.mroIn K cNoBlock (.ref cKeepError) = some true)
  (s_Stopped_KeepError : W.mroIn K cStopped (.ref cKeepError) = some true)
  (s_BadDisk_KeepError : W.mroIn K cBadDisk (.ref cKeepError) = some true)
  (s_TooMuch_KeepError : W.mroIn K cTooMuch (.ref cKeepError) = some true)
  (s_NoRoom_KeepError : W.mroIn K cNoRoom (.ref cKeepError) = some true)
  (q_NoBlock_NoBlock : W.kitOne K (.ref cNoBlock) (.ref cNoBlock) = some true)
  (q_NoBlock_NoRoom : W.kitOne K (.ref cNoBlock) (.ref cNoRoom) = some false)
  (q_NoBlock_NoNode : W.kitOne K (.ref cNoBlock) (.ref cNoNode) = some false)
  (q_NoBlock_NoNodes : W.kitOne K (.ref cNoBlock) (.ref cNoNodes) = some false)
  (q_NoBlock_ValueError : W.kitOne K (.ref cNoBlock) (.type "ValueError") = some true)
  (q_NoRoom_NoBlock : W.kitOne K (.ref cNoRoom) (.ref cNoBlock) = some false)
  (q_NoRoom_NoRoom : W.kitOne K (.ref cNoRoom) (.ref cNoRoom) = some true)
  (q_NoRoom_NoNode : W.kitOne K (.ref cNoRoom) (.ref cNoNode) = some false)
  (q_NoRoom_NoNodes : W.kitOne K (.ref cNoRoom) (.ref cNoNodes) = some false)
  (q_NoRoom_ValueError : W.kitOne K (.ref cNoRoom) (.type "ValueError") = some true)
  (pg_Disk : W.plainGet K cDisk Str.empty = true)
  (hd_Disk : W.hasDictIn K cDisk = true)
  (po_Disk : W.plainOver K cDisk = true)
  (sa_Disk : W.findIn K (.ref cDisk) "__setattr__" = some (some (.builtin "object.__setattr__")))
  (na_kept_rows : W.findIn K (.ref cDisk) "kept_rows" = some none)
  (na_writes_done : W.findIn K (.ref cDisk) "writes_done" = some none)
  (na_writes_left : W.findIn K (.ref cDisk) "writes_left" = some none)
  (mk_Disk : W.makesIn K cDisk = true)
  (i_fDisk_init : W.isFn K (.ref fDisk_init) = true)
  (kc_Disk : W.keepIn K (.ref cDisk) = true)
  (i_f_writes : W.isFn K (.ref f_writes) = true)
  (kp_f_writes : W.keepIn K (.ref f_writes) = true)
  (i_f_blocks : W.isFn K (.ref f_blocks) = true)
  (kp_f_blocks : W.keepIn K (.ref f_blocks) = true)
  (i_f_refuse_no_block : W.isFn K (.ref f_refuse_no_block) = true)
  (kp_f_refuse_no_block : W.keepIn K (.ref f_refuse_no_block) = true)
  (i_f_use_up_one : W.isFn K (.ref f_use_up_one) = true)
  (kp_f_use_up_one : W.keepIn K (.ref f_use_up_one) = true)
  (i_f_write : W.isFn K (.ref f_write) = true)
  (kp_f_write : W.keepIn K (.ref f_write) = true)
  (i_f_read : W.isFn K (.ref f_read) = true)
  (kp_f_read : W.keepIn K (.ref f_read) = true)
  (pg_Layout : W.plainGet K cLayout Str.empty = true)
  (hd_Layout : W.hasDictIn K cLayout = true)
  (po_Layout : W.plainOver K cLayout = true)
  (sa_Layout : W.findIn K (.ref cLayout) "__setattr__" = some (some (.builtin "object.__setattr__")))
  (na_many : W.findIn K (.ref cLayout) "many" = some none)
  (na_tables : W.findIn K (.ref cLayout) "tables" = some none)
  (na_maps_at : W.findIn K (.ref cLayout) "maps_at" = some none)
  (na_nodes_at : W.findIn K (.ref cLayout) "nodes_at" = some none)
  (na_data_at : W.findIn K (.ref cLayout) "data_at" = some none)
  (mk_Layout : W.makesIn K cLayout = true)
  (i_fLayout_init : W.isFn K (.ref fLayout_init) = true)
  (kc_Layout : W.keepIn K (.ref cLayout) = true)
  (pg_Batch : W.plainGet K cBatch Str.empty = true)
  (hd_Batch : W.hasDictIn K cBatch = true)
  (po_Batch : W.plainOver K cBatch = true)
  (sa_Batch : W.findIn K (.ref cBatch) "__setattr__" = some (some (.builtin "object.__setattr__")))
  (na_disk : W.findIn K (.ref cBatch) "disk" = some none)
  (na_new_rows : W.findIn K (.ref cBatch) "new_rows" = some none)
  (mk_Batch : W.makesIn K cBatch = true)
  (i_fBatch_init : W.isFn K (.ref fBatch_init) = true)
  (kc_Batch : W.keepIn K (.ref cBatch) = true)
  (i_f_Batch_write : W.isFn K (.ref f_Batch_write) = true)
  (kp_f_Batch_write : W.keepIn K (.ref f_Batch_write) = true)
  (i_f_Batch_read : W.isFn K (.ref f_Batch_read) = true)
  (kp_f_Batch_read : W.keepIn K (.ref f_Batch_read) = true)
  (i_f_pairs : W.isFn K (.ref f_pairs) = true)
  (kp_f_pairs : W.keepIn K (.ref f_pairs) = true)
  (i_f_finish : W.isFn K (.ref f_finish) = true)
  (kp_f_finish : W.keepIn K (.ref f_finish) = true)
  (l1 : K.lookup f1 = some ⟨oc1, od1, .func (W.fnOf "is_whole" "is_whole" (defArgs s_is_whole) (defBody s_is_whole) (defScope s_is_whole) .none kV1 dc1 pm1 an1 cd1 ct1), sl1⟩)
  (c1 : W.codeIn K cd1 "is_whole" = true)
  (k1 : W.keepIn K (.ref f1) = true)
  (l2 : K.lookup fLayout_init = some ⟨oc2, od2, .func (W.fnOf "__init__" "Layout.__init__" (defArgs s_Layout___init__) (defBody s_Layout___init__) (defScope s_Layout___init__) .none kV2 dc2 pm2 an2 cd2 ct2), sl2⟩)
  (c2 : W.codeIn K cd2 "Layout.__init__" = true)
  (k2 : W.keepIn K (.ref fLayout_init) = true)
  (l3 : K.lookup f3 = some ⟨oc3, od3, .func (W.fnOf "empty_row" "empty_row" (defArgs s_empty_row) (defBody s_empty_row) (defScope s_empty_row) .none kV3 dc3 pm3 an3 cd3 ct3), sl3⟩)
  (c3 : W.codeIn K cd3 "empty_row" = true)
  (k3 : W.keepIn K (.ref f3) = true)
  (l4 : K.lookup fDisk_init = some ⟨oc4, od4, .func (W.fnOf "__init__" "Disk.__init__" (defArgs s_Disk___init__) (defBody s_Disk___init__) (defScope s_Disk___init__) .none kV4 dc4 pm4 an4 cd4 ct4), sl4⟩)
  (c4 : W.codeIn K cd4 "Disk.__init__" = true)
  (k4 : W.keepIn K (.ref fDisk_init) = true)
  (l5 : K.lookup fBatch_init = some ⟨oc5, od5, .func (W.fnOf "__init__" "Batch.__init__" (defArgs s_Batch___init__) (defBody s_Batch___init__) (defScope s_Batch___init__) .none kV5 dc5 pm5 an5 cd5 ct5), sl5⟩)
  (c5 : W.codeIn K cd5 "Batch.__init__" = true)
  (k5 : W.keepIn K (.ref fBatch_init) = true)
  (l6 : K.lookup f6 = some ⟨oc6, od6, .func (W.fnOf "new_maps" "new_maps" (defArgs s_new_maps) (defBody s_new_maps) (defScope s_new_maps) .none kV6 dc6 pm6 an6 cd6 ct6), sl6⟩)
  (c6 : W.codeIn K cd6 "new_maps" = true)
  (k6 : W.keepIn K (.ref f6) = true)
  (l7 : K.lookup f_writes = some ⟨oc7, od7, .func (W.fnOf "writes" "Disk.writes" (defArgs s_Disk_writes) (defBody s_Disk_writes) (defScope s_Disk_writes) .none kV7 dc7 pm7 an7 cd7 ct7), sl7⟩)
  (c7 : W.codeIn K cd7 "Disk.writes" = true)
  (k7 : W.keepIn K (.ref f_writes) = true)
  (l8 : K.lookup f_blocks = some ⟨oc8, od8, .func (W.fnOf "blocks" "Disk.blocks" (defArgs s_Disk_blocks) (defBody s_Disk_blocks) (defScope s_Disk_blocks) .none kV8 dc8 pm8 an8 cd8 ct8), sl8⟩)
  (c8 : W.codeIn K cd8 "Disk.blocks" = true)
  (k8 : W.keepIn K (.ref f_blocks) = true)
  (l9 : K.lookup f_refuse_no_block = some ⟨oc9, od9, .func (W.fnOf "refuse_no_block" "Disk.refuse_no_block" (defArgs s_Disk_refuse_no_block) (defBody s_Disk_refuse_no_block) (defScope s_Disk_refuse_no_block) .none kV9 dc9 pm9 an9 cd9 ct9), sl9⟩)
  (c9 : W.codeIn K cd9 "Disk.refuse_no_block" = true)
  (k9 : W.keepIn K (.ref f_refuse_no_block) = true)
  (l10 : K.lookup f_use_up_one = some ⟨oc10, od10, .func (W.fnOf "use_up_one" "Disk.use_up_one" (defArgs s_Disk_use_up_one) (defBody s_Disk_use_up_one) (defScope s_Disk_use_up_one) .none kV10 dc10 pm10 an10 cd10 ct10), sl10⟩)
  (c10 : W.codeIn K cd10 "Disk.use_up_one" = true)
  (k10 : W.keepIn K (.ref f_use_up_one) = true)
  (l11 : K.lookup f11 = some ⟨oc11, od11, .func (W.fnOf "is_word" "is_word" (defArgs s_is_word) (defBody s_is_word) (defScope s_is_word) .none kV11 dc11 pm11 an11 cd11 ct11), sl11⟩)
  (c11 : W.codeIn K cd11 "is_word" = true)
  (k11 : W.keepIn K (.ref f11) = true)
  (l12 : K.lookup f12 = some ⟨oc12, od12, .func (W.fnOf "are_words" "are_words" (defArgs s_are_words) (defBody s_are_words) (defScope s_are_words) .none kV12 dc12 pm12 an12 cd12 ct12), sl12⟩)
  (c12 : W.codeIn K cd12 "are_words" = true)
  (k12 : W.keepIn K (.ref f12) = true)
  (l13 : K.lookup f13 = some ⟨oc13, od13, .func (W.fnOf "is_row" "is_row" (defArgs s_is_row) (defBody s_is_row) (defScope s_is_row) .none kV13 dc13 pm13 an13 cd13 ct13), sl13⟩)
  (c13 : W.codeIn K cd13 "is_row" = true)
  (k13 : W.keepIn K (.ref f13) = true)
  (l14 : K.lookup f_write = some ⟨oc14, od14, .func (W.fnOf "write" "Disk.write" (defArgs s_Disk_write) (defBody s_Disk_write) (defScope s_Disk_write) .none kV14 dc14 pm14 an14 cd14 ct14), sl14⟩)
  (c14 : W.codeIn K cd14 "Disk.write" = true)
  (k14 : W.keepIn K (.ref f_write) = true)
  (l15 : K.lookup f15 = some ⟨oc15, od15, .func (W.fnOf "is_home" "is_home" (defArgs s_is_home) (defBody s_is_home) (defScope s_is_home) .none kV15 dc15 pm15 an15 cd15 ct15), sl15⟩)
  (c15 : W.codeIn K cd15 "is_home" = true)
  (k15 : W.keepIn K (.ref f15) = true)
  (l16 : K.lookup f_Batch_write = some ⟨oc16, od16, .func (W.fnOf "write" "Batch.write" (defArgs s_Batch_write) (defBody s_Batch_write) (defScope s_Batch_write) .none kV16 dc16 pm16 an16 cd16 ct16), sl16⟩)
  (c16 : W.codeIn K cd16 "Batch.write" = true)
  (k16 : W.keepIn K (.ref f_Batch_write) = true)
  (l17 : K.lookup f_read = some ⟨oc17, od17, .func (W.fnOf "read" "Disk.read" (defArgs s_Disk_read) (defBody s_Disk_read) (defScope s_Disk_read) .none kV17 dc17 pm17 an17 cd17 ct17), sl17⟩)
  (c17 : W.codeIn K cd17 "Disk.read" = true)
  (k17 : W.keepIn K (.ref f_read) = true)
  (l18 : K.lookup f_Batch_read = some ⟨oc18, od18, .func (W.fnOf "read" "Batch.read" (defArgs s_Batch_read) (defBody s_Batch_read) (defScope s_Batch_read) .none kV18 dc18 pm18 an18 cd18 ct18), sl18⟩)
  (c18 : W.codeIn K cd18 "Batch.read" = true)
  (k18 : W.keepIn K (.ref f_Batch_read) = true)
  (l19 : K.lookup f19 = some ⟨oc19, od19, .func (W.fnOf "_law_told" "_law_told" (defArgs s__law_told) (defBody s__law_told) (defScope s__law_told) .none kV19 dc19 pm19 an19 cd19 ct19), sl19⟩)
  (c19 : W.codeIn K cd19 "_law_told" = true)
  (k19 : W.keepIn K (.ref f19) = true)
  (l20 : K.lookup f20 = some ⟨oc20, od20, .func (W.fnOf "_law_cell_at" "_law_cell_at" (defArgs s__law_cell_at) (defBody s__law_cell_at) (defScope s__law_cell_at) .none kV20 dc20 pm20 an20 cd20 ct20), sl20⟩)
  (c20 : W.codeIn K cd20 "_law_cell_at" = true)
  (k20 : W.keepIn K (.ref f20) = true)
  (l21 : K.lookup f21 = some ⟨oc21, od21, .func (W.fnOf "_law_whole" "_law_whole" (defArgs s__law_whole) (defBody s__law_whole) (defScope s__law_whole) .none kV21 dc21 pm21 an21 cd21 ct21), sl21⟩)
  (c21 : W.codeIn K cd21 "_law_whole" = true)
  (k21 : W.keepIn K (.ref f21) = true)
  (l22 : K.lookup f22 = some ⟨oc22, od22, .func (W.fnOf "_law_rows" "_law_rows" (defArgs s__law_rows) (defBody s__law_rows) (defScope s__law_rows) .none kV22 dc22 pm22 an22 cd22 ct22), sl22⟩)
  (c22 : W.codeIn K cd22 "_law_rows" = true)
  (k22 : W.keepIn K (.ref f22) = true)
  (l23 : K.lookup f23 = some ⟨oc23, od23, .func (W.fnOf "_law_apart" "_law_apart" (defArgs s__law_apart) (defBody s__law_apart) (defScope s__law_apart) .none kV23 dc23 pm23 an23 cd23 ct23), sl23⟩)
  (c23 : W.codeIn K cd23 "_law_apart" = true)
  (k23 : W.keepIn K (.ref f23) = true)
  (l24 : K.lookup f24 = some ⟨oc24, od24, .func (W.fnOf "_law_written" "_law_written" (defArgs s__law_written) (defBody s__law_written) (defScope s__law_written) .none kV24 dc24 pm24 an24 cd24 ct24), sl24⟩)
  (c24 : W.codeIn K cd24 "_law_written" = true)
  (k24 : W.keepIn K (.ref f24) = true)
  (l25 : K.lookup f25 = some ⟨oc25, od25, .func (W.fnOf "is_free" "is_free" (defArgs s_is_free) (defBody s_is_free) (defScope s_is_free) .none kV25 dc25 pm25 an25 cd25 ct25), sl25⟩)
  (c25 : W.codeIn K cd25 "is_free" = true)
  (k25 : W.keepIn K (.ref f25) = true)
  (l26 : K.lookup f26 = some ⟨oc26, od26, .func (W.fnOf "free_blocks" "free_blocks" (defArgs s_free_blocks) (defBody s_free_blocks) (defScope s_free_blocks) .none kV26 dc26 pm26 an26 cd26 ct26), sl26⟩)
  (c26 : W.codeIn K cd26 "free_blocks" = true)
  (k26 : W.keepIn K (.ref f26) = true)
  (l27 : K.lookup f27 = some ⟨oc27, od27, .func (W.fnOf "refuse_wrong_pairs" "refuse_wrong_pairs" (defArgs s_refuse_wrong_pairs) (defBody s_refuse_wrong_pairs) (defScope s_refuse_wrong_pairs) .none kV27 dc27 pm27 an27 cd27 ct27), sl27⟩)
  (c27 : W.codeIn K cd27 "refuse_wrong_pairs" = true)
  (k27 : W.keepIn K (.ref f27) = true)
  (l28 : K.lookup f28 = some ⟨oc28, od28, .func (W.fnOf "changed" "changed" (defArgs s_changed) (defBody s_changed) (defScope s_changed) .none kV28 dc28 pm28 an28 cd28 ct28), sl28⟩)
  (c28 : W.codeIn K cd28 "changed" = true)
  (k28 : W.keepIn K (.ref f28) = true)
  (l29 : K.lookup f29 = some ⟨oc29, od29, .func (W.fnOf "write_log" "write_log" (defArgs s_write_log) (defBody s_write_log) (defScope s_write_log) .none kV29 dc29 pm29 an29 cd29 ct29), sl29⟩)
  (c29 : W.codeIn K cd29 "write_log" = true)
  (k29 : W.keepIn K (.ref f29) = true)
  (l30 : K.lookup f30 = some ⟨oc30, od30, .func (W.fnOf "write_homes" "write_homes" (defArgs s_write_homes) (defBody s_write_homes) (defScope s_write_homes) .none kV30 dc30 pm30 an30 cd30 ct30), sl30⟩)
  (c30 : W.codeIn K cd30 "write_homes" = true)
  (k30 : W.keepIn K (.ref f30) = true)
  (l31 : K.lookup f31 = some ⟨oc31, od31, .func (W.fnOf "commit" "commit" (defArgs s_commit) (defBody s_commit) (defScope s_commit) .none kV31 dc31 pm31 an31 cd31 ct31), sl31⟩)
  (c31 : W.codeIn K cd31 "commit" = true)
  (k31 : W.keepIn K (.ref f31) = true)
  (l32 : K.lookup f_pairs = some ⟨oc32, od32, .func (W.fnOf "pairs" "Batch.pairs" (defArgs s_Batch_pairs) (defBody s_Batch_pairs) (defScope s_Batch_pairs) .none kV32 dc32 pm32 an32 cd32 ct32), sl32⟩)
  (c32 : W.codeIn K cd32 "Batch.pairs" = true)
  (k32 : W.keepIn K (.ref f_pairs) = true)
  (l33 : K.lookup f_finish = some ⟨oc33, od33, .func (W.fnOf "finish" "Batch.finish" (defArgs s_Batch_finish) (defBody s_Batch_finish) (defScope s_Batch_finish) .none kV33 dc33 pm33 an33 cd33 ct33), sl33⟩)
  (c33 : W.codeIn K cd33 "Batch.finish" = true)
  (k33 : W.keepIn K (.ref f_finish) = true)
  (l34 : K.lookup f34 = some ⟨oc34, od34, .func (W.fnOf "_law_drawn" "_law_drawn" (defArgs s__law_drawn) (defBody s__law_drawn) (defScope s__law_drawn) .none kV34 dc34 pm34 an34 cd34 ct34), sl34⟩)
  (c34 : W.codeIn K cd34 "_law_drawn" = true)
  (k34 : W.keepIn K (.ref f34) = true)
  (l35 : K.lookup f35 = some ⟨oc35, od35, .func (W.fnOf "mark" "mark" (defArgs s_mark) (defBody s_mark) (defScope s_mark) .none kV35 dc35 pm35 an35 cd35 ct35), sl35⟩)
  (c35 : W.codeIn K cd35 "mark" = true)
  (k35 : W.keepIn K (.ref f35) = true)
  (l36 : K.lookup f36 = some ⟨oc36, od36, .func (W.fnOf "take" "take" (defArgs s_take) (defBody s_take) (defScope s_take) .none kV36 dc36 pm36 an36 cd36 ct36), sl36⟩)
  (c36 : W.codeIn K cd36 "take" = true)
  (k36 : W.keepIn K (.ref f36) = true)
  (l37 : K.lookup f37 = some ⟨oc37, od37, .func (W.fnOf "give" "give" (defArgs s_give) (defBody s_give) (defScope s_give) .none kV37 dc37 pm37 an37 cd37 ct37), sl37⟩)
  (c37 : W.codeIn K cd37 "give" = true)
  (k37 : W.keepIn K (.ref f37) = true)
  (l38 : K.lookup f38 = some ⟨oc38, od38, .func (W.fnOf "_law_refused" "_law_refused" (defArgs s__law_refused) (defBody s__law_refused) (defScope s__law_refused) .none kV38 dc38 pm38 an38 cd38 ct38), sl38⟩)
  (c38 : W.codeIn K cd38 "_law_refused" = true)
  (k38 : W.keepIn K (.ref f38) = true)
  (l39 : K.lookup f39 = some ⟨oc39, od39, .func (W.fnOf "_law_asked" "_law_asked" (defArgs s__law_asked) (defBody s__law_asked) (defScope s__law_asked) .none kV39 dc39 pm39 an39 cd39 ct39), sl39⟩)
  (c39 : W.codeIn K cd39 "_law_asked" = true)
  (k39 : W.keepIn K (.ref f39) = true)
  (l40 : K.lookup f40 = some ⟨oc40, od40, .func (W.fnOf "_law_deed" "_law_deed" (defArgs s__law_deed) (defBody s__law_deed) (defScope s__law_deed) .none kV40 dc40 pm40 an40 cd40 ct40), sl40⟩)
  (c40 : W.codeIn K cd40 "_law_deed" = true)
  (k40 : W.keepIn K (.ref f40) = true)
  (l41 : K.lookup f41 = some ⟨oc41, od41, .func (W.fnOf "law" "law" (defArgs s_law) (defBody s_law) (defScope s_law) .none kV41 dc41 pm41 an41 cd41 ct41), sl41⟩)
  (c41 : W.codeIn K cd41 "law" = true)
  (k41 : W.keepIn K (.ref f41) = true) :
  ∃ fd : FuncData, (∀ (s : Shared) (v : Value), BindsTo s fd ⟨[v], []⟩ [("_law_script", v)]) ∧ ∀ base : Heap, K.In base → base.Ns mainGlobals mg → FnOk l.prog w K mg base (CXE l.prog w) 10 fa fd ["_law_script"] (spLaw K) := by
 have e := hfa.symm.trans (W.mg_of X G a41)
 cases e
 have T : Txt K mg (⟨cKeepError, cBadRow, cNoBlock, cStopped, cBadDisk, cNoRoom, cTooMuch, cNoNode, cNoNodes, cDisk, cLayout, cBatch, fLayout_init, fDisk_init, fBatch_init, f_writes, f_blocks, f_refuse_no_block, f_use_up_one, f_write, f_Batch_write, f_read, f_Batch_read, f_pairs, f_finish⟩ : Ad) := ⟨W.mg_none_of X G z_isinstance, W.mg_none_of X G z_int, W.mg_none_of X G z_bool, W.mg_none_of X G z_list, W.mg_none_of X G z_len, W.mg_none_of X G z_all, W.mg_none_of X G z_range, W.mg_none_of X G z_ValueError, W.mg_none_of X G z_min, W.mg_none_of X G z_sorted, W.mg_none_of X G z_enumerate, ⟨_, W.mg_of X G v_ROW_WORDS⟩, ⟨_, W.mg_of X G v_MOST_WORD⟩, ⟨_, W.mg_of X G v_FREE⟩, ⟨_, W.mg_of X G v_USED⟩, ⟨_, W.mg_of X G v_LEAST_BLOCKS⟩, ⟨_, W.mg_of X G v_MOST_BLOCKS⟩, ⟨_, W.mg_of X G v_LOG_HEAD_AT⟩, ⟨_, W.mg_of X G v_LOG_ROWS_AT⟩, ⟨_, W.mg_of X G v_MAPS_AT⟩, ⟨_, W.mg_of X G v_MOST_TABLES⟩, ⟨_, W.mg_of X G v_MOST_HOMES⟩, W.mg_of X G n_KeepError, W.mg_of X G n_BadRow, W.mg_of X G n_NoBlock, W.mg_of X G n_Stopped, W.mg_of X G n_BadDisk, W.mg_of X G n_NoRoom, W.mg_of X G n_TooMuch, W.mg_of X G n_NoNode, W.mg_of X G n_NoNodes, W.mg_of X G n_Disk, W.mg_of X G n_Layout, W.mg_of X G n_Batch, x_BadRow, x_NoBlock, x_Stopped, x_BadDisk, x_TooMuch, x_NoRoom, ⟨g0_NoBlock, g1_NoBlock, g2_NoBlock, g3_NoBlock, g4_NoBlock, g5_NoBlock, g6_NoBlock⟩, ⟨g0_NoRoom, g1_NoRoom, g2_NoRoom, g3_NoRoom, g4_NoRoom, g5_NoRoom, g6_NoRoom⟩, ⟨h0_KeepError, h1_KeepError⟩, s_BadRow_KeepError, s_NoBlock_KeepError, s_Stopped_KeepError, s_BadDisk_KeepError, s_TooMuch_KeepError, s_NoRoom_KeepError, q_NoBlock_NoBlock, q_NoBlock_NoRoom, q_NoBlock_NoNode, q_NoBlock_NoNodes, q_NoBlock_ValueError, q_NoRoom_NoBlock, q_NoRoom_NoRoom, q_NoRoom_NoNode, q_NoRoom_NoNodes, q_NoRoom_ValueError, ⟨pg_Disk, hd_Disk, po_Disk, sa_Disk⟩, na_kept_rows, na_writes_done, na_writes_left, ⟨mk_Disk, a_fDisk_init, i_fDisk_init, kc_Disk⟩, ⟨a_f_writes, i_f_writes, kp_f_writes⟩, ⟨a_f_blocks, i_f_blocks, kp_f_blocks⟩, ⟨a_f_refuse_no_block, i_f_refuse_no_block, kp_f_refuse_no_block⟩, ⟨a_f_use_up_one, i_f_use_up_one, kp_f_use_up_one⟩, ⟨a_f_write, i_f_write, kp_f_write⟩, ⟨a_f_read, i_f_read, kp_f_read⟩, ⟨pg_Layout, hd_Layout, po_Layout, sa_Layout⟩, na_many, na_tables, na_maps_at, na_nodes_at, na_data_at, ⟨mk_Layout, a_fLayout_init, i_fLayout_init, kc_Layout⟩, ⟨pg_Batch, hd_Batch, po_Batch, sa_Batch⟩, na_disk, na_new_rows, ⟨mk_Batch, a_fBatch_init, i_fBatch_init, kc_Batch⟩, ⟨a_f_Batch_write, i_f_Batch_write, kp_f_Batch_write⟩, ⟨a_f_Batch_read, i_f_Batch_read, kp_f_Batch_read⟩, ⟨a_f_pairs, i_f_pairs, kp_f_pairs⟩, ⟨a_f_finish, i_f_finish, kp_f_finish⟩⟩
 have F1 := fun_mk (st := s_is_whole) l1 c1 k1
 have b1 := F1.binds (ps := ["thing", "least", "most"]) fun _ _ _ _ _ _ us hl => match us, hl with | [_, _, _], _ => rfl
 have F2 := fun_mk (st := s_Layout___init__) l2 c2 k2
 have b2 := F2.binds (ps := ["self", "many", "tables"]) fun _ _ _ _ _ _ us hl => match us, hl with | [_, _, _], _ => rfl
 have F3 := fun_mk (st := s_empty_row) l3 c3 k3
 have b3 := F3.binds (ps := []) fun _ _ _ _ _ _ us hl => match us, hl with | [], _ => rfl
 have F4 := fun_mk (st := s_Disk___init__) l4 c4 k4
 have b4 := F4.binds (ps := ["self", "many"]) fun _ _ _ _ _ _ us hl => match us, hl with | [_, _], _ => rfl
 have F5 := fun_mk (st := s_Batch___init__) l5 c5 k5
 have b5 := F5.binds (ps := ["self", "disk"]) fun _ _ _ _ _ _ us hl => match us, hl with | [_, _], _ => rfl
 have F6 := fun_mk (st := s_new_maps) l6 c6 k6
 have b6 := F6.binds (ps := ["layout"]) fun _ _ _ _ _ _ us hl => match us, hl with | [_], _ => rfl
 have F7 := fun_mk (st := s_Disk_writes) l7 c7 k7
 have b7 := F7.binds (ps := ["self"]) fun _ _ _ _ _ _ us hl => match us, hl with | [_], _ => rfl
 have F8 := fun_mk (st := s_Disk_blocks) l8 c8 k8
 have b8 := F8.binds (ps := ["self"]) fun _ _ _ _ _ _ us hl => match us, hl with | [_], _ => rfl
 have F9 := fun_mk (st := s_Disk_refuse_no_block) l9 c9 k9
 have b9 := F9.binds (ps := ["self", "block"]) fun _ _ _ _ _ _ us hl => match us, hl with | [_, _], _ => rfl
 have F10 := fun_mk (st := s_Disk_use_up_one) l10 c10 k10
 have b10 := F10.binds (ps := ["self"]) fun _ _ _ _ _ _ us hl => match us, hl with | [_], _ => rfl
 have F11 := fun_mk (st := s_is_word) l11 c11 k11
 have b11 := F11.binds (ps := ["thing"]) fun _ _ _ _ _ _ us hl => match us, hl with | [_], _ => rfl
 have F12 := fun_mk (st := s_are_words) l12 c12 k12
 have b12 := F12.binds (ps := ["thing"]) fun _ _ _ _ _ _ us hl => match us, hl with | [_], _ => rfl
 have F13 := fun_mk (st := s_is_row) l13 c13 k13
 have b13 := F13.binds (ps := ["thing"]) fun _ _ _ _ _ _ us hl => match us, hl with | [_], _ => rfl
 have F14 := fun_mk (st := s_Disk_write) l14 c14 k14
 have b14 := F14.binds (ps := ["self", "block", "row"]) fun _ _ _ _ _ _ us hl => match us, hl with | [_, _, _], _ => rfl
 have F15 := fun_mk (st := s_is_home) l15 c15 k15
 have b15 := F15.binds (ps := ["disk", "block"]) fun _ _ _ _ _ _ us hl => match us, hl with | [_, _], _ => rfl
 have F16 := fun_mk (st := s_Batch_write) l16 c16 k16
 have b16 := F16.binds (ps := ["self", "block", "row"]) fun _ _ _ _ _ _ us hl => match us, hl with | [_, _, _], _ => rfl
 have F17 := fun_mk (st := s_Disk_read) l17 c17 k17
 have b17 := F17.binds (ps := ["self", "block"]) fun _ _ _ _ _ _ us hl => match us, hl with | [_, _], _ => rfl
 have F18 := fun_mk (st := s_Batch_read) l18 c18 k18
 have b18 := F18.binds (ps := ["self", "block"]) fun _ _ _ _ _ _ us hl => match us, hl with | [_, _], _ => rfl
 have F19 := fun_mk (st := s__law_told) l19 c19 k19
 have b19 := F19.binds (ps := ["_law_batch", "_law_layout", "_law_free"]) fun _ _ _ _ _ _ us hl => match us, hl with | [_, _, _], _ => rfl
 have F20 := fun_mk (st := s__law_cell_at) l20 c20 k20
 have b20 := F20.binds (ps := ["_law_script", "_law_k"]) fun _ _ _ _ _ _ us hl => match us, hl with | [_, _], _ => rfl
 have F21 := fun_mk (st := s__law_whole) l21 c21 k21
 have b21 := F21.binds (ps := ["_law_found"]) fun _ _ _ _ _ _ us hl => match us, hl with | [_], _ => rfl
 have F22 := fun_mk (st := s__law_rows) l22 c22 k22
 have b22 := F22.binds (ps := ["_law_found"]) fun _ _ _ _ _ _ us hl => match us, hl with | [_], _ => rfl
 have F23 := fun_mk (st := s__law_apart) l23 c23 k23
 have b23 := F23.binds (ps := ["_law_layout", "_law_rows_here"]) fun _ _ _ _ _ _ us hl => match us, hl with | [_, _], _ => rfl
 have F24 := fun_mk (st := s__law_written) l24 c24 k24
 have b24 := F24.binds (ps := ["_law_batch", "_law_layout", "_law_free", "_law_cell"]) fun _ _ _ _ _ _ us hl => match us, hl with | [_, _, _, _], _ => rfl
 have F25 := fun_mk (st := s_is_free) l25 c25 k25
 have b25 := F25.binds (ps := ["batch", "layout", "block"]) fun _ _ _ _ _ _ us hl => match us, hl with | [_, _, _], _ => rfl
 have F26 := fun_mk (st := s_free_blocks) l26 c26 k26
 have b26 := F26.binds (ps := ["batch", "layout"]) fun _ _ _ _ _ _ us hl => match us, hl with | [_, _], _ => rfl
 have F27 := fun_mk (st := s_refuse_wrong_pairs) l27 c27 k27
 have b27 := F27.binds (ps := ["disk", "pairs"]) fun _ _ _ _ _ _ us hl => match us, hl with | [_, _], _ => rfl
 have F28 := fun_mk (st := s_changed) l28 c28 k28
 have b28 := F28.binds (ps := ["row", "at", "words"]) fun _ _ _ _ _ _ us hl => match us, hl with | [_, _, _], _ => rfl
 have F29 := fun_mk (st := s_write_log) l29 c29 k29
 have b29 := F29.binds (ps := ["disk", "pairs"]) fun _ _ _ _ _ _ us hl => match us, hl with | [_, _], _ => rfl
 have F30 := fun_mk (st := s_write_homes) l30 c30 k30
 have b30 := F30.binds (ps := ["disk", "pairs"]) fun _ _ _ _ _ _ us hl => match us, hl with | [_, _], _ => rfl
 have F31 := fun_mk (st := s_commit) l31 c31 k31
 have b31 := F31.binds (ps := ["disk", "pairs"]) fun _ _ _ _ _ _ us hl => match us, hl with | [_, _], _ => rfl
 have F32 := fun_mk (st := s_Batch_pairs) l32 c32 k32
 have b32 := F32.binds (ps := ["self"]) fun _ _ _ _ _ _ us hl => match us, hl with | [_], _ => rfl
 have F33 := fun_mk (st := s_Batch_finish) l33 c33 k33
 have b33 := F33.binds (ps := ["self"]) fun _ _ _ _ _ _ us hl => match us, hl with | [_], _ => rfl
 have F34 := fun_mk (st := s__law_drawn) l34 c34 k34
 have b34 := F34.binds (ps := ["_law_layout", "_law_free", "_law_cell"]) fun _ _ _ _ _ _ us hl => match us, hl with | [_, _, _], _ => rfl
 have F35 := fun_mk (st := s_mark) l35 c35 k35
 have b35 := F35.binds (ps := ["batch", "layout", "block", "word"]) fun _ _ _ _ _ _ us hl => match us, hl with | [_, _, _, _], _ => rfl
 have F36 := fun_mk (st := s_take) l36 c36 k36
 have b36 := F36.binds (ps := ["batch", "layout"]) fun _ _ _ _ _ _ us hl => match us, hl with | [_, _], _ => rfl
 have F37 := fun_mk (st := s_give) l37 c37 k37
 have b37 := F37.binds (ps := ["batch", "layout", "block"]) fun _ _ _ _ _ _ us hl => match us, hl with | [_, _, _], _ => rfl
 have F38 := fun_mk (st := s__law_refused) l38 c38 k38
 have b38 := F38.binds (ps := ["_law_batch", "_law_layout", "_law_way", "_law_block"]) fun _ _ _ _ _ _ us hl => match us, hl with | [_, _, _, _], _ => rfl
 have F39 := fun_mk (st := s__law_asked) l39 c39 k39
 have b39 := F39.binds (ps := ["_law_batch", "_law_layout", "_law_free", "_law_cell"]) fun _ _ _ _ _ _ us hl => match us, hl with | [_, _, _, _], _ => rfl
 have F40 := fun_mk (st := s__law_deed) l40 c40 k40
 have b40 := F40.binds (ps := ["_law_batch", "_law_layout", "_law_free", "_law_cell"]) fun _ _ _ _ _ _ us hl => match us, hl with | [_, _, _, _], _ => rfl
 have F41 := fun_mk (st := s_law) l41 c41 k41
 refine ⟨W.fnOf "law" "law" (defArgs s_law) (defBody s_law) (defScope s_law) .none kV41 dc41 pm41 an41 cd41 ct41, fun s v => .of_eq rfl, fun base _ _ => ?_⟩
 have D_is_whole : Df l.prog w K mg base CX0 1 "is_whole" ["thing", "least", "most"] (spWhole K (⟨cKeepError, cBadRow, cNoBlock, cStopped, cBadDisk, cNoRoom, cTooMuch, cNoNode, cNoNodes, cDisk, cLayout, cBatch, fLayout_init, fDisk_init, fBatch_init, f_writes, f_blocks, f_refuse_no_block, f_use_up_one, f_write, f_Batch_write, f_read, f_Batch_read, f_pairs, f_finish⟩ : Ad)) := ⟨_, _, ok_is_whole F1 T , b1, k1, W.mg_of X G a1⟩
 have M_Layout___init__ : Mf l.prog w K mg base (CXE l.prog w) 2 (⟨cKeepError, cBadRow, cNoBlock, cStopped, cBadDisk, cNoRoom, cTooMuch, cNoNode, cNoNodes, cDisk, cLayout, cBatch, fLayout_init, fDisk_init, fBatch_init, f_writes, f_blocks, f_refuse_no_block, f_use_up_one, f_write, f_Batch_write, f_read, f_Batch_read, f_pairs, f_finish⟩ : Ad).fLayout_init ["self", "many", "tables"] (spLInit K (⟨cKeepError, cBadRow, cNoBlock, cStopped, cBadDisk, cNoRoom, cTooMuch, cNoNode, cNoNodes, cDisk, cLayout, cBatch, fLayout_init, fDisk_init, fBatch_init, f_writes, f_blocks, f_refuse_no_block, f_use_up_one, f_write, f_Batch_write, f_read, f_Batch_read, f_pairs, f_finish⟩ : Ad)) := ⟨_, ok_Layout___init__ F2 T D_is_whole, b2⟩
 have D_empty_row : Df l.prog w K mg base CX0 1 "empty_row" [] (spEmpty K (⟨cKeepError, cBadRow, cNoBlock, cStopped, cBadDisk, cNoRoom, cTooMuch, cNoNode, cNoNodes, cDisk, cLayout, cBatch, fLayout_init, fDisk_init, fBatch_init, f_writes, f_blocks, f_refuse_no_block, f_use_up_one, f_write, f_Batch_write, f_read, f_Batch_read, f_pairs, f_finish⟩ : Ad)) := ⟨_, _, ok_empty_row F3 T , b3, k3, W.mg_of X G a3⟩
 have M_Disk___init__ : Mf l.prog w K mg base (CXE l.prog w) 2 (⟨cKeepError, cBadRow, cNoBlock, cStopped, cBadDisk, cNoRoom, cTooMuch, cNoNode, cNoNodes, cDisk, cLayout, cBatch, fLayout_init, fDisk_init, fBatch_init, f_writes, f_blocks, f_refuse_no_block, f_use_up_one, f_write, f_Batch_write, f_read, f_Batch_read, f_pairs, f_finish⟩ : Ad).fDisk_init ["self", "many"] (spInit K (⟨cKeepError, cBadRow, cNoBlock, cStopped, cBadDisk, cNoRoom, cTooMuch, cNoNode, cNoNodes, cDisk, cLayout, cBatch, fLayout_init, fDisk_init, fBatch_init, f_writes, f_blocks, f_refuse_no_block, f_use_up_one, f_write, f_Batch_write, f_read, f_Batch_read, f_pairs, f_finish⟩ : Ad)) := ⟨_, ok_Disk___init__ F4 T D_is_whole D_empty_row, b4⟩
 have M_Batch___init__ : Mf l.prog w K mg base (CXE l.prog w) 1 (⟨cKeepError, cBadRow, cNoBlock, cStopped, cBadDisk, cNoRoom, cTooMuch, cNoNode, cNoNodes, cDisk, cLayout, cBatch, fLayout_init, fDisk_init, fBatch_init, f_writes, f_blocks, f_refuse_no_block, f_use_up_one, f_write, f_Batch_write, f_read, f_Batch_read, f_pairs, f_finish⟩ : Ad).fBatch_init ["self", "disk"] (spBInit K (⟨cKeepError, cBadRow, cNoBlock, cStopped, cBadDisk, cNoRoom, cTooMuch, cNoNode, cNoNodes, cDisk, cLayout, cBatch, fLayout_init, fDisk_init, fBatch_init, f_writes, f_blocks, f_refuse_no_block, f_use_up_one, f_write, f_Batch_write, f_read, f_Batch_read, f_pairs, f_finish⟩ : Ad)) := ⟨_, ok_Batch___init__ F5 T , b5⟩
 have D_new_maps : Df l.prog w K mg base (CXE l.prog w) 1 "new_maps" ["layout"] (spNewMaps K (⟨cKeepError, cBadRow, cNoBlock, cStopped, cBadDisk, cNoRoom, cTooMuch, cNoNode, cNoNodes, cDisk, cLayout, cBatch, fLayout_init, fDisk_init, fBatch_init, f_writes, f_blocks, f_refuse_no_block, f_use_up_one, f_write, f_Batch_write, f_read, f_Batch_read, f_pairs, f_finish⟩ : Ad)) := ⟨_, _, ok_new_maps F6 T , b6, k6, W.mg_of X G a6⟩
 have M_Disk_writes : Mf l.prog w K mg base CX0 1 (⟨cKeepError, cBadRow, cNoBlock, cStopped, cBadDisk, cNoRoom, cTooMuch, cNoNode, cNoNodes, cDisk, cLayout, cBatch, fLayout_init, fDisk_init, fBatch_init, f_writes, f_blocks, f_refuse_no_block, f_use_up_one, f_write, f_Batch_write, f_read, f_Batch_read, f_pairs, f_finish⟩ : Ad).f_writes ["self"] (spWrites K (⟨cKeepError, cBadRow, cNoBlock, cStopped, cBadDisk, cNoRoom, cTooMuch, cNoNode, cNoNodes, cDisk, cLayout, cBatch, fLayout_init, fDisk_init, fBatch_init, f_writes, f_blocks, f_refuse_no_block, f_use_up_one, f_write, f_Batch_write, f_read, f_Batch_read, f_pairs, f_finish⟩ : Ad)) := ⟨_, ok_Disk_writes F7 T , b7⟩
 have M_Disk_blocks : Mf l.prog w K mg base (CXE l.prog w) 1 (⟨cKeepError, cBadRow, cNoBlock, cStopped, cBadDisk, cNoRoom, cTooMuch, cNoNode, cNoNodes, cDisk, cLayout, cBatch, fLayout_init, fDisk_init, fBatch_init, f_writes, f_blocks, f_refuse_no_block, f_use_up_one, f_write, f_Batch_write, f_read, f_Batch_read, f_pairs, f_finish⟩ : Ad).f_blocks ["self"] (spBlocks K (⟨cKeepError, cBadRow, cNoBlock, cStopped, cBadDisk, cNoRoom, cTooMuch, cNoNode, cNoNodes, cDisk, cLayout, cBatch, fLayout_init, fDisk_init, fBatch_init, f_writes, f_blocks, f_refuse_no_block, f_use_up_one, f_write, f_Batch_write, f_read, f_Batch_read, f_pairs, f_finish⟩ : Ad)) := ⟨_, ok_Disk_blocks F8 T , b8⟩
 have M_Disk_refuse_no_block : Mf l.prog w K mg base (CXE l.prog w) 2 (⟨cKeepError, cBadRow, cNoBlock, cStopped, cBadDisk, cNoRoom, cTooMuch, cNoNode, cNoNodes, cDisk, cLayout, cBatch, fLayout_init, fDisk_init, fBatch_init, f_writes, f_blocks, f_refuse_no_block, f_use_up_one, f_write, f_Batch_write, f_read, f_Batch_read, f_pairs, f_finish⟩ : Ad).f_refuse_no_block ["self", "block"] (spRefuse K (⟨cKeepError, cBadRow, cNoBlock, cStopped, cBadDisk, cNoRoom, cTooMuch, cNoNode, cNoNodes, cDisk, cLayout, cBatch, fLayout_init, fDisk_init, fBatch_init, f_writes, f_blocks, f_refuse_no_block, f_use_up_one, f_write, f_Batch_write, f_read, f_Batch_read, f_pairs, f_finish⟩ : Ad)) := ⟨_, ok_Disk_refuse_no_block F9 T D_is_whole M_Disk_blocks, b9⟩
 have M_Disk_use_up_one : Mf l.prog w K mg base (CXE l.prog w) 1 (⟨cKeepError, cBadRow, cNoBlock, cStopped, cBadDisk, cNoRoom, cTooMuch, cNoNode, cNoNodes, cDisk, cLayout, cBatch, fLayout_init, fDisk_init, fBatch_init, f_writes, f_blocks, f_refuse_no_block, f_use_up_one, f_write, f_Batch_write, f_read, f_Batch_read, f_pairs, f_finish⟩ : Ad).f_use_up_one ["self"] (spUseUp K (⟨cKeepError, cBadRow, cNoBlock, cStopped, cBadDisk, cNoRoom, cTooMuch, cNoNode, cNoNodes, cDisk, cLayout, cBatch, fLayout_init, fDisk_init, fBatch_init, f_writes, f_blocks, f_refuse_no_block, f_use_up_one, f_write, f_Batch_write, f_read, f_Batch_read, f_pairs, f_finish⟩ : Ad)) := ⟨_, ok_Disk_use_up_one F10 T , b10⟩
 have D_is_word : Df l.prog w K mg base CX0 2 "is_word" ["thing"] (spWord K (⟨cKeepError, cBadRow, cNoBlock, cStopped, cBadDisk, cNoRoom, cTooMuch, cNoNode, cNoNodes, cDisk, cLayout, cBatch, fLayout_init, fDisk_init, fBatch_init, f_writes, f_blocks, f_refuse_no_block, f_use_up_one, f_write, f_Batch_write, f_read, f_Batch_read, f_pairs, f_finish⟩ : Ad)) := ⟨_, _, ok_is_word F11 T D_is_whole, b11, k11, W.mg_of X G a11⟩
 have D_are_words : Df l.prog w K mg base CX0 3 "are_words" ["thing"] (spAre K (⟨cKeepError, cBadRow, cNoBlock, cStopped, cBadDisk, cNoRoom, cTooMuch, cNoNode, cNoNodes, cDisk, cLayout, cBatch, fLayout_init, fDisk_init, fBatch_init, f_writes, f_blocks, f_refuse_no_block, f_use_up_one, f_write, f_Batch_write, f_read, f_Batch_read, f_pairs, f_finish⟩ : Ad)) := ⟨_, _, ok_are_words F12 T D_is_word, b12, k12, W.mg_of X G a12⟩
 have D_is_row : Df l.prog w K mg base CX0 4 "is_row" ["thing"] (spIsRow K (⟨cKeepError, cBadRow, cNoBlock, cStopped, cBadDisk, cNoRoom, cTooMuch, cNoNode, cNoNodes, cDisk, cLayout, cBatch, fLayout_init, fDisk_init, fBatch_init, f_writes, f_blocks, f_refuse_no_block, f_use_up_one, f_write, f_Batch_write, f_read, f_Batch_read, f_pairs, f_finish⟩ : Ad)) := ⟨_, _, ok_is_row F13 T D_are_words, b13, k13, W.mg_of X G a13⟩
 have M_Disk_write : Mf l.prog w K mg base (CXE l.prog w) 5 (⟨cKeepError, cBadRow, cNoBlock, cStopped, cBadDisk, cNoRoom, cTooMuch, cNoNode, cNoNodes, cDisk, cLayout, cBatch, fLayout_init, fDisk_init, fBatch_init, f_writes, f_blocks, f_refuse_no_block, f_use_up_one, f_write, f_Batch_write, f_read, f_Batch_read, f_pairs, f_finish⟩ : Ad).f_write ["self", "block", "row"] (spWrite K (⟨cKeepError, cBadRow, cNoBlock, cStopped, cBadDisk, cNoRoom, cTooMuch, cNoNode, cNoNodes, cDisk, cLayout, cBatch, fLayout_init, fDisk_init, fBatch_init, f_writes, f_blocks, f_refuse_no_block, f_use_up_one, f_write, f_Batch_write, f_read, f_Batch_read, f_pairs, f_finish⟩ : Ad)) := ⟨_, ok_Disk_write F14 T M_Disk_refuse_no_block M_Disk_use_up_one D_is_row, b14⟩
 have D_is_home : Df l.prog w K mg base (CXE l.prog w) 2 "is_home" ["disk", "block"] (spHome K (⟨cKeepError, cBadRow, cNoBlock, cStopped, cBadDisk, cNoRoom, cTooMuch, cNoNode, cNoNodes, cDisk, cLayout, cBatch, fLayout_init, fDisk_init, fBatch_init, f_writes, f_blocks, f_refuse_no_block, f_use_up_one, f_write, f_Batch_write, f_read, f_Batch_read, f_pairs, f_finish⟩ : Ad)) := ⟨_, _, ok_is_home F15 T D_is_whole M_Disk_blocks, b15, k15, W.mg_of X G a15⟩
 have M_Batch_write : Mf l.prog w K mg base (CXE l.prog w) 5 (⟨cKeepError, cBadRow, cNoBlock, cStopped, cBadDisk, cNoRoom, cTooMuch, cNoNode, cNoNodes, cDisk, cLayout, cBatch, fLayout_init, fDisk_init, fBatch_init, f_writes, f_blocks, f_refuse_no_block, f_use_up_one, f_write, f_Batch_write, f_read, f_Batch_read, f_pairs, f_finish⟩ : Ad).f_Batch_write ["self", "block", "row"] (spBWrite K (⟨cKeepError, cBadRow, cNoBlock, cStopped, cBadDisk, cNoRoom, cTooMuch, cNoNode, cNoNodes, cDisk, cLayout, cBatch, fLayout_init, fDisk_init, fBatch_init, f_writes, f_blocks, f_refuse_no_block, f_use_up_one, f_write, f_Batch_write, f_read, f_Batch_read, f_pairs, f_finish⟩ : Ad)) := ⟨_, ok_Batch_write F16 T D_is_home D_is_row, b16⟩
 have M_Disk_read : Mf l.prog w K mg base (CXE l.prog w) 3 (⟨cKeepError, cBadRow, cNoBlock, cStopped, cBadDisk, cNoRoom, cTooMuch, cNoNode, cNoNodes, cDisk, cLayout, cBatch, fLayout_init, fDisk_init, fBatch_init, f_writes, f_blocks, f_refuse_no_block, f_use_up_one, f_write, f_Batch_write, f_read, f_Batch_read, f_pairs, f_finish⟩ : Ad).f_read ["self", "block"] (spRead K (⟨cKeepError, cBadRow, cNoBlock, cStopped, cBadDisk, cNoRoom, cTooMuch, cNoNode, cNoNodes, cDisk, cLayout, cBatch, fLayout_init, fDisk_init, fBatch_init, f_writes, f_blocks, f_refuse_no_block, f_use_up_one, f_write, f_Batch_write, f_read, f_Batch_read, f_pairs, f_finish⟩ : Ad)) := ⟨_, ok_Disk_read F17 T M_Disk_refuse_no_block, b17⟩
 have M_Batch_read : Mf l.prog w K mg base (CXE l.prog w) 4 (⟨cKeepError, cBadRow, cNoBlock, cStopped, cBadDisk, cNoRoom, cTooMuch, cNoNode, cNoNodes, cDisk, cLayout, cBatch, fLayout_init, fDisk_init, fBatch_init, f_writes, f_blocks, f_refuse_no_block, f_use_up_one, f_write, f_Batch_write, f_read, f_Batch_read, f_pairs, f_finish⟩ : Ad).f_Batch_read ["self", "block"] (spBRead K (⟨cKeepError, cBadRow, cNoBlock, cStopped, cBadDisk, cNoRoom, cTooMuch, cNoNode, cNoNodes, cDisk, cLayout, cBatch, fLayout_init, fDisk_init, fBatch_init, f_writes, f_blocks, f_refuse_no_block, f_use_up_one, f_write, f_Batch_write, f_read, f_Batch_read, f_pairs, f_finish⟩ : Ad)) := ⟨_, ok_Batch_read F18 T M_Disk_read D_is_home, b18⟩
 have D__law_told : Df l.prog w K mg base (CXE l.prog w) 5 "_law_told" ["_law_batch", "_law_layout", "_law_free"] (spTold K (⟨cKeepError, cBadRow, cNoBlock, cStopped, cBadDisk, cNoRoom, cTooMuch, cNoNode, cNoNodes, cDisk, cLayout, cBatch, fLayout_init, fDisk_init, fBatch_init, f_writes, f_blocks, f_refuse_no_block, f_use_up_one, f_write, f_Batch_write, f_read, f_Batch_read, f_pairs, f_finish⟩ : Ad)) := ⟨_, _, ok__law_told F19 T M_Batch_read, b19, k19, W.mg_of X G a19⟩
 have D__law_cell_at : Df l.prog w K mg base CX0 1 "_law_cell_at" ["_law_script", "_law_k"] (spCell K (⟨cKeepError, cBadRow, cNoBlock, cStopped, cBadDisk, cNoRoom, cTooMuch, cNoNode, cNoNodes, cDisk, cLayout, cBatch, fLayout_init, fDisk_init, fBatch_init, f_writes, f_blocks, f_refuse_no_block, f_use_up_one, f_write, f_Batch_write, f_read, f_Batch_read, f_pairs, f_finish⟩ : Ad)) := ⟨_, _, ok__law_cell_at F20 T , b20, k20, W.mg_of X G a20⟩
 have D__law_whole : Df l.prog w K mg base CX0 1 "_law_whole" ["_law_found"] (spWholeL K (⟨cKeepError, cBadRow, cNoBlock, cStopped, cBadDisk, cNoRoom, cTooMuch, cNoNode, cNoNodes, cDisk, cLayout, cBatch, fLayout_init, fDisk_init, fBatch_init, f_writes, f_blocks, f_refuse_no_block, f_use_up_one, f_write, f_Batch_write, f_read, f_Batch_read, f_pairs, f_finish⟩ : Ad)) := ⟨_, _, ok__law_whole F21 T , b21, k21, W.mg_of X G a21⟩
 have D__law_rows : Df l.prog w K mg base (CXE l.prog w) 2 "_law_rows" ["_law_found"] (spRowsQ K (⟨cKeepError, cBadRow, cNoBlock, cStopped, cBadDisk, cNoRoom, cTooMuch, cNoNode, cNoNodes, cDisk, cLayout, cBatch, fLayout_init, fDisk_init, fBatch_init, f_writes, f_blocks, f_refuse_no_block, f_use_up_one, f_write, f_Batch_write, f_read, f_Batch_read, f_pairs, f_finish⟩ : Ad)) := ⟨_, _, ok__law_rows F22 T D__law_whole, b22, k22, W.mg_of X G a22⟩
 have D__law_apart : Df l.prog w K mg base (CXE l.prog w) 2 "_law_apart" ["_law_layout", "_law_rows_here"] (spApart K (⟨cKeepError, cBadRow, cNoBlock, cStopped, cBadDisk, cNoRoom, cTooMuch, cNoNode, cNoNodes, cDisk, cLayout, cBatch, fLayout_init, fDisk_init, fBatch_init, f_writes, f_blocks, f_refuse_no_block, f_use_up_one, f_write, f_Batch_write, f_read, f_Batch_read, f_pairs, f_finish⟩ : Ad)) := ⟨_, _, ok__law_apart F23 T D_new_maps, b23, k23, W.mg_of X G a23⟩
 have D__law_written : Df l.prog w K mg base (CXE l.prog w) 6 "_law_written" ["_law_batch", "_law_layout", "_law_free", "_law_cell"] (spWritten K (⟨cKeepError, cBadRow, cNoBlock, cStopped, cBadDisk, cNoRoom, cTooMuch, cNoNode, cNoNodes, cDisk, cLayout, cBatch, fLayout_init, fDisk_init, fBatch_init, f_writes, f_blocks, f_refuse_no_block, f_use_up_one, f_write, f_Batch_write, f_read, f_Batch_read, f_pairs, f_finish⟩ : Ad)) := ⟨_, _, ok__law_written F24 T M_Batch_read M_Batch_write, b24, k24, W.mg_of X G a24⟩
 have D_is_free : Df l.prog w K mg base (CXE l.prog w) 5 "is_free" ["batch", "layout", "block"] (spIsFree K (⟨cKeepError, cBadRow, cNoBlock, cStopped, cBadDisk, cNoRoom, cTooMuch, cNoNode, cNoNodes, cDisk, cLayout, cBatch, fLayout_init, fDisk_init, fBatch_init, f_writes, f_blocks, f_refuse_no_block, f_use_up_one, f_write, f_Batch_write, f_read, f_Batch_read, f_pairs, f_finish⟩ : Ad)) := ⟨_, _, ok_is_free F25 T M_Batch_read D_is_whole, b25, k25, W.mg_of X G a25⟩
 have D_free_blocks : Df l.prog w K mg base (CXE l.prog w) 6 "free_blocks" ["batch", "layout"] (spFreeBlocks K (⟨cKeepError, cBadRow, cNoBlock, cStopped, cBadDisk, cNoRoom, cTooMuch, cNoNode, cNoNodes, cDisk, cLayout, cBatch, fLayout_init, fDisk_init, fBatch_init, f_writes, f_blocks, f_refuse_no_block, f_use_up_one, f_write, f_Batch_write, f_read, f_Batch_read, f_pairs, f_finish⟩ : Ad)) := ⟨_, _, ok_free_blocks F26 T D_is_free, b26, k26, W.mg_of X G a26⟩
 have D_refuse_wrong_pairs : Df l.prog w K mg base (CXE l.prog w) 5 "refuse_wrong_pairs" ["disk", "pairs"] (spRefuseP K (⟨cKeepError, cBadRow, cNoBlock, cStopped, cBadDisk, cNoRoom, cTooMuch, cNoNode, cNoNodes, cDisk, cLayout, cBatch, fLayout_init, fDisk_init, fBatch_init, f_writes, f_blocks, f_refuse_no_block, f_use_up_one, f_write, f_Batch_write, f_read, f_Batch_read, f_pairs, f_finish⟩ : Ad)) := ⟨_, _, ok_refuse_wrong_pairs F27 T D_is_home D_is_row, b27, k27, W.mg_of X G a27⟩
 have D_changed : Df l.prog w K mg base CX0 1 "changed" ["row", "at", "words"] (spChanged K (⟨cKeepError, cBadRow, cNoBlock, cStopped, cBadDisk, cNoRoom, cTooMuch, cNoNode, cNoNodes, cDisk, cLayout, cBatch, fLayout_init, fDisk_init, fBatch_init, f_writes, f_blocks, f_refuse_no_block, f_use_up_one, f_write, f_Batch_write, f_read, f_Batch_read, f_pairs, f_finish⟩ : Ad)) := ⟨_, _, ok_changed F28 T , b28, k28, W.mg_of X G a28⟩
 have D_write_log : Df l.prog w K mg base (CXE l.prog w) 6 "write_log" ["disk", "pairs"] (spWLog K (⟨cKeepError, cBadRow, cNoBlock, cStopped, cBadDisk, cNoRoom, cTooMuch, cNoNode, cNoNodes, cDisk, cLayout, cBatch, fLayout_init, fDisk_init, fBatch_init, f_writes, f_blocks, f_refuse_no_block, f_use_up_one, f_write, f_Batch_write, f_read, f_Batch_read, f_pairs, f_finish⟩ : Ad)) := ⟨_, _, ok_write_log F29 T M_Disk_write D_changed D_empty_row, b29, k29, W.mg_of X G a29⟩
 have D_write_homes : Df l.prog w K mg base (CXE l.prog w) 6 "write_homes" ["disk", "pairs"] (spWHomes K (⟨cKeepError, cBadRow, cNoBlock, cStopped, cBadDisk, cNoRoom, cTooMuch, cNoNode, cNoNodes, cDisk, cLayout, cBatch, fLayout_init, fDisk_init, fBatch_init, f_writes, f_blocks, f_refuse_no_block, f_use_up_one, f_write, f_Batch_write, f_read, f_Batch_read, f_pairs, f_finish⟩ : Ad)) := ⟨_, _, ok_write_homes F30 T M_Disk_write D_empty_row, b30, k30, W.mg_of X G a30⟩
 have D_commit : Df l.prog w K mg base (CXE l.prog w) 7 "commit" ["disk", "pairs"] (spCommit K (⟨cKeepError, cBadRow, cNoBlock, cStopped, cBadDisk, cNoRoom, cTooMuch, cNoNode, cNoNodes, cDisk, cLayout, cBatch, fLayout_init, fDisk_init, fBatch_init, f_writes, f_blocks, f_refuse_no_block, f_use_up_one, f_write, f_Batch_write, f_read, f_Batch_read, f_pairs, f_finish⟩ : Ad)) := ⟨_, _, ok_commit F31 T D_refuse_wrong_pairs D_write_log D_write_homes, b31, k31, W.mg_of X G a31⟩
 have M_Batch_pairs : Mf l.prog w K mg base CX0 1 (⟨cKeepError, cBadRow, cNoBlock, cStopped, cBadDisk, cNoRoom, cTooMuch, cNoNode, cNoNodes, cDisk, cLayout, cBatch, fLayout_init, fDisk_init, fBatch_init, f_writes, f_blocks, f_refuse_no_block, f_use_up_one, f_write, f_Batch_write, f_read, f_Batch_read, f_pairs, f_finish⟩ : Ad).f_pairs ["self"] (spBPairs K (⟨cKeepError, cBadRow, cNoBlock, cStopped, cBadDisk, cNoRoom, cTooMuch, cNoNode, cNoNodes, cDisk, cLayout, cBatch, fLayout_init, fDisk_init, fBatch_init, f_writes, f_blocks, f_refuse_no_block, f_use_up_one, f_write, f_Batch_write, f_read, f_Batch_read, f_pairs, f_finish⟩ : Ad)) := ⟨_, ok_Batch_pairs F32 T , b32⟩
 have M_Batch_finish : Mf l.prog w K mg base (CXE l.prog w) 8 (⟨cKeepError, cBadRow, cNoBlock, cStopped, cBadDisk, cNoRoom, cTooMuch, cNoNode, cNoNodes, cDisk, cLayout, cBatch, fLayout_init, fDisk_init, fBatch_init, f_writes, f_blocks, f_refuse_no_block, f_use_up_one, f_write, f_Batch_write, f_read, f_Batch_read, f_pairs, f_finish⟩ : Ad).f_finish ["self"] (spBFinish K (⟨cKeepError, cBadRow, cNoBlock, cStopped, cBadDisk, cNoRoom, cTooMuch, cNoNode, cNoNodes, cDisk, cLayout, cBatch, fLayout_init, fDisk_init, fBatch_init, f_writes, f_blocks, f_refuse_no_block, f_use_up_one, f_write, f_Batch_write, f_read, f_Batch_read, f_pairs, f_finish⟩ : Ad)) := ⟨_, ok_Batch_finish F33 T D_commit M_Batch_pairs, b33⟩
 have D__law_drawn : Df l.prog w K mg base (CXE l.prog w) 1 "_law_drawn" ["_law_layout", "_law_free", "_law_cell"] (spDrawn K (⟨cKeepError, cBadRow, cNoBlock, cStopped, cBadDisk, cNoRoom, cTooMuch, cNoNode, cNoNodes, cDisk, cLayout, cBatch, fLayout_init, fDisk_init, fBatch_init, f_writes, f_blocks, f_refuse_no_block, f_use_up_one, f_write, f_Batch_write, f_read, f_Batch_read, f_pairs, f_finish⟩ : Ad)) := ⟨_, _, ok__law_drawn F34 T , b34, k34, W.mg_of X G a34⟩
 have D_mark : Df l.prog w K mg base (CXE l.prog w) 6 "mark" ["batch", "layout", "block", "word"] (spMark K (⟨cKeepError, cBadRow, cNoBlock, cStopped, cBadDisk, cNoRoom, cTooMuch, cNoNode, cNoNodes, cDisk, cLayout, cBatch, fLayout_init, fDisk_init, fBatch_init, f_writes, f_blocks, f_refuse_no_block, f_use_up_one, f_write, f_Batch_write, f_read, f_Batch_read, f_pairs, f_finish⟩ : Ad)) := ⟨_, _, ok_mark F35 T M_Batch_write D_changed M_Batch_read, b35, k35, W.mg_of X G a35⟩
 have D_take : Df l.prog w K mg base (CXE l.prog w) 7 "take" ["batch", "layout"] (spTake K (⟨cKeepError, cBadRow, cNoBlock, cStopped, cBadDisk, cNoRoom, cTooMuch, cNoNode, cNoNodes, cDisk, cLayout, cBatch, fLayout_init, fDisk_init, fBatch_init, f_writes, f_blocks, f_refuse_no_block, f_use_up_one, f_write, f_Batch_write, f_read, f_Batch_read, f_pairs, f_finish⟩ : Ad)) := ⟨_, _, ok_take F36 T D_free_blocks D_mark, b36, k36, W.mg_of X G a36⟩
 have D_give : Df l.prog w K mg base (CXE l.prog w) 7 "give" ["batch", "layout", "block"] (spGive K (⟨cKeepError, cBadRow, cNoBlock, cStopped, cBadDisk, cNoRoom, cTooMuch, cNoNode, cNoNodes, cDisk, cLayout, cBatch, fLayout_init, fDisk_init, fBatch_init, f_writes, f_blocks, f_refuse_no_block, f_use_up_one, f_write, f_Batch_write, f_read, f_Batch_read, f_pairs, f_finish⟩ : Ad)) := ⟨_, _, ok_give F37 T D_is_free D_mark D_is_whole, b37, k37, W.mg_of X G a37⟩
 have D__law_refused : Df l.prog w K mg base (CXE l.prog w) 8 "_law_refused" ["_law_batch", "_law_layout", "_law_way", "_law_block"] (spRefused K (⟨cKeepError, cBadRow, cNoBlock, cStopped, cBadDisk, cNoRoom, cTooMuch, cNoNode, cNoNodes, cDisk, cLayout, cBatch, fLayout_init, fDisk_init, fBatch_init, f_writes, f_blocks, f_refuse_no_block, f_use_up_one, f_write, f_Batch_write, f_read, f_Batch_read, f_pairs, f_finish⟩ : Ad)) := ⟨_, _, ok__law_refused F38 T D_take D_give D_is_free, b38, k38, W.mg_of X G a38⟩
 have D__law_asked : Df l.prog w K mg base (CXE l.prog w) 9 "_law_asked" ["_law_batch", "_law_layout", "_law_free", "_law_cell"] (spAsked K (⟨cKeepError, cBadRow, cNoBlock, cStopped, cBadDisk, cNoRoom, cTooMuch, cNoNode, cNoNodes, cDisk, cLayout, cBatch, fLayout_init, fDisk_init, fBatch_init, f_writes, f_blocks, f_refuse_no_block, f_use_up_one, f_write, f_Batch_write, f_read, f_Batch_read, f_pairs, f_finish⟩ : Ad)) := ⟨_, _, ok__law_asked F39 T D_free_blocks D__law_drawn D_is_free D__law_whole D__law_refused, b39, k39, W.mg_of X G a39⟩
 have D__law_deed : Df l.prog w K mg base (CXE l.prog w) 9 "_law_deed" ["_law_batch", "_law_layout", "_law_free", "_law_cell"] (spDeed K (⟨cKeepError, cBadRow, cNoBlock, cStopped, cBadDisk, cNoRoom, cTooMuch, cNoNode, cNoNodes, cDisk, cLayout, cBatch, fLayout_init, fDisk_init, fBatch_init, f_writes, f_blocks, f_refuse_no_block, f_use_up_one, f_write, f_Batch_write, f_read, f_Batch_read, f_pairs, f_finish⟩ : Ad)) := ⟨_, _, ok__law_deed F40 T D__law_drawn D_take D__law_whole D__law_refused D_give M_Batch_read, b40, k40, W.mg_of X G a40⟩
 exact ok_law F41 T M_Layout___init__ M_Disk___init__ M_Batch___init__ D_new_maps M_Disk_writes M_Disk_write M_Batch_write D__law_told D__law_cell_at D__law_rows D__law_apart D__law_written D_free_blocks M_Batch_finish D__law_asked D__law_deed
theorem walk {l : W.OpenLaw} {q : Program} {loose : List Str} {XP : (Str → Option Value) → Heap → Prop} {YP : World → Heap → Prop} {d : DefRec} {K : Params → W.Frag} (hn : l.most = some 63) (hdf : d.params.defaults = [])
  (hY : ∀ (w : World) (h : Heap), YP w h → (K w.params).In h)
  (F : ∀ (w : World) (mg : Str → Option Value) (fa : Addr) (h : Heap), (K w.params).In h → h.Ns mainGlobals mg → mg d.name = some (.ref fa) →
   ∃ fd : FuncData, (∀ (s : Shared) (u : Value), BindsTo s fd ⟨[u], []⟩ [("_law_script", u)]) ∧ ∀ base : Heap, (K w.params).In base → base.Ns mainGlobals mg → FnOk l.prog w (K w.params) mg base (CXE l.prog w) 10 fa fd ["_law_script"] (spLaw (K w.params))) :
  W.WalkO q loose XP YP l.row.toRowW d [] (fun f vs => PySem.call f vs) :=
 L2.walk_of (n := 63) (k := 10) (x := "_law_script") (CX := fun w => CXE l.prog w) (sp := fun w => spLaw (K w.params)) hn (by decide) hdf ⟨by decide, by decide⟩ hY F (fun _ _ a ns hl _ hS => ⟨a, ns, rfl, hS, hl, fun _ => rfl⟩) fun _ _ _ _ _ z => cxe0 z
end K9
namespace PySem.W.Fast
def tw10158762884655723037 : Nat := 0
def tw10614850752344588293 : Nat := 0
def tw10752902862154073511 : Nat := 0
def tw10753383428449096905 : Nat := 0
def tw10805890414967135226 : Nat := 0
def tw11111890855946969006 : Nat := 0
def tw11122803285082372469 : Nat := 0
def tw1137768748258309757 : Nat := 0
def tw11638414730824358156 : Nat := 0
def tw11812685932052626057 : Nat := 0
def tw12389742225890399838 : Nat := 0
def tw12495527305701290477 : Nat := 0
def tw1273972676136969635 : Nat := 0
def tw13404588382973528086 : Nat := 0
def tw1348622507053956396 : Nat := 0
def tw13650042663928616697 : Nat := 0
def tw13827303971094952538 : Nat := 0
def tw13989198189312558905 : Nat := 0
def tw14445428527451574966 : Nat := 0
def tw14743401188662493385 : Nat := 0
def tw14811640163994624439 : Nat := 0
def tw15138862937966378643 : Nat := 0
def tw15163694862539790255 : Nat := 0
def tw15222410958704519642 : Nat := 0
def tw15340868090682478567 : Nat := 0
def tw16121539886254648576 : Nat := 0
def tw16173620919115135832 : Nat := 0
def tw16207048280665225777 : Nat := 0
def tw16491441617526655866 : Nat := 0
def tw16569270678524939770 : Nat := 0
def tw16629260635031414164 : Nat := 0
def tw16756140087216420037 : Nat := 0
def tw16799357631519668970 : Nat := 0
def tw16901073363828038366 : Nat := 0
def tw17088099477142740252 : Nat := 0
def tw17124270401776068463 : Nat := 0
def tw17325160990294517232 : Nat := 0
def tw17376231249610653658 : Nat := 0
def tw17678475214041990623 : Nat := 0
def tw17836524617917053597 : Nat := 0
def tw17851609612182045006 : Nat := 0
def tw17881489502329041403 : Nat := 0
def tw18092339304068790503 : Nat := 0
def tw18260168665753475097 : Nat := 0
def tw2289530422542161245 : Nat := 0
def tw229219727845953728 : Nat := 0
def tw232746519464892738 : Nat := 0
def tw242908664140755986 : Nat := 0
def tw2574927058600418317 : Nat := 0
def tw29847869972223086 : Nat := 0
def tw3073890094376372030 : Nat := 0
def tw3351673137629770401 : Nat := 0
def tw3548108596278228857 : Nat := 0
def tw4008666512673083780 : Nat := 0
def tw4139747709256005872 : Nat := 0
def tw4210450970578285378 : Nat := 0
def tw468626610851312314 : Nat := 0
def tw4775598226498550931 : Nat := 0
def tw498962772864918227 : Nat := 0
def tw5135318948070387226 : Nat := 0
def tw5178676322319998688 : Nat := 0
def tw5289766457421878397 : Nat := 0
def tw6030535354918460862 : Nat := 0
def tw6408976529506804055 : Nat := 0
def tw6426526429042286627 : Nat := 0
def tw6669308124132091670 : Nat := 0
def tw7012607495451285752 : Nat := 0
def tw7121260085208935022 : Nat := 0
def tw7203786599077596573 : Nat := 0
def tw7258883749998773751 : Nat := 0
def tw8082678252483584755 : Nat := 0
def tw8395540957793761258 : Nat := 0
def tw8548787542222318435 : Nat := 0
def tw8945867363861871541 : Nat := 0
def tw9151992907039709467 : Nat := 0
def tw9186590178405522127 : Nat := 0
def tw9413266810777528119 : Nat := 0
def tw9586331330180397354 : Nat := 0
def tw9838464110340642238 : Nat := 0
def tw9851559321453175587 : Nat := 0
end PySem.W.Fast
open PySem PySem.W PyProof.Rows
set_option maxRecDepth 100000 in
set_option maxHeartbeats 0 in
theorem PySem.Challenge.cw_blockkeep_k09_maps_holds : PySem.Challenge.rw_blockkeep_k09_maps.Holds := by
 w_on; o_law; k_head; (case hw => w_witness2)
 k_fill
 refine K9.walk (l := PySem.Challenge.rw_blockkeep_k09_maps) rfl rfl (fun w h Y => W.kIn_of Y) ?F
 case F =>
  intro w mg fa h KX G hmg
  refine' K9.all_mk KX G hmg ?h_n_KeepError ?h_n_BadRow ?h_n_NoBlock ?h_n_Stopped ?h_n_BadDisk ?h_n_NoRoom ?h_n_TooMuch ?h_n_NoNode ?h_n_NoNodes ?h_n_Disk ?h_n_Layout ?h_n_Batch ?h_a_fDisk_init ?h_a_f_writes ?h_a_f_blocks ?h_a_f_refuse_no_block ?h_a_f_use_up_one ?h_a_f_write ?h_a_f_read ?h_a_fLayout_init ?h_a_fBatch_init ?h_a_f_Batch_write ?h_a_f_Batch_read ?h_a_f_pairs ?h_a_f_finish ?h_a1 ?h_a3 ?h_a6 ?h_a11 ?h_a12 ?h_a13 ?h_a15 ?h_a19 ?h_a20 ?h_a21 ?h_a22 ?h_a23 ?h_a24 ?h_a25 ?h_a26 ?h_a27 ?h_a28 ?h_a29 ?h_a30 ?h_a31 ?h_a34 ?h_a35 ?h_a36 ?h_a37 ?h_a38 ?h_a39 ?h_a40 ?h_a41 ?h_z_isinstance ?h_z_int ?h_z_bool ?h_z_list ?h_z_len ?h_z_all ?h_z_range ?h_z_ValueError ?h_z_min ?h_z_sorted ?h_z_enumerate ?h_v_ROW_WORDS ?h_v_MOST_WORD ?h_v_FREE ?h_v_USED ?h_v_LEAST_BLOCKS ?h_v_MOST_BLOCKS ?h_v_LOG_HEAD_AT ?h_v_LOG_ROWS_AT ?h_v_MAPS_AT ?h_v_MOST_TABLES ?h_v_MOST_HOMES ?h_x_BadRow ?h_x_NoBlock ?h_x_Stopped ?h_x_BadDisk ?h_x_TooMuch ?h_x_NoRoom ?h_g0_NoBlock ?h_g1_NoBlock ?h_g2_NoBlock ?h_g3_NoBlock ?h_g4_NoBlock ?h_g5_NoBlock ?h_g6_NoBlock ?h_g0_NoRoom ?h_g1_NoRoom ?h_g2_NoRoom ?h_g3_NoRoom ?h_g4_NoRoom ?h_g5_NoRoom ?h_g6_NoRoom ?h_h0_KeepError ?h_h1_KeepError ?h_s_BadRow_KeepError ?h_s_NoBlock_KeepError ?h_s_Stopped_KeepError ?h_s_BadDisk_KeepError ?h_s_TooMuch_KeepError ?h_s_NoRoom_KeepError ?h_q_NoBlock_NoBlock ?h_q_NoBlock_NoRoom ?h_q_NoBlock_NoNode ?h_q_NoBlock_NoNodes ?h_q_NoBlock_ValueError ?h_q_NoRoom_NoBlock ?h_q_NoRoom_NoRoom ?h_q_NoRoom_NoNode ?h_q_NoRoom_NoNodes ?h_q_NoRoom_ValueError ?h_pg_Disk ?h_hd_Disk ?h_po_Disk ?h_sa_Disk ?h_na_kept_rows ?h_na_writes_done ?h_na_writes_left ?h_mk_Disk ?h_i_fDisk_init ?h_kc_Disk ?h_i_f_writes ?h_kp_f_writes ?h_i_f_blocks ?h_kp_f_blocks ?h_i_f_refuse_no_block ?h_kp_f_refuse_no_block ?h_i_f_use_up_one ?h_kp_f_use_up_one ?h_i_f_write ?h_kp_f_write ?h_i_f_read ?h_kp_f_read ?h_pg_Layout ?h_hd_Layout ?h_po_Layout ?h_sa_Layout ?h_na_many ?h_na_tables ?h_na_maps_at ?h_na_nodes_at ?h_na_data_at ?h_mk_Layout ?h_i_fLayout_init ?h_kc_Layout ?h_pg_Batch ?h_hd_Batch ?h_po_Batch ?h_sa_Batch ?h_na_disk ?h_na_new_rows ?h_mk_Batch ?h_i_fBatch_init ?h_kc_Batch ?h_i_f_Batch_write ?h_kp_f_Batch_write ?h_i_f_Batch_read ?h_kp_f_Batch_read ?h_i_f_pairs ?h_kp_f_pairs ?h_i_f_finish ?h_kp_f_finish ?h_l1 ?h_c1 ?h_k1 ?h_l2 ?h_c2 ?h_k2 ?h_l3 ?h_c3 ?h_k3 ?h_l4 ?h_c4 ?h_k4 ?h_l5 ?h_c5 ?h_k5 ?h_l6 ?h_c6 ?h_k6 ?h_l7 ?h_c7 ?h_k7 ?h_l8 ?h_c8 ?h_k8 ?h_l9 ?h_c9 ?h_k9 ?h_l10 ?h_c10 ?h_k10 ?h_l11 ?h_c11 ?h_k11 ?h_l12 ?h_c12 ?h_k12 ?h_l13 ?h_c13 ?h_k13 ?h_l14 ?h_c14 ?h_k14 ?h_l15 ?h_c15 ?h_k15 ?h_l16 ?h_c16 ?h_k16 ?h_l17 ?h_c17 ?h_k17 ?h_l18 ?h_c18 ?h_k18 ?h_l19 ?h_c19 ?h_k19 ?h_l20 ?h_c20 ?h_k20 ?h_l21 ?h_c21 ?h_k21 ?h_l22 ?h_c22 ?h_k22 ?h_l23 ?h_c23 ?h_k23 ?h_l24 ?h_c24 ?h_k24 ?h_l25 ?h_c25 ?h_k25 ?h_l26 ?h_c26 ?h_k26 ?h_l27 ?h_c27 ?h_k27 ?h_l28 ?h_c28 ?h_k28 ?h_l29 ?h_c29 ?h_k29 ?h_l30 ?h_c30 ?h_k30 ?h_l31 ?h_c31 ?h_k31 ?h_l32 ?h_c32 ?h_k32 ?h_l33 ?h_c33 ?h_k33 ?h_l34 ?h_c34 ?h_k34 ?h_l35 ?h_c35 ?h_k35 ?h_l36 ?h_c36 ?h_k36 ?h_l37 ?h_c37 ?h_k37 ?h_l38 ?h_c38 ?h_k38 ?h_l39 ?h_c39 ?h_k39 ?h_l40 ?h_c40 ?h_k40 ?h_l41 ?h_c41 ?h_k41
  (case h_n_KeepError | h_n_BadRow | h_n_NoBlock | h_n_Stopped | h_n_BadDisk | h_n_NoRoom | h_n_TooMuch | h_n_NoNode | h_n_NoNodes | h_n_Disk | h_n_Layout | h_n_Batch | h_a_fDisk_init | h_a_f_writes | h_a_f_blocks | h_a_f_refuse_no_block | h_a_f_use_up_one | h_a_f_write | h_a_f_read | h_a_fLayout_init | h_a_fBatch_init | h_a_f_Batch_write | h_a_f_Batch_read | h_a_f_pairs | h_a_f_finish | h_a1 | h_a3 | h_a6 | h_a11 | h_a12 | h_a13 | h_a15 | h_a19 | h_a20 | h_a21 | h_a22 | h_a23 | h_a24 | h_a25 | h_a26 | h_a27 | h_a28 | h_a29 | h_a30 | h_a31 | h_a34 | h_a35 | h_a36 | h_a37 | h_a38 | h_a39 | h_a40 | h_a41 | h_z_isinstance | h_z_int | h_z_bool | h_z_list | h_z_len | h_z_all | h_z_range | h_z_ValueError | h_z_min | h_z_sorted | h_z_enumerate | h_v_ROW_WORDS | h_v_MOST_WORD | h_v_FREE | h_v_USED | h_v_LEAST_BLOCKS | h_v_MOST_BLOCKS | h_v_LOG_HEAD_AT | h_v_LOG_ROWS_AT | h_v_MAPS_AT | h_v_MOST_TABLES | h_v_MOST_HOMES => k_is)
  (case h_x_BadRow | h_x_NoBlock | h_x_Stopped | h_x_BadDisk | h_x_TooMuch | h_x_NoRoom => k_exc)
  (case h_g0_NoBlock | h_g1_NoBlock | h_g2_NoBlock | h_g3_NoBlock | h_g4_NoBlock => k_is)
  (case h_g5_NoBlock | h_g6_NoBlock => kernel_rfl)
  (case h_g0_NoRoom | h_g1_NoRoom | h_g2_NoRoom | h_g3_NoRoom | h_g4_NoRoom => k_is)
  (case h_g5_NoRoom | h_g6_NoRoom | h_h0_KeepError => kernel_rfl)
  (case h_h1_KeepError | h_s_BadRow_KeepError | h_s_NoBlock_KeepError | h_s_Stopped_KeepError | h_s_BadDisk_KeepError | h_s_TooMuch_KeepError | h_s_NoRoom_KeepError => k_is)
  (case h_q_NoBlock_NoBlock | h_q_NoBlock_NoRoom | h_q_NoBlock_NoNode | h_q_NoBlock_NoNodes | h_q_NoBlock_ValueError | h_q_NoRoom_NoBlock | h_q_NoRoom_NoRoom | h_q_NoRoom_NoNode | h_q_NoRoom_NoNodes | h_q_NoRoom_ValueError => kernel_rfl)
  (case h_pg_Disk | h_hd_Disk | h_po_Disk | h_sa_Disk | h_na_kept_rows | h_na_writes_done | h_na_writes_left | h_mk_Disk | h_i_fDisk_init | h_kc_Disk | h_i_f_writes | h_kp_f_writes | h_i_f_blocks | h_kp_f_blocks | h_i_f_refuse_no_block | h_kp_f_refuse_no_block | h_i_f_use_up_one | h_kp_f_use_up_one | h_i_f_write | h_kp_f_write | h_i_f_read | h_kp_f_read | h_pg_Layout | h_hd_Layout | h_po_Layout | h_sa_Layout | h_na_many | h_na_tables | h_na_maps_at | h_na_nodes_at | h_na_data_at | h_mk_Layout | h_i_fLayout_init | h_kc_Layout | h_pg_Batch | h_hd_Batch | h_po_Batch | h_sa_Batch | h_na_disk | h_na_new_rows | h_mk_Batch | h_i_fBatch_init | h_kc_Batch | h_i_f_Batch_write | h_kp_f_Batch_write | h_i_f_Batch_read | h_kp_f_Batch_read | h_i_f_pairs | h_kp_f_pairs | h_i_f_finish | h_kp_f_finish | h_l1 | h_c1 | h_k1 | h_l2 | h_c2 | h_k2 | h_l3 | h_c3 | h_k3 | h_l4 | h_c4 | h_k4 | h_l5 | h_c5 | h_k5 | h_l6 | h_c6 | h_k6 | h_l7 | h_c7 | h_k7 | h_l8 | h_c8 | h_k8 | h_l9 | h_c9 | h_k9 | h_l10 | h_c10 | h_k10 | h_l11 | h_c11 | h_k11 | h_l12 | h_c12 | h_k12 | h_l13 | h_c13 | h_k13 | h_l14 | h_c14 | h_k14 | h_l15 | h_c15 | h_k15 | h_l16 | h_c16 | h_k16 | h_l17 | h_c17 | h_k17 | h_l18 | h_c18 | h_k18 | h_l19 | h_c19 | h_k19 | h_l20 | h_c20 | h_k20 | h_l21 | h_c21 | h_k21 | h_l22 | h_c22 | h_k22 | h_l23 | h_c23 | h_k23 | h_l24 | h_c24 | h_k24 | h_l25 | h_c25 | h_k25 | h_l26 | h_c26 | h_k26 | h_l27 | h_c27 | h_k27 | h_l28 | h_c28 | h_k28 | h_l29 | h_c29 | h_k29 | h_l30 | h_c30 | h_k30 | h_l31 | h_c31 | h_k31 | h_l32 | h_c32 | h_k32 | h_l33 | h_c33 | h_k33 | h_l34 | h_c34 | h_k34 | h_l35 | h_c35 | h_k35 | h_l36 | h_c36 | h_k36 | h_l37 | h_c37 | h_k37 | h_l38 | h_c38 | h_k38 | h_l39 | h_c39 | h_k39 | h_l40 | h_c40 | h_k40 | h_l41 | h_c41 | h_k41 => k_is)
end
