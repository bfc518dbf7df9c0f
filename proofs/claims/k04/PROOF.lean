import PyProof.Rows.All
import Wide.All
import OpenK.AllK
import Wide.FinOn
import Lean
import PyProof.EqAt
import PyProof.EqKinds
import PyProof.TupleCall
import PyProof.EqLayable
import PyProof.ConsumeWalk
import PySem.Challenge.RW_blockkeep_k04_layouts
section
set_option Elab.async false
set_option linter.all false
set_option maxRecDepth 100000
/-! THE HAND LAYER, for ints, bools, texts, own classes, LISTS and tuples (index, slices, in, append, pop ..), calls, loops. Paste it whole ahead of your own text; what your proof does not reach may be deleted. -/
namespace L2
open PySem PySem.Spec PyProof.Rows
/-- what an exception came out of: nothing, or one that came out of nothing -/
def Ctx (h : Heap) (e : Addr) (vs : Array Value) : Prop := vs[2]? = some .none ∨ ∃ (b : Addr) (ob : Obj) (vb : Array Value), vs[2]? = some (.ref b) ∧ b ≠ e ∧ h.get? b = some ob ∧ ob.data = .fields vb ∧ vb[2]? = some .none
/-- what is handled: nothing, or an exception that came out of one other at most -/
def HdAt (A : Around) (h : Heap) : Prop := A.handled = none ∨ ∃ (e : Addr) (oe : Obj) (vs : Array Value), A.handled = some (.ref e) ∧ h.get? e = some oe ∧ oe.data = .fields vs ∧ Ctx h e vs
/-- .. and all that is none of a -/
def HdOff (A : Around) (h : Heap) (a : Addr) : Prop := A.handled = none ∨ ∃ (e : Addr) (oe : Obj) (vs : Array Value), A.handled = some (.ref e) ∧ e ≠ a ∧ h.get? e = some oe ∧ oe.data = .fields vs ∧
  (vs[2]? = some .none ∨ ∃ (b : Addr) (ob : Obj) (vb : Array Value), vs[2]? = some (.ref b) ∧ b ≠ e ∧ b ≠ a ∧ h.get? b = some ob ∧ ob.data = .fields vb ∧ vb[2]? = some .none)
theorem entry_unchain : entryFor table "proto.unchain" = some Builtin.«proto.unchain» := entryFor_of_fast (by kernel_rfl)
section
variable {prog : Program} {w : World} {A : Around} {E : Value → Shared → Prop} {s : Shared}
theorem unchain_at {v o slow : Value} {t : Bool} {a : Addr} {oo : Obj} {vs : Array Value} {R : Result → Shared → Prop} (ho : o = .ref a) (hoe : s.heap.get? a = some oo) (hde : oo.data = .fields vs) (h2 : vs[2]? = some .none)
    (h : R (.ok (.ret .none)) s) : codeAny (model prog w) A (.builtin "proto.unchain" ⟨[v, o, slow, .bool t], []⟩) R s := by
  subst ho
  refine codeAny_builtin entry_unchain ?_
  unfold Builtin.«proto.unchain»
  refine wpAny_bind (wpAny_field hoe hde h2 ?_)
  rw [if_pos (by rfl)]
  refine wpAny_bind (wpAny_pure (wpAny_pure ?_))
  exact h
theorem raiseNew_hd {α : Type} {a : Addr} {o : Obj} {vs : Array Value} {Q : α → Shared → Prop} (hd : HdOff A s.heap a) (ho : s.heap.get? a = some o) (hdt : o.data = .fields vs) (h3 : 2 < vs.size)
    (h : ∀ h', Heap.SameBut a s.heap h' → (∃ o' v, h'.get? a = some o' ∧ o'.cls = o.cls ∧ o'.dict = o.dict ∧ o'.data = .fields (vs.setIfInBounds 2 v) ∧ (A.handled = none → h' = s.heap) ∧ ∀ e, A.handled = some (.ref e) → v = .ref e) → E (.ref a) { s with heap := h' }) : wpAny (model prog w) A (raiseNew (.ref a) : Sem α) Q E s := by
  unfold raiseNew
  refine wpAny_bind (wpAny_handled ?_)
  rcases hd with hn | ⟨e, oe, es, he, ne0, hoe, hde, h2⟩
  · rw [hn]
    have hx : vs.setIfInBounds 2 vs[2] = vs := Array.ext (by simp) fun i h1 h2 => by
      rw [Array.getElem_setIfInBounds]
      split
      · rename_i z; subst z; rfl
      · rfl
    exact wpAny_bind (wpAny_pure (wpAny_throw (h s.heap (Heap.SameBut.refl ..) ⟨o, vs[2], ho, rfl, rfl, by rw [hx]; exact hdt, fun _ => rfl, fun e he => by rw [hn] at he; cases he⟩)))
  · rw [he]
    have ne : (Value.ref e != Value.ref a) = true := by simp [ne0]
    dsimp only
    rw [if_pos ne]
    have fin : wpAny (model prog w) A (updateField a 2 (.ref e) >>= fun _ => throw (.ref a)) Q E s :=
      wpAny_bind (show wpAny _ _ (setField (.ref a) 2 (.ref e)) _ _ _ from wpAny_setField ho hdt h3 (wpAny_throw (h _ (Heap.SameBut.update ..)
        ⟨_, .ref e, Heap.get?_update_self _ ho (Obj.isFreed_of_fields (Obj.data_mapFields hdt _)), Obj.cls_mapFields .., (by unfold Obj.mapFields; split <;> rfl), Obj.data_mapFields hdt _, fun z => (by rw [he] at z; cases z), fun e' z => (by rw [he] at z; cases z; rfl)⟩)))
    refine wpAny_bind (wpAny_holding (wpAny_runValue ?_))
    rcases h2 with h2 | ⟨b, ob, vb, h2, hbe, hba, hob, hdb, hb2⟩
    · exact unchain_at rfl hoe hde h2 fin
    · refine codeAny_builtin entry_unchain ?_
      unfold Builtin.«proto.unchain»
      refine wpAny_bind (wpAny_field hoe hde h2 ?_)
      rw [if_neg (by simp), if_neg (by simp [hba]), if_neg (by simp [hbe])]
      refine wpAny_bind (wpAny_pure ?_)
      exact wpAny_pure ⟨Code.quiet_builtin _ (by decide +kernel), unchain_at rfl hob hdb hb2 fin⟩
theorem HdAt.two {A : Around} {h h' : Heap} {it : Addr} {o1 o2 : Obj} (x : HdAt A h) (k : ∀ b o, b ≠ it → h.get? b = some o → h'.get? b = some o) (hi : ∀ oe vs, h.get? it = some oe → oe.data = .fields vs → vs[2]? ≠ some .none ∧ ∀ b, vs[2]? ≠ some (.ref b)) :
    HdOff A ((h'.push o1).push o2) (h'.push o1).objs.size := by
  rcases x with x | ⟨e, oe, vs, a, b, c, d⟩
  · exact .inl x
  · have b' := k e oe (fun z => by
      have := hi oe vs (z ▸ b) c
      rcases d with d | ⟨b, _, _, d, _⟩
      · exact this.1 d
      · exact this.2 b d) b
    have nw : ∀ {c o}, h'.get? c = some o → c ≠ (h'.push o1).objs.size := fun {c o} z => by
      rw [Heap.size_push]
      exact Nat.ne_of_lt (Nat.lt_succ_of_lt (Heap.lt_size z))
    refine .inr ⟨e, oe, vs, a, nw b', Heap.get?_push_of_some _ (Heap.get?_push_of_some _ b'), c, ?_⟩
    rcases d with d | ⟨b, ob, vb, d1, d2, d3, d4, d5⟩
    · exact .inl d
    · have d3' := k b ob (fun z => (hi ob vb (z ▸ d3) d4).1 d5) d3
      exact .inr ⟨b, ob, vb, d1, d2, nw d3', Heap.get?_push_of_some _ (Heap.get?_push_of_some _ d3'), d4, d5⟩
theorem list_endH {it l : Addr} {i : Nat} {items : Array Value} {Q : Option Value → Shared → Prop} (hh : HdAt A s.heap)
    (hit : s.heap.IsListIter it l i) (hl : s.heap.IsList l items) (hx : items[i]? = none)
    (hQ : ∀ h', Heap.ExtBut it s.heap h' → Q none { s with heap := h' }) : wpAny (model prog w) A (pyNext (.ref it)) Q E s := by
  obtain ⟨o, ho, hc, hd⟩ := id hit
  obtain ⟨ol, hol, _, nl, hdl⟩ := hl
  unfold pyNext
  refine wpAny_bind (wpAny_attempt (wpAny_callSpecial?_slot (name := Str.ofString "__next__") hit.typeIs slot_listiter_next
    (wpAny_call_entry slot_listiter_next hit.typeIs entry_listiter_next ?_ (args_listiter_next _))))
  show wpAny _ _ (field (.ref it) 0 >>= _) _ _ s
  refine wpAny_bind (wpAny_field ho hd (x := .ref l) rfl ?_)
  show wpAny _ _ (if (Value.ref l == Value.none) = true then _ else _) _ _ s
  rw [if_neg (show ¬ ((Value.ref l == Value.none) = true) from Bool.false_ne_true)]
  show wpAny _ _ (field (.ref it) 1 >>= _) _ _ s
  refine wpAny_bind (wpAny_field ho hd (x := .int i 0) rfl ?_)
  show wpAny _ _ (seqItems? (.ref l) >>= _) _ _ s
  refine wpAny_bind (wpAny_seqItems hol hdl ?_)
  simp only [Int.toNat_natCast, hx]
  refine wpAny_bind (wpAny_rule (wpAny_bind (wpAny_setField ho hd (by simp) ?_)))
  show wpAny _ _ (newExc (.type "StopIteration") [] >>= _) _ _ _
  refine wpAny_bind ?_
  simp only [newExc, newTuple]
  refine wpAny_bind (wpAny_newObj_type ?_ (by size_fits))
  refine wpAny_bind (m := firstArgMember _ _) (wpAny_of_eq (a := Value.none) (by first | rfl | (simp only [firstArgMember]; rfl)) ?_)
  refine wpAny_newObj_type ?_ (by size_fits)
  refine raiseNew_hd (HdAt.two (A := A.in1) (it := it) hh (fun b o' hb e => (Heap.SameBut.update ..).extBut b o' hb e) (fun oe vs e e2 => by rw [ho] at e; cases e; rw [hd] at e2; cases e2; exact ⟨by simp, by simp⟩)) (Heap.get?_push_size _ rfl) rfl (by simp; omega) fun h' sb ⟨o', _, ho', hc', _⟩ => ?_
  refine wpAny_bind (wpAny_isInstance (T := "StopIteration") (b := true) ⟨_, ho', hc'⟩ isSubtype_stop ?_)
  refine wpAny_pure (hQ _ fun b ob hb e => (sb.2 b ?_).trans (((Heap.SameBut.update ..).extBut.push _).push _ b ob hb e))
  exact Nat.ne_of_lt (Nat.lt_of_lt_of_le (Heap.lt_size e) (by rw [Heap.size_push, Heap.size_after_update]; exact Nat.le_succ _))
end
section
variable {prog : Program} {w : World} {A : Around} {E : Value → Shared → Prop} {s : Shared} {K : PySem.W.Frag} {e D : Addr} {oe : Obj}
open PySem.Calls PySem.W in
theorem exc_class {Q : Option Value → Shared → Prop} (X : K.In s.heap) (I : PySem.W.InstAt s.heap e oe D none) (hga : findIn K (.ref D) "__getattribute__" = some (some (.builtin "BaseException.__getattribute__"))) (hk : findIn K (.ref D) "__getattr__" = some none)
    (ha : findIn K (.ref D) "__class__" = some (some (.builtin "object.__class__"))) (hB : mroIn K D (.type "BaseException") = some true) (hm : mroIn K D (.type "object") = some true)
    (hf : findObj K D none "__class__" = some (.bind (.builtin "getset_descriptor.__get__") (.builtin "object.__class__")))
    (h : Q (some (.ref D)) { s with toks := s.toks + 1 }) : wpAny (model prog w) A (getAttr? (.ref e) "__class__") Q E s := by
  obtain ⟨h0, g, d, t, os⟩ := s
  have L0 := I.type (M := model prog w)
  have L1 := looks_findIn (M := model prog w) X hga
  have L2 := looks_findIn (M := model prog w) X hk
  have L3 := looks_findIn (M := model prog w) X ha
  have L4 := looks_mroIn (M := model prog w) X hB
  unfold getAttr? getAttrBy? getAttrBy
  refine wpAny_bind (wpAny_mkText (wpAny_bind (wpAny_attempt (wpAny_holding (wpAny_bind (L0.at (wpAny_bind (L1.at ?_))))))))
  show wpAny _ _ (getAttrByItsOwn _ _ _ _ _ _) _ _ _
  unfold getAttrByItsOwn hookBefore
  rw [if_pos (show onTheHeap (Value.ref D) = true from rfl)]
  have L5 := looks_find (M := model prog w) X I hf
  refine wpAny_bind (L2.at (wpAny_bind (wpAny_attempt (wpAny_holding ?_))))
  unfold callGetattribute
  rw [if_neg (by decide)]
  unfold boundAndCalled
  refine wpAny_bind (wpAny_of_eq (PySem.F.attr_ValueError.ga.bind (.ref e)) ?_)
  refine wpAny_call (codeAny_call_builtin PySem.F.attr_ValueError.ga.plain F.entry_bexc_ga ?_)
  have hk' : builtinKind "BaseException.__getattribute__" = some .slot := by decide +kernel
  have hsplit : splitId "BaseException.__getattribute__" = some ("BaseException", "__getattribute__") := by decide +kernel
  have harg := F.args_bexc_ga (.ref e) (.str "__class__" t)
  simp only [checkBuiltinCall, hk', hsplit]
  refine wpAny_bind ?_
  unfold isInstance
  refine wpAny_bind (L0.at (L4.at ?_))
  rw [if_neg (by decide)]
  refine wpAny_of_eq harg ?_
  unfold Builtin.«object.__getattribute__»
  refine wpAny_bind (wpAny_pure (wpAny_bind (wpAny_pure (wpAny_bind (L0.at (wpAny_bind (L5.at ?_)))))))
  unfold Builtin.ObjectAttr.bindTo
  refine wpAny_bind (wpAny_holding (wpAny_call (PySem.W.class_get (ox := oe) (od := none) X I hm ?_)))
  refine wpAny_pure ?_
  exact handed_on rfl (wpAny_pure h)
/-- what the text must have of a class of exceptions -/
structure ExcK (K : PySem.W.Frag) (D : Addr) : Prop where
  ga : PySem.W.findIn K (.ref D) "__getattribute__" = some (some (.builtin "BaseException.__getattribute__"))
  gr : PySem.W.findIn K (.ref D) "__getattr__" = some none
  cl : PySem.W.findIn K (.ref D) "__class__" = some (some (.builtin "object.__class__"))
  bx : PySem.W.mroIn K D (.type "BaseException") = some true
  ob : PySem.W.mroIn K D (.type "object") = some true
  fd : PySem.W.findObj K D none "__class__" = some (.bind (.builtin "getset_descriptor.__get__") (.builtin "object.__class__"))
  is : (PySem.W.clsIn K D).isSome = true
open PySem.Calls PySem.W in
theorem kitx_exc (F : ExcK K D) : KitX K (.ref e) (.ref D) (fun h => ∃ oe, PySem.W.InstAt h e oe D none) where
  ty := fun _ _ _ ⟨_, I⟩ => I.type
  it := fun _ _ X _ => by
    obtain ⟨cdD, hcD⟩ := Option.isSome_iff_exists.mp F.is
    unfold clsIn at hcD
    split at hcD
    · rename_i c' d' cd' sl' ho
      intro A' Q' E' s' k q
      unfold isType loadHead
      exact wpAny_bind (wpAny_loadPart (k _ _ (X _ _ ho)) (wpAny_pure q))
    · cases hcD
  ne := fun h tp dd its n sl X htp => by
    obtain ⟨cdD, hcD⟩ := Option.isSome_iff_exists.mp F.is
    refine Bool.eq_false_iff.mpr fun q => ?_
    have e : D = tp := Value.ref.inj (beq_iff_eq.mp q)
    subst e
    unfold clsIn at hcD
    split at hcD
    · rename_i c' d' cd' sl' ho
      have z := (X _ _ ho).symm.trans htp
      cases z
    · cases hcD
  ca := fun X ⟨_, I⟩ k => exc_class X I F.ga F.gr F.cl F.bx F.ob F.fd k
end
end L2

namespace L2
open PySem PySem.Spec PyProof.Rows

/-- a key: an int or a str -/
abbrev Key := Sum Int Str
def keyIs : Key → Value → Bool
  | .inl k, v => Value.isInt k v
  | .inr x, v => Value.isStrOf x v
def keyH (w : World) : Key → Int
  | .inl k => hashInt k
  | .inr x => hashStr w x
theorem keyIs_shape : ∀ {k : Key} {v : Value}, keyIs k v = true → (∃ i t, k = Sum.inl i ∧ v = Value.int i t) ∨ (∃ x t, k = Sum.inr x ∧ v = Value.str x t)
  | .inl i, v, h => by
    obtain ⟨t, e⟩ := Value.isInt_shape (k := i) (v := v) h
    exact .inl ⟨i, t, rfl, e⟩
  | .inr x, v, h => by
    obtain ⟨t, e⟩ := Value.isStrOf_shape (x := x) (v := v) h
    exact .inr ⟨x, t, rfl, e⟩
theorem key_ll (a b : Int) : decide ((Sum.inl a : Key) = Sum.inl b) = (a == b) := by
  by_cases e : a = b
  · subst e; simp
  · have h : ¬ (Sum.inl a : Key) = Sum.inl b := fun q => e (Sum.inl.inj q)
    rw [decide_eq_false h]
    exact (beq_eq_false_iff_ne.mpr e).symm
theorem key_rr (a b : Str) : decide ((Sum.inr a : Key) = Sum.inr b) = decide (a = b) := by
  by_cases e : a = b
  · subst e; simp
  · have h : ¬ (Sum.inr a : Key) = Sum.inr b := fun q => e (Sum.inr.inj q)
    rw [decide_eq_false h, decide_eq_false e]
theorem key_lr (a : Int) (b : Str) : decide ((Sum.inl a : Key) = Sum.inr b) = false := decide_eq_false (fun q => nomatch q)
theorem key_rl (a : Str) (b : Int) : decide ((Sum.inr a : Key) = Sum.inl b) = false := decide_eq_false (fun q => nomatch q)

def mixKind (prog : Program) (w : World) : PySem.KeyKind prog w Key where
  is := keyIs
  hash := keyH w
  inj := fun v a b ha hb => by
    rcases keyIs_shape ha with ⟨i, t, rfl, rfl⟩ | ⟨x, t, rfl, rfl⟩
    · rcases keyIs_shape hb with ⟨j, u, rfl, e⟩ | ⟨y, u, rfl, e⟩
      · injection e with e1 _; rw [e1]
      · exact nomatch e
    · rcases keyIs_shape hb with ⟨j, u, rfl, e⟩ | ⟨y, u, rfl, e⟩
      · exact nomatch e
      · injection e with e1 _; rw [e1]
  byValue := fun k v h => by
    rcases keyIs_shape h with ⟨i, t, rfl, rfl⟩ | ⟨x, t, rfl, rfl⟩ <;> rfl
  pyHash := fun hv h => by
    rcases keyIs_shape hv with ⟨i, t, rfl, rfl⟩ | ⟨x, t, rfl, rfl⟩
    · exact wpAny_pyHash_int h
    · exact wpAny_pyHash_str h
  eqBool := fun hu hv h => by
    rcases keyIs_shape hu with ⟨i, t, rfl, rfl⟩ | ⟨x, t, rfl, rfl⟩
    · rcases keyIs_shape hv with ⟨j, u, rfl, rfl⟩ | ⟨y, u, rfl, rfl⟩
      · rw [key_ll] at h; exact wpAny_eqBool_int h
      · rw [key_lr] at h; exact SeqAt.EqAt.int_str i t y u _ _ _ _ h
    · rcases keyIs_shape hv with ⟨j, u, rfl, rfl⟩ | ⟨y, u, rfl, rfl⟩
      · rw [key_rl] at h; exact SeqAt.EqAt.str_int x t j u _ _ _ _ h
      · rw [key_rr] at h; exact wpAny_eqBool_str h
  «strs» := fun k x t v h => by
    rcases keyIs_shape h with ⟨i, u, rfl, e⟩ | ⟨y, u, rfl, e⟩
    · exact nomatch e
    · injection e with e1 _
      subst e1
      cases v <;> rfl

end L2

namespace L2
open PySem PySem.Spec PyProof.Rows

/-- a value, without the heap -/
inductive V where
  | non | bl (b : Bool) | int (i : Int) | str (x : Str) | byt (b : Array UInt8) | flt (b : UInt64) | ref (a : Addr) | ty (n : String)
  deriving DecidableEq

def RelV : V → Value → Prop
  | .non, u => u = Value.none
  | .bl b, u => u = Value.bool b
  | .int i, u => ∃ t, u = Value.int i t
  | .str x, u => ∃ t, u = Value.str x t
  | .byt b, u => ∃ t, u = Value.bytes b t
  | .flt b, u => ∃ t, u = Value.float b t
  | .ref a, u => u = Value.ref a
  | .ty n, u => u = Value.type n

abbrev Vals : List V → List Value → Prop := Paired RelV
theorem Vals.length {xs : List V} {us : List Value} (r : Vals xs us) : xs.length = us.length := Paired.length r
theorem Vals.get : ∀ {xs : List V} {us : List Value} {i : Nat} {x : V}, Vals xs us → xs[i]? = some x → ∃ u, us[i]? = some u ∧ RelV x u
  | _, _, _, _, .nil, e => by simp at e
  | _, _, 0, _, .cons r _, e => by simp at e; subst e; exact ⟨_, rfl, r⟩
  | _, _, i + 1, x, .cons _ t, e => by
    obtain ⟨u, h1, h2⟩ := Vals.get (i := i) (x := x) t (by simpa using e)
    exact ⟨u, by simpa using h1, h2⟩
theorem Vals.set {x : V} {u : Value} (r : RelV x u) : ∀ {xs : List V} {us : List Value} (i : Nat), Vals xs us → Vals (xs.set i x) (us.set i u)
  | _, _, _, .nil => .nil
  | _, _, 0, .cons _ t => .cons r t
  | _, _, i + 1, .cons q t => .cons q (Vals.set r i t)
theorem Vals.append : ∀ {xs ys : List V} {us ws : List Value}, Vals xs us → Vals ys ws → Vals (xs ++ ys) (us ++ ws)
  | _, _, _, _, .nil, s => s
  | _, _, _, _, .cons r t, s => .cons r (Vals.append t s)
theorem Vals.take : ∀ {xs : List V} {us : List Value} (n : Nat), Vals xs us → Vals (xs.take n) (us.take n)
  | _, _, 0, _ => .nil
  | _, _, _ + 1, .nil => .nil
  | _, _, n + 1, .cons r t => .cons r (Vals.take n t)
theorem Vals.drop : ∀ {xs : List V} {us : List Value} (n : Nat), Vals xs us → Vals (xs.drop n) (us.drop n)
  | _, _, 0, r => r
  | _, _, _ + 1, .nil => .nil
  | _, _, n + 1, .cons _ t => Vals.drop n t
def RelO : Option V → Option Value → Prop
  | some v, some u => RelV v u
  | none, none => True
  | _, _ => False
def KV {κ : Type} : List (κ × V) → List (κ × Value) → Prop := Paired fun (p : κ × V) (q : κ × Value) => p.1 = q.1 ∧ RelV p.2 q.2

/-- a key of a dict (00_mix): an int or a text -/
def kV : Key → V
  | .inl i => .int i
  | .inr x => .str x

/-- what stands at a tracked address -/
inductive HO where
  /-- a list -/
  | lst (xs : List V)
  /-- a tuple (never changes) -/
  | tup (xs : List V)
  /-- a dict whose keys are ints and texts; one whose keys are tuples of ints and texts (the empty one is both) -/
  | dK (kvs : List (Key × V)) | dT (kvs : List (List Key × V))
  /-- a set of ints: its members, its size -/
  | set (S : Int → Bool) (n : Nat)
  /-- an instance of the class at C, its dict at dx, its attributes -/
  | ins (C dx : Addr) (fs : List (Str × V))
  /-- the dict of the instance at x -/
  | own (x : Addr)
  /-- the dict of an exception -/
  | xd (fs : List (Str × V))
  /-- a bound method, f of x -/
  | met (f x : Addr)
  /-- a range object lo, lo + 1, .. below hi -/
  | rng (lo hi : Int)
  /-- a thing that is known to the object (the script; a dict while a loop walks it): read, never written while it is so -/
  | frz (o : Obj) (u : HO)
  /-- a code object's table -/
  | tbl (ps : Array Value)
  /-- an exception that was caught, of that class: it came out of no other -/
  | exc (cls : Value)
  /-- any other thing, by what is true of its one object (a def of one's own: SetO a S n := HO.ext fun h => ..) -/
  | ext (φ : Heap → Prop)

abbrev Hp := Addr → Option HO
def upd (H : Hp) (a : Addr) (o : HO) : Hp := fun b => if b = a then some o else H b
theorem upd_same {H : Hp} {a : Addr} {o : HO} : upd H a o a = some o := by unfold upd; rw [if_pos rfl]
theorem upd_ne {H : Hp} {a b : Addr} {o : HO} (h : b ≠ a) : upd H a o b = H b := by unfold upd; rw [if_neg h]
theorem upd_upd {H : Hp} {a : Addr} {o u : HO} : upd (upd H a o) a u = upd H a u := by
  funext b; unfold upd; split <;> rfl
/-- two objects of different content stand apart -/
theorem ne_of {H : Hp} {a b : Addr} {o u : HO} (h : H a = some o) (h' : H b = some u) (d : o ≠ u) : a ≠ b := by
  intro e; subst e; rw [h] at h'; exact d (Option.some.inj h')
theorem ne_of_none {H : Hp} {a b : Addr} {o : HO} (h : H a = some o) (h' : H b = none) : a ≠ b := by
  intro e; subst e; rw [h] at h'; cases h'

section
variable (P : Program) (w : World)
def ObjOk (H : Hp) (h : Heap) (a : Addr) : HO → Prop
  | .lst xs => xs.length ≤ sizeLine ∧ ∃ (its : List Value) (n : Nat), Vals xs its ∧ h.get? a = some { cls := .type "list", data := .seq its.toArray n }
  | .tup xs => xs.length ≤ sizeLine ∧ ∃ its : List Value, Vals xs its ∧ IsTup h a its.toArray
  | .dK kvs => kvs.length ≤ sizeLine ∧ (a == sysModules) = false ∧ ∃ vs, KV kvs vs ∧ h.DictOf (mixKind P w) a vs
  | .dT kvs => kvs.length ≤ sizeLine ∧ (a == sysModules) = false ∧ ∃ xs : List (List Key × Addr × Value),
      Paired (fun (p : List Key × V) (q : List Key × Addr × Value) => p.1 = q.1 ∧ H q.2.1 = some (.tup (p.1.map kV)) ∧ RelV p.2 q.2.2) kvs xs ∧
      ∃ o es ep, h.get? a = some o ∧ o.ExactDict ∧ o.data = .dict es ep ∧ es.toList = xs.map (entryOfKey (tupleKind (mixKind P w))) ∧ (xs.map (·.1)).Nodup
  | .set S n => h.SetOf (intKind P w) a S n
  | .ins C dx fs => H dx = some (.own a) ∧ fs.length ≤ 1000 ∧ dx ≠ a ∧ h.get? a = some (PySem.W.instObj C dx) ∧
      ∃ mA, h.Ns1 dx mA ∧ (∀ f, RelO (fs.lookup f) (mA f)) ∧ PySem.Within mA (fs.map (·.1))
  | .own _ => ∃ o, h.get? a = some o
  | .xd fs => ∃ mA, h.Ns1 a mA ∧ ∀ f, RelO (fs.lookup f) (mA f)
  | .rng lo hi => ∃ t u v, h.get? a = some { cls := .type "range", data := .fields #[.int lo t, .int hi u, .int 1 v] }
  | .frz o u => h.get? a = some o ∧ ObjOk H h a u
  | .tbl ps => h.get? a = some { cls := .none, data := .fields ps }
  | .met f x => h.get? a = some (PySem.W.methodObj (.ref f) (.ref x))
  | .exc c => ∃ oe vs, h.get? a = some oe ∧ oe.cls = c ∧ oe.dict = none ∧ oe.data = .fields vs ∧ (vs[2]? = some .none ∨ ∃ b ob vb, vs[2]? = some (.ref b) ∧ b ≠ a ∧ H b = some (.own a) ∧ h.get? b = some ob ∧ ob.data = .fields vb ∧ vb[2]? = some .none)
  | .ext φ => φ h ∧ (∃ o, h.get? a = some o) ∧ ∀ h1 h2 : Heap, φ h1 → (∀ o, h1.get? a = some o → h2.get? a = some o) → φ h2
/-- the abstract heap is held -/
def HOk (H : Hp) (h : Heap) : Prop := ∀ a o, H a = some o → ObjOk P w H h a o
end

section
variable {P : Program} {w : World} {H H' : Hp} {h h' : Heap} {a : Addr} {o : HO}
theorem ObjOk.lt (x : ObjOk P w H h a o) : a < h.objs.size := by
  cases o with
  | lst xs => obtain ⟨_, _, _, _, e⟩ := x; exact Heap.lt_size e
  | tup xs => obtain ⟨_, _, _, p⟩ := x; exact p.lt
  | dK kvs => obtain ⟨_, _, _, _, o, _, _, e, _⟩ := x; exact Heap.lt_size e
  | dT kvs => obtain ⟨_, _, _, _, o, _, _, e, _⟩ := x; exact Heap.lt_size e
  | set S n => obtain ⟨o, _, _, _, e, _⟩ := x; exact Heap.lt_size e
  | ins C dx fs => obtain ⟨_, _, _, e, _⟩ := x; exact Heap.lt_size e
  | own y => obtain ⟨_, e⟩ := x; exact Heap.lt_size e
  | xd fs => obtain ⟨_, ⟨_, _, _, e, _⟩, _⟩ := x; exact Heap.lt_size e
  | rng lo hi => obtain ⟨_, _, _, e⟩ := x; exact Heap.lt_size e
  | frz ob u => obtain ⟨e, _⟩ := x; exact Heap.lt_size e
  | tbl ps => exact Heap.lt_size (show h.get? a = some _ from x)
  | met f y => exact Heap.lt_size (show h.get? a = some _ from x)
  | ext φ => obtain ⟨_, ⟨_, e⟩, _⟩ := x; exact Heap.lt_size e
  | exc c => obtain ⟨_, _, e, _⟩ := x; exact Heap.lt_size e
theorem Paired.mapP {α β : Type} {F G : α → β → Prop} : ∀ {l₁ : List α} {l₂ : List β}, Paired F l₁ l₂ → (∀ a b, F a b → G a b) → Paired G l₁ l₂
  | _, _, .nil, _ => .nil
  | _, _, .cons r t, f => .cons (f _ _ r) (Paired.mapP t f)
/-- what an object's description leans on: its own object, its own dict, the tuples -/
theorem ObjOk.stay (x : ObjOk P w H h a o) (k : ∀ b u, (b = a ∨ H b = some (.own a)) → h.get? b = some u → h'.get? b = some u)
    (ho : ∀ b, H b = some (.own a) → H' b = some (.own a)) (ht : ∀ b xs, H b = some (.tup xs) → H' b = some (.tup xs)) : ObjOk P w H' h' a o := by
  induction o with
  | lst xs => obtain ⟨z, its, n, r, e⟩ := x; exact ⟨z, its, n, r, k _ _ (.inl rfl) e⟩
  | tup xs => obtain ⟨z, its, r, ob, e, c⟩ := x; exact ⟨z, its, r, ob, k _ _ (.inl rfl) e, c⟩
  | dK kvs => obtain ⟨z, y, vs, r, ob, es, ep, e, c⟩ := x; exact ⟨z, y, vs, r, ob, es, ep, k _ _ (.inl rfl) e, c⟩
  | dT kvs =>
    obtain ⟨z, y, xs, r, ob, es, ep, e, c⟩ := x
    exact ⟨z, y, xs, Paired.mapP r fun p q z => ⟨z.1, ht _ _ z.2.1, z.2.2⟩, ob, es, ep, k _ _ (.inl rfl) e, c⟩
  | set S n => obtain ⟨ob, es, ep, t, e, c⟩ := x; exact ⟨ob, es, ep, t, k _ _ (.inl rfl) e, c⟩
  | ins C dx fs =>
    obtain ⟨d, z, ne, e, mA, ⟨od, es, ep, e2, c⟩, r⟩ := x
    exact ⟨ho _ d, z, ne, k _ _ (.inl rfl) e, mA, ⟨od, es, ep, k _ _ (.inr d) e2, c⟩, r⟩
  | own y => obtain ⟨ob, e⟩ := x; exact ⟨ob, k _ _ (.inl rfl) e⟩
  | xd fs => obtain ⟨mA, ⟨od, es, ep, e, c⟩, r⟩ := x; exact ⟨mA, ⟨od, es, ep, k _ _ (.inl rfl) e, c⟩, r⟩
  | rng lo hi => obtain ⟨t, u, v, e⟩ := x; exact ⟨t, u, v, k _ _ (.inl rfl) e⟩
  | frz ob u ih => obtain ⟨e, q⟩ := x; exact ⟨k _ _ (.inl rfl) e, ih q⟩
  | tbl ps =>
    have e : h.get? a = some { cls := .none, data := .fields ps } := x
    show h'.get? a = some { cls := .none, data := .fields ps }
    exact k a _ (.inl rfl) e
  | met f y =>
    have e : h.get? a = some (PySem.W.methodObj (.ref f) (.ref y)) := x
    show h'.get? a = some (PySem.W.methodObj (.ref f) (.ref y))
    exact k a _ (.inl rfl) e
  | exc c =>
    obtain ⟨oe, vs, e, r1, r2, r3, r⟩ := x
    refine ⟨oe, vs, k _ _ (.inl rfl) e, r1, r2, r3, ?_⟩
    rcases r with r | ⟨b, ob, vb, d1, d2, d3, d4, d5⟩
    · exact .inl r
    · exact .inr ⟨b, ob, vb, d1, d2, ho _ d3, k _ _ (.inr d3) d4, d5⟩
  | ext φ => obtain ⟨p, ⟨o, e⟩, st⟩ := x; exact ⟨st _ _ p fun o q => k _ _ (.inl rfl) q, ⟨o, k _ _ (.inl rfl) e⟩, st⟩
theorem HOk.lt (x : HOk P w H h) (e : H a = some o) : a < h.objs.size := (x a o e).lt
theorem HOk.fresh (x : HOk P w H h) (e : h.objs.size ≤ a) : H a = none := by
  cases q : H a with
  | none => rfl
  | some u => exact absurd (Nat.lt_of_lt_of_le (x.lt q) e) (Nat.lt_irrefl _)
/-- every object of the heap is kept -/
theorem HOk.kept (x : HOk P w H h) (k : ∀ b u, h.get? b = some u → h'.get? b = some u) : HOk P w H h' := fun a o e =>
  (x a o e).stay (fun b u _ q => k b u q) (fun _ q => q) fun _ _ q => q
/-- a new object is laid and tracked -/
theorem HOk.laid (x : HOk P w H h) (k : ∀ b u, h.get? b = some u → h'.get? b = some u) (hp : h.objs.size ≤ a) (new : ObjOk P w (upd H a o) h' a o) : HOk P w (upd H a o) h' := fun b u e => by
  have hn := x.fresh hp
  by_cases hb : b = a
  · subst hb; rw [upd_same] at e; cases e; exact new
  · rw [upd_ne hb] at e
    exact (x b u e).stay (fun c v _ q => k c v q) (fun c q => by rw [upd_ne (ne_of_none q hn)]; exact q) fun c xs q => by rw [upd_ne (ne_of_none q hn)]; exact q
end

/-- what is handled is tracked -/
def HdE (A : Around) (H : Hp) : Prop := A.handled = none ∨ ∃ (e : Addr) (c : Value), A.handled = some (.ref e) ∧ H e = some (.exc c)
theorem HdE.at {P : Program} {w : World} {A : Around} {H : Hp} {h : Heap} (x : HdE A H) (ok : HOk P w H h) : HdAt A h := by
  rcases x with x | ⟨e, c, a, b⟩
  · exact .inl x
  · obtain ⟨oe, vs, q, _, _, d, z⟩ := ok e _ b
    refine .inr ⟨e, oe, vs, a, q, d, ?_⟩
    rcases z with z | ⟨b, ob, vb, d1, d2, _, d4⟩
    · exact .inl z
    · exact .inr ⟨b, ob, vb, d1, d2, d4⟩
/-- what may be read as u: it is u, or a known u -/
def Rd (H : Hp) (a : Addr) (u : HO) : Prop := H a = some u ∨ ∃ o, H a = some (.frz o u)
theorem Rd.ok {P : Program} {w : World} {H : Hp} {h : Heap} {a : Addr} {u : HO} (r : Rd H a u) (x : HOk P w H h) : ObjOk P w H h a u := by
  rcases r with r | ⟨o, r⟩
  · exact x a u r
  · obtain ⟨_, q⟩ := x a _ r
    exact q
/-- what may be written -/
def Mut : Option HO → Prop
  | some (.lst _) => True
  | some (.dK _) => True
  | some (.dT _) => True
  | some (.set _ _) => True
  | some (.ins _ _ _) => True
  | some (.ext _) => True
  | _ => False
section
variable {P : Program} {w : World} {H : Hp} {h h' : Heap} {x e : Addr} {o' : HO}
/-- the object at e is changed: x itself, or the dict of the instance x -/
theorem HOk.write (ok : HOk P w H h) (mu : Mut (H x)) (he : e = x ∨ H e = some (.own x)) (k : ∀ b u, b ≠ e → h.get? b = some u → h'.get? b = some u) (heo : ∃ u, h'.get? e = some u)
    (new : ObjOk P w (upd H x o') h' x o') : HOk P w (upd H x o') h' := fun b u q => by
  have nown : ∀ c y, H c = some (.own y) → c ≠ x := fun c y r z => by subst z; rw [r] at mu; exact mu
  have ntup : ∀ c xs, H c = some (.tup xs) → c ≠ x := fun c xs r z => by subst z; rw [r] at mu; exact mu
  by_cases hb : b = x
  · subst hb; rw [upd_same] at q; cases q; exact new
  · rw [upd_ne hb] at q
    by_cases hbe : b = e
    · have q' : H b = some (.own x) := by
        rcases he with z | z
        · exact absurd (hbe.trans z) hb
        · rw [hbe]; exact z
      rw [q] at q'; cases q'
      obtain ⟨v, hv⟩ := heo
      exact ⟨v, by rw [hbe]; exact hv⟩
    · refine (ok b u q).stay (fun c v hc r => k c v ?_ r) (fun c r => by rw [upd_ne (nown c b r)]; exact r) fun c xs r => by rw [upd_ne (ntup c xs r)]; exact r
      rcases hc with rfl | hc
      · exact hbe
      · rintro rfl
        rcases he with z | z
        · exact nown c b hc z
        · rw [hc] at z; cases z; exact hb rfl
end

/-! ### kept unless tracked; of the frames at fs (the callers') the slots may change (an exception that passes writes there); of the records at ex (iterators) nothing is said -/
structure Un (fs ex : List Addr) (H H' : Hp) (h h' : Heap) : Prop where
  keep : ∀ b o, h.get? b = some o → H b = none → b ∉ fs → b ∉ ex → h'.get? b = some o
  slot : ∀ b o, h.get? b = some o → H b = none → b ∈ fs → b ∉ ex → ∃ sl, h'.get? b = some { o with slots := sl }
  free : ∀ b o, h.get? b = some o → H b = none → b ∉ ex → H' b = none
  there : ∀ b o, h.get? b = some o → b ∉ ex → ∃ o', h'.get? b = some o'
  tups : ∀ b xs, H b = some (.tup xs) → H' b = some (.tup xs)
  frzs : ∀ b o u, H b = some (.frz o u) → H' b = some (.frz o u)
  tbls : ∀ b ps, H b = some (.tbl ps) → ∃ more, H' b = some (.tbl (ps ++ more))
  excs : ∀ b c, H b = some (.exc c) → H' b = some (.exc c)
section
variable {fs fs' ex ex' : List Addr} {H H1 H2 : Hp} {h h1 h2 h' : Heap} {a x e : Addr} {o : HO}
theorem Un.any (u : Un fs ex H H1 h h1) {b : Addr} {ob : Obj} (q : h.get? b = some ob) (n : H b = none) (hx : b ∉ ex) : ∃ sl, h1.get? b = some { ob with slots := sl } := by
  by_cases hb : b ∈ fs
  · exact u.slot b ob q n hb hx
  · exact ⟨ob.slots, u.keep b ob q n hb hx⟩
theorem Un.kept (k : ∀ b u, h.get? b = some u → h'.get? b = some u) : Un fs ex H H h h' :=
  ⟨fun b ob q _ _ _ => k b ob q, fun b ob q _ _ _ => ⟨ob.slots, k b ob q⟩, fun _ _ _ n _ => n, fun b ob q _ => ⟨ob, k b ob q⟩, fun _ _ q => q, fun _ _ _ q => q, fun _ ps q => ⟨#[], by rw [q]; simp⟩, fun _ _ q => q⟩
theorem Un.refl : Un fs ex H H h h := Un.kept fun _ _ q => q
theorem Un.laid (k : ∀ b u, h.get? b = some u → h'.get? b = some u) (hp : h.objs.size ≤ a) (hn : H a = none) : Un fs ex H (upd H a o) h h' where
  keep := fun b u q _ _ _ => k b u q
  slot := fun b u q _ _ _ => ⟨u.slots, k b u q⟩
  free := fun b u q n _ => by rw [upd_ne (Nat.ne_of_lt (Nat.lt_of_lt_of_le (Heap.lt_size q) hp))]; exact n
  there := fun b u q _ => ⟨u, k b u q⟩
  tups := fun b xs q => by rw [upd_ne (ne_of_none q hn)]; exact q
  frzs := fun b u xs q => by rw [upd_ne (ne_of_none q hn)]; exact q
  tbls := fun b ps q => ⟨#[], by rw [upd_ne (ne_of_none q hn), q]; simp⟩
  excs := fun b c q => by rw [upd_ne (ne_of_none q hn)]; exact q
theorem Un.write (mu : Mut (H x)) (he : e = x ∨ H e = some (.own x)) (k : ∀ b u, b ≠ e → h.get? b = some u → h'.get? b = some u) (heo : ∃ u, h'.get? e = some u) : Un fs ex H (upd H x o) h h' := by
  have hx : ∀ b, H b = none → b ≠ x := fun b n z => by subst z; rw [n] at mu; exact mu
  have hb : ∀ b, H b = none → b ≠ e := fun b n z => by
    subst z
    rcases he with r | r
    · exact hx b n r
    · rw [n] at r; cases r
  have hm : ∀ b u, H b = some u → ¬ Mut (some u) → b ≠ x := fun b u q nm z => by subst z; rw [q] at mu; exact nm mu
  refine ⟨fun b u q n _ _ => k b u (hb b n) q, fun b u q n _ _ => ⟨u.slots, k b u (hb b n) q⟩, fun b u q n _ => by rw [upd_ne (hx b n)]; exact n, fun b u q _ => ?_,
    fun b xs q => by rw [upd_ne (hm b _ q fun z => z)]; exact q, fun b u xs q => by rw [upd_ne (hm b _ q fun z => z)]; exact q, fun b ps q => ⟨#[], by rw [upd_ne (hm b _ q fun z => z), q]; simp⟩, fun b c q => by rw [upd_ne (hm b _ q fun z => z)]; exact q⟩
  by_cases hbe : b = e
  · subst hbe; exact heo
  · exact ⟨u, k b u hbe q⟩
end

/-! ### the heap without what is tracked -/
def trk (h : Heap) (H : Hp) : List Addr := (List.range h.objs.size).filter fun a => (H a).isSome
def hidT (h : Heap) (H : Hp) : Heap := PySem.W.hideAll h (trk h H)
theorem hidT_size (h : Heap) (H : Hp) : (hidT h H).objs.size = h.objs.size := PySem.W.hideAll_size _ _
theorem hidT_get {h : Heap} {H : Hp} {b : Addr} {o : Obj} (e : h.get? b = some o) (n : H b = none) : (hidT h H).get? b = some o :=
  PySem.W.hideAll_get _ e fun hm => by
    have q : (H b).isSome = true := (List.mem_filter.mp hm).2
    rw [n] at q; simp at q
theorem of_hidT {h : Heap} {H : Hp} {b : Addr} {o : Obj} (e : (hidT h H).get? b = some o) : h.get? b = some o ∧ H b = none := by
  have e' : h.get? b = some o := PySem.W.of_hideAll (trk h H) e
  refine ⟨e', ?_⟩
  cases q : H b with
  | none => rfl
  | some x =>
    have hm : b ∈ trk h H := List.mem_filter.mpr ⟨List.mem_range.mpr (Heap.lt_size e'), by simp [q]⟩
    have z : (hidT h H).get? b = none := PySem.W.hideAll_none (trk h H) hm
    rw [z] at e; cases e

/-! ### OpenK's ledger, filled with every new object but one -/
def allNews (g h : Heap) (L : Addr) : List (Addr × Obj) := (List.range h.objs.size).filterMap fun a => if a = L ∨ (g.get? a).isSome = true then none else (h.get? a).map fun o => (a, o)
def rest (g h : Heap) (L d : Addr) : List (Addr × Obj) := (allNews g h L).filter fun p => decide (p.1 ≠ d)
end L2

namespace L2
open PySem PySem.Spec PyProof.Rows

/-- the module's facts, over the base: the heap at the law's entry without what is tracked there -/
structure Mod (K : PySem.W.Frag) (mg : Str → Option Value) (base : Heap) : Prop where
  kin : K.In base
  glob : base.Ns mainGlobals mg
  blt : ∃ mb, base.Ns builtinsNs mb ∧ ∀ x : Str, x ≠ "__name__" → mb x = bootBuiltins x
  nolimit : base.NoLimit

/-- the context: a def's body (or a comprehension's block) running. base: fixed through the whole law; s₀, H₀: the entry; outer: the frames whose slots others may change (a def's callers); stack: all frames that run;
   ex: iterators that were made ahead of the entry and are walked here (a comprehension's); fn: the names whose cells were made at the entry (a def: all; a comprehension's block: its own); calm: not within an except suite; pn: pins that every state bears; xe: what is wanted of an exception that leaves the code -/
structure Cx where
  prog : Program
  w : World
  K : PySem.W.Frag
  mg : Str → Option Value
  base : Heap
  A : Around
  N : List Str
  s₀ : Shared
  H₀ : Hp
  env : Env
  outer : List Env
  stack : List Env
  ex : List Addr
  fn : Str → Bool
  calm : Bool
  pn : List (Addr × Obj)
  tr : List (Addr × Value)
  fx : List (Str × Value)
  xe : Value → Shared → Prop
/-- the callers' frames -/
def frs (l : List Env) : List Addr := l.filterMap (·.frame)
abbrev Cx.fs (X : Cx) : List Addr := frs X.outer

def Vis (sc : Scope) (x : Str) : Prop := sc.names.lookup x = some .local ∨ sc.names.lookup x = some .cell ∨ sc.names.lookup x = some .free
def Loc (sc : Scope) (x : Str) : Prop := sc.names.lookup x = some .local ∨ sc.names.lookup x = some .cell
def Look (env : Env) (h : Heap) (m : Str → Option Value) (x : Str) (u : Value) : Prop :=
  (env.kindOf x = some .local ∧ m x = some u) ∨ ((env.kindOf x = some .cell ∨ env.kindOf x = some .free) ∧ ∃ c, env.cells.lookup x = some c ∧ h.IsCell c (some u))

structure Cx.Ok (X : Cx) : Prop where
  mod : Mod X.K X.mg X.base
  kind : X.env.scope.kind = .function
  glob : X.env.globals = mainGlobals
  blt : X.env.builtins = builtinsNs
  above : X.s₀.heap.objs.size ≤ X.env.locals
  inj : ∀ x y c, X.env.cells.lookup x = some c → X.env.cells.lookup y = some c → x = y
  has : ∀ x, (X.env.kindOf x = some .cell ∨ X.env.kindOf x = some .free) → ∃ c, X.env.cells.lookup x = some c
  cab : ∀ x c, X.fn x = true → X.env.cells.lookup x = some c → X.s₀.heap.objs.size ≤ c
  hd : X.A.handled = none ∨ ∃ (e : Addr) (c : Value), X.A.handled = some (.ref e) ∧ (X.H₀ e = some (.exc c) ∨ (e, c) ∈ X.tr)
  frames : X.A.frames = some X.stack
  stk : X.stack = X.outer ∨ (X.stack = X.env :: X.outer ∧ X.env.frame = some X.env.locals)
  exf : ∀ b ∈ X.ex, b ≠ X.env.locals ∧ ∀ x c, X.env.cells.lookup x = some c → c ≠ b
  bs : ∀ b o, X.base.get? b = some o → X.s₀.heap.get? b = some o ∧ X.H₀ b = none
  bsz : X.base.objs.size ≤ X.s₀.heap.objs.size
  noex : ∀ b o, X.base.get? b = some o → b ∉ X.ex
  exfs : ∀ b ∈ X.ex, b ∉ X.fs
  funs : X.s₀.heap.FunFrames X.base X.outer
  frf : ∀ b ∈ X.fs, X.H₀ b = none

structure Inv (X : Cx) (pins : List (Addr × Obj)) (σ : List (Option V)) (H : Hp) (s : Shared) : Prop where
  ok : X.Ok
  os : s.os = X.s₀.os
  bare : AllBare s.gens
  base : Un X.fs X.ex X.H₀ H X.s₀.heap s.heap
  loc : ∃ m, s.heap.Ns X.env.locals m ∧ ∀ (i : Nat) (x : Str) (v : V), X.N[i]? = some x → σ[i]? = some (some v) → Vis X.env.scope x → ∃ u, RelV v u ∧ Look X.env s.heap m x u
  cell : ∀ x c, X.env.cells.lookup x = some c → ∃ v, s.heap.IsCell c v
  free : H X.env.locals = none
  freeC : ∀ x c, X.env.cells.lookup x = some c → H c = none
  pin : ∀ p ∈ X.pn ++ pins, s.heap.get? p.1 = some p.2 ∧ H p.1 = none ∧ p.1 ≠ X.env.locals ∧ p.1 ∉ X.fs ∧ ∀ v, p.2.data ≠ .cell v
  hok : HOk X.prog X.w H s.heap
  len : σ.length = X.N.length
  tr : ∀ p ∈ X.tr, H p.1 = some (.exc p.2)
  fix : ∀ p ∈ X.fx, ∃ m, s.heap.Ns X.env.locals m ∧ Look X.env s.heap m p.1 p.2
theorem ns_uniq {h : Heap} {a : Addr} {m m' : Str → Option Value} (n : h.Ns a m) (n' : h.Ns a m') : m = m' := by
  obtain ⟨o, es, ep, h1, h2, _, h3⟩ := n
  obtain ⟨o', es', ep', h1', h2', _, h3'⟩ := n'
  rw [h1] at h1'; cases h1'
  rw [h2] at h2'; cases h2'
  funext x
  rw [← h3, ← h3']

section
variable {X : Cx} {pins : List (Addr × Obj)} {σ : List (Option V)} {H H' : Hp} {s : Shared} {h' : Heap}

theorem Cx.Ok.nofr (ok : X.Ok) {b : Addr} {o : Obj} (e : X.base.get? b = some o) : b ∉ X.fs := fun hb => by
  have := (ok.funs.mem hb).1
  rw [e] at this; cases this
theorem Inv.bs (I : Inv X pins σ H s) : ∀ b o, X.base.get? b = some o → s.heap.get? b = some o ∧ H b = none := fun b o e =>
  ⟨I.base.keep b o (I.ok.bs b o e).1 (I.ok.bs b o e).2 (I.ok.nofr e) (I.ok.noex b o e), I.base.free b o (I.ok.bs b o e).1 (I.ok.bs b o e).2 (I.ok.noex b o e)⟩
theorem Inv.bk (I : Inv X pins σ H s) : ∀ b o, X.base.get? b = some o → s.heap.get? b = some o := fun b o e => (I.bs b o e).1
theorem Inv.mod (I : Inv X pins σ H s) : Mod X.K X.mg X.base := I.ok.mod
theorem Inv.hdE (I : Inv X pins σ H s) : HdE X.A H := by
  rcases I.ok.hd with h | ⟨e, c, h1, h2⟩
  · exact .inl h
  · rcases h2 with h2 | h2
    · exact .inr ⟨e, c, h1, I.base.excs e c h2⟩
    · exact .inr ⟨e, c, h1, I.tr (e, c) h2⟩
theorem Inv.hd (I : Inv X pins σ H s) : HdAt X.A s.heap := I.hdE.at I.hok
theorem Inv.kIn (I : Inv X pins σ H s) : X.K.In s.heap := I.ok.mod.kin.keeps I.bk
theorem Inv.lt (I : Inv X pins σ H s) : X.env.locals < s.heap.objs.size := let ⟨_, hn, _⟩ := I.loc; hn.lt
theorem Inv.sz (I : Inv X pins σ H s) : X.s₀.heap.objs.size ≤ s.heap.objs.size := Nat.le_trans I.ok.above (Nat.le_of_lt I.lt)
theorem Inv.nofs (I : Inv X pins σ H s) {a : Addr} (h : s.heap.objs.size ≤ a) : a ∉ X.fs := fun hb => by
  obtain ⟨_, o, ho, _⟩ := I.ok.funs.mem hb
  exact absurd (Nat.lt_of_lt_of_le (Heap.lt_size ho) (Nat.le_trans I.sz h)) (Nat.lt_irrefl _)
theorem Inv.cne (I : Inv X pins σ H s) : ∀ x c, X.env.cells.lookup x = some c → c ≠ X.env.locals := fun x c e z => by
  obtain ⟨v, o, ho, hd⟩ := I.cell x c e
  obtain ⟨m, ⟨o', es, ep, ho', hd', _⟩, _⟩ := I.loc
  rw [z, ho'] at ho; cases ho; rw [hd'] at hd; cases hd
theorem Inv.funs (I : Inv X pins σ H s) : s.heap.FunFrames X.base X.outer := by
  have all : ∀ (l : List Env), (∀ b ∈ frs l, b ∈ X.fs) → X.s₀.heap.FunFrames X.base l → s.heap.FunFrames X.base l := by
    intro l
    induction l with
    | nil => intro _ _; trivial
    | cons env r ih =>
      intro hs hl
      obtain ⟨hk, ⟨L, o, hf, hn, ho, hd⟩, hr⟩ := hl
      have hL : L ∈ X.fs := hs L (by unfold frs; rw [List.filterMap_cons, hf]; exact List.mem_cons_self)
      obtain ⟨sl, e⟩ := I.base.slot L o ho (I.ok.frf L hL) hL fun z => I.ok.exfs L z hL
      exact ⟨hk, ⟨L, _, hf, hn, e, hd⟩, ih (fun b hb => hs b (by unfold frs; rw [List.filterMap_cons, hf]; exact List.mem_cons_of_mem _ hb)) hr⟩
  exact all X.outer (fun _ hb => hb) I.ok.funs

/-- the frames that run, for a call -/
theorem Inv.stack (I : Inv X pins σ H s) : s.heap.FunFrames X.base X.stack := by
  rcases I.ok.stk with e | ⟨e, hf⟩
  · rw [e]; exact I.funs
  · rw [e]
    obtain ⟨m, hn, _⟩ := I.loc
    refine .cons (by rw [I.ok.kind]; decide) hf hn ?_ I.funs
    exact Heap.get?_none_of_le (Nat.le_trans I.ok.bsz I.ok.above)
theorem Inv.stkSub (I : Inv X pins σ H s) : ∀ b ∈ frs X.stack, b ∈ X.env.locals :: X.fs := fun b hb => by
  rcases I.ok.stk with e | ⟨e, hf⟩
  · rw [e] at hb; exact List.mem_cons_of_mem _ hb
  · rw [e] at hb
    unfold frs at hb
    rw [List.filterMap_cons, hf] at hb
    exact hb
theorem Inv.stkFree (I : Inv X pins σ H s) : ∀ b ∈ frs X.stack, H b = none := fun b hb => by
  rcases List.mem_cons.mp (I.stkSub b hb) with e | hb
  · rw [e]; exact I.free
  · obtain ⟨_, o, ho, _⟩ := I.ok.funs.mem hb
    exact I.base.free b o ho (I.ok.frf b hb) fun z => I.ok.exfs b z hb

/-- THE STEP: the untracked objects but the frame and the records at ch are kept (the callers' frames up to slots), the frame's map is kept, the new abstract heap is held -/
theorem Inv.step {g' : Array GenState} {t' : Nat} {d' : Drawn} {ch : List Addr} (I : Inv X pins σ H s)
    (hch : ∀ b ∈ ch, (b ∈ X.ex ∨ X.s₀.heap.objs.size ≤ b) ∧ b ≠ X.env.locals ∧ (∀ x c, X.env.cells.lookup x = some c → c ≠ b) ∧ ∀ p ∈ X.pn ++ pins, p.1 ≠ b)
    (keep : ∀ b o, b ≠ X.env.locals → b ∉ X.fs → b ∉ ch → s.heap.get? b = some o → H b = none → h'.get? b = some o)
    (slot : ∀ b o, b ≠ X.env.locals → b ∈ X.fs → b ∉ ch → s.heap.get? b = some o → H b = none → ∃ sl, h'.get? b = some { o with slots := sl }) (free : ∀ b o, b ∉ ch → s.heap.get? b = some o → H b = none → H' b = none)
    (there : ∀ b o, b ∉ ch → s.heap.get? b = some o → ∃ o', h'.get? b = some o')
    (tups : ∀ b xs, H b = some (.tup xs) → H' b = some (.tup xs)) (frzs : ∀ b o u, H b = some (.frz o u) → H' b = some (.frz o u)) (tbls : ∀ b ps, H b = some (.tbl ps) → ∃ more, H' b = some (.tbl (ps ++ more))) (excs : ∀ b c, H b = some (.exc c) → H' b = some (.exc c))
    (ns : ∀ m, s.heap.Ns X.env.locals m → h'.Ns X.env.locals m) (hok : HOk X.prog X.w H' h') (hg : AllBare g') :
    Inv X pins σ H' { s with heap := h', gens := g', drawn := d', toks := t' } := by
  have neL : ∀ b o, X.s₀.heap.get? b = some o → b ≠ X.env.locals := fun b o e => Nat.ne_of_lt (Nat.lt_of_lt_of_le (Heap.lt_size e) I.ok.above)
  have neC : ∀ b o, X.s₀.heap.get? b = some o → b ∉ X.ex → b ∉ ch := fun b o e hx hb => by
    rcases (hch b hb).1 with z | z
    · exact hx z
    · exact absurd (Nat.lt_of_lt_of_le (Heap.lt_size e) z) (Nat.lt_irrefl _)
  have cellK : ∀ x c, X.env.cells.lookup x = some c → ∀ v, s.heap.IsCell c v → h'.IsCell c v := fun x c e v ⟨o, ho, hd⟩ => by
    have nch : c ∉ ch := fun z => (hch c z).2.2.1 x c e rfl
    by_cases hc : c ∈ X.fs
    · obtain ⟨sl, q⟩ := slot c o (I.cne x c e) hc nch ho (I.freeC x c e)
      exact ⟨_, q, hd⟩
    · exact ⟨o, keep c o (I.cne x c e) hc nch ho (I.freeC x c e), hd⟩
  refine ⟨I.ok, I.os, hg, ⟨fun b o e n hb hx => ?_, fun b o e n hb hx => ?_, fun b o e n hx => ?_, fun b o e hx => ?_, fun b xs e => tups b xs (I.base.tups b xs e), fun b o xs e => frzs b o xs (I.base.frzs b o xs e), fun b ps e => ?_, fun b k e => excs b k (I.base.excs b k e)⟩, ?_, fun x c e => ?_, ?_, fun x c e => ?_, fun p hp => ?_, hok, I.len, fun p hp => excs _ _ (I.tr p hp), fun p hp => let ⟨m, hn, lk⟩ := I.fix p hp; ⟨m, ns m hn, lk.elim .inl fun ⟨k, c, e, z⟩ => .inr ⟨k, c, e, cellK p.1 c e _ z⟩⟩⟩
  · exact keep b o (neL b o e) hb (neC b o e hx) (I.base.keep b o e n hb hx) (I.base.free b o e n hx)
  · obtain ⟨sl, e1⟩ := I.base.slot b o e n hb hx
    obtain ⟨sl', e2⟩ := slot b _ (neL b o e) hb (neC b o e hx) e1 (I.base.free b o e n hx)
    exact ⟨sl', e2⟩
  · obtain ⟨o', e1⟩ := I.base.there b o e hx
    exact free b o' (neC b o e hx) e1 (I.base.free b o e n hx)
  · obtain ⟨o', e1⟩ := I.base.there b o e hx
    exact there b o' (neC b o e hx) e1
  · obtain ⟨m1, e1⟩ := I.base.tbls b ps e
    obtain ⟨m2, e2⟩ := tbls b _ e1
    exact ⟨m1 ++ m2, by rw [e2, Array.append_assoc]⟩
  · obtain ⟨m, hn, hl⟩ := I.loc
    refine ⟨m, ns m hn, fun i x v e1 e2 e3 => ?_⟩
    obtain ⟨u, r, l⟩ := hl i x v e1 e2 e3
    refine ⟨u, r, ?_⟩
    rcases l with l | ⟨k, c, e, z⟩
    · exact .inl l
    · exact .inr ⟨k, c, e, cellK x c e _ z⟩
  · obtain ⟨v, z⟩ := I.cell x c e
    exact ⟨v, cellK x c e v z⟩
  · obtain ⟨m, ⟨o, _, _, ho, _⟩, _⟩ := I.loc
    exact free _ o (fun z => (hch _ z).2.1 rfl) ho I.free
  · obtain ⟨v, o, ho, hd⟩ := I.cell x c e
    exact free c o (fun z => (hch c z).2.2.1 x c e rfl) ho (I.freeC x c e)
  · obtain ⟨e, n, ne, nf, d⟩ := I.pin p hp
    have nch : p.1 ∉ ch := fun z => (hch p.1 z).2.2.2 p hp rfl
    exact ⟨keep p.1 p.2 ne nf nch e n, free p.1 p.2 nch e n, ne, nf, d⟩
/-- .. where the frame's own object is kept too -/
theorem Inv.un {t' : Nat} (I : Inv X pins σ H s) (u : Un X.fs [] H H' s.heap h') (hok : HOk X.prog X.w H' h') : Inv X pins σ H' { s with heap := h', toks := t' } := by
  obtain ⟨m, ⟨o, es, ep, ho, r⟩, _⟩ := id I.loc
  obtain ⟨sl, hL⟩ := u.any ho I.free (by simp)
  exact I.step (g' := s.gens) (d' := s.drawn) (ch := []) (fun _ z => nomatch z) (fun b o _ hb _ e n => u.keep b o e n hb (by simp)) (fun b o _ hb _ e n => u.slot b o e n hb (by simp)) (fun b o _ e n => u.free b o e n (by simp)) (fun b o _ e => u.there b o e (by simp)) u.tups u.frzs u.tbls u.excs (fun m' hm => by
    obtain ⟨o', es', ep', ho', r'⟩ := hm
    rw [ho] at ho'; cases ho'
    exact ⟨_, es', ep', hL, r'⟩) hok I.bare
/-- behind a call (or a comprehension's block): the slots of this frame may have changed too, the records at ch may have turned -/
theorem Inv.call {g' : Array GenState} {t' : Nat} {d' : Drawn} {ch : List Addr} (I : Inv X pins σ H s) (u : Un (frs X.stack) ch H H' s.heap h') (hok : HOk X.prog X.w H' h') (hg : AllBare g')
    (hch : ∀ b ∈ ch, (b ∈ X.ex ∨ X.s₀.heap.objs.size ≤ b) ∧ b ≠ X.env.locals ∧ (∀ x c, X.env.cells.lookup x = some c → c ≠ b) ∧ ∀ p ∈ X.pn ++ pins, p.1 ≠ b) :
    Inv X pins σ H' { s with heap := h', gens := g', drawn := d', toks := t' } := by
  obtain ⟨m, ⟨o, es, ep, ho, r⟩, _⟩ := id I.loc
  obtain ⟨sl, hL⟩ := u.any ho I.free fun z => (hch _ z).2.1 rfl
  exact I.step (ch := ch) hch (fun b o hL hb hc e n => u.keep b o e n (fun z => (List.mem_cons.mp (I.stkSub b z)).elim hL hb) hc) (fun b o _ _ hc e n => u.any e n hc) (fun b o hc e n => u.free b o e n hc) (fun b o hc e => u.there b o e hc) u.tups u.frzs u.tbls u.excs (fun m' hm => by
    obtain ⟨o', es', ep', ho', r'⟩ := hm
    rw [ho] at ho'; cases ho'
    exact ⟨_, es', ep', hL, r'⟩) hok hg
/-- an untracked record of ours (an iterator) has turned -/
theorem Inv.turned {t' : Nat} {it : Addr} (I : Inv X pins σ H s) (k : ∀ b o, b ≠ it → s.heap.get? b = some o → h'.get? b = some o) (hn : H it = none) (hL : it ≠ X.env.locals)
    (h1 : it ∈ X.ex ∨ X.s₀.heap.objs.size ≤ it) (h2 : ∀ x c, X.env.cells.lookup x = some c → c ≠ it) (h3 : ∀ p ∈ X.pn ++ pins, p.1 ≠ it) : Inv X pins σ H { s with heap := h', toks := t' } := by
  have nit : ∀ b u, H b = some u → b ≠ it := fun b u e z => by rw [z, hn] at e; cases e
  refine I.step (g' := s.gens) (d' := s.drawn) (ch := [it]) (fun b hb => ?_) (fun b o _ _ hc e _ => k b o (fun z => hc (by simp [z])) e) (fun b o _ _ hc e _ => ⟨o.slots, k b o (fun z => hc (by simp [z])) e⟩) (fun _ _ _ _ n => n)
    (fun b o hc e => ⟨o, k b o (fun z => hc (by simp [z])) e⟩) (fun _ _ e => e) (fun _ _ _ e => e) (fun b ps e => ⟨#[], by rw [e]; simp⟩) (fun _ _ e => e) (fun m hm => ?_) (fun b u e => ?_) I.bare
  · have e : b = it := by simpa using hb
    subst e
    exact ⟨h1, hL, h2, h3⟩
  · obtain ⟨o, es, ep, ho, r⟩ := hm
    exact ⟨o, es, ep, k _ o (Ne.symm hL) ho, r⟩
  · refine (I.hok b u e).stay (fun c v hc q => k c v ?_ q) (fun _ q => q) fun _ _ q => q
    rcases hc with z | z
    · rw [z]; exact nit b u e
    · exact nit c _ z
theorem Inv.tok (I : Inv X pins σ H s) (t : Nat) : Inv X pins σ H { s with toks := t } := I.un (h' := s.heap) (t' := t) Un.refl I.hok
/-- all objects kept -/
theorem Inv.kept {t' : Nat} (I : Inv X pins σ H s) (k : ∀ b u, s.heap.get? b = some u → h'.get? b = some u) : Inv X pins σ H { s with heap := h', toks := t' } := I.un (Un.kept k) (I.hok.kept k)
/-- a new object laid and tracked -/
theorem Inv.laid {a : Addr} {o : HO} {t' : Nat} (I : Inv X pins σ H s) (k : ∀ b u, s.heap.get? b = some u → h'.get? b = some u) (hp : s.heap.objs.size ≤ a) (new : ObjOk X.prog X.w (upd H a o) h' a o) :
    Inv X pins σ (upd H a o) { s with heap := h', toks := t' } := I.un (Un.laid k hp (I.hok.fresh hp)) (I.hok.laid k hp new)
/-- an object written -/
theorem Inv.write {x e : Addr} {o : HO} {t' : Nat} (I : Inv X pins σ H s) (mu : Mut (H x)) (he : e = x ∨ H e = some (.own x)) (k : ∀ b u, b ≠ e → s.heap.get? b = some u → h'.get? b = some u) (heo : ∃ u, h'.get? e = some u)
    (new : ObjOk X.prog X.w (upd H x o) h' x o) : Inv X pins σ (upd H x o) { s with heap := h', toks := t' } := I.un (Un.write mu he k heo) (I.hok.write mu he k heo new)
theorem Inv.pins_of {pins' : List (Addr × Obj)} (I : Inv X pins σ H s) (h : ∀ p ∈ pins', s.heap.get? p.1 = some p.2 ∧ H p.1 = none ∧ p.1 ≠ X.env.locals ∧ p.1 ∉ X.fs ∧ ∀ v, p.2.data ≠ .cell v) : Inv X pins' σ H s :=
  ⟨I.ok, I.os, I.bare, I.base, I.loc, I.cell, I.free, I.freeC, fun p hp => (List.mem_append.mp hp).elim (fun z => I.pin p (List.mem_append_left _ z)) (h p), I.hok, I.len, I.tr, I.fix⟩

theorem nodup_ix {N : List Str} (hN : N.Nodup) {i j : Nat} {x : Str} (a : N[i]? = some x) (b : N[j]? = some x) : i = j := by
  obtain ⟨h1, e1⟩ := List.getElem?_eq_some_iff.mp a
  obtain ⟨h2, e2⟩ := List.getElem?_eq_some_iff.mp b
  exact (List.getElem_inj hN).mp (e1.trans e2.symm)

/-- a name is stored; what changed -/
theorem store_ok2 {M : Model} {A : Around} {E : Value → Shared → Prop} {i : Nat} {x : Str} {v : V} {u : Value} {Q : Unit → Shared → Prop} (I : Inv X pins σ H s) (hN : X.N.Nodup) (hi : X.N[i]? = some x) (hx : Loc X.env.scope x) (r : RelV v u)
    (h : ∀ s', Inv X pins (σ.set i (some v)) H s' → (∃ a, Heap.SameBut a s.heap s'.heap ∧ (a = X.env.locals ∨ X.env.cells.lookup x = some a)) → Q () s') (hf : X.fn x = true ∨ X.env.scope.names.lookup x = some .local := by first | exact .inl rfl | exact .inr rfl | assumption) (hfx : ∀ p ∈ X.fx, p.1 ≠ x := by first | exact fun p h => absurd (show p ∈ ([] : List (Str × Value)) from h) (by simp) | assumption) : wpAny M A (storeName X.env x u) Q E s := by
  obtain ⟨m, hn, hl⟩ := id I.loc
  have hcls : (X.env.scope.kind == .class || (X.env.scope.kind == .module && X.env.locals != X.env.globals)) = false := by rw [I.ok.kind]; rfl
  have hiσ : i < σ.length := by rw [I.len]; exact (List.getElem?_eq_some_iff.mp hi).1
  have cne := I.cne
  have tracked : ∀ {a : Addr} {h' : Heap}, (∃ o, s.heap.get? a = some o ∧ H a = none) → Heap.SameBut a s.heap h' → HOk X.prog X.w H h' := fun {a h'} ha hs b ob e => by
    obtain ⟨_, _, hfree⟩ := ha
    refine (I.hok b ob e).stay (fun c w' hc q => (hs.2 c ?_).trans q) (fun _ q => q) fun _ _ q => q
    rintro rfl
    rcases hc with rfl | hc
    · rw [hfree] at e; cases e
    · rw [hfree] at hc; cases hc
  rcases hx with hk | hk
  · refine wpAny_storeName_local hk hn (fun h' hn' hs => ?_) hcls
    obtain ⟨oL, _, _, hoL, _⟩ := id hn
    refine h _ ⟨I.ok, I.os, I.bare, ⟨fun b o e n hb hx => ?_, fun b o e n hb hx => ?_, I.base.free, fun b o e hx => ?_, I.base.tups, I.base.frzs, I.base.tbls, I.base.excs⟩, ⟨_, hn', fun j y v' e1 e2 e3 => ?_⟩, fun y c e => ?_, I.free, I.freeC, fun p hp => ?_, tracked ⟨oL, hoL, I.free⟩ hs, by simpa using I.len, I.tr, fun p hp => ?_⟩ ⟨_, hs, .inl rfl⟩
    rotate_right
    · obtain ⟨m1, hn1, lk⟩ := I.fix p hp
      have em := ns_uniq hn1 hn
      subst em
      refine ⟨_, hn', ?_⟩
      rcases lk with ⟨k, e⟩ | ⟨k, c, e, z⟩
      · exact .inl ⟨k, by simp [hfx p hp, e]⟩
      · exact .inr ⟨k, c, e, z.sameBut hs (cne p.1 c e)⟩
    · exact (hs.2 b (Nat.ne_of_lt (Nat.lt_of_lt_of_le (Heap.lt_size e) I.ok.above))).trans (I.base.keep b o e n hb hx)
    · obtain ⟨sl, e1⟩ := I.base.slot b o e n hb hx
      exact ⟨sl, (hs.2 b (Nat.ne_of_lt (Nat.lt_of_lt_of_le (Heap.lt_size e) I.ok.above))).trans e1⟩
    · obtain ⟨o', e1⟩ := I.base.there b o e hx
      exact ⟨o', (hs.2 b (Nat.ne_of_lt (Nat.lt_of_lt_of_le (Heap.lt_size e) I.ok.above))).trans e1⟩
    · by_cases hj : j = i
      · subst hj
        rw [hi] at e1; cases e1
        rw [List.getElem?_set_self hiσ] at e2
        cases e2
        exact ⟨u, r, .inl ⟨hk, by simp⟩⟩
      · rw [List.getElem?_set_ne (Ne.symm hj)] at e2
        obtain ⟨u', r', q⟩ := hl j y v' e1 e2 e3
        refine ⟨u', r', ?_⟩
        rcases q with ⟨k, e⟩ | ⟨k, c, e, z⟩
        · refine .inl ⟨k, ?_⟩
          have : y ≠ x := fun e => hj (nodup_ix hN e1 (e ▸ hi))
          simp [this, e]
        · exact .inr ⟨k, c, e, z.sameBut hs (cne y c e)⟩
    · obtain ⟨w', z⟩ := I.cell y c e
      exact ⟨w', z.sameBut hs (cne y c e)⟩
    · obtain ⟨e, n, ne, nf, d⟩ := I.pin p hp
      exact ⟨(hs.2 p.1 ne).trans e, n, ne, nf, d⟩
  · have hfn : X.fn x = true := by
      rcases hf with z | z
      · exact z
      · rw [z] at hk; cases hk
    obtain ⟨c, hc⟩ := I.ok.has x (.inl hk)
    obtain ⟨w', z⟩ := I.cell x c hc
    refine wpAny_storeName_cell I.ok.kind hk hc z (fun h' hc' hs => ?_)
    obtain ⟨oc, hoc, hocd⟩ := id z
    refine h { s with heap := h' } ⟨I.ok, I.os, I.bare, ⟨fun b o e n hb hx => ?_, fun b o e n hb hx => ?_, I.base.free, fun b o e hx => ?_, I.base.tups, I.base.frzs, I.base.tbls, I.base.excs⟩, ⟨m, hn.sameBut hs (Ne.symm (cne x c hc)), fun j y v' e1 e2 e3 => ?_⟩, fun y c' e => ?_, I.free, I.freeC, fun p hp => ?_, tracked ⟨oc, hoc, I.freeC x c hc⟩ hs, by simpa using I.len, I.tr, fun p hp => ?_⟩ ⟨c, hs, .inr hc⟩
    rotate_right
    · obtain ⟨m1, hn1, lk⟩ := I.fix p hp
      refine ⟨m1, hn1.sameBut hs (Ne.symm (cne x c hc)), ?_⟩
      rcases lk with q | ⟨k, c', e, z'⟩
      · exact .inl q
      · refine .inr ⟨k, c', e, z'.sameBut hs ?_⟩
        rintro rfl
        exact hfx p hp (I.ok.inj _ _ _ e hc)
    · exact (hs.2 b (Nat.ne_of_lt (Nat.lt_of_lt_of_le (Heap.lt_size e) (I.ok.cab x c hfn hc)))).trans (I.base.keep b o e n hb hx)
    · obtain ⟨sl, e1⟩ := I.base.slot b o e n hb hx
      exact ⟨sl, (hs.2 b (Nat.ne_of_lt (Nat.lt_of_lt_of_le (Heap.lt_size e) (I.ok.cab x c hfn hc)))).trans e1⟩
    · obtain ⟨o', e1⟩ := I.base.there b o e hx
      exact ⟨o', (hs.2 b (Nat.ne_of_lt (Nat.lt_of_lt_of_le (Heap.lt_size e) (I.ok.cab x c hfn hc)))).trans e1⟩
    · by_cases hj : j = i
      · subst hj
        rw [hi] at e1; cases e1
        rw [List.getElem?_set_self hiσ] at e2
        cases e2
        exact ⟨u, r, .inr ⟨.inl hk, c, hc, hc'⟩⟩
      · rw [List.getElem?_set_ne (Ne.symm hj)] at e2
        obtain ⟨u', r', q⟩ := hl j y v' e1 e2 e3
        refine ⟨u', r', ?_⟩
        rcases q with q | ⟨k, c', e, z'⟩
        · exact .inl q
        · refine .inr ⟨k, c', e, z'.sameBut hs ?_⟩
          rintro rfl
          exact hj (nodup_ix hN e1 (I.ok.inj _ _ _ e hc ▸ hi))
    · by_cases hcc : c' = c
      · subst hcc; exact ⟨_, hc'⟩
      · obtain ⟨w2, z2⟩ := I.cell y c' e
        exact ⟨w2, z2.sameBut hs hcc⟩
    · obtain ⟨e, n, ne, nf, d⟩ := I.pin p hp
      refine ⟨(hs.2 p.1 ?_).trans e, n, ne, nf, d⟩
      intro q
      rw [q, hoc] at e
      have q' : oc = p.2 := Option.some.inj e
      exact d w' (by rw [← q']; exact hocd)
theorem store_ok {M : Model} {A : Around} {E : Value → Shared → Prop} {i : Nat} {x : Str} {v : V} {u : Value} {Q : Unit → Shared → Prop} (I : Inv X pins σ H s) (hN : X.N.Nodup) (hi : X.N[i]? = some x) (hx : Loc X.env.scope x) (r : RelV v u)
    (h : ∀ s', Inv X pins (σ.set i (some v)) H s' → Q () s') (hf : X.fn x = true ∨ X.env.scope.names.lookup x = some .local := by first | exact .inl rfl | exact .inr rfl | assumption) (hfx : ∀ p ∈ X.fx, p.1 ≠ x := by first | exact fun p h => absurd (show p ∈ ([] : List (Str × Value)) from h) (by simp) | assumption) : wpAny M A (storeName X.env x u) Q E s :=
  store_ok2 I hN hi hx r (fun s' I' _ => h s' I') hf hfx
/-- behind a call or a block, the state as it is -/
theorem Inv.call' {s' : Shared} {ch : List Addr} (I : Inv X pins σ H s) (ho : s'.os = s.os) (u : Un (frs X.stack) ch H H' s.heap s'.heap) (hok : HOk X.prog X.w H' s'.heap) (hg : AllBare s'.gens)
    (hch : ∀ b ∈ ch, (b ∈ X.ex ∨ X.s₀.heap.objs.size ≤ b) ∧ b ≠ X.env.locals ∧ (∀ x c, X.env.cells.lookup x = some c → c ≠ b) ∧ ∀ p ∈ X.pn ++ pins, p.1 ≠ b) : Inv X pins σ H' s' := by
  obtain ⟨h', g', d', t', o'⟩ := s'
  have e : o' = s.os := ho
  subst e
  exact I.call (g' := g') (t' := t') (d' := d') u hok hg hch
end

/-! ### the judgements -/
/-- an exception: its class, its own dict's address (where it has one), the abstract heap behind it -/
abbrev XK := Value → Option Addr → Hp → Prop
abbrev St := List (Option V)
abbrev VK := V → Hp → Prop
/-- an expression's reading; a test's; an argument list's -/
abbrev TE := St → Hp → VK → Prop
abbrev TT := St → Hp → (Bool → Hp → Prop) → Prop
abbrev TA := St → Hp → (List V → Hp → Prop) → Prop
/-- what is wanted behind a statement -/
structure Ends where
  nx : St → Hp → Prop
  rt : VK
  bk : St → Hp → Prop := fun _ _ => False
  ct : St → Hp → Prop := fun _ _ => False
abbrev TS := Ends → St → Hp → Prop

def EP (X : Cx) (pins : List (Addr × Obj)) (σ : St) (Q : VK) (u : Value) (s' : Shared) : Prop := ∃ v H', Inv X pins σ H' s' ∧ RelV v u ∧ Q v H'
def TP (X : Cx) (pins : List (Addr × Obj)) (σ : St) (Q : Bool → Hp → Prop) (b : Bool) (s' : Shared) : Prop := ∃ H', Inv X pins σ H' s' ∧ Q b H'
def AP (X : Cx) (pins : List (Addr × Obj)) (σ : St) (Q : List V → Hp → Prop) (us : List Value) (s' : Shared) : Prop := ∃ vs H', Inv X pins σ H' s' ∧ Vals vs us ∧ Q vs H'
def SP (X : Cx) (pins : List (Addr × Obj)) (D : Ends) (f : Flow) (s' : Shared) : Prop :=
  match f with
  | .next => ∃ σ' H', Inv X pins σ' H' s' ∧ D.nx σ' H'
  | .brk => ∃ σ' H', Inv X pins σ' H' s' ∧ D.bk σ' H'
  | .cont => ∃ σ' H', Inv X pins σ' H' s' ∧ D.ct σ' H'
  | .ret u => ∃ v σ' H', Inv X pins σ' H' s' ∧ RelV v u ∧ D.rt v H'

def PE (X : Cx) (e : Expr) (t : TE) : Prop :=
  ∀ (pins : List (Addr × Obj)) (s : Shared) (σ : St) (H : Hp) (Q : VK), Inv X pins σ H s → t σ H Q → wpAny (model X.prog X.w) X.A (eval e X.env) (EP X pins σ Q) X.xe s
def PT (X : Cx) (e : Expr) (t : TT) : Prop :=
  ∀ (pins : List (Addr × Obj)) (s : Shared) (σ : St) (H : Hp) (Q : Bool → Hp → Prop), Inv X pins σ H s → t σ H Q → wpAny (model X.prog X.w) X.A (isTrue e X.env (eval e X.env)) (TP X pins σ Q) X.xe s
/-- a test whatever its 'whole' is (and, or) -/
def PW (X : Cx) (e : Expr) (t : TT) : Prop :=
  ∀ (whole : Sem Value) (pins : List (Addr × Obj)) (s : Shared) (σ : St) (H : Hp) (Q : Bool → Hp → Prop), Inv X pins σ H s → t σ H Q → wpAny (model X.prog X.w) X.A (isTrue e X.env whole) (TP X pins σ Q) X.xe s
theorem PW.pt {X : Cx} {e : Expr} {t : TT} (h : PW X e t) : PT X e t := h _
/-- an argument list (no star), from the left -/
def PA (X : Cx) (es : List Expr) (t : TA) : Prop :=
  ∀ (pos : Pos) (pins : List (Addr × Obj)) (s : Shared) (σ : St) (H : Hp) (Q : List V → Hp → Prop), Inv X pins σ H s → t σ H Q → wpAny (model X.prog X.w) X.A (spliced (backTo pos (starEach es X.env))) (AP X pins σ Q) X.xe s
def PS (X : Cx) (st : Stmt) (t : TS) : Prop :=
  ∀ (pins : List (Addr × Obj)) (s : Shared) (σ : St) (H : Hp) (D : Ends), Inv X pins σ H s → t D σ H → wpAny (model X.prog X.w) X.A (exec st X.env) (SP X pins D) X.xe s
def PSs (X : Cx) (st : List Stmt) (t : TS) : Prop :=
  ∀ (pins : List (Addr × Obj)) (s : Shared) (σ : St) (H : Hp) (D : Ends), Inv X pins σ H s → t D σ H → wpAny (model X.prog X.w) X.A (execs st X.env) (SP X pins D) X.xe s
/-- weaken the end -/
theorem thn {α : Type} {t : Sem α} {Q Q' : α → Shared → Prop} {M : Model} {A : Around} {E : Value → Shared → Prop} {s : Shared} (h : wpAny M A t Q E s) (hQ : ∀ a s, Q a s → Q' a s) : wpAny M A t Q' E s := wpAny_mono h hQ fun _ _ x => x
end L2

namespace L2
open PySem PySem.Spec PyProof.Rows
section
variable {X : Cx}

/-! ### names and constants -/
def tVar (i : Nat) : TE := fun σ H Q => ∃ v, σ[i]? = some (some v) ∧ Q v H
def tC (v : V) : TE := fun _ H Q => Q v H
theorem pe_var {i : Nat} {x : Str} {pos : Pos} (hN : X.N[i]? = some x) (hv : Vis X.env.scope x) (hd : (x == ("__debug__" : Str)) = false := by decide) (hcd : (x == ("__classdict__" : Str)) = false := by decide) : PE X (.Name x pos) (tVar i) := by
  intro pins s σ H Q I h
  obtain ⟨v, e, h⟩ := h
  obtain ⟨m, hn, hl⟩ := I.loc
  obtain ⟨u, r, l⟩ := hl i x v hN e hv
  have fin : EP X pins σ Q u s := ⟨v, H, I, r, h⟩
  rcases l with ⟨hk, hm⟩ | ⟨hk, c, hc, hcell⟩
  · exact wpAny_Name (wpAny_loadName_local I.ok.kind hk hn hm fin) hd
  · rcases hk with hk | hk
    · exact wpAny_Name (wpAny_loadName_cell I.ok.kind hk hc hcell fin) hd
    · exact wpAny_Name (wpAny_loadName_free I.ok.kind hk hc hcell fin hcd) hd
theorem pe_int {i j pos} : PE X (.Constant (.int i) j pos) (tC (.int i)) := fun _ _ _ H _ I h => wpAny_Constant_int ⟨.int i, H, I.tok _, ⟨_, rfl⟩, h⟩
theorem pe_bl {b j pos} : PE X (.Constant (.bool b) j pos) (tC (.bl b)) := fun _ _ _ H _ I h => Constant_bool ⟨.bl b, H, I, rfl, h⟩
theorem pe_non {j pos} : PE X (.Constant .none j pos) (tC .non) := fun _ _ _ H _ I h => Constant_none ⟨.non, H, I, rfl, h⟩
theorem pe_str {x j pos} : PE X (.Constant (.str x) j pos) (tC (.str x)) := fun _ _ _ H _ I h => Calls.Constant_str ⟨.str x, H, I.tok _, ⟨_, rfl⟩, h⟩

/-- a global name of the def -/
def Gl (X : Cx) (x : Str) : Prop := X.env.kindOf x = some .globalImplicit
theorem ld_glob {E : Value → Shared → Prop} {pins : List (Addr × Obj)} {s : Shared} {σ : St} {H : Hp} {x : Str} {u : Value} {pos : Pos} {Q : Value → Shared → Prop} (I : Inv X pins σ H s) (hg : Gl X x) (hm : X.mg x = some u) (h : Q u s)
    (hd : (x == ("__debug__" : Str)) = false := by decide) : wpAny (model X.prog X.w) X.A (eval (.Name x pos) X.env) Q E s :=
  Calls.Name_function_global I.ok.kind hg (Calls.loadGlobal_global (by rw [I.ok.glob]; exact I.mod.glob.keeps I.bk) hm h) hd
theorem ld_blt {E : Value → Shared → Prop} {pins : List (Addr × Obj)} {s : Shared} {σ : St} {H : Hp} {x : Str} {u : Value} {pos : Pos} {Q : Value → Shared → Prop} (I : Inv X pins σ H s) (hg : Gl X x) (hm : X.mg x = none) (hv : bootBuiltins x = some u) (h : Q u s)
    (hn : x ≠ "__name__" := by decide) (hd : (x == ("__debug__" : Str)) = false := by decide) : wpAny (model X.prog X.w) X.A (eval (.Name x pos) X.env) Q E s := by
  obtain ⟨mb, h1, h2⟩ := I.mod.blt
  exact Calls.Name_function_global I.ok.kind hg (Calls.loadGlobal_builtin (by rw [I.ok.glob]; exact I.mod.glob.keeps I.bk) hm (by rw [I.ok.blt]; exact h1.keeps I.bk) ((h2 x hn).trans hv) h) hd
/-- a module's constant, a class, a function, as a value -/
theorem pe_glob {x : Str} {v : V} {u : Value} {pos : Pos} (hg : Gl X x) (hm : X.mg x = some u) (r : RelV v u) (hd : (x == ("__debug__" : Str)) = false := by decide) : PE X (.Name x pos) (tC v) :=
  fun _ _ _ H _ I h => ld_glob I hg hm ⟨v, H, I, r, h⟩ hd
theorem pe_bltn {x : Str} {v : V} {u : Value} {pos : Pos} (hg : Gl X x) (hm : X.mg x = none) (hv : bootBuiltins x = some u) (r : RelV v u) (hn : x ≠ "__name__" := by decide) (hd : (x == ("__debug__" : Str)) = false := by decide) : PE X (.Name x pos) (tC v) :=
  fun _ _ _ H _ I h => ld_blt I hg hm hv ⟨v, H, I, r, h⟩ hn hd

/-! ### arithmetic -/
/-- two ints -/
def t2I (ta tb : TE) (k : Int → Int → Hp → Prop) : St → Hp → Prop := fun σ H => ta σ H fun x H1 => tb σ H1 fun y H2 => ∃ i j, x = .int i ∧ y = .int j ∧ k i j H2
def tAdd (ta tb : TE) : TE := fun σ H Q => t2I ta tb (fun i j H2 => Q (.int (i + j)) H2) σ H
def tSub (ta tb : TE) : TE := fun σ H Q => t2I ta tb (fun i j H2 => Q (.int (i - j)) H2) σ H
/-- the left factor below 2^64 -/
def tMul (ta tb : TE) : TE := fun σ H Q => t2I ta tb (fun i j H2 => (-(2 ^ 64) < i ∧ i < 2 ^ 64) ∧ Q (.int (i * j)) H2) σ H
variable {a b : Expr} {ta tb : TE} {pos : Pos}
/-! ### comparisons -/
def PC (X : Cx) (op : CmpOp) (a b : Expr) (t : TE) : Prop :=
  ∀ (pins : List (Addr × Obj)) (s : Shared) (σ : St) (H : Hp) (Q : VK), Inv X pins σ H s → t σ H Q →
    wpAny (model X.prog X.w) X.A (eval a X.env) (fun v s₁ => wpAny (model X.prog X.w) X.A (eval b X.env) (fun u s₂ => wpAny (model X.prog X.w) X.A (compareOp op v u) (EP X pins σ Q) X.xe s₂) X.xe s₁) X.xe s
def tCmp (p : Int → Int → Bool) (ta tb : TE) : TE := fun σ H Q => t2I ta tb (fun i j H2 => Q (.bl (p i j)) H2) σ H
abbrev tLt : TE → TE → TE := tCmp fun i j => decide (i < j)
abbrev tLe : TE → TE → TE := tCmp fun i j => decide (i ≤ j)
abbrev tGt : TE → TE → TE := tCmp fun i j => decide (j < i)
abbrev tGe : TE → TE → TE := tCmp fun i j => decide (j ≤ i)
abbrev tEqI : TE → TE → TE := tCmp fun i j => decide (i = j)
abbrev tNeI : TE → TE → TE := tCmp fun i j => !decide (i = j)
/-- is None -/
def tIsN (ta : TE) : TE := fun σ H Q => ta σ H fun x H1 => Q (.bl (decide (x = .non))) H1
def tNotN (ta : TE) : TE := fun σ H Q => ta σ H fun x H1 => Q (.bl (!decide (x = .non))) H1
/-- a comparison as a value, as a test -/
def tB (t : TE) : TT := fun σ H Q => t σ H fun x H1 => ∃ c, x = .bl c ∧ Q c H1
/-- an expression whose value is a bool, as a test -/
theorem pt_val {e : Expr} {t : TE} (h : PE X e t) (he : ∀ whole, isTrue e X.env whole = (do let v ← whole; standAt e.pos; holding [v] (truthy v)) := by intro _; rfl) : PT X e (tB t) := by
  intro pins s σ H Q I hw
  refine isTrue_plain (thn (h pins s σ H _ I hw) fun v s1 ⟨x, H1, I1, r1, q1⟩ => ?_) (he _)
  obtain ⟨d, rfl, q⟩ := q1
  cases r1
  exact wpAny_truthy_bool ⟨H1, I1, q⟩

/-! ### and, or, not -/
variable {tA tB' : TT} {rest : List Expr}
def tAnd (t u : TT) : TT := fun σ H Q => t σ H fun c H1 => if c = true then u σ H1 Q else Q false H1
def tOr (t u : TT) : TT := fun σ H Q => t σ H fun c H1 => if c = true then Q true H1 else u σ H1 Q
def tNot (t : TT) : TT := fun σ H Q => t σ H fun c H1 => Q (!c) H1
theorem pw_or1 (ha : PT X a tA) : PW X (.BoolOp .Or [a] pos) tA := by
  intro wh pins s σ H Q I h
  refine isTrue_or (thn (ha pins s σ H Q I h) fun c s1 e => ?_)
  cases c with
  | false => exact isTrue_or_nil e
  | true => exact e
theorem pw_or (ha : PT X a tA) (hb : PW X (.BoolOp .Or (b :: rest) pos) tB') : PW X (.BoolOp .Or (a :: b :: rest) pos) (tOr tA tB') := by
  intro wh pins s σ H Q I h
  refine isTrue_or (thn (ha pins s σ H _ I h) fun c s1 ⟨H1, I1, q1⟩ => ?_)
  cases c with
  | true => exact ⟨H1, I1, q1⟩
  | false => exact hb wh pins s1 σ H1 Q I1 q1
theorem pt_not (ha : PT X a tA) : PT X (.UnaryOp .Not a pos) (tNot tA) := by
  intro pins s σ H Q I h
  exact isTrue_not (ha pins s σ H (fun c H1 => Q (!c) H1) I h)
/-- .. as values (bools) -/
def tAndV (ta tb : TE) : TE := fun σ H Q => ta σ H fun x H1 => ∃ c, x = .bl c ∧ if c = true then tb σ H1 Q else Q (.bl false) H1
def tOrV (ta tb : TE) : TE := fun σ H Q => ta σ H fun x H1 => ∃ c, x = .bl c ∧ if c = true then Q (.bl true) H1 else tb σ H1 Q
def tNotV (ta : TE) : TE := fun σ H Q => ta σ H fun x H1 => ∃ c, x = .bl c ∧ Q (.bl (!c)) H1
theorem pe_one {op} {t : TE} (h : PE X a t) : PE X (.BoolOp op [a] pos) t := fun pins s σ H Q I hw => BoolOp_one (h pins s σ H Q I hw)
theorem pe_and (ha : PE X a ta) (hb : PE X (.BoolOp .And (b :: rest) pos) tb) : PE X (.BoolOp .And (a :: b :: rest) pos) (tAndV ta tb) := by
  intro pins s σ H Q I h
  refine BoolOp_and (thn (ha pins s σ H _ I h) fun v s1 ⟨x, H1, I1, r1, q1⟩ => ?_)
  obtain ⟨c, rfl, q1⟩ := q1
  cases r1
  refine wpAny_truthy_bool ?_
  cases c with
  | true => exact hb pins s1 σ H1 Q I1 q1
  | false => exact ⟨.bl false, H1, I1, rfl, q1⟩
theorem pe_or (ha : PE X a ta) (hb : PE X (.BoolOp .Or (b :: rest) pos) tb) : PE X (.BoolOp .Or (a :: b :: rest) pos) (tOrV ta tb) := by
  intro pins s σ H Q I h
  refine BoolOp_or (thn (ha pins s σ H _ I h) fun v s1 ⟨x, H1, I1, r1, q1⟩ => ?_)
  obtain ⟨c, rfl, q1⟩ := q1
  cases r1
  refine wpAny_truthy_bool ?_
  cases c with
  | false => exact hb pins s1 σ H1 Q I1 q1
  | true => exact ⟨.bl true, H1, I1, rfl, q1⟩
theorem pe_not (ha : PE X a ta) : PE X (.UnaryOp .Not a pos) (tNotV ta) := by
  intro pins s σ H Q I h
  refine UnaryOp_ (thn (ha pins s σ H _ I h) fun v s1 ⟨x, H1, I1, r1, q1⟩ => ?_)
  obtain ⟨c, rfl, q1⟩ := q1
  cases r1
  exact not_of (wpAny_truthy_bool ⟨.bl (!c), H1, I1, rfl, q1⟩)
/-- a if t else b -/
def tIf (t : TT) (ta tb : TE) : TE := fun σ H Q => t σ H fun c H1 => if c = true then ta σ H1 Q else tb σ H1 Q
end
end L2

namespace L2
open PySem PySem.Spec PyProof.Rows

/-! ### a list, a tuple that is read: tracked, frozen, or an object of the module -/
def SqL (K : PySem.W.Frag) (H : Hp) (a : Addr) (xs : List V) : Prop :=
  Rd H a (.lst xs) ∨
    ∃ (o : Obj) (its : Array Value) (n : Nat), K.lookup a = some o ∧ o.cls = .type "list" ∧ o.dict = none ∧ o.data = .seq its n ∧ its.size ≤ sizeLine ∧ Vals xs its.toList
def SqT (K : PySem.W.Frag) (H : Hp) (a : Addr) (xs : List V) : Prop :=
  Rd H a (.tup xs) ∨
    ∃ (o : Obj) (its : Array Value) (n : Nat), K.lookup a = some o ∧ o.cls = .type "tuple" ∧ o.data = .seq its n ∧ its.size ≤ sizeLine ∧ Vals xs its.toList
def absV : Value → Option V
  | .none => some .non
  | .bool b => some (.bl b)
  | .int i _ => some (.int i)
  | .str x _ => some (.str x)
  | .bytes b _ => some (.byt b)
  | .float b _ => some (.flt b)
  | .ref a => some (.ref a)
  | .type n => some (.ty n)
  | _ => none
theorem RelV.abs {x : V} {u : Value} (r : RelV x u) : absV u = some x := by
  cases x with
  | non => cases r; rfl
  | bl _ => cases r; rfl
  | int _ => obtain ⟨t, rfl⟩ := r; rfl
  | str _ => obtain ⟨t, rfl⟩ := r; rfl
  | byt _ => obtain ⟨t, rfl⟩ := r; rfl
  | flt _ => obtain ⟨t, rfl⟩ := r; rfl
  | ref _ => cases r; rfl
  | ty _ => cases r; rfl
theorem RelV.inj {x y : V} {u : Value} (r : RelV x u) (q : RelV y u) : x = y := Option.some.inj (r.abs.symm.trans q.abs)
theorem Vals.inj : ∀ {xs ys : List V} {us : List Value}, Vals xs us → Vals ys us → xs = ys
  | _, _, _, .nil, .nil => rfl
  | _, _, _, .cons r t, .cons r' t' => by rw [r.inj r', Vals.inj t t']
section
variable {X : Cx} {pins : List (Addr × Obj)} {σ : St} {H : Hp} {s : Shared} {a : Addr} {xs ys : List V}
theorem SqL.of {K : PySem.W.Frag} (h : H a = some (.lst xs)) : SqL K H a xs := .inl (.inl h)
theorem Inv.list (I : Inv X pins σ H s) (h : SqL X.K H a xs) : ∃ its : List Value, Vals xs its ∧ PlainL s.heap a its.toArray ∧ xs.length ≤ sizeLine := by
  rcases h with h | ⟨o, its, n, hk, hc, hd, hs, hz, r⟩
  · obtain ⟨z, its, n, r, e⟩ := h.ok I.hok
    exact ⟨its, r, ⟨_, n, e, rfl, rfl, rfl⟩, z⟩
  · refine ⟨its.toList, r, ⟨o, n, I.kIn a o hk, hc, hd, by simpa using hs⟩, ?_⟩
    have e := r.length
    simp only [Array.length_toList] at e
    omega
theorem Inv.tuple (I : Inv X pins σ H s) (h : SqT X.K H a xs) : ∃ its : List Value, Vals xs its ∧ IsTup s.heap a its.toArray ∧ xs.length ≤ sizeLine := by
  rcases h with h | ⟨o, its, n, hk, hc, hs, hz, r⟩
  · obtain ⟨z, its, r, p⟩ := h.ok I.hok
    exact ⟨its, r, p, z⟩
  · refine ⟨its.toList, r, ⟨o, I.kIn a o hk, hc, n, by simpa using hs⟩, ?_⟩
    have e := r.length
    simp only [Array.length_toList] at e
    omega
theorem Inv.list_inj (I : Inv X pins σ H s) (h : SqL X.K H a xs) (h' : SqL X.K H a ys) : xs = ys := by
  obtain ⟨its, r, ⟨o, n, e, _, _, d⟩, _⟩ := I.list h
  obtain ⟨its', r', ⟨o', n', e', _, _, d'⟩, _⟩ := I.list h'
  rw [e] at e'; cases e'
  rw [d] at d'
  injection d' with d1 _
  have : its = its' := by simpa using congrArg Array.toList d1
  subst this
  exact r.inj r'
end

/-! ### another wish about exceptions -/
abbrev Cx.wish (X : Cx) (E : Value → Shared → Prop) : Cx := { X with xe := E }
/-- no exception leaves -/
abbrev Cx.nox (X : Cx) : Cx := X.wish fun _ _ => False
theorem Cx.Ok.wish {X : Cx} (ok : X.Ok) (E : Value → Shared → Prop) : (X.wish E).Ok :=
  ⟨ok.mod, ok.kind, ok.glob, ok.blt, ok.above, ok.inj, ok.has, ok.cab, ok.hd, ok.frames, ok.stk, ok.exf, ok.bs, ok.bsz, ok.noex, ok.exfs, ok.funs, ok.frf⟩
theorem Cx.Ok.unwish {X : Cx} {E : Value → Shared → Prop} (ok : (X.wish E).Ok) : X.Ok :=
  ⟨ok.mod, ok.kind, ok.glob, ok.blt, ok.above, ok.inj, ok.has, ok.cab, ok.hd, ok.frames, ok.stk, ok.exf, ok.bs, ok.bsz, ok.noex, ok.exfs, ok.funs, ok.frf⟩
section
variable {X : Cx} {pins : List (Addr × Obj)} {σ : St} {H : Hp} {s : Shared} {E : Value → Shared → Prop}
theorem Inv.wish (I : Inv X pins σ H s) (E : Value → Shared → Prop) : Inv (X.wish E) pins σ H s := ⟨I.ok.wish E, I.os, I.bare, I.base, I.loc, I.cell, I.free, I.freeC, I.pin, I.hok, I.len, I.tr, I.fix⟩
theorem Inv.unwish (I : Inv (X.wish E) pins σ H s) : Inv X pins σ H s := ⟨I.ok.unwish, I.os, I.bare, I.base, I.loc, I.cell, I.free, I.freeC, I.pin, I.hok, I.len, I.tr, I.fix⟩
theorem SP.unwish {D : Ends} {f : Flow} {s' : Shared} (h : SP (X.wish E) pins D f s') : SP X pins D f s' := by
  cases f with
  | next => obtain ⟨σ', H', I, q⟩ := h; exact ⟨σ', H', I.unwish, q⟩
  | brk => obtain ⟨σ', H', I, q⟩ := h; exact ⟨σ', H', I.unwish, q⟩
  | cont => obtain ⟨σ', H', I, q⟩ := h; exact ⟨σ', H', I.unwish, q⟩
  | ret u => obtain ⟨v, σ', H', I, r, q⟩ := h; exact ⟨v, σ', H', I.unwish, r, q⟩
theorem PSs.nox {st : List Stmt} {t : TS} (h : PSs X.nox st t) : PSs X st t := fun pins s σ H D I hw =>
  wpAny_mono (h pins s σ H D (I.wish _) hw) (fun _ _ q => q.unwish) fun _ _ z => False.elim z
end

/-! ### blocks and small statements -/
section
variable {X : Cx} {st : Stmt} {rest : List Stmt} {t u : TS} {e : Expr} {te : TE} {pos : Pos}
def tNext : TS := fun D σ H => D.nx σ H
def tSeq (t u : TS) : TS := fun D σ H => t { D with nx := u D } σ H
theorem pss_nil : PSs X [] tNext := fun _ _ σ H _ I h => wpAny_execs_nil ⟨σ, H, I, h⟩
theorem pss_cons (h1 : PS X st t) (h2 : PSs X rest u) : PSs X (st :: rest) (tSeq t u) := by
  intro pins s σ H D I h
  refine wpAny_execs_cons (thn (h1 pins s σ H { D with nx := u D } I h) fun f s1 q => ?_)
  cases f with
  | next =>
    obtain ⟨σ', H', I', q⟩ := q
    exact h2 pins s1 σ' H' D I' q
  | ret v => exact q
  | brk => exact q
  | cont => exact q
theorem pss_one (h1 : PS X st t) : PSs X [st] t := by
  intro pins s σ H D I h
  refine wpAny_execs_cons (thn (h1 pins s σ H D I h) fun f s1 q => ?_)
  cases f with
  | next => exact wpAny_execs_nil q
  | ret v => exact q
  | brk => exact q
  | cont => exact q
def tBreak : TS := fun D σ H => D.bk σ H
def tCont : TS := fun D σ H => D.ct σ H
/-- in a def's body nothing is shown -/
theorem Inv.quiet {pins : List (Addr × Obj)} {σ : St} {H : Hp} {s : Shared} (I : Inv X pins σ H s) : interactive X.env = false := by simp [interactive, I.ok.kind]
/-- an expression whose value is dropped -/
def tDrop (te : TE) : TS := fun D σ H => te σ H fun _ H1 => D.nx σ H1
theorem ps_expr (he : PE X e te) (hs : swapsWith e none pos.line X.env = pure false := by rfl) : PS X (.Expr e pos) (tDrop te) := by
  intro pins s σ H D I h
  exact wpAny_Expr_any (thn (he pins s σ H _ I h) fun v s1 ⟨x, H1, I1, r1, q1⟩ => ⟨σ, H1, I1, q1⟩) I.quiet hs
def tRet (te : TE) : TS := fun D σ H => te σ H D.rt
theorem ps_ret (he : PE X e te) : PS X (.Return (some e) pos) (tRet te) := by
  intro pins s σ H D I h
  exact wpAny_Return_some (thn (he pins s σ H _ I h) fun v s1 ⟨x, H1, I1, r1, q1⟩ => ⟨x, σ, H1, I1, r1, q1⟩)
def tRetN : TS := fun D _ H => D.rt .non H
def tIfS (c : TT) (t u : TS) : TS := fun D σ H => c σ H fun b H1 => if b = true then t D σ H1 else u D σ H1
theorem ps_if {c : Expr} {a b : List Stmt} {tc : TT} (hc : PT X c tc) (ha : PSs X a t) (hb : PSs X b u) : PS X (.If c a b pos) (tIfS tc t u) := by
  intro pins s σ H D I h
  refine wpAny_If (thn (hc pins s σ H _ I h) fun d s1 ⟨H1, I1, q1⟩ => ?_)
  cases d with
  | true => exact ha pins s1 σ H1 D I1 q1
  | false => exact hb pins s1 σ H1 D I1 q1
/-- code that the proof never comes to -/
def tNever : TS := fun _ _ _ => False
end

/-! ### targets -/
abbrev TG := V → St → Hp → (St → Hp → Prop) → Prop
abbrev TGs := List V → St → Hp → (St → Hp → Prop) → Prop
def PG (X : Cx) (target : Expr) (t : TG) : Prop :=
  ∀ (pins : List (Addr × Obj)) (s : Shared) (σ : St) (H : Hp) (v : V) (u : Value) (Q : St → Hp → Prop), Inv X pins σ H s → RelV v u → t v σ H Q →
    wpAny (model X.prog X.w) X.A (assign target X.env u) (fun _ s' => ∃ σ' H', Inv X pins σ' H' s' ∧ Q σ' H') X.xe s
/-- several targets, one after another -/
def PGs (X : Cx) (ts : List Expr) (t : TGs) : Prop :=
  ∀ (pins : List (Addr × Obj)) (s : Shared) (σ : St) (H : Hp) (vs : List V) (us : List Value) (Q : St → Hp → Prop), Inv X pins σ H s → Vals vs us → t vs σ H Q →
    wpAny (model X.prog X.w) X.A (assignInOrder ((assignEach ts X.env).map (·.2)) us) (fun _ s' => ∃ σ' H', Inv X pins σ' H' s' ∧ Q σ' H') X.xe s
/-- o[i] = v, by values -/
abbrev TSet := V → V → V → Hp → (Hp → Prop) → Prop
def PSet (X : Cx) (t : TSet) : Prop :=
  ∀ (pins : List (Addr × Obj)) (s : Shared) (σ : St) (H : Hp) (o i v : V) (ov iv u : Value) (Q : Hp → Prop), Inv X pins σ H s → RelV o ov → RelV i iv → RelV v u → t o i v H Q →
    wpAny (model X.prog X.w) X.A (setItem ov iv u) (fun _ s' => ∃ H', Inv X pins σ H' s' ∧ Q H') X.xe s
/-- a op= b, by values -/
abbrev TIp := V → V → Hp → VK → Prop
def PIp (X : Cx) (op : Operator) (t : TIp) : Prop :=
  ∀ (pins : List (Addr × Obj)) (s : Shared) (σ : St) (H : Hp) (x y : V) (v u : Value) (Q : VK), Inv X pins σ H s → RelV x v → RelV y u → t x y H Q →
    wpAny (model X.prog X.w) X.A (inplaceOp op v u) (EP X pins σ Q) X.xe s
section
variable {X : Cx} {pos : Pos}
def gName (i : Nat) : TG := fun v σ H Q => Q (σ.set i (some v)) H
theorem pg_name {i : Nat} {x : Str} (hN : X.N.Nodup) (hi : X.N[i]? = some x) (hx : Loc X.env.scope x) (hf : X.fn x = true ∨ X.env.scope.names.lookup x = some .local := by first | exact .inl rfl | exact .inr rfl | assumption) (hfx : ∀ p ∈ X.fx, p.1 ≠ x := by first | exact fun p h => absurd (show p ∈ ([] : List (Str × Value)) from h) (by simp) | assumption) : PG X (.Name x pos) (gName i) := by
  intro pins s σ H v u Q I r h
  exact wpAny_assign_Name (store_ok I hN hi hx r (fun s' I' => ⟨_, H, I', h⟩) hf hfx)
def gNil : TGs := fun vs σ H Q => vs = [] ∧ Q σ H
def gCons (t : TG) (u : TGs) : TGs := fun vs σ H Q => ∃ v r, vs = v :: r ∧ t v σ H fun σ' H' => u r σ' H' Q
/-- (a, b, ..) = a tuple of that length -/
def gTup (K : PySem.W.Frag) (n : Nat) (t : TGs) : TG := fun v σ H Q => ∃ a xs, v = .ref a ∧ SqT K H a xs ∧ xs.length = n ∧ t xs σ H Q
/-- o[i] = .. -/
def gSub (to ti : TE) (t : TSet) : TG := fun v σ H Q => to σ H fun o H1 => ti σ H1 fun i H2 => t o i v H2 fun H3 => Q σ H3
theorem pg_sub {o i : Expr} {to ti : TE} {t : TSet} (ho : PE X o to) (hi : PE X i ti) (hs : PSet X t)
    (ha : ∀ v, assign (.Subscript o i pos) X.env v = (do
      let ov ← holding [v] (eval o X.env)
      let iv ← holding [v, ov] (eval i X.env)
      standAt pos
      holding [v, ov, iv] (setItem ov iv v)
      release [v, ov, iv] []) := by intro _; rfl) : PG X (.Subscript o i pos) (gSub to ti t) := by
  intro pins s σ H v u Q I r h
  rw [ha]
  refine wpAny_bind (wpAny_holding (thn (ho pins s σ H _ I h) fun ov s1 ⟨x, H1, I1, r1, q1⟩ => ?_))
  refine wpAny_bind (wpAny_holding (thn (hi pins s1 σ H1 _ I1 q1) fun iv s2 ⟨y, H2, I2, r2, q2⟩ => ?_))
  refine wpAny_bind (wpAny_standAt (wpAny_bind (wpAny_holding (thn (hs pins s2 σ H2 x y v ov iv u _ I2 r1 r2 r q2) fun _ s3 ⟨H3, I3, q3⟩ => ?_))))
  exact wpAny_release ⟨σ, H3, I3, q3⟩
/-- target = value -/
def tAsg (te : TE) (g : TG) : TS := fun D σ H => te σ H fun x H1 => g x σ H1 D.nx
theorem ps_asg {tg e : Expr} {te : TE} {g : TG} (he : PE X e te) (hg : PG X tg g) (hs : swapsWithSole [tg] e pos.line X.env = pure false := by rfl) (hw : swappedStores [tg] e X.env = pure none := by rfl)
    (h1 : (assignEach [tg] X.env).map (·.2) = [assign tg X.env] := by rfl) : PS X (.Assign [tg] e pos) (tAsg te g) := by
  intro pins s σ H D I h
  refine wpAny_Assign_stores (thn (he pins s σ H _ I h) fun v s1 ⟨x, H1, I1, r1, q1⟩ => ?_) hs hw
  rw [h1]
  exact thn (hg pins s1 σ H1 x v _ I1 r1 q1) fun _ s2 q => q
/-- name = value -/
theorem ps_set {i : Nat} {x : Str} {e : Expr} {te : TE} {pos' : Pos} (hN : X.N.Nodup) (hi : X.N[i]? = some x) (hx : Loc X.env.scope x) (he : PE X e te) (hs : swapsWith e (some (.Name x pos')) pos.line X.env = pure false := by rfl) (hf : X.fn x = true ∨ X.env.scope.names.lookup x = some .local := by first | exact .inl rfl | exact .inr rfl | assumption) (hfx : ∀ p ∈ X.fx, p.1 ≠ x := by first | exact fun p h => absurd (show p ∈ ([] : List (Str × Value)) from h) (by simp) | assumption) :
    PS X (.Assign [.Name x pos'] e pos) (tAsg te (gName i)) := by
  intro pins s σ H D I h
  refine wpAny_Assign_Name (thn (he pins s σ H _ I h) fun v s1 ⟨y, H1, I1, r1, q1⟩ => ?_) hs
  exact store_ok I1 hN hi hx r1 (fun s2 I2 => ⟨_, H1, I2, q1⟩) hf hfx
/-- a, b = x, y with plain local names: stored from the right; the pair itself is not tracked (the opening rows as in PyProof/Rows/TupAssign.lean:23) -/
def tPar (i j : Nat) (ta : TA) : TS := fun D σ H => ta σ H fun vs H1 => ∃ v w, vs = [v, w] ∧ D.nx ((σ.set i (some v)).set j (some w)) H1
/-- name op= e -/
def tAug (i : Nat) (te : TE) (ti : TIp) : TS := fun D σ H => ∃ x, σ[i]? = some (some x) ∧ te σ H fun y H1 => ti x y H1 fun z H2 => D.nx (σ.set i (some z)) H2
/-- o[i] op= e -/
def tAugS (to ti te : TE) (tget : V → V → Hp → VK → Prop) (tip : TIp) (tset : TSet) : TS := fun D σ H => to σ H fun o H1 => ti σ H1 fun i H2 => tget o i H2 fun x H3 => te σ H3 fun y H4 => tip x y H4 fun z H5 => tset o i z H5 fun H6 => D.nx σ H6
/-- o[i], by values -/
def PGet (X : Cx) (t : V → V → Hp → VK → Prop) : Prop :=
  ∀ (pins : List (Addr × Obj)) (s : Shared) (σ : St) (H : Hp) (o i : V) (ov iv : Value) (Q : VK), Inv X pins σ H s → RelV o ov → RelV i iv → t o i H Q →
    wpAny (model X.prog X.w) X.A (getItem ov iv) (EP X pins σ Q) X.xe s
/-- ints -/
def ipI (f : Int → Int → Int) : TIp := fun x y H Q => ∃ i j, x = .int i ∧ y = .int j ∧ Q (.int (f i j)) H
end

/-! ### while -/
section
variable {X : Cx} {pos : Pos}
/-- the invariant W with its measure -/
def tWhile (c : TT) (tb : TS) : TS := fun D σ H => ∃ W : Nat → St → Hp → Prop, (∃ m, W m σ H) ∧ ∀ m σ H, W m σ H →
  c σ H fun b H1 => if b = true then ∃ N : St → Hp → Prop, (∀ σ' H', N σ' H' → ∃ m', m' < m ∧ W m' σ' H') ∧ tb { D with nx := N, ct := N, bk := D.nx } σ H1 else D.nx σ H1
theorem ps_while {c : Expr} {body : List Stmt} {tc : TT} {tb : TS} (hp : PassesOwn (model X.prog X.w) X.A X.env X.xe) (hc : PT X c tc) (hb : PSs X body tb) : PS X (.While c body [] pos) (tWhile tc tb) := by
  intro pins s σ H D I h
  obtain ⟨W, ⟨m0, w0⟩, turn⟩ := h
  refine wpAny_While (codeAny_whileLoop (fun n s' => ∃ σ' H', Inv X pins σ' H' s' ∧ W n σ' H') ?_ m0 ⟨σ, H, I, w0⟩)
  rintro n s1 ⟨σ1, H1, I1, w1⟩
  refine wpAny_passesOwn hp (thn (hc pins s1 σ1 H1 _ I1 (turn n σ1 H1 w1)) fun b s2 ⟨H2, I2, q2⟩ => ?_)
  cases b with
  | true =>
    obtain ⟨N, hN, q2⟩ := q2
    rw [if_pos rfl]
    refine wpAny_passesOwn hp (thn (hb pins s2 σ1 H2 _ I2 q2) fun f s3 q3 => ?_)
    cases f with
    | next =>
      obtain ⟨σ3, H3, I3, n3⟩ := q3
      obtain ⟨m', hm, w3⟩ := hN σ3 H3 n3
      exact ⟨m', hm, σ3, H3, I3, w3⟩
    | cont =>
      obtain ⟨σ3, H3, I3, n3⟩ := q3
      obtain ⟨m', hm, w3⟩ := hN σ3 H3 n3
      exact ⟨m', hm, σ3, H3, I3, w3⟩
    | brk => exact q3
    | ret v => exact q3
  | false =>
    rw [if_neg Bool.false_ne_true]
    exact wpAny_execs_nil ⟨σ1, H2, I2, q2⟩
end

/-! ### what a loop or a comprehension walks -/
/-- at turn i: it yields x (the heap may grow), or it stops -/
structure It where
  go : Nat → Hp → Prop
  yld : Nat → Hp → V → Hp → Prop
  stop : Nat → Hp → Prop
/-- the iterator's own objects may turn: they are not the frame's, not pinned, younger than the entry (or a comprehension's own) -/
def FpOk (X : Cx) (pins : List (Addr × Obj)) (H : Hp) (b : Addr) : Prop :=
  H b = none ∧ b ≠ X.env.locals ∧ b ∉ X.fs ∧ (b ∈ X.ex ∨ X.s₀.heap.objs.size ≤ b) ∧ (∀ x c, X.env.cells.lookup x = some c → c ≠ b) ∧ ∀ p ∈ X.pn ++ pins, p.1 ≠ b
theorem Inv.fpOk {X : Cx} {pins : List (Addr × Obj)} {σ : St} {H H' : Hp} {s : Shared} {b : Addr} (I : Inv X pins σ H s) (hb : s.heap.objs.size ≤ b) (hn : H' b = none) : FpOk X pins H' b := by
  refine ⟨hn, Nat.ne_of_gt (Nat.lt_of_lt_of_le I.lt hb), I.nofs hb, .inr (Nat.le_trans I.sz hb), fun x c e z => ?_, fun p hp z => ?_⟩
  · obtain ⟨v, q⟩ := I.cell x c e
    exact absurd (Nat.lt_of_lt_of_le q.lt (by rw [z]; exact hb)) (Nat.lt_irrefl _)
  · exact absurd (Nat.lt_of_lt_of_le (Heap.lt_size (I.pin p hp).1) (by rw [z]; exact hb)) (Nat.lt_irrefl _)
structure Turn (P : Program) (w : World) (K : PySem.W.Frag) (tg : Expr) (J : It) (fp : List Addr) (it : Addr) (tn : Nat → Heap → Prop) : Prop where
  mem : it ∈ fp
  obj : ∀ i h, tn i h → ∀ b ∈ fp, ∃ o, h.get? b = some o ∧ ∀ v, o.data ≠ .cell v
  keep : ∀ i h h', tn i h → (∀ b ∈ fp, ∀ o, h.get? b = some o → h'.get? b = some o) → tn i h'
  item : ∀ (X : Cx), X.prog = P → X.w = w → X.K = K → X.calm = true → ∀ (i : Nat) (pins : List (Addr × Obj)) (s : Shared) (σ : St) (H : Hp) (E : Value → Shared → Prop), Inv X pins σ H s → (∀ b ∈ fp, FpOk X pins H b) → tn i s.heap → J.go i H →
    wpAny (model P w) X.A (pyNext (.ref it)) (fun r s1 => ∃ u, r = some u ∧
      wpAny (model P w) X.A (letOwnedTupleGo tg (.ref it) u) (fun _ s2 => ∃ x H', Inv X pins σ H' s2 ∧ RelV x u ∧ J.yld i H x H' ∧ tn (i + 1) s2.heap ∧ ∀ b ∈ fp, H' b = none) E s1) E s
  done : ∀ (X : Cx), X.prog = P → X.w = w → X.K = K → X.calm = true → ∀ (i : Nat) (pins : List (Addr × Obj)) (s : Shared) (σ : St) (H : Hp) (E : Value → Shared → Prop), Inv X pins σ H s → (∀ b ∈ fp, FpOk X pins H b) → tn i s.heap → J.stop i H →
    wpAny (model P w) X.A (pyNext (.ref it)) (fun r s1 => r = none ∧ Inv X pins σ H s1) E s
  self : ∀ (A : Around) (i : Nat) (s : Shared) (Q : Value → Shared → Prop) (E : Value → Shared → Prop), tn i s.heap → Q (.ref it) s → wpAny (model P w) A (pyIter (.ref it)) Q E s
abbrev TI := St → Hp → (It → Hp → Prop) → Prop
/-- an iterator has come -/
def PIE (X : Cx) (pins : List (Addr × Obj)) (σ : St) (tg : Expr) (R : It → Hp → Prop) (itv : Value) (s2 : Shared) : Prop :=
  ∃ (it : Addr) (fp : List Addr) (tn : Nat → Heap → Prop) (J : It) (H' : Hp), itv = .ref it ∧ Inv X pins σ H' s2 ∧ Turn X.prog X.w X.K tg J fp it tn ∧ tn 0 s2.heap ∧ (∀ b ∈ fp, FpOk X pins H' b) ∧ R J H'
def PI (X : Cx) (tg iter : Expr) (wi : TI) : Prop :=
  ∀ (pins : List (Addr × Obj)) (s : Shared) (σ : St) (H : Hp) (R : It → Hp → Prop), Inv X pins σ H s → wi σ H R →
    wpAny (model X.prog X.w) X.A (eval iter X.env) (fun v s1 => wpAny (model X.prog X.w) X.A (pyIter v) (PIE X pins σ tg R) X.xe s1) X.xe s

/-- the step ahead of the store is nothing for an iterator that keeps no tuple -/
theorem go_of {M : Model} {A : Around} {E : Value → Shared → Prop} {s : Shared} {tg : Expr} {it : Addr} {u : Value} {o : Obj} {n : String} {vs : Array Value} {Q : Unit → Shared → Prop} (ho : s.heap.get? it = some o) (hc : o.cls = .type n) (hd : o.data = .fields vs)
    (hn : ["enumerate", "zip", "dict_itemiterator", "dict_reverseitemiterator", "odict_iterator", "itertools.zip_longest", "itertools.pairwise"].contains n = false) (hQ : Q () s) : wpAny M A (letOwnedTupleGo tg (.ref it) u) Q E s := by
  unfold letOwnedTupleGo
  cases tg <;> first
    | exact wpAny_pure hQ
    | (cases u <;> first
        | exact wpAny_pure hQ
        | (refine wpAny_bind (wpAny_load ho ?_)
           rw [hc, hd]
           show wpAny M A (if (["enumerate", "zip", "dict_itemiterator", "dict_reverseitemiterator", "odict_iterator", "itertools.zip_longest", "itertools.pairwise"].contains n && vs[0]? == some (rawInt _)) = true then _ else _) Q E s
           rw [if_neg (by intro h; rw [hn, Bool.false_and] at h; cases h)]
           exact wpAny_pure hQ))

/-- the list at a, as it stands at each turn (a loop may append to it) -/
def Itl (K : PySem.W.Frag) (a : Addr) : It :=
  ⟨fun i H => ∃ xs x, SqL K H a xs ∧ xs[i]? = some x, fun i H x H' => H' = H ∧ ∀ xs, SqL K H a xs → xs[i]? = some x, fun i H => ∃ xs, SqL K H a xs ∧ xs.length ≤ i⟩
def Itt (K : PySem.W.Frag) (a : Addr) : It :=
  ⟨fun i H => ∃ xs x, SqT K H a xs ∧ xs[i]? = some x, fun i H x H' => H' = H ∧ ∀ xs, SqT K H a xs → xs[i]? = some x, fun i H => ∃ xs, SqT K H a xs ∧ xs.length ≤ i⟩
/-- lo, lo + 1, .. (n of them) -/
def Itr (lo : Int) (n : Nat) : It := ⟨fun i _ => i < n, fun i H x H' => H' = H ∧ x = .int (lo + i), fun i _ => n ≤ i⟩
theorem turn_list {P : Program} {w : World} {K : PySem.W.Frag} {tg : Expr} (a it : Addr) : Turn P w K tg (Itl K a) [it] it (fun i h => h.IsListIter it a i) where
  mem := by simp
  obj := fun i h st b hb => by
    have e : b = it := by simpa using hb
    subst e
    obtain ⟨o, e, c, d⟩ := st
    exact ⟨o, e, fun v z => by rw [d] at z; cases z⟩
  keep := fun i h h' st k => st.at fun o e => k it (by simp) o e
  item := by
    intro X hP hw hK hc i pins s σ H E I hf st hg
    subst hP hw hK
    obtain ⟨xs, x, hq, hx⟩ := hg
    obtain ⟨its, rv, p, hz⟩ := I.list hq
    obtain ⟨u, hu, ru⟩ := rv.get hx
    obtain ⟨f0, f1, f2, f3, f4, f5⟩ := hf it (by simp)
    refine wpAny_pyNext_list_item st p.isList (x := u) (by simpa using hu) fun h' st' sb => ?_
    have I1 : Inv X pins σ H { s with heap := h' } := I.turned (t' := s.toks) (fun b o hb e => (sb.2 b hb).trans e) f0 f1 f3 f4 f5
    obtain ⟨o, e, c, d⟩ := id st'
    exact ⟨u, rfl, go_of (s := { s with heap := h' }) e c d (by decide) ⟨x, H, I1, ru, ⟨rfl, fun ys hy => by rw [I.list_inj hy hq]; exact hx⟩, st', fun b hb => (hf b hb).1⟩⟩
  done := by
    intro X hP hw hK hc i pins s σ H E I hf st hg
    subst hP hw hK
    obtain ⟨xs, hq, hx⟩ := hg
    obtain ⟨its, rv, p, hz⟩ := I.list hq
    obtain ⟨f0, f1, f2, f3, f4, f5⟩ := hf it (by simp)
    have hl := rv.length
    exact list_endH I.hd st p.isList (by simp; omega) fun h' eb => ⟨rfl, I.turned (t' := s.toks) (fun b o hb e => eb b o hb e) f0 f1 f3 f4 f5⟩
  self := fun _ _ _ _ _ st h => wpAny_pyIter_listiter st h
end L2

namespace L2
open PySem PySem.Spec PyProof.Rows
section
variable {X : Cx} {tg : Expr}
def iList (K : PySem.W.Frag) (tl : TE) : TI := fun σ H R => tl σ H fun x H1 => ∃ a, x = .ref a ∧ (∃ xs, SqL K H1 a xs) ∧ R (Itl K a) H1
def iTup (K : PySem.W.Frag) (tl : TE) : TI := fun σ H R => tl σ H fun x H1 => ∃ a, x = .ref a ∧ (∃ xs, SqT K H1 a xs) ∧ R (Itt K a) H1
theorem pi_list {l : Expr} {tl : TE} (hl : PE X l tl) : PI X tg l (iList X.K tl) := by
  intro pins s σ H R I h
  refine thn (hl pins s σ H _ I h) fun v s1 ⟨x, H1, I1, r1, q1⟩ => ?_
  obtain ⟨a, e, ⟨xs, hq⟩, q⟩ := q1
  subst e
  cases r1
  obtain ⟨its, rv, p, hz⟩ := I1.list hq
  refine wpAny_pyIter_list p.isList ?_
  refine ⟨s1.heap.objs.size, [s1.heap.objs.size], _, _, H1, rfl, I1.kept (t' := s1.toks) fun b o e => Heap.get?_push_of_some _ e, turn_list a _, ⟨_, Heap.get?_push_size _ rfl, rfl, rfl⟩, fun b hb => ?_, q⟩
  have e : b = s1.heap.objs.size := by simpa using hb
  subst e
  exact I1.fpOk (Nat.le_refl _) (I1.hok.fresh (Nat.le_refl _))
def iRng1 (ta : TA) : TI := fun σ H R => ta σ H fun vs H1 => ∃ j : Int, vs = [.int j] ∧ -(2 ^ 62) ≤ j ∧ j < 2 ^ 62 ∧ R (Itr 0 j.toNat) H1
def iRng2 (ta : TA) : TI := fun σ H R => ta σ H fun vs H1 => ∃ i j : Int, vs = [.int i, .int j] ∧ (-(2 ^ 62) ≤ i ∧ i < 2 ^ 62 ∧ -(2 ^ 62) ≤ j ∧ j < 2 ^ 62) ∧ R (Itr i (j - i).toNat) H1
/-! ### for -/
/-- W: the invariant by the turn and a measure; N: what the body is to reach -/
def tFor (wi : TI) (g : TG) (tb : TS) : TS := fun D σ H => wi σ H fun J H1 => ∃ W : Nat → Nat → St → Hp → Prop, (∃ m, W 0 m σ H1) ∧ ∀ i m σ H, W i m σ H →
  (J.stop i H ∧ D.nx σ H) ∨ (J.go i H ∧ ∃ N : St → Hp → Prop, (∀ σ' H', N σ' H' → ∃ m', m' < m ∧ W (i + 1) m' σ' H') ∧ ∀ x H', J.yld i H x H' → g x σ H' fun σ2 H2 => tb { D with nx := N, ct := N, bk := D.nx } σ2 H2)
/-- the records at fp as they stand -/
def pinsAt (fp : List Addr) (h : Heap) : List (Addr × Obj) := fp.filterMap fun b => (h.get? b).map fun o => (b, o)
theorem mem_pinsAt {fp : List Addr} {h : Heap} {b : Addr} {o : Obj} (hb : b ∈ fp) (e : h.get? b = some o) : (b, o) ∈ pinsAt fp h := List.mem_filterMap.mpr ⟨b, hb, by rw [e]; rfl⟩
theorem of_pinsAt {fp : List Addr} {h : Heap} {p : Addr × Obj} (hp : p ∈ pinsAt fp h) : p.1 ∈ fp ∧ h.get? p.1 = some p.2 := by
  obtain ⟨b, hb, e⟩ := List.mem_filterMap.mp hp
  cases q : h.get? b with
  | none => rw [q] at e; cases e
  | some o =>
    rw [q] at e
    have e' : (b, o) = p := Option.some.inj e
    subst e'
    exact ⟨hb, q⟩
theorem Inv.pinned {pins : List (Addr × Obj)} {σ : St} {H : Hp} {s : Shared} {fp : List Addr} (I : Inv X pins σ H s) (hf : ∀ b ∈ fp, FpOk X pins H b) (ho : ∀ b ∈ fp, ∃ o, s.heap.get? b = some o ∧ ∀ v, o.data ≠ .cell v) : Inv X (pins ++ pinsAt fp s.heap) σ H s :=
  I.pins_of fun p hp => (List.mem_append.mp hp).elim (fun z => I.pin p (List.mem_append_right _ z)) fun z => by
    obtain ⟨hb, e⟩ := of_pinsAt z
    obtain ⟨f0, f1, f2, _⟩ := hf p.1 hb
    obtain ⟨o, e', d⟩ := ho p.1 hb
    rw [e] at e'; cases e'
    exact ⟨e, f0, f1, f2, d⟩
theorem Inv.unpinned {pins pl : List (Addr × Obj)} {σ : St} {H : Hp} {s : Shared} (I : Inv X (pins ++ pl) σ H s) : Inv X pins σ H s := I.pins_of fun p hp => I.pin p (List.mem_append_right _ (List.mem_append_left _ hp))
end

/-! ### the forms one uses -/
end L2

namespace L2
open PySem PySem.Spec PyProof.Rows

abbrev R2 := V → V → Hp → VK → Prop
/-- a two-place operation on values: f is binaryOp op, inplaceOp op or compareOp op -/
def OpR (X : Cx) (f : Value → Value → Sem Value) (r : R2) : Prop :=
  ∀ (pins : List (Addr × Obj)) (s : Shared) (σ : St) (H : Hp) (x y : V) (v u : Value) (Q : VK), Inv X pins σ H s → RelV x v → RelV y u → r x y H Q →
    wpAny (model X.prog X.w) X.A (f v u) (EP X pins σ Q) X.xe s
/-- a one-place operation -/
def UnR (X : Cx) (f : Value → Sem Value) (r : V → Hp → VK → Prop) : Prop :=
  ∀ (pins : List (Addr × Obj)) (s : Shared) (σ : St) (H : Hp) (x : V) (v : Value) (Q : VK), Inv X pins σ H s → RelV x v → r x H Q →
    wpAny (model X.prog X.w) X.A (f v) (EP X pins σ Q) X.xe s
/-- a call of a value that is known (a builtin, a type) with values -/
def CallR (X : Cx) (f : Value) (r : List V → Hp → VK → Prop) : Prop :=
  ∀ (pins : List (Addr × Obj)) (s : Shared) (σ : St) (H : Hp) (xs : List V) (us : List Value) (Q : VK), Inv X pins σ H s → Vals xs us → r xs H Q →
    wpAny (model X.prog X.w) X.A (call f us) (EP X pins σ Q) X.xe s
/-- a value's truth -/
def TruR (X : Cx) (r : V → Hp → (Bool → Hp → Prop) → Prop) : Prop :=
  ∀ (pins : List (Addr × Obj)) (s : Shared) (σ : St) (H : Hp) (x : V) (v : Value) (Q : Bool → Hp → Prop), Inv X pins σ H s → RelV x v → r x H Q →
    wpAny (model X.prog X.w) X.A (truthy v) (TP X pins σ Q) X.xe s

def tOp (r : R2) (ta tb : TE) : TE := fun σ H Q => ta σ H fun x H1 => tb σ H1 fun y H2 => r x y H2 Q
def tUn (r : V → Hp → VK → Prop) (ta : TE) : TE := fun σ H Q => ta σ H fun x H1 => r x H1 Q
/-- ints in, under C, and a value out -/
def rI (C : Int → Int → Prop) (g : Int → Int → V) : R2 := fun x y H Q => ∃ i j, x = .int i ∧ y = .int j ∧ C i j ∧ Q (g i j) H
def rI0 (g : Int → Int → V) : R2 := fun x y H Q => ∃ i j, x = .int i ∧ y = .int j ∧ Q (g i j) H
def rU (g : Int → V) : V → Hp → VK → Prop := fun x H Q => ∃ i, x = .int i ∧ Q (g i) H

section
variable {X : Cx} {a b c : Expr} {ta tb tc : TE} {pos : Pos}

theorem binT (ha : PE X a ta) (hb : PE X b tb) {pins : List (Addr × Obj)} {s : Shared} {σ : St} {H : Hp} {R : V → V → Hp → Prop} (I : Inv X pins σ H s)
    (h : ta σ H fun x H1 => tb σ H1 fun y H2 => R x y H2) {Q : Value → Shared → Prop} {f : Value → Value → Sem Value}
    (hf : ∀ v u s2 x y H2, Inv X pins σ H2 s2 → RelV x v → RelV y u → R x y H2 → wpAny (model X.prog X.w) X.A (f v u) Q X.xe s2) :
    wpAny (model X.prog X.w) X.A (eval a X.env) (fun v s₁ => wpAny (model X.prog X.w) X.A (eval b X.env) (fun u s₂ => wpAny (model X.prog X.w) X.A (f v u) Q X.xe s₂) X.xe s₁) X.xe s := by
  refine thn (ha pins s σ H _ I h) fun v s1 ⟨x, H1, I1, r1, q1⟩ => ?_
  refine thn (hb pins s1 σ H1 _ I1 q1) fun u s2 ⟨y, H2, I2, r2, q2⟩ => ?_
  exact hf v u s2 x y H2 I2 r1 r2 q2

theorem pe_op {op : Operator} {r : R2} (ho : OpR X (binaryOp op) r) (ha : PE X a ta) (hb : PE X b tb) : PE X (.BinOp a op b pos) (tOp r ta tb) := by
  intro pins s σ H Q I h
  exact wpAny_BinOp (binT ha hb I h fun v u s2 x y H2 I2 rx ry q => ho pins s2 σ H2 x y v u Q I2 rx ry q)
/-! ### ints -/
theorem opI {f : Value → Value → Sem Value} {C : Int → Int → Prop} {g : Int → Int → Int}
    (rule : ∀ (i j : Int) (t u : Tok) (s : Shared) (Q : Value → Shared → Prop) (E : Value → Shared → Prop), C i j → Q (.int (g i j) s.toks) { s with toks := s.toks + 1 } → wpAny (model X.prog X.w) X.A (f (.int i t) (.int j u)) Q E s) :
    OpR X f (rI C fun i j => .int (g i j)) := by
  intro pins s σ H x y v u Q I rx ry h
  obtain ⟨i, j, rfl, rfl, hc, q⟩ := h
  obtain ⟨t, rfl⟩ := rx
  obtain ⟨t', rfl⟩ := ry
  exact rule i j t t' s _ _ hc ⟨.int (g i j), H, I.tok _, ⟨_, rfl⟩, q⟩
theorem opI0 {f : Value → Value → Sem Value} {g : Int → Int → Int}
    (rule : ∀ (i j : Int) (t u : Tok) (s : Shared) (Q : Value → Shared → Prop) (E : Value → Shared → Prop), Q (.int (g i j) s.toks) { s with toks := s.toks + 1 } → wpAny (model X.prog X.w) X.A (f (.int i t) (.int j u)) Q E s) :
    OpR X f (rI0 fun i j => .int (g i j)) := by
  intro pins s σ H x y v u Q I rx ry h
  obtain ⟨i, j, rfl, rfl, q⟩ := h
  obtain ⟨t, rfl⟩ := rx
  obtain ⟨t', rfl⟩ := ry
  exact rule i j t t' s _ _ ⟨.int (g i j), H, I.tok _, ⟨_, rfl⟩, q⟩
theorem opB0 {f : Value → Value → Sem Value} {g : Int → Int → Bool}
    (rule : ∀ (i j : Int) (t u : Tok) (s : Shared) (Q : Value → Shared → Prop) (E : Value → Shared → Prop), Q (.bool (g i j)) s → wpAny (model X.prog X.w) X.A (f (.int i t) (.int j u)) Q E s) :
    OpR X f (rI0 fun i j => .bl (g i j)) := by
  intro pins s σ H x y v u Q I rx ry h
  obtain ⟨i, j, rfl, rfl, q⟩ := h
  obtain ⟨t, rfl⟩ := rx
  obtain ⟨t', rfl⟩ := ry
  exact rule i j t t' s _ _ ⟨.bl (g i j), H, I, rfl, q⟩

def CDiv (i j : Int) : Prop := 0 < j ∧ j < 1073741824
def CDivN (i j : Int) : Prop := j ≠ 0 ∧ j.natAbs < 1073741824
def CPow (i j : Int) : Prop := 0 ≤ j ∧ j ≤ 1000000 ∧ i.natAbs < 2 ^ 64
def CMul (i j : Int) : Prop := (-(2 ^ 64) < i ∧ i < 2 ^ 64) ∨ (-(2 ^ 64) < j ∧ j < 2 ^ 64)
theorem CMul.ok {i j : Int} (h : CMul i j) : IntMulOk i j := by
  rcases h with ⟨h1, h2⟩ | ⟨h1, h2⟩
  · exact .of_left (intBits_le_64 h1 h2)
  · exact .of_right (intBits_le_64 h1 h2)
theorem op_add : OpR X (binaryOp .Add) (rI0 fun i j => .int (i + j)) := opI0 fun _ _ _ _ _ _ _ q => add_int q
theorem op_sub : OpR X (binaryOp .Sub) (rI0 fun i j => .int (i - j)) := opI0 fun _ _ _ _ _ _ _ q => sub_int q
theorem op_mul : OpR X (binaryOp .Mult) (rI CMul fun i j => .int (i * j)) := opI fun _ _ _ _ _ _ _ hc q => mul_int q hc.ok
/-- // by a positive divisor -/
theorem op_fdiv : OpR X (binaryOp .FloorDiv) (rI CDiv fun i j => .int (i / j)) := opI fun i j _ _ _ _ _ hc q => by
  have h1 : (0 : Int) < j := hc.1
  have h2 : j < 1073741824 := hc.2
  exact floordiv_int (by omega) (by rw [Int.fdiv_eq_ediv_of_nonneg i (by omega)]; exact q) (.inl (PyProof.noPylong_small (by omega)))
/-- % by a positive divisor of any size -/
theorem op_mod : OpR X (binaryOp .Mod) (rI (fun _ j => 0 < j) fun i j => .int (i % j)) := opI fun i j _ _ _ _ _ hc q => by
  have h1 : (0 : Int) < j := hc
  exact mod_int' (by omega) (by rw [Int.fmod_eq_emod_of_nonneg i (by omega)]; exact q)
/-! ### bools among ints: n += (a < b) -/
end

/-! ### comparisons -/
/-- the scalars that == tells apart as data does -/
def scal : V → V → Bool
  | .non, .non => true | .non, .int _ => true | .int _, .non => true | .non, .bl _ => true | .bl _, .non => true | .non, .str _ => true | .str _, .non => true
  | .int _, .int _ => true | .bl _, .bl _ => true | .str _, .str _ => true | .byt _, .byt _ => true
  | .int _, .str _ => true | .str _, .int _ => true | .bl _, .str _ => true | .str _, .bl _ => true
  | _, _ => false
def rEq : R2 := fun x y H Q => scal x y = true ∧ Q (.bl (decide (x = y))) H
def rNe : R2 := fun x y H Q => scal x y = true ∧ Q (.bl (!decide (x = y))) H

theorem dec_int {i j : Int} : decide (V.int i = V.int j) = (i == j) := by
  rw [Bool.eq_iff_iff]
  simp
theorem dec_bl {i j : Bool} : decide (V.bl i = V.bl j) = (i == j) := by
  rw [Bool.eq_iff_iff]
  simp
theorem dec_str {i j : Str} : decide (V.str i = V.str j) = (i == j) := by
  rw [Bool.eq_iff_iff]
  simp
theorem dec_byt {i j : Array UInt8} : decide (V.byt i = V.byt j) = (i.toList == j.toList) := by
  rw [Bool.eq_iff_iff]
  cases i
  cases j
  simp

section
variable {X : Cx} {a b c : Expr} {ta tb tc : TE} {pos : Pos}
theorem fin_bl {pins : List (Addr × Obj)} {σ : St} {H : Hp} {s : Shared} {Q : VK} {k k' : Bool} (I : Inv X pins σ H s) (q : Q (.bl k) H) (e : k = k') : EP X pins σ Q (.bool k') s := by
  subst e
  exact ⟨.bl k, H, I, rfl, q⟩
theorem op_eq : OpR X (compareOp .Eq) rEq := by
  intro pins s σ H x y v u Q I rx ry h
  obtain ⟨hs, q⟩ := h
  cases x with
  | non =>
    cases rx
    cases y with
    | non => cases ry; exact PySem.EqNone.eq_none_none (fin_bl I q (by simp))
    | bl j => cases ry; exact PySem.EqNone.eq_none_bool (fin_bl I q (by simp))
    | int j => obtain ⟨t', rfl⟩ := ry; exact PySem.EqNone.eq_none_int (fin_bl I q (by simp))
    | str j => obtain ⟨t', rfl⟩ := ry; exact PySem.EqNone.eq_none_str (fin_bl I q (by simp))
    | _ => exact absurd (show false = true from hs) Bool.false_ne_true
  | bl i =>
    cases rx
    cases y with
    | non => cases ry; exact PySem.EqNone.eq_bool_none (fin_bl I q (by simp))
    | bl j => cases ry; exact eq_bool (fin_bl I q dec_bl)
    | str j => obtain ⟨t', rfl⟩ := ry; exact PySem.EqMixed.eq_bool_str (fin_bl I q (by simp))
    | _ => exact absurd (show false = true from hs) Bool.false_ne_true
  | int i =>
    obtain ⟨t, rfl⟩ := rx
    cases y with
    | non => cases ry; exact PySem.EqNone.eq_int_none (fin_bl I q (by simp))
    | int j => obtain ⟨t', rfl⟩ := ry; exact eq_int (fin_bl I q dec_int)
    | str j => obtain ⟨t', rfl⟩ := ry; exact PySem.EqMixed.eq_int_str (fin_bl I q (by simp))
    | _ => exact absurd (show false = true from hs) Bool.false_ne_true
  | str i =>
    obtain ⟨t, rfl⟩ := rx
    cases y with
    | non => cases ry; exact PySem.EqNone.eq_str_none (fin_bl I q (by simp))
    | bl j => cases ry; exact PySem.EqMixed.eq_str_bool (fin_bl I q (by simp))
    | int j => obtain ⟨t', rfl⟩ := ry; exact PySem.EqMixed.eq_str_int (fin_bl I q (by simp))
    | str j => obtain ⟨t', rfl⟩ := ry; exact eq_str (fin_bl I q dec_str)
    | _ => exact absurd (show false = true from hs) Bool.false_ne_true
  | byt i =>
    obtain ⟨t, rfl⟩ := rx
    cases y with
    | byt j => obtain ⟨t', rfl⟩ := ry; exact PySem.W.eq_bytes (fin_bl I q dec_byt)
    | _ => exact absurd (show false = true from hs) Bool.false_ne_true
  | _ => cases y <;> exact absurd (show false = true from hs) Bool.false_ne_true
theorem op_ne : OpR X (compareOp .NotEq) rNe := by
  intro pins s σ H x y v u Q I rx ry h
  obtain ⟨hs, q⟩ := h
  cases x with
  | non =>
    cases rx
    cases y with
    | non => cases ry; exact PySem.EqNone.ne_none_none (fin_bl I q (by simp))
    | bl j => cases ry; exact PySem.EqNone.ne_none_bool (fin_bl I q (by simp))
    | int j => obtain ⟨t', rfl⟩ := ry; exact PySem.EqNone.ne_none_int (fin_bl I q (by simp))
    | str j => obtain ⟨t', rfl⟩ := ry; exact PySem.EqNone.ne_none_str (fin_bl I q (by simp))
    | _ => exact absurd (show false = true from hs) Bool.false_ne_true
  | bl i =>
    cases rx
    cases y with
    | non => cases ry; exact PySem.EqNone.ne_bool_none (fin_bl I q (by simp))
    | bl j => cases ry; exact ne_bool (fin_bl I q (congrArg not dec_bl))
    | str j => obtain ⟨t', rfl⟩ := ry; exact PySem.EqMixed.ne_bool_str (fin_bl I q (by simp))
    | _ => exact absurd (show false = true from hs) Bool.false_ne_true
  | int i =>
    obtain ⟨t, rfl⟩ := rx
    cases y with
    | non => cases ry; exact PySem.EqNone.ne_int_none (fin_bl I q (by simp))
    | int j => obtain ⟨t', rfl⟩ := ry; exact ne_int (fin_bl I q (congrArg not dec_int))
    | str j => obtain ⟨t', rfl⟩ := ry; exact PySem.EqMixed.ne_int_str (fin_bl I q (by simp))
    | _ => exact absurd (show false = true from hs) Bool.false_ne_true
  | str i =>
    obtain ⟨t, rfl⟩ := rx
    cases y with
    | non => cases ry; exact PySem.EqNone.ne_str_none (fin_bl I q (by simp))
    | bl j => cases ry; exact PySem.EqMixed.ne_str_bool (fin_bl I q (by simp))
    | int j => obtain ⟨t', rfl⟩ := ry; exact PySem.EqMixed.ne_str_int (fin_bl I q (by simp))
    | str j => obtain ⟨t', rfl⟩ := ry; exact ne_str (fin_bl I q (congrArg not dec_str))
    | _ => exact absurd (show false = true from hs) Bool.false_ne_true
  | byt i =>
    obtain ⟨t, rfl⟩ := rx
    cases y with
    | byt j => obtain ⟨t', rfl⟩ := ry; exact PySem.W.ne_bytes (fin_bl I q (congrArg not dec_byt))
    | _ => exact absurd (show false = true from hs) Bool.false_ne_true
  | _ => cases y <;> exact absurd (show false = true from hs) Bool.false_ne_true

theorem op_lt : OpR X (compareOp .Lt) (rI0 fun i j => .bl (decide (i < j))) := opB0 fun _ _ _ _ _ _ _ q => lt_int q
theorem op_le : OpR X (compareOp .LtE) (rI0 fun i j => .bl (decide (i ≤ j))) := opB0 fun _ _ _ _ _ _ _ q => le_int q
theorem op_gt : OpR X (compareOp .Gt) (rI0 fun i j => .bl (decide (j < i))) := opB0 fun _ _ _ _ _ _ _ q => gt_int q
theorem op_ge : OpR X (compareOp .GtE) (rI0 fun i j => .bl (decide (j ≤ i))) := opB0 fun _ _ _ _ _ _ _ q => ge_int q
/-- is, is not of two objects that are tracked lists or instances -/
def isObj : HO → Bool
  | .lst _ => true
  | .ins _ _ _ => true
  | _ => false
theorem nomark (b : Expr) {op : CmpOp} (h : op ≠ .In := by decide) (h2 : op ≠ .NotIn := by decide) : behindInMarks op b = false := by
  have e1 : (op == CmpOp.In) = false := by cases op <;> first | rfl | exact absurd rfl h
  have e2 : (op == CmpOp.NotIn) = false := by cases op <;> first | rfl | exact absurd rfl h2
  cases b <;> simp [behindInMarks, e1, e2]
/-- a comparison as a value; hm: nomark b, or (for in, not in) by with_unfolding_all rfl -/
theorem pe_cmpR {op : CmpOp} {r : R2} (ho : OpR X (compareOp op) r) (ha : PE X a ta) (hb : PE X b tb) (hm : behindInMarks op b = false) : PE X (.Compare a [op] [b] pos) (tOp r ta tb) := by
  intro pins s σ H Q I h
  exact wpAny_Compare1 (binT ha hb I h fun v u s2 x y H2 I2 rx ry q => ho pins s2 σ H2 x y v u Q I2 rx ry q) hm
/-- a reading of a value as a test -/
def tTest (t : TE) : TT := fun σ H Q => t σ H fun x H' => ∃ k, x = .bl k ∧ Q k H'
theorem pt_cmpR {op : CmpOp} {r : R2} (ho : OpR X (compareOp op) r) (ha : PE X a ta) (hb : PE X b tb) (hm : behindInMarks op b = false) : PT X (.Compare a [op] [b] pos) (tTest (tOp r ta tb)) := by
  intro pins s σ H Q I h
  refine wpAny_isTrue_Compare1 (thn (ha pins s σ H _ I h) fun v s1 ⟨x, H1, I1, r1, q1⟩ => thn (hb pins s1 σ H1 _ I1 q1) fun u s2 ⟨y, H2, I2, r2, q2⟩ =>
    thn (ho pins s2 σ H2 x y v u _ I2 r1 r2 q2) fun c s3 ⟨z, H3, I3, r3, k, e, q3⟩ => ?_) hm
  subst e
  cases r3
  exact wpAny_truthy_bool ⟨H3, I3, q3⟩
/-- a op1 b op2 c -/
def tChain (r r' : R2) (ta tb tc : TE) : TE := fun σ H Q => ta σ H fun x H1 => tb σ H1 fun y H2 => r x y H2 fun z H3 => ∃ k, z = .bl k ∧
  (if k = true then tc σ H3 fun w' H4 => r' y w' H4 Q else Q (.bl false) H3)
theorem pe_chain {op op' : CmpOp} {r r' : R2} (ho : OpR X (compareOp op) r) (ho' : OpR X (compareOp op') r') (ha : PE X a ta) (hb : PE X b tb) (hc : PE X c tc)
    (hm : lastMarks [op, op'] [b, c] = false := by with_unfolding_all rfl) : PE X (.Compare a [op, op'] [b, c] pos) (tChain r r' ta tb tc) := by
  intro pins s σ H Q I h
  refine Compare_chain (thn (ha pins s σ H _ I h) fun v s1 ⟨x, H1, I1, r1, q1⟩ => chain_link (thn (hb pins s1 σ H1 _ I1 q1) fun u s2 ⟨y, H2, I2, r2, q2⟩ =>
    thn (ho pins s2 σ H2 x y v u _ I2 r1 r2 q2) fun d s3 ⟨z, H3, I3, r3, k, e, q3⟩ => ?_)) hm
  subst e
  cases r3
  refine wpAny_truthy_bool ?_
  cases k with
  | false => exact ite_ff ⟨.bl false, H3, I3, rfl, q3⟩
  | true => exact ite_tt (chain_last (thn (hc pins s3 σ H3 _ I3 q3) fun w' s4 ⟨z', H4, I4, r4, q4⟩ => ho' pins s4 σ H4 y z' u w' Q I4 r2 r4 q4))
/-! ### truth -/
/-- a value's truth by the abstract heap -/
def TruV (K : PySem.W.Frag) (x : V) (H : Hp) (k : Bool) : Prop :=
  match x with
  | .non => k = false
  | .bl b => k = b
  | .int i => k = (i != 0)
  | .str y => y.length ≤ sizeLine ∧ k = ((y.length : Int) != 0)
  | .byt y => y.size ≤ sizeLine ∧ k = ((y.size : Int) != 0)
  | .ref p => (∃ xs, SqL K H p xs ∧ k = !xs.isEmpty) ∨ (∃ xs, SqT K H p xs ∧ k = !xs.isEmpty) ∨ ∃ kvs, H p = some (.dK kvs) ∧ k = !kvs.isEmpty
  | _ => False
theorem line63 : (sizeLine : Nat) < 2 ^ 63 := by rw [sizeLine_eq]; decide
/-! ### strs and bytes -/
def PlainIxT (b : Expr) : Prop := ∀ o i, subscripted b false o i = operate [o, i] (getItem o i)
/-! ### scalar builtins, by CallR -/
theorem vals1 {x : V} {us : List Value} (r : Vals [x] us) : ∃ u, us = [u] ∧ RelV x u := by
  cases r with
  | cons r1 r2 => cases r2; exact ⟨_, rfl, r1⟩
theorem vals2 {x y : V} {us : List Value} (r : Vals [x, y] us) : ∃ u w', us = [u, w'] ∧ RelV x u ∧ RelV y w' := by
  cases r with
  | cons r1 r2 =>
    cases r2 with
    | cons r3 r4 => cases r4; exact ⟨_, _, rfl, r1, r3⟩
theorem call_max2 (hc : X.A.handled = none) : CallR X (.builtin "max") (fun xs H Q => ∃ i j, xs = [.int i, .int j] ∧ Q (.int (if j > i then j else i)) H) := by
  intro pins s σ H xs us Q I r h
  obtain ⟨i, j, rfl, q⟩ := h
  obtain ⟨u, w', rfl, ⟨t, rfl⟩, ⟨t', rfl⟩⟩ := vals2 r
  refine max_two_ints hc fun h' tk k => ⟨_, H, I.kept k, ?_, q⟩
  by_cases hj : j > i
  · rw [if_pos hj, if_pos hj]; exact ⟨_, rfl⟩
  · rw [if_neg hj, if_neg hj]; exact ⟨_, rfl⟩
theorem call_int1 : CallR X (.type "int") (fun xs H Q => (∃ i, xs = [.int i] ∧ Q (.int i) H) ∨ ∃ k, xs = [.bl k] ∧ Q (.int (if k then 1 else 0)) H) := by
  intro pins s σ H xs us Q I r h
  rcases h with ⟨i, rfl, q⟩ | ⟨k, rfl, q⟩
  · obtain ⟨u, rfl, t, rfl⟩ := vals1 r
    exact call_int_int ⟨.int i, H, I, ⟨_, rfl⟩, q⟩
  · obtain ⟨u, rfl, r1⟩ := vals1 r
    cases r1
    exact call_int_bool ⟨.int (if k then 1 else 0), H, I.tok _, ⟨_, rfl⟩, q⟩
/-- len of a str, a bytes, a list, a tuple -/
def LenV (K : PySem.W.Frag) (x : V) (H : Hp) (n : Nat) : Prop :=
  match x with
  | .str y => y.length ≤ sizeLine ∧ n = y.length
  | .byt y => y.size ≤ sizeLine ∧ n = y.size
  | .ref p => (∃ xs, SqL K H p xs ∧ n = xs.length) ∨ ∃ xs, SqT K H p xs ∧ n = xs.length
  | _ => False
end
end L2

namespace L2
open PySem PySem.Spec PyProof.Rows

/-! ### an instance, its attributes a map -/
structure ObjM (h : Heap) (x dx C : Addr) (mA : Str → Option Value) : Prop where
  obj : h.get? x = some (PySem.W.instObj C dx)
  ns : h.Ns1 dx mA
  ne : dx ≠ x

theorem lookIn_ns {h : Heap} {dx : Addr} {mA : Str → Option Value} (n : h.Ns1 dx mA) : ∃ od, h.get? dx = some od ∧ ∀ name, PySem.W.lookIn name od = some (mA name) := by
  obtain ⟨o, es, ep, ho, hd, hk, _, hm⟩ := n
  refine ⟨o, ho, fun name => ?_⟩
  have e := hm name
  unfold nsFind findBy at e
  rw [← Array.find?_toList] at e
  unfold PySem.W.lookIn
  rw [hd]
  dsimp only
  split
  · rename_i y q
    rw [q] at e
    exact congrArg some e
  · rename_i q
    rw [q] at e
    have a : es.toList.any (·.refKey) = false := by
      rw [List.any_eq_false]
      intro y hy
      obtain ⟨z, t, hkey⟩ := hk y (Array.mem_toList_iff.mp hy)
      simp [DictEntry.refKey, hkey]
    have a' : ¬ es.toList.any (·.refKey) = true := by rw [a]; exact Bool.false_ne_true
    rw [if_neg a']
    exact congrArg some e

theorem ObjM.look {h : Heap} {x dx C : Addr} {mA : Str → Option Value} (I : ObjM h x dx C mA) : ∃ od, PySem.W.InstAt h x (PySem.W.instObj C dx) C (some od) ∧ ∀ name, PySem.W.lookIn name od = some (mA name) :=
  let ⟨od, ho, hl⟩ := lookIn_ns I.ns
  ⟨od, ⟨I.obj, rfl, rfl, ho⟩, hl⟩

section
variable {prog : Program} {w : World} {A : Around} {E : Value → Shared → Prop} {s : Shared} {K : PySem.W.Frag} {x dx C f : Addr} {mA : Str → Option Value} {name : Str} {v : Value}

theorem get_map {expr : Bool} {Q : Value → Shared → Prop} (X : K.In s.heap) (I : ObjM s.heap x dx C mA) (hg : PySem.W.plainGet K C name = true) (hh : PySem.W.hasDictIn K C = true)
    (ha : PySem.W.findIn K (.ref C) name = some none) (hv : mA name = some v) (hv' : PySem.W.handedIn v = true) (h : Q v { s with toks := s.toks + 1 }) :
    wpAny (model prog w) A (getAttr (.ref x) name expr) Q E s := by
  obtain ⟨od, J, hl⟩ := I.look
  exact PySem.W.get_value X J (PySem.W.plainGet_of hg).1 (PySem.W.findObj_own hh ha rfl (by rw [hl, hv])) hv' h

theorem get_meth {pl : Sem Bool} {Q : Value × List Value → Shared → Prop} (X : K.In s.heap) (I : ObjM s.heap x dx C mA) (hg : PySem.W.plainGet K C name = true)
    (hf : PySem.W.findIn K (.ref C) name = some (some (.ref f))) (ht : PySem.W.isFn K (.ref f) = true) (hv : mA name = none) (h : Q (.ref f, [.ref x]) s) :
    wpAny (model prog w) A (getMethod (.ref x) name pl) Q E s := by
  obtain ⟨od, J, hl⟩ := I.look
  exact PySem.W.method_fn X J (PySem.W.plainGet_of hg).1 (PySem.W.plainGet_of hg).2 hf (beq_iff_eq.mp ht) (by show (PySem.W.lookIn name od).map (·.isSome) = some false; rw [hl, hv]; rfl) h

theorem set_map {ns : List Str} {Q : Unit → Shared → Prop} (X : K.In s.heap) (I : ObjM s.heap x dx C mA)
    (hs : PySem.W.findIn K (.ref C) "__setattr__" = some (some (.builtin "object.__setattr__"))) (hp : PySem.W.plainOver K C = true) (ht : PySem.W.takerIn K C name = some none) (hh : PySem.W.hasDictIn K C = true)
    (hw : PySem.Within mA ns) (hsz : ns.length ≤ sizeLine)
    (h : ∀ h', ObjM h' x dx C (fun y => if y = name then some v else mA y) → Heap.SameBut dx s.heap h' → Q () { s with heap := h', toks := s.toks + 2 }) :
    wpAny (model prog w) A (setAttr (.ref x) name v) Q E s := by
  obtain ⟨od, J, hl⟩ := I.look
  refine PySem.W.set_plain X J hs (PySem.W.osa_open (s := { s with toks := s.toks + 1 }) (r := none) X J hp ht fun b => ?_)
  obtain ⟨cd, hc, hd'⟩ := PySem.W.any_some hh
  have hx : s.heap.get? x = some ⟨.ref C, some dx, .plain, #[]⟩ := I.obj
  refine wpAny_bind (wpAny_pure (wpAny_bind (wpAny_bind (wpAny_loadPart hx (wpAny_bind (PySem.W.Looks.here (s := { s with toks := s.toks + 1 }) (PySem.W.looks_clsIn X hc) ?_))))))
  rw [hd']
  refine wpAny_pure (a := some dx) (wpAny_bind (wpAny_pure (wpAny_bind ?_)))
  refine wpAny_nsSet1 (s := { s with toks := s.toks + 1 }) I.ns fun h' hn2 hs2 => ?_
  obtain ⟨oD, esD, epD, hoD, hdD, hcD⟩ := hn2.count (PySem.Within.cons name v hw)
  refine wpAny_bind (wpAny_lookBehind hoD (by rw [hdD]; exact pastItsLine_dict (Nat.le_trans hcD (by rw [List.length_cons]; omega))) ?_)
  exact wpAny_pure (h _ ⟨(hs2.2 _ (Ne.symm I.ne)).trans I.obj, hn2, I.ne⟩ hs2)

/-- C(..): the dict at the heap's end, the instance behind it; then its __init__ -/
theorem make_map {R : Result → Shared → Prop} {vs : List Value} {kw : List (Str × Value)} (X : K.In s.heap) (hm : PySem.W.makesIn K C = true)
    (hi : PySem.W.findIn K (.ref C) "__init__" = some (some (.ref f))) (hf : PySem.W.typeIn K (.ref f) = some (.type "function"))
    (h : codeAny (model prog w) (A.under (.builtin "type.__call__" ⟨.ref C :: vs, kw⟩)) (.call (.ref f) ⟨.ref (s.heap.objs.size + 1) :: vs, kw⟩) (PySem.W.InitBack (s.heap.objs.size + 1) R)
      { s with heap := (s.heap.push PySem.W.emptyDict).push (PySem.W.instObj C s.heap.objs.size) }) :
    codeAny (model prog w) A (.call (.ref C) ⟨vs, kw⟩) R s := by
  obtain ⟨hh, g, d, t, os⟩ := s
  exact PySem.W.make_core (PySem.W.makes_of X hm) (PySem.W.looks_findIn X hi) (fun self => PySem.W.bind_fn X self hf) (.inl rfl) h
end

/-! ### the attributes as a list of pairs -/
def putF (f : Str) (v : V) : List (Str × V) → List (Str × V)
  | [] => [(f, v)]
  | (g, x) :: r => if g = f then (g, v) :: r else (g, x) :: putF f v r
theorem lookup_putF (f g : Str) (v : V) : ∀ fs : List (Str × V), (putF f v fs).lookup g = if g = f then some v else fs.lookup g
  | [] => by
    show List.lookup g [(f, v)] = _
    by_cases h : g = f
    · have hb : (g == f) = true := beq_iff_eq.mpr h
      simp only [List.lookup, hb, if_pos h]
    · have hb : (g == f) = false := beq_eq_false_iff_ne.mpr h
      simp only [List.lookup, hb, if_neg h]
  | (k, x) :: r => by
    have ih := lookup_putF f g v r
    rw [show putF f v ((k, x) :: r) = (if k = f then (k, v) :: r else (k, x) :: putF f v r) from rfl]
    by_cases hk : k = f
    · rw [if_pos hk]
      by_cases h : g = k
      · have hb : (g == k) = true := beq_iff_eq.mpr h
        simp only [List.lookup, hb, if_pos (h.trans hk)]
      · have hb : (g == k) = false := beq_eq_false_iff_ne.mpr h
        simp only [List.lookup, hb, if_neg (fun e : g = f => h (e.trans hk.symm))]
    · rw [if_neg hk]
      by_cases h : g = k
      · have hb : (g == k) = true := beq_iff_eq.mpr h
        simp only [List.lookup, hb, if_neg (fun e : g = f => hk (h.symm.trans e))]
      · have hb : (g == k) = false := beq_eq_false_iff_ne.mpr h
        simp only [List.lookup, hb]
        exact ih
theorem keys_putF (f : Str) (v : V) : ∀ fs : List (Str × V), f ∈ (putF f v fs).map (·.1) ∧ ∀ g, g ∈ fs.map (·.1) → g ∈ (putF f v fs).map (·.1)
  | [] => ⟨by simp [putF], fun g h => by simp at h⟩
  | (k, x) :: r => by
    obtain ⟨i1, i2⟩ := keys_putF f v r
    rw [show putF f v ((k, x) :: r) = (if k = f then (k, v) :: r else (k, x) :: putF f v r) from rfl]
    by_cases hk : k = f
    · rw [if_pos hk]
      subst hk
      exact ⟨by simp, fun g h => by simpa using h⟩
    · rw [if_neg hk]
      refine ⟨?_, fun g h => ?_⟩
      · rw [List.map_cons]
        exact List.mem_cons_of_mem _ i1
      · rw [List.map_cons] at h ⊢
        rcases List.mem_cons.mp h with e | e
        · exact List.mem_cons.mpr (.inl e)
        · exact List.mem_cons_of_mem _ (i2 g e)
theorem length_putF (f : Str) (v : V) : ∀ fs : List (Str × V), (putF f v fs).length ≤ fs.length + 1
  | [] => by simp [putF]
  | (k, x) :: r => by
    have ih := length_putF f v r
    rw [show putF f v ((k, x) :: r) = (if k = f then (k, v) :: r else (k, x) :: putF f v r) from rfl]
    by_cases hk : k = f
    · rw [if_pos hk, List.length_cons, List.length_cons]; omega
    · rw [if_neg hk, List.length_cons, List.length_cons]; omega

theorem RelO.some_of {v : V} {o : Option Value} (r : RelO (some v) o) : ∃ u, o = some u ∧ RelV v u := by
  cases o with
  | none => exact (show False from r).elim
  | some u => exact ⟨u, rfl, r⟩
theorem RelO.none_of {o : Option Value} (r : RelO none o) : o = none := by
  cases o with
  | none => rfl
  | some u => exact (show False from r).elim
theorem handed_of {v : V} {u : Value} (r : RelV v u) : PySem.W.handedIn u = true := by
  cases v with
  | non => cases (show u = Value.none from r); rfl
  | bl b => cases (show u = Value.bool b from r); rfl
  | int i => obtain ⟨t, e⟩ := (show ∃ t, u = Value.int i t from r); cases e; rfl
  | str x => obtain ⟨t, e⟩ := (show ∃ t, u = Value.str x t from r); cases e; rfl
  | byt b => obtain ⟨t, e⟩ := (show ∃ t, u = Value.bytes b t from r); cases e; rfl
  | flt b => obtain ⟨t, e⟩ := (show ∃ t, u = Value.float b t from r); cases e; rfl
  | ref a => cases (show u = Value.ref a from r); rfl
  | ty n => cases (show u = Value.type n from r); rfl

section
variable {P : Program} {w : World} {H H' : Hp} {h h' : Heap} {a C dx : Addr} {fs fs' : List (Str × V)}
theorem ins_get (hok : HOk P w H h) (e : H a = some (.ins C dx fs)) : ∃ mA, ObjM h a dx C mA ∧ (∀ f, RelO (fs.lookup f) (mA f)) ∧ PySem.Within mA (fs.map (·.1)) ∧ fs.length ≤ 1000 ∧ H dx = some (.own a) := by
  obtain ⟨d, z, ne, ob, mA, n, r, q⟩ := (show ObjOk P w H h a (.ins C dx fs) from hok a _ e)
  exact ⟨mA, ⟨ob, n, ne⟩, r, q, z, d⟩
end

/-! ### what of the text a class must have -/
structure Cls (K : PySem.W.Frag) (C : Addr) : Prop where
  pg : PySem.W.plainGet K C Str.empty = true
  hd : PySem.W.hasDictIn K C = true
  po : PySem.W.plainOver K C = true
  sa : PySem.W.findIn K (.ref C) "__setattr__" = some (some (.builtin "object.__setattr__"))
theorem Cls.get {K : PySem.W.Frag} {C : Addr} (c : Cls K C) (f : Str) : PySem.W.plainGet K C f = true := c.pg
/-- no class of it has the name -/
def NoAttr (K : PySem.W.Frag) (C : Addr) (f : Str) : Prop := PySem.W.findIn K (.ref C) f = some none
theorem NoAttr.taker {K : PySem.W.Frag} {C : Addr} {f : Str} (n : NoAttr K C f) : PySem.W.takerIn K C f = some none := by
  unfold PySem.W.takerIn
  rw [show PySem.W.findIn K (.ref C) f = some none from n]
  rfl
/-- a constant of the class -/
structure Con (K : PySem.W.Frag) (C : Addr) (f : Str) (v : V) (u : Value) : Prop where
  at_ : PySem.W.findIn K (.ref C) f = some (some u)
  rel : RelV v u
  get : PySem.W.specialIn K u "__get__" = some none
  cp : PySem.W.copiedNames.contains f = false
/-- a method: a plain def of the class or of one above it -/
structure Meth (K : PySem.W.Frag) (C : Addr) (m : Str) (f : Addr) : Prop where
  at_ : PySem.W.findIn K (.ref C) m = some (some (.ref f))
  fn : PySem.W.isFn K (.ref f) = true
  kp : PySem.W.keepIn K (.ref f) = true

section
variable {X : Cx} {pins : List (Addr × Obj)} {σ : St} {H : Hp} {s : Shared} {a C dx : Addr} {fs : List (Str × V)} {f : Str} {v : V} {A : Around} {E : Value → Shared → Prop}

theorem getattr_ok {b : Bool} {Q : Value → Shared → Prop} (I : Inv X pins σ H s) (e : H a = some (.ins C dx fs)) (c : Cls X.K C) (n : NoAttr X.K C f) (l : fs.lookup f = some v)
    (h : ∀ u s', Inv X pins σ H s' → RelV v u → Q u s') : wpAny (model X.prog X.w) A (getAttr (.ref a) f b) Q E s := by
  obtain ⟨mA, O, r, _, _, _⟩ := ins_get I.hok e
  obtain ⟨u, hu, ru⟩ := RelO.some_of (v := v) (o := mA f) (by rw [← l]; exact r f)
  exact get_map I.kIn O (c.get f) c.hd n hu (handed_of ru) (h u _ (I.tok _) ru)

theorem getmeth_ok {m : Str} {g : Addr} {pl : Sem Bool} {Q : Value × List Value → Shared → Prop} (I : Inv X pins σ H s) (e : H a = some (.ins C dx fs)) (c : Cls X.K C) (k : Meth X.K C m g) (l : fs.lookup m = none)
    (h : Q (.ref g, [.ref a]) s) : wpAny (model X.prog X.w) A (getMethod (.ref a) m pl) Q E s := by
  obtain ⟨mA, O, r, _, _, _⟩ := ins_get I.hok e
  have hn : mA m = none := RelO.none_of (by rw [← l]; exact r m)
  exact get_meth I.kIn O (c.get m) k.at_ k.fn hn h

theorem setattr_ok {y : V} {u : Value} {Q : Unit → Shared → Prop} (I : Inv X pins σ H s) (e : H a = some (.ins C dx fs)) (c : Cls X.K C) (n : NoAttr X.K C f) (hl : fs.length < 1000) (ry : RelV y u)
    (h : ∀ s', Inv X pins σ (upd H a (.ins C dx (putF f y fs))) s' → Q () s') : wpAny (model X.prog X.w) A (setAttr (.ref a) f u) Q E s := by
  obtain ⟨mA, O, r, wi, _, ho⟩ := ins_get I.hok e
  have hz : (fs.map (·.1)).length ≤ sizeLine := by rw [List.length_map, sizeLine_eq]; omega
  refine set_map I.kIn O c.sa c.po n.taker c.hd wi hz fun h' O' sb => h _ ?_
  have hd : ∃ o, h'.get? dx = some o := let ⟨o, _, _, e', _⟩ := O'.ns; ⟨o, e'⟩
  refine I.write (x := a) (e := dx) (by rw [e]; exact True.intro) (.inr ho) (fun b q hb z => (sb.2 b hb).trans z) hd ?_
  refine ⟨by rw [upd_ne O.ne]; exact ho, ?_, O.ne, O'.obj, _, O'.ns, fun g => ?_, fun g hg => ?_⟩
  · have := length_putF f y fs; omega
  · show RelO ((putF f y fs).lookup g) (if g = f then some u else mA g)
    rw [lookup_putF]
    by_cases q : g = f
    · rw [if_pos q, if_pos q]; exact ry
    · rw [if_neg q, if_neg q]; exact r g
  · by_cases q : g = f
    · rw [q]; exact (keys_putF f y fs).1
    · refine (keys_putF f y fs).2 g (wi g fun z => hg ?_)
      show (if g = f then some u else mA g) = none
      rw [if_neg q]; exact z

/-- a new instance, tracked, without attributes -/
theorem Inv.made (I : Inv X pins σ H s) : Inv X pins σ (upd (upd H s.heap.objs.size (.own (s.heap.objs.size + 1))) (s.heap.objs.size + 1) (.ins C s.heap.objs.size []))
    { s with heap := (s.heap.push PySem.W.emptyDict).push (PySem.W.instObj C s.heap.objs.size) } := by
  have e1 : (s.heap.push PySem.W.emptyDict).get? s.heap.objs.size = some PySem.W.emptyDict := Heap.get?_push_size s.heap rfl
  have e2 : ((s.heap.push PySem.W.emptyDict).push (PySem.W.instObj C s.heap.objs.size)).get? (s.heap.objs.size + 1) = some (PySem.W.instObj C s.heap.objs.size) := by
    have := Heap.get?_push_size (s.heap.push PySem.W.emptyDict) (o := PySem.W.instObj C s.heap.objs.size) rfl
    rwa [Heap.size_push] at this
  have e3 : (s.heap.push PySem.W.emptyDict).Ns s.heap.objs.size (fun _ => none) := ⟨PySem.W.emptyDict, #[], _, e1, rfl, (fun e he => absurd he (by simp)), fun _ => rfl⟩
  have I1 := I.laid (a := s.heap.objs.size) (o := .own (s.heap.objs.size + 1)) (h' := s.heap.push PySem.W.emptyDict) (t' := s.toks) (fun b u q => Heap.get?_push_of_some _ q) (Nat.le_refl _) ⟨_, e1⟩
  refine I1.laid (a := s.heap.objs.size + 1) (o := .ins C s.heap.objs.size []) (t' := s.toks) (fun b u q => Heap.get?_push_of_some _ q) (Nat.le_of_eq (Heap.size_push _ _)) ?_
  have ne : s.heap.objs.size ≠ s.heap.objs.size + 1 := Nat.ne_of_lt (Nat.lt_succ_self _)
  refine ⟨by rw [upd_ne ne, upd_same], Nat.zero_le _, ne, e2, fun _ => none, (Heap.Ns1.of_empty e3).at fun o q => Heap.get?_push_of_some _ q, fun _ => True.intro, fun y hy => absurd rfl hy⟩

/-- e.f where nothing but the object is asked: through attributeBase (super) and the last hold -/
theorem attr_of {prog : Program} {w : World} {env : Env} {e : Expr} {f : Str} {pos : Pos} {s : Shared} {Q : Value → Shared → Prop} (hb : attributeBase e f env (eval e env) = eval e env)
    (h : wpAny (model prog w) A (eval e env) (fun o s₁ => wpAny (model prog w) A (getAttr o f true) Q E s₁) E s) : wpAny (model prog w) A (eval (.Attribute e f pos) env) Q E s :=
  Attribute_any_ h (by rw [arm_eval_Attribute, hb])
end

/-! ### readings and rules -/
/-- e.f, an attribute of the instance -/
def tFld (K : PySem.W.Frag) (ta : TE) (f : Str) : TE := fun σ H Q => ta σ H fun x H1 => ∃ a C dx fs v, x = .ref a ∧ H1 a = some (.ins C dx fs) ∧ Cls K C ∧ NoAttr K C f ∧ fs.lookup f = some v ∧ Q v H1
/-- e.f, a constant of the class -/
def tCon (K : PySem.W.Frag) (ta : TE) (f : Str) : TE := fun σ H Q => ta σ H fun x H1 => ∃ a C dx fs v u, x = .ref a ∧ H1 a = some (.ins C dx fs) ∧ Cls K C ∧ Con K C f v u ∧ fs.lookup f = none ∧ Q v H1
/-- e.f = value -/
def sFld (K : PySem.W.Frag) (ta tv : TE) (f : Str) : TS := fun D σ H => tv σ H fun y H1 => ta σ H1 fun x H2 => ∃ a C dx fs, x = .ref a ∧ H2 a = some (.ins C dx fs) ∧ Cls K C ∧ NoAttr K C f ∧ fs.length < 1000 ∧
  D.nx σ (upd H2 a (.ins C dx (putF f y fs)))
/-- an augmented operator on two values -/
def InOp (X : Cx) (op : Operator) (rd : V → V → Hp → VK → Prop) : Prop :=
  ∀ (pins : List (Addr × Obj)) (s : Shared) (σ : St) (H : Hp) (x y : V) (u v : Value) (Q : VK), Inv X pins σ H s → RelV x u → RelV y v → rd x y H Q → wpAny (model X.prog X.w) X.A (inplaceOp op u v) (EP X pins σ Q) X.xe s
/-- e.f op= value -/
def sFldAug (K : PySem.W.Frag) (ta tv : TE) (rd : V → V → Hp → VK → Prop) (f : Str) : TS := fun D σ H => ta σ H fun x H1 => ∃ a C dx fs v, x = .ref a ∧ H1 a = some (.ins C dx fs) ∧ Cls K C ∧ NoAttr K C f ∧ fs.lookup f = some v ∧
  tv σ H1 fun y H2 => rd v y H2 fun z H3 => ∃ dx' fs', H3 a = some (.ins C dx' fs') ∧ fs'.length < 1000 ∧ D.nx σ (upd H3 a (.ins C dx' (putF f z fs')))

section
variable {X : Cx} {o e value : Expr} {f : Str} {pos pos' tpos : Pos} {ta tv : TE}
theorem pe_fld (he : PE X e ta) (hb : attributeBase e f X.env (eval e X.env) = eval e X.env) : PE X (.Attribute e f pos) (tFld X.K ta f) := by
  intro pins s σ H Q I h
  refine attr_of hb (thn (he pins s σ H _ I h) fun u s1 ⟨x, H1, I1, rx, a, C, dx, fs, v, ex, ea, c, n, l, q⟩ => ?_)
  subst ex
  obtain rfl : u = Value.ref a := rx
  exact getattr_ok I1 ea c n l fun u' s2 I2 ru => ⟨v, H1, I2, ru, q⟩
theorem ps_fld (ha : PE X o ta) (hv : PE X value tv) (hs : swapsWith value (some (.Attribute o f pos')) pos.line X.env = pure false) : PS X (.Assign [.Attribute o f pos'] value pos) (sFld X.K ta tv f) := by
  intro pins s σ H D I h
  refine plainObj_wpAny_Assign_Attribute (thn (hv pins s σ H _ I h) fun u s1 ⟨y, H1, I1, ry, q⟩ => thn (ha pins s1 σ H1 _ I1 q) fun ov s2 ⟨x, H2, I2, rx, a, C, dx, fs, ex, ea, c, n, l, q2⟩ => ?_) hs
  subst ex
  obtain rfl : ov = Value.ref a := rx
  exact setattr_ok I2 ea c n l ry fun s3 I3 => ⟨σ, _, I3, q2⟩
def rAdd : V → V → Hp → VK → Prop := fun x y H Q => ∃ i j, x = .int i ∧ y = .int j ∧ Q (.int (i + j)) H
def rSub : V → V → Hp → VK → Prop := fun x y H Q => ∃ i j, x = .int i ∧ y = .int j ∧ Q (.int (i - j)) H
end

/-! ### isinstance -/
section
variable {X : Cx} {pins : List (Addr × Obj)} {σ : St} {H : Hp} {s : Shared} {A : Around} {E : Value → Shared → Prop} {Q : Value → Shared → Prop} {c : Value} {b : Bool}
/-- the type of a value, as the fragment's deciders take it; for an instance its class -/
inductive TyOf (K : PySem.W.Frag) (H : Hp) : V → Value → Prop where
  | non : TyOf K H .non (.type "NoneType")
  | bl (x : Bool) : TyOf K H (.bl x) (.type "bool")
  | int (i : Int) : TyOf K H (.int i) (.type "int")
  | str (x : Str) : TyOf K H (.str x) (.type "str")
  | flt (x : UInt64) : TyOf K H (.flt x) (.type "float")
  | lst {a : Addr} {xs : List V} (e : H a = some (.lst xs)) : TyOf K H (.ref a) (.type "list")
  | frz {a : Addr} {o : Obj} {xs : List V} (e : H a = some (.frz o (.lst xs))) : TyOf K H (.ref a) (.type "list")
  | tup {a : Addr} {xs : List V} (e : H a = some (.tup xs)) : TyOf K H (.ref a) (.type "tuple")
  | dK {a : Addr} {kvs : List (Key × V)} (e : H a = some (.dK kvs)) : TyOf K H (.ref a) (.type "dict")
  | dT {a : Addr} {kvs : List (List Key × V)} (e : H a = some (.dT kvs)) : TyOf K H (.ref a) (.type "dict")
  | ins {a C dx : Addr} {fs : List (Str × V)} (e : H a = some (.ins C dx fs)) (cl : Cls K C) (ha : PySem.W.findIn K (.ref C) "__class__" = some (some (.builtin "object.__class__")))
      (hn : PySem.W.specialIn K (.builtin "object.__class__") "__get__" = some (some (.builtin "getset_descriptor.__get__"))) (htk : PySem.W.takesIn K (.builtin "object.__class__") = some true)
      (hm : PySem.W.mroIn K C (.type "object") = some true) : TyOf K H (.ref a) (.ref C)
  | exc {a C : Addr} (e : H a = some (.exc (.ref C))) (F : ExcK K C) : TyOf K H (.ref a) (.ref C)
/-- isinstance(x, c) for one class c, a built-in or an own one: kitOne's answer -/
theorem isinst_ok {x : V} {u t : Value} (I : Inv X pins σ H s) (rx : RelV x u) (ty : TyOf X.K H x t) (e : PySem.W.kitOne X.K t c = some b) (h : ∀ tk, Q (.bool b) { s with toks := tk }) :
    wpAny (model X.prog X.w) A (call (.builtin "isinstance") [u, c]) Q E s := by
  cases ty with
  | non => cases (show u = Value.none from rx); exact PySem.W.kia_one PySem.W.kitx_none I.kIn True.intro e (fun z => nomatch z) h
  | bl y => cases (show u = Value.bool y from rx); exact PySem.W.kia_one PySem.W.kitx_bool I.kIn True.intro e (fun z => nomatch z) h
  | int i => obtain ⟨t, q⟩ := (show ∃ t, u = Value.int i t from rx); cases q; exact PySem.W.kia_one PySem.W.kitx_int I.kIn True.intro e (fun z => nomatch z) h
  | str y => obtain ⟨t, q⟩ := (show ∃ t, u = Value.str y t from rx); cases q; exact PySem.W.kia_one PySem.W.kitx_str I.kIn True.intro e (fun z => nomatch z) h
  | flt y => obtain ⟨t, q⟩ := (show ∃ t, u = Value.float y t from rx); cases q; exact PySem.W.kia_one PySem.W.kitx_float I.kIn True.intro e (fun z => nomatch z) h
  | @lst a xs ea =>
    cases (show u = Value.ref a from rx)
    obtain ⟨_, _, n, _, h1⟩ := (show ObjOk X.prog X.w H s.heap a (.lst xs) from I.hok a _ ea)
    exact PySem.W.kia_one PySem.W.kitx_list I.kIn ⟨_, h1, rfl⟩ e (fun z => nomatch z) h
  | @frz a ob xs ea =>
    cases (show u = Value.ref a from rx)
    obtain ⟨_, _, _, n, _, h1⟩ := (show ObjOk X.prog X.w H s.heap a (.frz ob (.lst xs)) from I.hok a _ ea)
    exact PySem.W.kia_one PySem.W.kitx_list I.kIn ⟨_, h1, rfl⟩ e (fun z => nomatch z) h
  | @tup a xs ea =>
    cases (show u = Value.ref a from rx)
    obtain ⟨_, _, _, p⟩ := (show ObjOk X.prog X.w H s.heap a (.tup xs) from I.hok a _ ea)
    obtain ⟨o, h1, h2, _⟩ := p
    exact PySem.W.kia_one PySem.W.kitx_tuple I.kIn ⟨o, h1, h2⟩ e (fun z => nomatch z) h
  | @dK a kvs ea =>
    cases (show u = Value.ref a from rx)
    obtain ⟨_, _, vs, _, p⟩ := (show ObjOk X.prog X.w H s.heap a (.dK kvs) from I.hok a _ ea)
    obtain ⟨o, es, ep, h1, h2, _⟩ := p
    exact PySem.W.kia_one PySem.W.kitx_dict I.kIn ⟨o, h1, h2.1⟩ e (fun z => nomatch z) h
  | @dT a kvs ea =>
    cases (show u = Value.ref a from rx)
    obtain ⟨_, _, xs, _, o, es, ep, h1, h2, _⟩ := (show ObjOk X.prog X.w H s.heap a (.dT kvs) from I.hok a _ ea)
    exact PySem.W.kia_one PySem.W.kitx_dict I.kIn ⟨o, h1, h2.1⟩ e (fun z => nomatch z) h
  | @exc a C ea F =>
    cases (show u = Value.ref a from rx)
    obtain ⟨oe, vs, h1, h2, h3, h4, _⟩ := (show ObjOk X.prog X.w H s.heap a (.exc (.ref C)) from I.hok a _ ea)
    refine PySem.W.kia_one (kitx_exc F) I.kIn ⟨oe, h1, h2, ?_, ?_⟩ e (fun z => nomatch z) h
    · unfold PySem.W.notCls; rw [h4]
    · rw [h3]; trivial
  | @ins a C dx fs ea cl ha hn htk hm =>
    cases (show u = Value.ref a from rx)
    obtain ⟨mA, O, _⟩ := ins_get I.hok ea
    obtain ⟨od, J, _⟩ := O.look
    exact PySem.W.kia_one (PySem.W.kitx_own (cl.get _) cl.hd ha hn htk hm) I.kIn J e (fun z => nomatch z) h
end
end L2

namespace L2
open PySem PySem.Spec PyProof.Rows

/-! ### room -/
structure Room (k : Nat) (A : Around) : Prop where
  dp : A.depth + 3 * k + 5 < recursionLimit
  un : A.units + 16 * k + 200 < cLine
theorem Room.mono {j k : Nat} {A : Around} (r : Room k A) (h : j ≤ k) : Room j A := ⟨by have := r.dp; omega, by have := r.un; omega⟩
theorem Room.deeper {k : Nat} {A : Around} (r : Room (k + 1) A) (env : Env) : Room k (A.deeper env) :=
  ⟨by have := r.dp; show A.depth + 1 + 3 * k + 5 < _; omega, by have := r.un; show A.units + 3 + 16 * k + 200 < _; omega⟩
theorem make_depth {A : Around} {C : Addr} {us : List Value} {kw : List (Str × Value)} : (A.under (.builtin "type.__call__" ⟨.ref C :: us, kw⟩)).depth = A.depth + 1 := by
  first | rfl | simp [Around.under, Code.weight, Code.isCreation, Code.isGuard, Code.isCaller, Code.frames, Code.isFrame, guardIds]
theorem make_units {A : Around} {C : Addr} {us : List Value} {kw : List (Str × Value)} : (A.under (.builtin "type.__call__" ⟨.ref C :: us, kw⟩)).units = A.units + 1 := by
  first | rfl | simp [Around.under, Code.cUnits, Code.frames, Code.isFrame]
theorem Room.make {k : Nat} {A : Around} (r : Room (k + 1) A) (C : Addr) (us : List Value) (kw : List (Str × Value)) : Room k (A.under (.builtin "type.__call__" ⟨.ref C :: us, kw⟩)) :=
  ⟨by have := r.dp; rw [make_depth]; omega, by have := r.un; rw [make_units]; omega⟩
theorem Room.depth {k : Nat} {A : Around} (r : Room k A) : A.depth < recursionLimit := by have := r.dp; omega
theorem Room.units {k : Nat} {A : Around} (r : Room k A) : A.units + 64 < cLine := by have := r.un; omega
/-! ### argument lists and displays -/
def tNil : TA := fun _ H Q => Q [] H
def tCons (ta : TE) (tr : TA) : TA := fun σ H Q => ta σ H fun x H1 => tr σ H1 fun xs H2 => Q (x :: xs) H2
section
variable {X : Cx} {e : Expr} {es : List Expr} {te : TE} {t : TA} {pos : Pos}
theorem pa_nil : PA X [] tNil := fun _ _ _ _ H Q I h => Calls.spliced_nil ⟨[], H, I, .nil, h⟩
theorem pa_cons (ha : PE X e te) (hr : PA X es t) (hs : starEach (e :: es) X.env = (false, eval e X.env) :: starEach es X.env := by rfl) : PA X (e :: es) (tCons te t) := by
  intro pos pins s σ H Q I h
  rw [hs]
  show wpAny _ _ (spliced ((false, eval e X.env) :: backTo pos (starEach es X.env))) _ _ s
  refine Calls.spliced_cons (thn (ha pins s σ H _ I h) fun u s1 ⟨x, H1, I1, r1, q1⟩ => ?_)
  exact thn (hr pos pins s1 σ H1 _ I1 q1) fun us s2 ⟨xs, H2, I2, r2, q2⟩ => ⟨x :: xs, H2, I2, .cons r1 r2, q2⟩

/-- a tuple, a list of written items -/
def tTup (t : TA) : TE := fun σ H Q => t σ H fun xs H1 => xs.length ≤ sizeLine ∧ ∀ p, H1 p = none → Q (.ref p) (upd H1 p (.tup xs))
def tLst (t : TA) : TE := fun σ H Q => t σ H fun xs H1 => xs.length ≤ sizeLine ∧ ∀ p, H1 p = none → Q (.ref p) (upd H1 p (.lst xs))
theorem pe_lst (h : PA X es t) : PE X (.List es pos) (tLst t) := by
  intro pins s σ H Q I hq
  refine wpAny_List_spliced (thn (h pos pins s σ H _ I hq) fun us s1 ⟨xs, H1, I1, r, z, q⟩ => ⟨by rw [← r.length]; exact z, ?_⟩)
  have hf : H1 s1.heap.objs.size = none := I1.hok.fresh (Nat.le_refl _)
  refine ⟨.ref s1.heap.objs.size, upd H1 s1.heap.objs.size (.lst xs), I1.laid (t' := s1.toks) (fun b u e => Heap.get?_push_of_some _ e) (Nat.le_refl _) ?_, rfl, q _ hf⟩
  exact ⟨z, us, 0, r, Heap.get?_push_size _ rfl⟩
end

/-! ### what a def promises -/
/-- a def's promise: the bound arguments in the parameters' order, the heap, the wanted end, the wanted exception -/
abbrev Sp := List V → Hp → VK → XK → Prop
/-- how an exception lies behind a call (file 08 gives it): the callers' frames, abstract heap and state ahead of the call, the wish, the exception, the state -/
abbrev CXT := List Env → Hp → Shared → XK → Value → Shared → Prop

/-- the state at a call -/
structure Env0 (P : Program) (w : World) (K : PySem.W.Frag) (mg : Str → Option Value) (base : Heap) (A : Around) (outer : List Env) (s : Shared) (H : Hp) : Prop where
  frames : A.frames = some outer
  mod : Mod K mg base
  bs : ∀ b o, base.get? b = some o → s.heap.get? b = some o ∧ H b = none
  bsz : base.objs.size ≤ s.heap.objs.size
  funs : s.heap.FunFrames base outer
  frf : ∀ b ∈ frs outer, H b = none
  hok : HOk P w H s.heap
  bare : AllBare s.gens
  hd : HdE A H
/-- a call's end -/
def CE (outer : List Env) (P : Program) (w : World) (H : Hp) (s : Shared) (Q : VK) (u : Value) (s' : Shared) : Prop :=
  ∃ v H', s'.os = s.os ∧ AllBare s'.gens ∧ Un (frs outer) [] H H' s.heap s'.heap ∧ HOk P w H' s'.heap ∧ RelV v u ∧ Q v H'
def CR (CX : CXT) (outer : List Env) (P : Program) (w : World) (H : Hp) (s : Shared) (Q : VK) (E : XK) (r : Result) (s' : Shared) : Prop :=
  match r with
  | .ok (.ret u) => CE outer P w H s Q u s'
  | .ok _ => False
  | .error e => CX outer H s E e s'
abbrev CX0 : CXT := fun _ _ _ _ _ _ => False
/-- what never raises is called anywhere, else where nothing is handled -/
def Calm (CX : CXT) (A : Around) : Prop := CX = CX0 ∨ A.handled = none
structure FnOk (P : Program) (w : World) (K : PySem.W.Frag) (mg : Str → Option Value) (base : Heap) (CX : CXT) (k : Nat) (f : Addr) (fd : FuncData) (ps : List Str) (sp : Sp) : Prop where
  len : ∀ vs H Q E, sp vs H Q E → vs.length = ps.length
  run : ∀ (A : Around) (outer : List Env) (s : Shared) (H : Hp) (args : Args) (us : List Value) (vs : List V) (Q : VK) (E : XK), Room k A → Calm CX A → Env0 P w K mg base A outer s H → BindsTo s fd args (ps.zip us) → Vals vs us → sp vs H Q E →
    codeAny (model P w) A (.call (.ref f) args) (CR CX outer P w H s Q E) s
theorem Env0.make {P : Program} {w : World} {K : PySem.W.Frag} {mg : Str → Option Value} {base : Heap} {A : Around} {outer : List Env} {s : Shared} {H : Hp} (e : Env0 P w K mg base A outer s H) (C : Addr) (us : List Value) (kw : List (Str × Value)) :
    Env0 P w K mg base (A.under (.builtin "type.__call__" ⟨.ref C :: us, kw⟩)) outer s H := ⟨by first | exact e.frames | (simpa [Around.under, Code.envs, Code.isFrame, pushEnvs] using e.frames), e.mod, e.bs, e.bsz, e.funs, e.frf, e.hok, e.bare, e.hd⟩
section
variable {X : Cx} {pins : List (Addr × Obj)} {σ : St} {H : Hp} {s s' : Shared}
/-- from a body: what a callee wants -/
theorem Inv.env0 (I : Inv X pins σ H s) : Env0 X.prog X.w X.K X.mg X.base X.A X.stack s H :=
  ⟨I.ok.frames, I.ok.mod, I.bs, Nat.le_trans I.ok.bsz I.sz, I.stack, I.stkFree, I.hok, I.bare, I.hdE⟩
/-- behind a call -/
theorem Inv.after {Q : VK} {u : Value} (I : Inv X pins σ H s) (h : CE X.stack X.prog X.w H s Q u s') : EP X pins σ Q u s' := by
  obtain ⟨v, H', os, bare, un, hok, r, q⟩ := h
  obtain ⟨hh, g, d, t, os'⟩ := s'
  obtain rfl : os' = s.os := os
  exact ⟨v, H', I.call (h' := hh) (g' := g) (d' := d) (t' := t) (ch := []) un hok bare (fun b z => absurd z (by simp)), r, q⟩
end

/-! ### calls -/
/-- f(..): the written arguments, then the defaults dvs; E: what is wanted of an exception -/
def tCall (sp : Sp) (dvs : List V) (E : XK) (t : TA) : TE := fun σ H Q => t σ H fun vs H1 => sp (vs ++ dvs) H1 Q E
/-- o.m(..) of an instance of the class at C -/
def tMeth (C : Addr) (m : Str) (sp : Sp) (dvs : List V) (E : XK) (ta : TE) (t : TA) : TE := fun σ H Q => ta σ H fun x H1 => ∃ a dx fs, x = .ref a ∧ H1 a = some (.ins C dx fs) ∧ fs.lookup m = none ∧
  t σ H1 fun vs H2 => sp (x :: (vs ++ dvs)) H2 Q E
/-- C(..): a new instance and its dict, then __init__ -/
def tMake (C : Addr) (sp : Sp) (dvs : List V) (E : XK) (t : TA) : TE := fun σ H Q => t σ H fun vs H1 => ∀ x dx, H1 x = none → H1 dx = none → dx ≠ x →
  sp (.ref x :: (vs ++ dvs)) (upd (upd H1 dx (.own x)) x (.ins C dx [])) (fun v H2 => v = .non ∧ Q (.ref x) H2) E

/-- how the parameters are bound: us the positional arguments, kw the keywords' values by name, ds the defaults that fill up -/
def Binds (K : PySem.W.Frag) (fd : FuncData) (ps : List Str) (ds : List Value) : Prop :=
  ∀ (s : Shared) (us : List Value), K.In s.heap → (us ++ ds).length = ps.length → BindsTo s fd ⟨us, []⟩ (ps.zip (us ++ ds))
/-- every parameter is given -/
theorem Binds.all {K : PySem.W.Frag} {fd : FuncData} {ps : List Str} (h : ∀ us : List Value, us.length = ps.length → bindArgs fd ⟨us, []⟩ = pure (ps.zip us)) : Binds K fd ps [] := fun s us _ hl => by
  rw [List.append_nil] at hl ⊢
  exact .of_eq (h us hl)

/-- an exception of a callee reaches what this body wants of exceptions -/
def Passes (CX : CXT) (X : Cx) (E : XK) : Prop := ∀ (pins : List (Addr × Obj)) (σ : St) (H : Hp) (s : Shared) (e : Value) (s' : Shared), Inv X pins σ H s → CX X.stack H s E e s' → X.xe e s'

section
variable {X : Cx} {CX : CXT} {k : Nat} {f C : Addr} {fd : FuncData} {ps : List Str} {sp : Sp} {dvs : List V} {ds : List Value} {E : XK} {x m : Str} {p pos apos : Pos} {e o : Expr} {es : List Expr} {ta : TE} {t : TA}

/-- the callee runs -/
theorem run_fn {pins : List (Addr × Obj)} {σ : St} {H : Hp} {s : Shared} {Q : VK} {us : List Value} {vs : List V} (F : FnOk X.prog X.w X.K X.mg X.base CX k f fd ps sp) (hr : Room k X.A) (hb : Binds X.K fd ps ds) (hd : Vals dvs ds) (hx : Passes CX X E)
    (I : Inv X pins σ H s) (r : Vals vs us) (h : sp (vs ++ dvs) H Q E) (hcm : Calm CX X.A := by first | assumption | exact Or.inl rfl | exact Or.inr (by assumption)) : wpAny (model X.prog X.w) X.A (call (.ref f) us) (EP X pins σ Q) X.xe s := by
  have r2 : Vals (vs ++ dvs) (us ++ ds) := r.append hd
  have hl : (us ++ ds).length = ps.length := by rw [← r2.length]; exact F.len _ _ _ _ h
  refine wpAny_call (codeAny_mono (F.run X.A X.stack s H ⟨us, []⟩ (us ++ ds) (vs ++ dvs) Q E hr hcm I.env0 (hb s us I.kIn hl) r2 h) fun r s' hq => ?_)
  cases r with
  | error e => exact hx pins σ H s e s' I hq
  | ok fl =>
    cases fl with
    | ret u => exact I.after hq
    | next => exact False.elim hq
    | brk => exact False.elim hq
    | cont => exact False.elim hq

theorem pe_call (F : FnOk X.prog X.w X.K X.mg X.base CX k f fd ps sp) (hr : Room k X.A) (hg : Gl X x) (hm : X.mg x = some (.ref f)) (hk : PySem.W.keepIn X.K (.ref f) = true) (hb : Binds X.K fd ps ds) (hd : Vals dvs ds) (hx : Passes CX X E)
    (ha : PA X (e :: es) t) (hdb : (x == ("__debug__" : Str)) = false := by decide) (he : starEach (e :: es) X.env = (false, eval e X.env) :: starEach es X.env := by rfl) (hpl : (backTo pos (starEach es X.env)).any (·.1) = false := by rfl) (hcm : Calm CX X.A := by first | assumption | exact Or.inl rfl | exact Or.inr (by assumption)) :
    PE X (.Call (.Name x p) (e :: es) [] pos) (tCall sp dvs E t) := by
  intro pins s σ H Q I h
  refine wpAny_Call_Name_kw (ld_glob I hg hm ?_ hdb)
  refine PySem.W.callWith_K (h₀ := X.base) I.ok.mod.kin hk (thn (ha pos pins s σ H _ I h) fun us s1 ⟨vs, H1, I1, r, q⟩ => ⟨I1.kIn, ?_⟩) he hpl
  exact run_fn F hr hb hd hx I1 r q
theorem pe_call0 (F : FnOk X.prog X.w X.K X.mg X.base CX k f fd ps sp) (hr : Room k X.A) (hg : Gl X x) (hm : X.mg x = some (.ref f)) (hk : PySem.W.keepIn X.K (.ref f) = true) (hb : Binds X.K fd ps ds) (hd : Vals dvs ds) (hx : Passes CX X E)
    (hdb : (x == ("__debug__" : Str)) = false := by decide) (hcm : Calm CX X.A := by first | assumption | exact Or.inl rfl | exact Or.inr (by assumption)) : PE X (.Call (.Name x p) [] [] pos) (tCall sp dvs E tNil) := by
  intro pins s σ H Q I h
  refine wpAny_Call_Name_kw (ld_glob I hg hm ?_ hdb)
  exact PySem.W.callWith_K0 I.kIn hk (run_fn (us := []) F hr hb hd hx I .nil h)

/-- o.m() -/
theorem pe_meth0 {pl : Sem Bool} (he : PE X o ta) (c : Cls X.K C) (hm : Meth X.K C m f) (F : FnOk X.prog X.w X.K X.mg X.base CX k f fd ps sp) (hr : Room k X.A) (hb : Binds X.K fd ps ds) (hd : Vals dvs ds) (hx : Passes CX X E)
    (ht : eval (.Call (.Attribute o m apos) [] [] pos) X.env = (do
      let ov ← eval o X.env
      standAt apos.atName
      let (f, first) ← holding [ov] (getMethod ov m pl)
      callWith pos f first (backTo pos (starEach [] X.env)) (backToKw pos (keywordEach [] X.env))) := by rfl) (hcm : Calm CX X.A := by first | assumption | exact Or.inl rfl | exact Or.inr (by assumption)) :
    PE X (.Call (.Attribute o m apos) [] [] pos) (tMeth C m sp dvs E ta tNil) := by
  intro pins s σ H Q I h
  refine PySem.W.methodCall_KW (pl := pl) (thn (he pins s σ H _ I h) fun u s1 ⟨x, H1, I1, rx, a, dx, fs, ex, ea, l, q⟩ => ?_) ht
  subst ex
  obtain rfl : u = Value.ref a := rx
  refine getmeth_ok I1 ea c hm l ?_
  exact PySem.W.callWith_K0 (first := [.ref a]) I1.kIn hm.kp (run_fn (us := [.ref a]) (vs := [.ref a]) F hr hb hd hx I1 (.cons rfl .nil) q)

/-- what a class must have to be made -/
structure Mk (K : PySem.W.Frag) (C f : Addr) : Prop where
  makes : PySem.W.makesIn K C = true
  init : PySem.W.findIn K (.ref C) "__init__" = some (some (.ref f))
  fn : PySem.W.isFn K (.ref f) = true
  kp : PySem.W.keepIn K (.ref C) = true

theorem run_make {pins : List (Addr × Obj)} {σ : St} {H : Hp} {s : Shared} {Q : VK} {us : List Value} {vs : List V} (M : Mk X.K C f) (F : FnOk X.prog X.w X.K X.mg X.base CX k f fd ps sp) (hr : Room (k + 1) X.A) (hb : Binds X.K fd ps ds) (hd : Vals dvs ds)
    (hx : Passes CX X E) (I : Inv X pins σ H s) (r : Vals vs us)
    (h : ∀ x dx, H x = none → H dx = none → dx ≠ x → sp (.ref x :: (vs ++ dvs)) (upd (upd H dx (.own x)) x (.ins C dx [])) (fun v H2 => v = .non ∧ Q (.ref x) H2) E) (hcm : Calm CX X.A := by first | assumption | exact Or.inl rfl | exact Or.inr (by assumption)) :
    wpAny (model X.prog X.w) X.A (call (.ref C) us) (EP X pins σ Q) X.xe s := by
  have hq := h (s.heap.objs.size + 1) s.heap.objs.size (I.hok.fresh (Nat.le_succ _)) (I.hok.fresh (Nat.le_refl _)) (Nat.ne_of_lt (Nat.lt_succ_self _))
  have I2 := Inv.made (C := C) I
  have r2 : Vals (V.ref (s.heap.objs.size + 1) :: (vs ++ dvs)) (Value.ref (s.heap.objs.size + 1) :: (us ++ ds)) := .cons rfl (r.append hd)
  have hl : (Value.ref (s.heap.objs.size + 1) :: us ++ ds).length = ps.length := by
    have e := r2.length
    rw [F.len _ _ _ _ hq] at e
    exact e.symm
  refine wpAny_call (make_map (f := f) I.kIn M.makes M.init (beq_iff_eq.mp M.fn) (codeAny_mono (F.run _ X.stack _ _ ⟨Value.ref (s.heap.objs.size + 1) :: us, []⟩ (Value.ref (s.heap.objs.size + 1) :: (us ++ ds)) _ _ E (hr.make C us []) (show Calm CX _ from hcm)
    (I2.env0.make C us []) (hb _ (Value.ref (s.heap.objs.size + 1) :: us) I2.kIn hl) r2 hq) fun r s' hq' => ?_))
  cases r with
  | error e => exact hx pins σ _ _ e s' I2 hq'
  | ok fl =>
    cases fl with
    | ret u =>
      obtain ⟨v, H', I3, rv, ev, q3⟩ := I2.after hq'
      subst ev
      exact ⟨rv, ⟨V.ref (s.heap.objs.size + 1), H', I3, rfl, q3⟩⟩
    | next => exact False.elim hq'
    | brk => exact False.elim hq'
    | cont => exact False.elim hq'
theorem pe_make (M : Mk X.K C f) (F : FnOk X.prog X.w X.K X.mg X.base CX k f fd ps sp) (hr : Room (k + 1) X.A) (hg : Gl X x) (hm : X.mg x = some (.ref C)) (hb : Binds X.K fd ps ds) (hd : Vals dvs ds) (hx : Passes CX X E)
    (ha : PA X (e :: es) t) (hdb : (x == ("__debug__" : Str)) = false := by decide) (he : starEach (e :: es) X.env = (false, eval e X.env) :: starEach es X.env := by rfl) (hpl : (backTo pos (starEach es X.env)).any (·.1) = false := by rfl) (hcm : Calm CX X.A := by first | assumption | exact Or.inl rfl | exact Or.inr (by assumption)) :
    PE X (.Call (.Name x p) (e :: es) [] pos) (tMake C sp dvs E t) := by
  intro pins s σ H Q I h
  refine wpAny_Call_Name_kw (ld_glob I hg hm ?_ hdb)
  refine PySem.W.callWith_K (h₀ := X.base) I.ok.mod.kin M.kp (thn (ha pos pins s σ H _ I h) fun us s1 ⟨vs, H1, I1, r, q⟩ => ⟨I1.kIn, ?_⟩) he hpl
  exact run_make M F hr hb hd hx I1 r q
end

/-! ### keywords -/
/-- the values of the keywords, from the left -/
def PK (X : Cx) (kws : List Keyword) (t : TA) : Prop :=
  ∀ (pos : Pos) (pins : List (Addr × Obj)) (s : Shared) (σ : St) (H : Hp) (Q : List V → Hp → Prop), Inv X pins σ H s → t σ H Q → wpAny (model X.prog X.w) X.A (evalAll ((backToKw pos (keywordEach kws X.env)).map (·.2))) (AP X pins σ Q) X.xe s
section
variable {X : Cx} {CX : CXT} {k : Nat} {f C : Addr} {fd : FuncData} {ps ks : List Str} {sp : Sp} {E : XK} {x m : Str} {p pos apos kpos : Pos} {e o : Expr} {es : List Expr} {kws : List Keyword} {te ta : TE} {t tk : TA} {nm : Option Str}
/-- how a call with keywords binds: g puts the positional values us and the keywords' values ws (names ks) in the parameters' order, defaults among them -/
structure KBinds (K : PySem.W.Frag) (fd : FuncData) (ps ks : List Str) (g : List Value → List Value → List Value) (gV : List V → List V → List V) : Prop where
  to : ∀ (s : Shared) (us ws : List Value), K.In s.heap → (g us ws).length = ps.length → BindsTo s fd ⟨us, ks.zip ws⟩ (ps.zip (g us ws))
  rel : ∀ {vs : List V} {us : List Value} {zs : List V} {ws : List Value}, Vals vs us → Vals zs ws → Vals (gV vs zs) (g us ws)
def tCallK (sp : Sp) (gV : List V → List V → List V) (E : XK) (t tk : TA) : TE := fun σ H Q => t σ H fun vs H1 => tk σ H1 fun zs H2 => sp (gV vs zs) H2 Q E
variable {g : List Value → List Value → List Value} {gV : List V → List V → List V}
end

/-! ### a def's body keeps its promise -/
/-- names: the parameters first -/
structure FnScope (N P : List Str) (sc : Scope) : Prop where
  kind : sc.kind = .function
  co : sc.isCoroutine = false
  gen : sc.isGenerator = false
  nd : N.Nodup
  pre : N.take P.length = P
  par : ∀ x ∈ P, sc.names.lookup x = some .local ∨ sc.names.lookup x = some .cell
  nofree : ∀ y ∈ sc.names, y.2 ≠ .free

theorem bindL_out {kindOf : Str → Option NameKind} {x : Str} : ∀ {binds : List (Str × Value)} {m : Str → Option Value}, (∀ v, (x, v) ∉ binds) → bindL kindOf binds m x = m x
  | [], _, _ => rfl
  | (n, v) :: r, m, h => by
    unfold bindL
    rw [bindL_out fun w hw => h w (List.mem_cons_of_mem _ hw)]
    split
    · have : x ≠ n := by rintro rfl; exact h v List.mem_cons_self
      simp [this]
    · rfl
theorem bindC_out {kindOf : Str → Option NameKind} {x : Str} : ∀ {binds : List (Str × Value)} {m : Str → Option Value}, (∀ v, (x, v) ∉ binds) → bindC kindOf binds m x = m x
  | [], _, _ => rfl
  | (n, v) :: r, m, h => by
    unfold bindC
    rw [bindC_out fun w hw => h w (List.mem_cons_of_mem _ hw)]
    split
    · rfl
    · have : x ≠ n := by rintro rfl; exact h v List.mem_cons_self
      simp [this]
theorem bindL_get {kindOf : Str → Option NameKind} {x : Str} {v : Value} : ∀ {P : List Str} {vs : List Value} {i : Nat} {m : Str → Option Value}, P.Nodup → P[i]? = some x → vs[i]? = some v → kindOf x = some .local →
    bindL kindOf (P.zip vs) m x = some v
  | [], _, _, _, _, h, _, _ => by simp at h
  | _ :: _, [], _, _, _, _, h, _ => by simp at h
  | p :: P, w :: vs, 0, m, nd, h1, h2, hk => by
    simp at h1 h2; subst h1; subst h2
    show bindL kindOf ((p, w) :: P.zip vs) m p = _
    unfold bindL
    rw [bindL_out fun v hv => (List.nodup_cons.mp nd).1 (List.of_mem_zip hv).1, if_pos hk]
    simp
  | p :: P, w :: vs, i + 1, m, nd, h1, h2, hk => by
    show bindL kindOf ((p, w) :: P.zip vs) m x = _
    unfold bindL
    exact bindL_get (i := i) (List.nodup_cons.mp nd).2 (by simpa using h1) (by simpa using h2) hk
theorem bindC_get {kindOf : Str → Option NameKind} {x : Str} {v : Value} : ∀ {P : List Str} {vs : List Value} {i : Nat} {m : Str → Option Value}, P.Nodup → P[i]? = some x → vs[i]? = some v → kindOf x ≠ some .local →
    bindC kindOf (P.zip vs) m x = some v
  | [], _, _, _, _, h, _, _ => by simp at h
  | _ :: _, [], _, _, _, _, h, _ => by simp at h
  | p :: P, w :: vs, 0, m, nd, h1, h2, hk => by
    simp at h1 h2; subst h1; subst h2
    show bindC kindOf ((p, w) :: P.zip vs) m p = _
    unfold bindC
    rw [bindC_out fun v hv => (List.nodup_cons.mp nd).1 (List.of_mem_zip hv).1, if_neg hk]
    simp
  | p :: P, w :: vs, i + 1, m, nd, h1, h2, hk => by
    show bindC kindOf ((p, w) :: P.zip vs) m x = _
    unfold bindC
    exact bindC_get (i := i) (List.nodup_cons.mp nd).2 (by simpa using h1) (by simpa using h2) hk

/-- the names' values at the entry -/
def start (N : List Str) (vs : List V) : St := vs.map some ++ List.replicate (N.length - vs.length) none

/-- the context of a def's body, at its entry; an exception leaves the frame, then lies as CX says -/
def cxOf (CX : CXT) (P : Program) (w : World) (K : PySem.W.Frag) (mg : Str → Option Value) (base : Heap) (N : List Str) (qual : Str) (scope : Scope) (f : Addr) (cd : Value) (A : Around) (outer : List Env) (s : Shared) (H : Hp) (E : XK) : Cx where
  prog := P
  w := w
  K := K
  mg := mg
  base := base
  A := A.deeper (envOfC qual scope s.heap.objs.size f cd)
  N := N
  s₀ := s
  H₀ := H
  env := envOfC qual scope s.heap.objs.size f cd
  outer := outer
  stack := envOfC qual scope s.heap.objs.size f cd :: outer
  ex := []
  calm := true
  fn := fun _ => true
  pn := []
  tr := []
  fx := []
  xe := fun e s' => wpAny (model P w) (A.deeper (envOfC qual scope s.heap.objs.size f cd)) (leaving (envOfC qual scope s.heap.objs.size f cd) e) (fun _ s'' => CX outer H s E e s'') (fun e' s'' => CX outer H s E e' s'') s'

theorem cell_has {sc : Scope} {n : Nat} {x : Str} (h : sc.names.lookup x = some .cell) : ∃ c, (cellsFrom n sc.names []).lookup x = some c := by
  have q := PySem.W.cellsFrom_some sc.names n [] (.inl h)
  exact Option.isSome_iff_exists.mp q

theorem inv_start {CX : CXT} {P : Program} {w : World} {K : PySem.W.Frag} {mg : Str → Option Value} {base : Heap} {N ps : List Str} {qual : Str} {scope : Scope} {f : Addr} {cd : Value} {A : Around} {outer : List Env} {s s1 : Shared} {H : Hp} {E : XK} {us : List Value} {vs : List V}
    (S : FnScope N ps scope) (e0 : Env0 P w K mg base A outer s H) (hl : vs.length = ps.length) (r : Vals vs us)
    (x : InCallC s s.heap.objs.size (bindL (envOfC qual scope s.heap.objs.size f cd).kindOf (ps.zip us) fun _ => none) (cellsFrom (s.heap.objs.size + 1) scope.names []) (bindC (envOfC qual scope s.heap.objs.size f cd).kindOf (ps.zip us) fun _ => none) s1) :
    Inv (cxOf CX P w K mg base N qual scope f cd A outer s H E) [] (start N vs) H s1 := by
  have hpl : ps.length ≤ N.length := by have := congrArg List.length S.pre; rw [List.length_take] at this; omega
  obtain ⟨h1, tk, rfl, hk⟩ := x.done
  have noA : ∀ b : Addr, b ∉ (cxOf CX P w K mg base N qual scope f cd A outer s H E).ex := fun b z => absurd (show b ∈ ([] : List Addr) from z) (by simp)
  have hdX : A.handled = none ∨ ∃ (e : Addr) (c : Value), A.handled = some (.ref e) ∧ (H e = some (.exc c) ∨ (e, c) ∈ (cxOf CX P w K mg base N qual scope f cd A outer s H E).tr) := by
    rcases e0.hd with z | ⟨e, c, z1, z2⟩
    · exact .inl z
    · exact .inr ⟨e, c, z1, .inl z2⟩
  refine ⟨⟨e0.mod, S.kind, rfl, rfl, Nat.le_refl _, fun y z c h1 h2 => ?_, fun y hy => ?_, fun y c _ h => ?_, hdX, Around.frames_deeper e0.frames, .inr ⟨rfl, rfl⟩, fun b z => absurd z (noA b), e0.bs, e0.bsz, fun b _ _ => noA b, fun b z => absurd z (noA b), e0.funs, e0.frf⟩,
    rfl, e0.bare, Un.kept hk, ⟨_, x.toInCall.ns, fun i y v h1 h2 h3 => ?_⟩, fun y c h => ⟨_, x.cell y c h⟩, e0.hok.fresh (Nat.le_refl _), fun y c h => ?_, fun p hp => absurd (show p ∈ ([] : List (Addr × Obj)) from hp) (by simp), e0.hok.kept hk, ?_, fun p hp => absurd (show p ∈ ([] : List (Addr × Value)) from hp) (by simp), fun p hp => absurd (show p ∈ ([] : List (Str × Value)) from hp) (by simp)⟩
  · exact name_of_addr x.apart (PySem.mem_of_lookup h1) (PySem.mem_of_lookup h2)
  · have hy : scope.names.lookup y = some .cell ∨ scope.names.lookup y = some .free := hy
    rcases hy with hy | hy
    · exact cell_has hy
    · exact absurd rfl (S.nofree _ (PySem.mem_of_lookup hy))
  · exact Nat.le_of_lt (x.above y c (PySem.mem_of_lookup h))
  · have hi : i < vs.length := by
      unfold start at h2
      by_cases hi : i < vs.length
      · exact hi
      · rw [List.getElem?_append_right (by simpa using hi)] at h2
        rw [List.getElem?_replicate] at h2
        split at h2 <;> cases h2
    have ha : vs[i]? = some v := by
      unfold start at h2
      rw [List.getElem?_append_left (by simpa using hi), List.getElem?_map] at h2
      cases e : vs[i]? with
      | none => rw [e] at h2; cases h2
      | some a => rw [e] at h2; cases h2; rfl
    obtain ⟨u, hu, rv⟩ := r.get ha
    have hp : ps[i]? = some y := by
      rw [← S.pre, List.getElem?_take_of_lt (by omega)]; exact h1
    have ndP : ps.Nodup := by rw [← S.pre]; exact S.nd.sublist (List.take_sublist _ _)
    refine ⟨u, rv, ?_⟩
    rcases S.par y (List.mem_of_getElem? hp) with k | k
    · exact .inl ⟨k, bindL_get ndP hp hu k⟩
    · obtain ⟨c, e⟩ := cell_has (n := s.heap.objs.size + 1) k
      refine .inr ⟨.inl k, c, e, ?_⟩
      have q := x.cell y c e
      rw [bindC_get ndP hp hu (by show scope.names.lookup y ≠ _; rw [k]; decide)] at q
      exact q
  · exact e0.hok.fresh (Nat.le_of_lt (x.above y c (PySem.mem_of_lookup h)))
  · unfold start
    show _ = N.length
    rw [List.length_append, List.length_map, List.length_replicate]
    omega

/-- THE RULE: a def (or a method) of the text, by its body. The body's reading t is chosen for each entry; it is run at the parameters' values -/
theorem fn_of {CX : CXT} {P : Program} {w : World} {K : PySem.W.Frag} {mg : Str → Option Value} {base : Heap} {k : Nat} {f : Addr} {name qual : Str} {params : Arguments} {body : List Stmt} {scope : Scope} {dV kV doc pm cdv ct oc : Value} {an od : Option Addr}
    {osl : Array (Option Value)} {N ps : List Str} {sp : Sp} (lk : K.lookup f = some ⟨oc, od, .func (PySem.W.fnOf name qual params body scope dV kV doc pm an cdv ct), osl⟩) (hcd : PySem.W.codeIn K cdv qual = true) (S : FnScope N ps scope)
    (len : ∀ vs H Q E, sp vs H Q E → vs.length = ps.length)
    (hbody : ∀ (A : Around) (outer : List Env) (s : Shared) (H : Hp) (vs : List V) (Q : VK) (E : XK), Room k (A.deeper (envOfC qual scope s.heap.objs.size f cdv)) → Calm CX A → sp vs H Q E →
      ∃ t, PSs (cxOf CX P w K mg base N qual scope f cdv A outer s H E) body t ∧ t { nx := fun _ H' => Q .non H', rt := Q } (start N vs) H) :
    FnOk P w K mg base CX (k + 1) f (PySem.W.fnOf name qual params body scope dV kV doc pm an cdv ct) ps sp := by
  refine ⟨len, fun A outer s H args us vs Q E hr hcm e0 hb r hsp => ?_⟩
  have hl := len _ _ _ _ hsp
  have KX : K.In s.heap := e0.mod.kin.keeps fun b o e => (e0.bs b o e).1
  have lim : s.heap.NoLimit := e0.mod.nolimit.keeps fun b o e => (e0.bs b o e).1
  have hkind : ∀ y ∈ ps.zip us, scope.names.lookup y.1 = some .local ∨ (scope.names.lookup y.1 = some .cell ∧ ((cellsFrom (s.heap.objs.size + 1) scope.names []).lookup y.1).isSome = true) := fun ⟨n, v⟩ hy => by
    rcases S.par n (List.of_mem_zip hy).1 with q | q
    · exact .inl q
    · exact .inr ⟨q, PySem.W.cellsFrom_some _ _ _ (.inl q)⟩
  refine codeAny_call_function hr.depth (KX _ _ lk) rfl S.co S.gen rfl (PySem.W.codeRec_of KX hcd) (hb _ _ _ _ ?_)
  refine wpAny_newFunctionEnv_cells S.kind hkind fun env he s1 x => ?_
  subst he
  refine ⟨lim.keeps x.toInCall.keep, codeAny_func ?_⟩
  obtain ⟨t, ht, hq⟩ := hbody A outer s H vs Q E (hr.deeper _) hcm hsp
  have I : Inv (cxOf CX P w K mg base N qual scope f cdv A outer s H E) [] (start N vs) H s1 := inv_start S e0 hl r x
  refine wpAny_mono (ht [] s1 (start N vs) H _ I hq) (fun fl s' hs => ?_) fun e s' hs => hs
  have fin : ∀ {σ' : St} {H' : Hp} {v : V} {u : Value}, Inv (cxOf CX P w K mg base N qual scope f cdv A outer s H E) [] σ' H' s' → RelV v u → Q v H' → CE outer P w H s Q u s' :=
    fun {σ' H' v u} J rv q => ⟨v, H', J.os, J.bare, J.base, J.hok, rv, q⟩
  cases fl with
  | ret u =>
    obtain ⟨v, σ', H', J, rv, q⟩ := hs
    exact fin J rv q
  | next =>
    obtain ⟨σ', H', J, q⟩ := hs
    exact fin (v := V.non) (u := Value.none) J rfl q
  | brk =>
    obtain ⟨_, _, _, q⟩ := hs
    exact False.elim q
  | cont =>
    obtain ⟨_, _, _, q⟩ := hs
    exact False.elim q
end L2

namespace L2
open PySem PySem.Spec PyProof.Rows
section
variable {X : Cx} {x : Str} {p pos : Pos} {e : Expr} {es : List Expr} {t : TA} {id T : String} {r : List V → Hp → VK → Prop}

def tCB (r : List V → Hp → VK → Prop) (t : TA) : TE := fun σ H Q => t σ H fun vs H1 => r vs H1 Q
/-- f(e, ..), f a built-in function -/
theorem pe_callB (hc : CallR X (.builtin id) r) (hg : Gl X x) (hm : X.mg x = none) (hv : bootBuiltins x = some (.builtin id)) (ha : PA X (e :: es) t) (hn : x ≠ "__name__" := by decide) (hdb : (x == ("__debug__" : Str)) = false := by decide)
    (he : starEach (e :: es) X.env = (false, eval e X.env) :: starEach es X.env := by rfl) (hpl : (backTo pos (starEach es X.env)).any (·.1) = false := by rfl) : PE X (.Call (.Name x p) (e :: es) [] pos) (tCB r t) := by
  intro pins s σ H Q I h
  refine wpAny_Call_Name_kw (ld_blt I hg hm hv ?_ hn hdb)
  exact PyProof.Rows.callWith_builtin1 (thn (ha pos pins s σ H _ I h) fun us s1 ⟨vs, H1, I1, r1, q1⟩ => hc pins s1 σ H1 vs us Q I1 r1 q1) he hpl
/-- T(e, ..), T a built-in type -/
theorem pe_callTy (hc : CallR X (.type T) r) (hg : Gl X x) (hm : X.mg x = none) (hv : bootBuiltins x = some (.type T)) (ha : PA X (e :: es) t) (hn : x ≠ "__name__" := by decide) (hdb : (x == ("__debug__" : Str)) = false := by decide)
    (he : starEach (e :: es) X.env = (false, eval e X.env) :: starEach es X.env := by rfl) (hpl : (backTo pos (starEach es X.env)).any (·.1) = false := by rfl) : PE X (.Call (.Name x p) (e :: es) [] pos) (tCB r t) := by
  intro pins s σ H Q I h
  refine wpAny_Call_Name_kw (ld_blt I hg hm hv ?_ hn hdb)
  exact PyProof.Rows.callWith_type1 (thn (ha pos pins s σ H _ I h) fun us s1 ⟨vs, H1, I1, r1, q1⟩ => hc pins s1 σ H1 vs us Q I1 r1 q1) he hpl
end
end L2

namespace HT
open PySem PyProof.Rows

/-- t < u of tuples of ints -/
def lexLt : List Int → List Int → Bool
  | [], [] => false
  | [], _ :: _ => true
  | _ :: _, [] => false
  | x :: xs, y :: ys => if x = y then lexLt xs ys else decide (x < y)
section
open PySem.SeqAt
open PySem.AutoSeq1 (wpAny_loadPart')
open PySem.MeetsSeq PySem.MeetsSeq2 PySem.MeetsSeq3

end

section
variable {prog : Program} {w : World} {A : Around} {E : Value → Shared → Prop} {s : Shared}

/-! ### t[a:b], not the whole -/
/-- a slice's bound as a place among n (d where it is left out) -/
def sIx (n d : Nat) : Option Int → Nat
  | none => d
  | some v => if v < 0 then (v + (n : Int)).toNat else min v.toNat n
theorem sIx_none (n d : Nat) : sIx n d none = d := rfl
theorem sIx_nat (n d k : Nat) : sIx n d (some (k : Int)) = min k n := by
  show (if (k : Int) < 0 then ((k : Int) + (n : Int)).toNat else min (k : Int).toNat n) = min k n
  rw [if_neg (by omega), Int.toNat_natCast]
end
end HT

namespace L2
open PySem PySem.Spec PyProof.Rows

/-! ### the parts of a slice -/
abbrev TO := St → Hp → (Option Int → Hp → Prop) → Prop
/-- a slice's part (left out, or an int) -/
def PO (X : Cx) (e : Option Expr) (t : TO) : Prop :=
  ∀ (pins : List (Addr × Obj)) (s : Shared) (σ : St) (H : Hp) (Q : Option Int → Hp → Prop), Inv X pins σ H s → t σ H Q →
    wpAny (model X.prog X.w) X.A (evalPart e X.env) (fun u s' => ∃ o H', Inv X pins σ H' s' ∧ IsPart u o ∧ Q o H') X.xe s
def tNoPart : TO := fun _ H Q => Q none H
def tPart (t : TE) : TO := fun σ H Q => t σ H fun x H1 => ∃ i, x = .int i ∧ Q (some i) H1

section
variable {X : Cx} {e : Expr} {te : TE} {lo hi : Option Expr} {tl th : TO} {pos p2 : Pos}

theorem po_none : PO X none tNoPart := by
  intro pins s σ H Q I h
  rw [evalPart_none]
  exact wpAny_pure ⟨none, H, I, .none, h⟩
theorem po_some (h : PE X e te) : PO X (some e) (tPart te) := by
  intro pins s σ H Q I hw
  rw [evalPart_some]
  refine thn (h pins s σ H _ I hw) fun u s1 ⟨x, H1, I1, r1, q1⟩ => ?_
  obtain ⟨i, rfl, q⟩ := q1
  obtain ⟨t, rfl⟩ := r1
  exact ⟨some i, H1, I1, .int i t, q⟩

/-- what a slice of a value is, by values: the slice object stands at sl -/
def SlR (X : Cx) (r : V → Option Int → Option Int → Hp → VK → Prop) : Prop :=
  ∀ (pins : List (Addr × Obj)) (s : Shared) (σ : St) (H : Hp) (x : V) (v vl vu : Value) (lo hi : Option Int) (sl : Addr) (Q : VK), Inv X pins σ H s → RelV x v → s.heap.IsSliceOf sl vl vu .none → IsPart vl lo → IsPart vu hi → r x lo hi H Q →
    ∃ T id, typeLookup (.type T) "__getitem__" = pure (some (.builtin id)) ∧ s.TypeIs v T ∧ wpAny (model X.prog X.w) X.A (getItem v (.ref sl)) (EP X pins σ Q) X.xe s
def tSl (r : V → Option Int → Option Int → Hp → VK → Prop) (te : TE) (tl th : TO) : TE := fun σ H Q => te σ H fun x H1 => tl σ H1 fun l H2 => th σ H2 fun u H3 => r x l u H3 Q
/-- a[lo:hi], any a -/
theorem pe_slice {r : V → Option Int → Option Int → Hp → VK → Prop} (hr : SlR X r) (he : PE X e te) (hl : PO X lo tl) (hu : PO X hi th) : PE X (.Subscript e (.Slice lo hi none p2) pos) (tSl r te tl th) := by
  intro pins s σ H Q I h
  refine Subscript_ (thn (he pins s σ H _ I h) fun v s1 ⟨x, H1, I1, r1, q1⟩ => ?_)
  refine wpAny_Slice (thn (hl pins s1 σ H1 _ I1 q1) fun vl s2 ⟨l, H2, I2, pl, q2⟩ => thn (hu pins s2 σ H2 _ I2 q2) fun vu s3 ⟨u, H3, I3, pu, q3⟩ => ?_)
  rw [evalPart_none]
  refine wpAny_pure ?_
  have I4 : Inv X pins σ H3 { s3 with heap := s3.heap.push { cls := .type "slice", data := .fields #[vl, vu, .none] } } := I3.kept (t' := s3.toks) fun b ob q => Heap.get?_push_of_some _ q
  obtain ⟨T, id, hT, ht, hg⟩ := hr pins { s3 with heap := s3.heap.push { cls := .type "slice", data := .fields #[vl, vu, .none] } } σ H3 x v vl vu l u s3.heap.objs.size Q I4 r1 (Heap.IsSliceOf.new ..) pl pu q3
  show wpAny (model X.prog X.w) X.A (subscriptTail e (.Slice lo hi none p2) v (.ref s3.heap.objs.size)) (EP X pins σ Q) X.xe { s3 with heap := s3.heap.push { cls := .type "slice", data := .fields #[vl, vu, .none] } }
  exact tail_any (ops := [.ref s3.heap.objs.size, v]) ht hT hg (by with_unfolding_all rfl)

/-- the items of xs[lo:hi] -/
def cutV (xs : List V) (lo hi : Option Int) : List V := (xs.drop (HT.sIx xs.length 0 lo)).take (HT.sIx xs.length xs.length hi - HT.sIx xs.length 0 lo)
theorem cutV_length (xs : List V) (lo hi : Option Int) : (cutV xs lo hi).length ≤ xs.length := by
  unfold cutV
  rw [List.length_take, List.length_drop]
  omega
/-- t[lo:hi], not the whole of it (the whole would be t itself) -/
def rSlT (K : PySem.W.Frag) : V → Option Int → Option Int → Hp → VK → Prop := fun x lo hi H Q => ∃ a xs, x = .ref a ∧ SqT K H a xs ∧
  ¬ (HT.sIx xs.length 0 lo = 0 ∧ HT.sIx xs.length xs.length hi = xs.length) ∧ ∀ p, H p = none → Q (.ref p) (upd H p (.tup (cutV xs lo hi)))
/-! ### t < u, t + u -/
def rLtT (K : PySem.W.Frag) : R2 := fun x y H Q => ∃ a b ns ms, x = .ref a ∧ y = .ref b ∧ SqT K H a (ns.map V.int) ∧ SqT K H b (ms.map V.int) ∧ Q (.bl (HT.lexLt ns ms)) H
/-- t + u, t not empty: u empty gives t itself -/
def rCatT (K : PySem.W.Frag) : R2 := fun x y H Q => ∃ a b xs ys, x = .ref a ∧ y = .ref b ∧ SqT K H a xs ∧ SqT K H b ys ∧ xs ≠ [] ∧ xs.length + ys.length ≤ sizeLine ∧
  (ys = [] → Q (.ref a) H) ∧ (ys ≠ [] → ∀ p, H p = none → Q (.ref p) (upd H p (.tup (xs ++ ys))))
end
end L2

namespace L2
open PySem PySem.Spec PyProof.Rows

/-! ### places -/
/-- the place that an index of any sign means -/
def ixN (n : Nat) (i : Int) : Option Nat := if 0 ≤ i then (if i < n then some i.toNat else none) else if -(n : Int) ≤ i then some (i + n).toNat else none
def atI {α : Type} (xs : List α) (i : Int) : Option α := (ixN xs.length i).bind fun j => xs[j]?
theorem ixN_seq {n : Nat} {i : Int} {j : Nat} (h : ixN n i = some j) : seqIndex? i n = some j ∧ j < n ∧ -(n : Int) ≤ i ∧ i < n := by
  unfold ixN at h
  by_cases h0 : 0 ≤ i
  · rw [if_pos h0] at h
    by_cases h1 : i < n
    · rw [if_pos h1] at h
      have e : i.toNat = j := Option.some.inj h
      exact ⟨by rw [seqIndex_of h0 h1, e], by omega, by omega, h1⟩
    · rw [if_neg h1] at h; cases h
  · rw [if_neg h0] at h
    by_cases h1 : -(n : Int) ≤ i
    · rw [if_pos h1] at h
      have e : (i + n).toNat = j := Option.some.inj h
      exact ⟨by rw [seqIndex_neg (by omega) h1, e], by omega, h1, by omega⟩
    · rw [if_neg h1] at h; cases h
theorem atI_get {α : Type} {xs : List α} {i : Int} {v : α} (h : atI xs i = some v) : ∃ j, seqIndex? i xs.length = some j ∧ xs[j]? = some v ∧ j < xs.length ∧ -(xs.length : Int) ≤ i ∧ i < xs.length := by
  unfold atI at h
  cases e : ixN xs.length i with
  | none => rw [e] at h; cases h
  | some j =>
    rw [e] at h
    obtain ⟨h1, h2, h3, h4⟩ := ixN_seq e
    exact ⟨j, h1, h, h2, h3, h4⟩
theorem atI_nat {α : Type} {xs : List α} {j : Nat} {v : α} (h : xs[j]? = some v) : atI xs (j : Int) = some v := by
  have hj : j < xs.length := (List.getElem?_eq_some_iff.mp h).1
  have e : ixN xs.length (j : Int) = some j := by
    unfold ixN
    rw [if_pos (by omega), if_pos (by omega)]; simp
  unfold atI; rw [e]; exact h
/-! ### what may be subscripted -/
/-- what stands as an index of a plain subscript -/
def PlainIx (b : Expr) : Prop := ∀ o i, subscripted b false o i = operate [o, i] (getItem o i)
/-- a subscript by values -/
def IxR (X : Cx) (r : R2) : Prop :=
  ∀ (value slice : Expr) (pins : List (Addr × Obj)) (s : Shared) (σ : St) (H : Hp) (x y : V) (v u : Value) (Q : VK), Inv X pins σ H s → RelV x v → RelV y u → r x y H Q →
    subscripted slice false v u = operate [v, u] (getItem v u) → wpAny (model X.prog X.w) X.A (subscriptTail value slice v u) (EP X pins σ Q) X.xe s
/-- a call of a builtin's method by values: the receiver, the arguments -/
def MtR (X : Cx) (id : String) (r : V → List V → Hp → VK → Prop) : Prop :=
  ∀ (pins : List (Addr × Obj)) (s : Shared) (σ : St) (H : Hp) (x : V) (xs : List V) (v : Value) (us : List Value) (Q : VK), Inv X pins σ H s → RelV x v → Vals xs us → r x xs H Q →
    wpAny (model X.prog X.w) X.A (call (.builtin id) (v :: us)) (EP X pins σ Q) X.xe s
section
variable {X : Cx} {a b : Expr} {ta tb : TE} {pos : Pos}
/-- a[b] -/
theorem pe_ix {r : R2} (hr : IxR X r) (ha : PE X a ta) (hb : PE X b tb) (hs : PlainIx b) : PE X (.Subscript a b pos) (tOp r ta tb) := by
  intro pins s σ H Q I h
  exact Subscript_ (binT ha hb I h fun v u s2 x y H2 I2 rx ry q => hr a b pins s2 σ H2 x y v u Q I2 rx ry q (hs _ _))

def rIxL (K : PySem.W.Frag) : R2 := fun x y H Q => ∃ p xs i v, x = .ref p ∧ y = .int i ∧ SqL K H p xs ∧ atI xs i = some v ∧ Q v H
def rIxT (K : PySem.W.Frag) : R2 := fun x y H Q => ∃ p xs i v, x = .ref p ∧ y = .int i ∧ SqT K H p xs ∧ atI xs i = some v ∧ Q v H
def rIxS : R2 := fun x y H Q => ∃ z i c, x = .str z ∧ y = .int i ∧ z.length ≤ sizeLine ∧ atI z.cps.toList i = some c ∧ Q (.str ⟨#[c]⟩) H
theorem ix_list : IxR X (rIxL X.K) := by
  intro value slice pins s σ H x y v u Q I rx ry h hs
  obtain ⟨p, xs, i, z, rfl, rfl, hq, he, q⟩ := h
  cases rx
  obtain ⟨t, rfl⟩ := ry
  obtain ⟨its, r, pl, hz⟩ := I.list hq
  obtain ⟨j, h1, h2, h3, h4, h5⟩ := atI_get he
  obtain ⟨w, ew, rw'⟩ := r.get h2
  have hl := r.length
  have hn := line63
  have fin : EP X pins σ Q w s := ⟨z, H, I, rw', q⟩
  by_cases h0 : 0 ≤ i
  · have hj : i.toNat = j := by
      rw [seqIndex_of h0 h5] at h1
      exact Option.some.inj h1
    exact item_listR pl.isList h0 (by omega) (by rw [hj]; simpa using ew) fin hs
  · have hj : (i + (its.toArray.size : Int)).toNat = j := by
      rw [seqIndex_neg (by omega) h4] at h1
      rw [List.size_toArray, ← hl]
      exact Option.some.inj h1
    exact subscriptTail_builtinR (x := w) pl.isList.typeIs slot_list_getitem.lookup
      (wpAny_getItem_list_neg (Q := fun r s' => r = w ∧ EP X pins σ Q r s') pl.isList (by omega) (by rw [List.size_toArray] <;> omega) (by omega) (by rw [hj]; simpa using ew) ⟨rfl, fin⟩) hs
/-- list, tuple or str -/
def rIx (K : PySem.W.Frag) : R2 := fun x y H Q => rIxL K x y H Q ∨ rIxT K x y H Q ∨ rIxS x y H Q
/-! ### xs[i] = v, any sign -/
/-- the list's object behind a store -/
theorem mapSeq_set (its : List Value) (n j : Nat) (u : Value) : Obj.mapSeq (·.setIfInBounds j u) { cls := .type "list", data := .seq its.toArray n } = { cls := .type "list", data := .seq (its.set j u).toArray n } := by
  simp [Obj.mapSeq]
theorem Inv.lst {pins : List (Addr × Obj)} {σ : St} {H : Hp} {s : Shared} {p : Addr} {xs : List V} (I : Inv X pins σ H s) (h : H p = some (.lst xs)) :
    ∃ (its : List Value) (n : Nat), Vals xs its ∧ s.heap.get? p = some { cls := .type "list", data := .seq its.toArray n } ∧ xs.length ≤ sizeLine := by
  obtain ⟨z, its, n, r, e⟩ := I.hok p _ h
  exact ⟨its, n, r, e, z⟩
/-- the list at p is written by an update of its object -/
theorem Inv.lstUpd {pins : List (Addr × Obj)} {σ : St} {H : Hp} {s : Shared} {p : Addr} {xs ys : List V} {its its' : List Value} {n n' : Nat} {f : Obj → Obj} (I : Inv X pins σ H s) (h : H p = some (.lst xs))
    (ho : s.heap.get? p = some { cls := .type "list", data := .seq its.toArray n }) (hf : f { cls := .type "list", data := .seq its.toArray n } = { cls := .type "list", data := .seq its'.toArray n' }) (r : Vals ys its') (hz : ys.length ≤ sizeLine) (t : Nat) :
    Inv X pins σ (upd H p (.lst ys)) { s with heap := s.heap.update p f, toks := t } := by
  have e : (s.heap.update p f).get? p = some { cls := .type "list", data := .seq its'.toArray n' } := by
    rw [Heap.get?_update_self f ho (by rw [hf] <;> rfl), hf]
  refine I.write (x := p) (e := p) (by rw [h]; trivial) (.inl rfl) (fun b u hb q => (Heap.get?_update_other _ _ (Ne.symm hb)).trans q) ⟨_, e⟩ ?_
  exact ⟨hz, its', n', r, e⟩
def rSetL : V → V → V → Hp → (Hp → Prop) → Prop := fun o i v H Q => ∃ p xs k j, o = .ref p ∧ i = .int k ∧ H p = some (.lst xs) ∧ ixN xs.length k = some j ∧ Q (upd H p (.lst (xs.set j v)))
theorem set_list : PSet X rSetL := by
  intro pins s σ H o i v ov iv u Q I ro ri rv h
  obtain ⟨p, xs, k, j, rfl, rfl, hp, hj, q⟩ := h
  cases ro
  obtain ⟨t, rfl⟩ := ri
  obtain ⟨its, n, r, ho, hz⟩ := I.lst hp
  obtain ⟨h1, h2, h3, h4⟩ := ixN_seq hj
  have hl := r.length
  have hn := line63
  have I' : Inv X pins σ (upd H p (.lst (xs.set j v))) { s with heap := s.heap.update p (Obj.mapSeq (·.setIfInBounds j u)) } :=
    I.lstUpd hp ho (mapSeq_set its n j u) (r.set rv j) (by rw [List.length_set]; exact hz) s.toks
  by_cases h0 : 0 ≤ k
  · have hk : k.toNat = j := by
      rw [seqIndex_of h0 h4] at h1
      exact Option.some.inj h1
    exact PySem.W.ki_setAt ho h0 (by omega) (by rw [List.size_toArray, ← hl]; exact h4) (by rw [hk]; exact ⟨_, I', q⟩)
  · have hk : (k + (its.toArray.size : Int)).toNat = j := by
      rw [seqIndex_neg (by omega) h3] at h1
      rw [List.size_toArray, ← hl]
      exact Option.some.inj h1
    exact PySem.W.ki_setBack ho (by omega) (by rw [List.size_toArray, ← hl]; exact h3) (by omega) (by rw [hk]; exact ⟨_, I', q⟩)

/-! ### slices -/
theorem slice_bounds (lo hi : Option Int) (n : Nat) : (sliceBounds lo hi none n).1 = ((HT.sIx n 0 lo : Nat) : Int) ∧ (sliceBounds lo hi none n).2.1 = ((HT.sIx n n hi : Nat) : Int) ∧ (sliceBounds lo hi none n).2.2 = 1 := by
  refine ⟨?_, ?_, rfl⟩
  · cases lo with
    | none => simp [sliceBounds, HT.sIx]
    | some i =>
      simp only [sliceBounds, HT.sIx, Option.getD_none, show (1 : Int) > 0 by decide, if_true]
      by_cases h : i < 0
      · simp only [h, if_true] <;> omega
      · simp only [h, if_false] <;> omega
  · cases hi with
    | none => simp [sliceBounds, HT.sIx]
    | some i =>
      simp only [sliceBounds, HT.sIx, Option.getD_none, show (1 : Int) > 0 by decide, if_true]
      by_cases h : i < 0
      · simp only [h, if_true] <;> omega
      · simp only [h, if_false] <;> omega
theorem slicePick_cut (its : List Value) (lo hi : Option Int) : slicePick its.toArray lo hi none = ((its.drop (HT.sIx its.length 0 lo)).take (HT.sIx its.length its.length hi - HT.sIx its.length 0 lo)).toArray := by
  obtain ⟨h1, h2, h3⟩ := slice_bounds lo hi its.toArray.size
  unfold slicePick
  rw [h1, h2, h3]
  simp only [sliceRange_one, pick_run, List.size_toArray] <;> rfl
/-- xs[lo:hi] of a list: a new list -/
def rSlL (K : PySem.W.Frag) : V → Option Int → Option Int → Hp → VK → Prop := fun x lo hi H Q => ∃ a xs, x = .ref a ∧ SqL K H a xs ∧ ∀ p, H p = none → Q (.ref p) (upd H p (.lst (cutV xs lo hi)))
theorem sl_list : SlR X (rSlL X.K) := by
  intro pins s σ H x v vl vu lo hi sl Q I rx hs pl pu h
  obtain ⟨a, xs, rfl, hx, q⟩ := h
  cases rx
  obtain ⟨its, r, ht, hz⟩ := I.list hx
  have hlen := r.length
  refine ⟨"list", _, slot_list_getitem.lookup, ht.isList.typeIs, ?_⟩
  refine wpAny_getItem_list_slice ht.isList hs pl pu .none (by simp) ?_ (by rw [List.size_toArray] <;> omega)
  rw [slicePick_cut, ← hlen]
  refine ⟨.ref s.heap.objs.size, _, I.laid (t' := s.toks) (o := .lst (cutV xs lo hi)) (fun b ob q => Heap.get?_push_of_some _ q) (Nat.le_refl _) ?_, rfl, q _ (I.hok.fresh (Nat.le_refl _))⟩
  exact ⟨Nat.le_trans (cutV_length xs lo hi) hz, _, 0, (r.drop (HT.sIx xs.length 0 lo)).take (HT.sIx xs.length xs.length hi - HT.sIx xs.length 0 lo), Heap.get?_push_size _ rfl⟩

/-! ### in, not in: flat items -/
def flatV : V → Bool
  | .non => true
  | .bl _ => true
  | .int _ => true
  | .str _ => true
  | _ => false
/-- == of flat values -/
def eqV : V → V → Bool
  | .non, .non => true
  | .bl a, .bl b => a == b
  | .bl a, .int b => (if a then 1 else 0) == b
  | .int a, .bl b => a == (if b then 1 else 0)
  | .int a, .int b => a == b
  | .str a, .str b => a == b
  | _, _ => false
theorem eqAt_V {A : Around} {s : Shared} {y x : V} {u v : Value} (ry : RelV y u) (rx : RelV x v) (fy : flatV y = true) (fx : flatV x = true) : SeqAt.EqAt A s u v (eqV y x) := by
  cases y with
  | non =>
    cases ry
    cases x with
    | non => cases rx; exact SeqAt.EqAt.same _
    | bl b => cases rx; exact SeqAt.EqAt.none_bool b
    | int b => obtain ⟨t, rfl⟩ := rx; exact SeqAt.EqAt.none_int b t
    | str b => obtain ⟨t, rfl⟩ := rx; exact SeqAt.EqAt.none_str b t
    | _ => exact absurd (show false = true from fx) Bool.false_ne_true
  | bl a =>
    cases ry
    cases x with
    | non => cases rx; exact SeqAt.EqAt.bool_none a
    | bl b => cases rx; exact SeqAt.EqAt.bool_bool a b
    | int b => obtain ⟨t, rfl⟩ := rx; exact SeqAt.EqAt.bool_int a b t
    | str b => obtain ⟨t, rfl⟩ := rx; exact SeqAt.EqAt.bool_str a b t
    | _ => exact absurd (show false = true from fx) Bool.false_ne_true
  | int a =>
    obtain ⟨t', rfl⟩ := ry
    cases x with
    | non => cases rx; exact SeqAt.EqAt.int_none a t'
    | bl b => cases rx; exact SeqAt.EqAt.int_bool a t' b
    | int b => obtain ⟨t, rfl⟩ := rx; exact SeqAt.EqAt.int_int a t' b t
    | str b => obtain ⟨t, rfl⟩ := rx; exact SeqAt.EqAt.int_str a t' b t
    | _ => exact absurd (show false = true from fx) Bool.false_ne_true
  | str a =>
    obtain ⟨t', rfl⟩ := ry
    cases x with
    | non => cases rx; exact SeqAt.EqAt.str_none a t'
    | bl b => cases rx; exact SeqAt.EqAt.str_bool a t' b
    | int b => obtain ⟨t, rfl⟩ := rx; exact SeqAt.EqAt.str_int a t' b t
    | str b => obtain ⟨t, rfl⟩ := rx; exact SeqAt.EqAt.str_str a t' b t
    | _ => exact absurd (show false = true from fx) Bool.false_ne_true
  | _ => exact absurd (show false = true from fy) Bool.false_ne_true
/-- the items' answers, read off the values (a value's own answer does not lean on its token) -/
def eqU (x : V) (u : Value) : Bool := match u with
  | .none => eqV .non x
  | .bool b => eqV (.bl b) x
  | .int i _ => eqV (.int i) x
  | .str z _ => eqV (.str z) x
  | _ => false
theorem eqU_of {x y : V} {u : Value} (r : RelV y u) (f : flatV y = true) : eqU x u = eqV y x := by
  cases y with
  | non => cases r; rfl
  | bl b => cases r; rfl
  | int i => obtain ⟨t, rfl⟩ := r; rfl
  | str z => obtain ⟨t, rfl⟩ := r; rfl
  | _ => exact absurd (show false = true from f) Bool.false_ne_true
theorem mem_eqAt {A : Around} {s : Shared} {x : V} {v : Value} (rx : RelV x v) (fx : flatV x = true) : ∀ {xs : List V} {us : List Value}, Vals xs us → xs.all flatV = true → ∀ u ∈ us, SeqAt.EqAt A s u v (eqU x u)
  | _, _, .nil, _ => fun u hu => by cases hu
  | y :: xs, u :: us, .cons r t, f => fun u' hu => by
    rw [List.all_cons, Bool.and_eq_true] at f
    rcases List.mem_cons.mp hu with rfl | hu
    · rw [eqU_of r f.1]; exact eqAt_V r rx f.1 fx
    · exact mem_eqAt rx fx t f.2 u' hu
def inV (x : V) (xs : List V) : Bool := xs.any fun y => eqV y x
/-- x in a list or tuple of flat items -/
def rIn (K : PySem.W.Frag) (neg : Bool) : R2 := fun x y H Q => ∃ p xs, y = .ref p ∧ (SqL K H p xs ∨ SqT K H p xs) ∧ flatV x = true ∧ xs.all flatV = true ∧ Q (.bl (if neg then !inV x xs else inV x xs)) H
/-! ### len, list(x), tuple(x) of any list or tuple that is read -/
theorem call_len_seq : CallR X (.builtin "len") (fun xs H Q => ∃ p ys, xs = [.ref p] ∧ (SqL X.K H p ys ∨ SqT X.K H p ys) ∧ Q (.int ys.length) H) := by
  intro pins s σ H xs us Q I r h
  obtain ⟨p, ys, rfl, hq, q⟩ := h
  obtain ⟨u, rfl, rx⟩ := vals1 r
  cases rx
  have hn := line63
  rcases hq with hq | hq
  · obtain ⟨its, r', pl, hz⟩ := I.list hq
    have hlen := r'.length
    exact Calls.call_len_list pl.isList (by simp only [List.size_toArray] <;> omega) ⟨.int ys.length, H, I.tok _, ⟨s.toks + 1, by rw [List.size_toArray, hlen]⟩, q⟩
  · obtain ⟨its, r', pl, hz⟩ := I.tuple hq
    have hlen := r'.length
    exact len_tuple pl (by simp only [List.size_toArray] <;> omega) ⟨.int ys.length, H, I.tok _, ⟨s.toks + 1, by rw [List.size_toArray, hlen]⟩, q⟩
theorem call_list_of : CallR X (.type "list") (fun xs H Q => ∃ p ys, xs = [.ref p] ∧ (SqL X.K H p ys ∨ SqT X.K H p ys) ∧ ∀ l, H l = none → Q (.ref l) (upd H l (.lst ys))) := by
  intro pins s σ H xs us Q I r h
  obtain ⟨p, ys, rfl, hq, q⟩ := h
  obtain ⟨u, rfl, rx⟩ := vals1 r
  cases rx
  have fin : ∀ (its : List Value), Vals ys its → ys.length ≤ sizeLine → ∀ (h' : Heap) (c' : Nat), (∀ b o', s.heap.get? b = some o' → h'.get? b = some o') →
      h'.get? s.heap.objs.size = some { cls := .type "list", dict := none, data := .seq its.toArray c', slots := #[] } → EP X pins σ Q (.ref s.heap.objs.size) { s with heap := h' } := fun its r' hz h' c' kp e =>
    ⟨.ref s.heap.objs.size, _, I.laid (t' := s.toks) kp (Nat.le_refl _) (show ObjOk X.prog X.w _ h' _ (.lst ys) from ⟨hz, its, c', r', e⟩), rfl, q _ (I.hok.fresh (Nat.le_refl _))⟩
  rcases hq with hq | hq
  · obtain ⟨its, r', pl, hz⟩ := I.list hq
    have hlen := r'.length
    obtain ⟨o, ho, hc, n, hd⟩ := pl.isList
    exact call_list_seq p (.inl rfl) ho hc hd (fun h' c' kp e => fin its r' hz h' c' kp e) (by simp only [List.size_toArray] <;> omega)
  · obtain ⟨its, r', pl, hz⟩ := I.tuple hq
    have hlen := r'.length
    obtain ⟨o, ho, hc, n, hd⟩ := pl
    exact call_list_seq p (.inr rfl) ho hc hd (fun h' c' kp e => fin its r' hz h' c' kp e) (by simp only [List.size_toArray] <;> omega)
/-! ### the call of a builtin's method: o.m(..) -/
/-- the value is of that builtin type -/
def tyV (K : PySem.W.Frag) (T : String) (x : V) (H : Hp) : Prop := match x with
  | .str _ => T = "str"
  | .int _ => T = "int"
  | .ref p => (T = "list" ∧ ∃ xs, SqL K H p xs) ∨ (T = "tuple" ∧ ∃ o, K.lookup p = some o ∧ o.cls = .type "tuple" ∧ o.dict = none) ∨
      (T = "dict" ∧ ((∃ kvs, H p = some (.dK kvs)) ∨ ∃ kvs, H p = some (.dT kvs))) ∨ (T = "set" ∧ ∃ S n, H p = some (.set S n))
  | _ => False
theorem tyV_is {pins : List (Addr × Obj)} {σ : St} {H : Hp} {s : Shared} {T : String} {x : V} {v : Value} (I : Inv X pins σ H s) (r : RelV x v) (ty : tyV X.K T x H) :
    s.TypeIs v T ∧ ∀ a, v = .ref a → ∃ ob, s.heap.get? a = some ob ∧ ob.dict = none := by
  cases x with
  | str z =>
    obtain ⟨t, rfl⟩ := r
    cases (show T = "str" from ty)
    exact ⟨typeIs_str s z t, fun _ e => nomatch e⟩
  | int i =>
    obtain ⟨t, rfl⟩ := r
    cases (show T = "int" from ty)
    exact ⟨typeIs_int s i t, fun _ e => nomatch e⟩
  | ref p =>
    cases r
    rcases ty with ⟨rfl, xs, hq⟩ | ⟨rfl, o, hk, hc, hd⟩ | ⟨rfl, hk⟩ | ⟨rfl, S, n, hk⟩
    · obtain ⟨its, _, pl, _⟩ := I.list hq
      refine ⟨pl.isList.typeIs, fun a e => ?_⟩
      cases e
      obtain ⟨o, n, e, c, hd, _⟩ := pl
      exact ⟨o, e, hd⟩
    · refine ⟨⟨o, I.kIn p o hk, hc⟩, fun a e => ?_⟩
      cases e
      exact ⟨o, I.kIn _ o hk, hd⟩
    · have z : ∃ o, s.heap.get? p = some o ∧ o.ExactDict := by
        rcases hk with ⟨kvs, hk⟩ | ⟨kvs, hk⟩
        · obtain ⟨_, _, _, _, o, _, _, e, ex, _⟩ := I.hok p _ hk
          exact ⟨o, e, ex⟩
        · obtain ⟨_, _, _, _, o, _, _, e, ex, _⟩ := I.hok p _ hk
          exact ⟨o, e, ex⟩
      obtain ⟨o, e, ex⟩ := z
      refine ⟨⟨o, e, ex.1⟩, fun a e2 => ?_⟩
      cases e2
      exact ⟨o, e, ex.2.1⟩
    · obtain ⟨o, _, _, _, e, ex, _⟩ := I.hok p _ hk
      refine ⟨⟨o, e, ex.1⟩, fun a e2 => ?_⟩
      cases e2
      exact ⟨o, e, ex.2.1⟩
  | _ => exact False.elim ty
def tBM0 (K : PySem.W.Frag) (T : String) (r : V → List V → Hp → VK → Prop) (to : TE) : TE := fun σ H Q => to σ H fun x H1 => tyV K T x H1 ∧ r x [] H1 Q
def tBM (K : PySem.W.Frag) (T : String) (r : V → List V → Hp → VK → Prop) (to : TE) (t : TA) : TE := fun σ H Q => to σ H fun x H1 => tyV K T x H1 ∧ t σ H1 fun xs H2 => r x xs H2 Q
variable {o e : Expr} {es : List Expr} {to : TE} {t : TA} {name : Str} {apos cpos : Pos} {T id : String} {r : V → List V → Hp → VK → Prop}
theorem pe_bm0 (pa : PlainAttrs T) (slot : Slot T name id) (hty : typeOf (.builtin id) = pure (.type "method_descriptor")) (hm : MtR X id r) (ho : PE X o to)
    (hbase : attributeBase o name X.env (eval o X.env) = eval o X.env := by rfl) (hline : (apos.endLine == cpos.line) = true := by rfl) : PE X (.Call (.Attribute o name apos) [] [] cpos) (tBM0 X.K T r to) := by
  intro pins s σ H Q I h
  refine wpAny_Call_method0_late hbase hline (thn (ho pins s σ H _ I h) fun v s1 ⟨x, H1, I1, r1, ty, q1⟩ => ?_)
  obtain ⟨h1, h2⟩ := tyV_is I1 r1 ty
  exact ⟨T, id, pa, slot, hty, h1, h2, Calls.callWith_builtin rfl (PySem.evalArgs_none (hm pins s1 σ H1 x [] v [] Q I1 r1 .nil q1))⟩
theorem pe_bm (pa : PlainAttrs T) (slot : Slot T name id) (hty : typeOf (.builtin id) = pure (.type "method_descriptor")) (hm : MtR X id r) (ho : PE X o to) (ha : PA X (e :: es) t)
    (hbase : attributeBase o name X.env (eval o X.env) = eval o X.env := by rfl)
    (hfew : ((backTo cpos (starEach (e :: es) X.env)).all (fun x => !x.1) && (backToKw cpos (keywordEach [] X.env)).all (fun x => x.1.isSome)
      && decide ((e :: es).length + ([] : List Keyword).length + (if ([] : List Keyword).isEmpty then 0 else 1) < 30)) = true := by rfl)
    (hline : (apos.endLine == cpos.line) = true := by rfl) (hs : starEach (e :: es) X.env = (false, eval e X.env) :: starEach es X.env := by rfl) (hplain : (backTo cpos (starEach es X.env)).any (·.1) = false := by rfl) :
    PE X (.Call (.Attribute o name apos) (e :: es) [] cpos) (tBM X.K T r to t) := by
  intro pins s σ H Q I h
  refine wpAny_Call_method_late hbase hfew hline rfl (thn (ho pins s σ H _ I h) fun v s1 ⟨x, H1, I1, r1, ty, q1⟩ => ?_)
  obtain ⟨h1, h2⟩ := tyV_is I1 r1 ty
  refine ⟨T, id, pa, slot, hty, h1, h2, ?_⟩
  have hA := ha cpos pins s1 σ H1 _ I1 q1
  rw [hs] at hA ⊢
  refine Calls.callWith_builtin (by show (false || (backTo cpos (starEach es X.env)).any (·.1)) = false; rw [hplain] <;> rfl) (Calls.evalArgs_plain ?_)
  exact thn hA fun us s2 ⟨vs, H2, I2, r2, q2⟩ => hm pins s2 σ H2 x vs v us Q I2 r1 r2 q2
/- xs.append(e), list.index on a module's tuple .. are MtR facts of 06m -/
end
end L2

namespace L2
open PySem PySem.Spec PyProof.Rows

def MtM (X : Cx) (id : String) (r : V → List V → Hp → VK → Prop) : Prop :=
  ∀ (pins : List (Addr × Obj)) (s : Shared) (σ : St) (H : Hp) (x : V) (xs : List V) (v : Value) (us : List Value) (Q : VK), Inv X pins σ H s → RelV x v → Vals xs us → r x xs H Q →
    wpAny (model X.prog X.w) X.A (call (.builtin id) (v :: us)) (EP X pins σ Q) X.xe s

/-! ### lists of values -/
theorem Vals.one : ∀ {x : V} {us : List Value}, Vals [x] us → ∃ u, us = [u] ∧ RelV x u
  | _, _, .cons r .nil => ⟨_, rfl, r⟩
theorem Vals.zero : ∀ {us : List Value}, Vals [] us → us = []
  | _, .nil => rfl
theorem Vals.rep {xs : List V} {us : List Value} (h : Vals xs us) : ∀ k : Nat, Vals (List.replicate k xs).flatten (List.replicate k us).flatten
  | 0 => .nil
  | k + 1 => by
    rw [List.replicate_succ, List.replicate_succ, List.flatten_cons, List.flatten_cons]
    exact Vals.append h (Vals.rep h k)
theorem foldl_rep (its : List Value) : ∀ (k : Nat) (acc : List Value),
    List.foldl (fun x1 x2 => x1 ++ x2) acc.toArray (List.replicate k its.toArray) = (acc ++ (List.replicate k its).flatten).toArray
  | 0, acc => by simp
  | k + 1, acc => by
    have e : acc.toArray ++ its.toArray = (acc ++ its).toArray := by simp
    have e2 : (acc ++ its) ++ (List.replicate k its).flatten = acc ++ (List.replicate (k + 1) its).flatten := by
      rw [List.replicate_succ, List.flatten_cons, List.append_assoc]
    rw [← e2, ← foldl_rep its k (acc ++ its), ← e, List.replicate_succ, List.foldl_cons]

section
variable {X : Cx} {pins : List (Addr × Obj)} {σ : St} {H : Hp} {s : Shared} {l b : Addr} {xs ys zs : List V}

/-! ### the two steps: a tracked list is rewritten, a new list is laid -/
theorem Inv.lset {its its' : List Value} {n : Nat} {f : Array Value → Array Value} {t' : Nat} (I : Inv X pins σ H s) (hH : H l = some (.lst xs))
    (e : s.heap.get? l = some { cls := .type "list", data := .seq its.toArray n }) (hf : f its.toArray = its'.toArray) (hv : Vals ys its') (hz : ys.length ≤ sizeLine) :
    Inv X pins σ (upd H l (.lst ys)) { s with heap := s.heap.update l (Obj.mapSeq f), toks := t' } := by
  have q := PySem.IsL.update e f
  rw [hf] at q
  refine I.write (x := l) (e := l) (by rw [hH]; exact trivial) (.inl rfl) (fun b' u hb hu => (Heap.get?_update_other s.heap (Obj.mapSeq f) (Ne.symm hb)).trans hu) ⟨_, q⟩ ?_
  exact ⟨hz, its', _, hv, q⟩
theorem Inv.lnew {its : List Value} {t' : Nat} (I : Inv X pins σ H s) (hv : Vals ys its) (hz : ys.length ≤ sizeLine) :
    Inv X pins σ (upd H s.heap.objs.size (.lst ys)) { s with heap := s.heap.push { cls := .type "list", data := .seq its.toArray }, toks := t' } :=
  I.laid (fun _ _ q => Heap.get?_push_of_some _ q) (Nat.le_refl _) ⟨hz, its, 0, hv, Heap.get?_push_size _ rfl⟩
theorem Inv.fresh (I : Inv X pins σ H s) : H s.heap.objs.size = none := I.hok.fresh (Nat.le_refl _)
theorem Inv.lstM (I : Inv X pins σ H s) (hH : H l = some (.lst xs)) : xs.length ≤ sizeLine ∧ ∃ (its : List Value) (n : Nat), Vals xs its ∧ xs.length = its.length ∧ s.heap.get? l = some { cls := .type "list", data := .seq its.toArray n } := by
  obtain ⟨z, its, n, r, e⟩ := I.hok l _ hH
  exact ⟨z, its, n, r, r.length, e⟩

theorem notLongL {n : Nat} (h : n ≤ sizeLine) : Builtin.List.listTooLong n = false := by
  unfold Builtin.List.listTooLong
  exact decide_eq_false (by omega)
end

section
variable {X : Cx}

/-! ### methods -/
def rAppend : V → List V → Hp → VK → Prop := fun x vs H Q => ∃ l xs y, x = .ref l ∧ vs = [y] ∧ H l = some (.lst xs) ∧ xs.length < sizeLine ∧ Q .non (upd H l (.lst (xs ++ [y])))
theorem mt_append : MtM X "list.append" rAppend := by
  intro pins s σ H x vs v us Q I rx rv h
  obtain ⟨l, xs, y, rfl, rfl, hH, hz, q⟩ := h
  cases rx
  obtain ⟨u, rfl, ru⟩ := rv.one
  obtain ⟨z, its, n, r, hl, e⟩ := I.lstM hH
  refine call_meets F.slot_list_append ⟨_, e, rfl⟩ F.entry_list_append (F.args_list_append_2 _ _) (PySem.list_append l its.toArray n u (by rw [List.size_toArray]; omega)) ⟨e, ?_⟩
  refine ⟨.non, _, I.lset (its' := its ++ [u]) hH e (by simp) (r.append (.cons ru .nil)) ?_, rfl, q⟩
  rw [List.length_append, List.length_singleton]
  omega

def rExtend : V → List V → Hp → VK → Prop := fun x vs H Q => ∃ l b xs zs, x = .ref l ∧ vs = [.ref b] ∧ H l = some (.lst xs) ∧ H b = some (.lst zs) ∧ xs.length + zs.length ≤ sizeLine ∧ Q .non (upd H l (.lst (xs ++ zs)))
def rPop : V → List V → Hp → VK → Prop := fun x vs H Q => ∃ l xs y, x = .ref l ∧ vs = [] ∧ H l = some (.lst xs) ∧ xs[xs.length - 1]? = some y ∧ Q y (upd H l (.lst xs.dropLast))
def rPopAt : V → List V → Hp → VK → Prop := fun x vs H Q => ∃ l xs i k y, x = .ref l ∧ vs = [.int i] ∧ H l = some (.lst xs) ∧ -(2 ^ 63) ≤ i ∧ i < 2 ^ 63 ∧ seqIndex? i xs.length = some k ∧ xs[k]? = some y ∧ Q y (upd H l (.lst (xs.eraseIdx k)))
def rReverse : V → List V → Hp → VK → Prop := fun x vs H Q => ∃ l xs, x = .ref l ∧ vs = [] ∧ H l = some (.lst xs) ∧ Q .non (upd H l (.lst xs.reverse))
def rClear : V → List V → Hp → VK → Prop := fun x vs H Q => ∃ l xs, x = .ref l ∧ vs = [] ∧ H l = some (.lst xs) ∧ Q .non (upd H l (.lst []))
theorem mt_clear : MtM X "list.clear" rClear := by
  intro pins s σ H x vs v us Q I rx rv h
  obtain ⟨l, xs, rfl, rfl, hH, q⟩ := h
  cases rx
  have hus := rv.zero
  subst hus
  obtain ⟨z, its, n, r, hl, e⟩ := I.lstM hH
  refine call_meets F.slot_list_clear ⟨_, e, rfl⟩ F.entry_list_clear (F.args_list_clear_1 _) (AutoSeq1.list_clear_list_0 l its.toArray n (by rw [List.size_toArray]; omega)) ⟨e, ?_⟩
  exact ⟨.non, _, I.lset (its' := []) (ys := []) hH e rfl .nil (Nat.zero_le _), rfl, q⟩

/-! ### list + list, list += list, list * int -/
def rCat : R2 := fun x y H Q => ∃ l b xs zs, x = .ref l ∧ y = .ref b ∧ H l = some (.lst xs) ∧ H b = some (.lst zs) ∧ xs.length + zs.length ≤ sizeLine ∧ ∀ p, H p = none → Q (.ref p) (upd H p (.lst (xs ++ zs)))
theorem op_cat : OpR X (binaryOp .Add) rCat := by
  intro pins s σ H x y v u Q I rx ry h
  obtain ⟨l, b, xs, zs, rfl, rfl, hH, hB, hz, q⟩ := h
  cases rx
  cases ry
  obtain ⟨z, its, n, r, hl, e⟩ := I.lstM hH
  obtain ⟨z2, its2, n2, r2, hl2, e2⟩ := I.lstM hB
  refine PySem.P.add_list e e2 ?_ (by rw [List.size_toArray, List.size_toArray]; omega)
  have ea : its.toArray ++ its2.toArray = (its ++ its2).toArray := by simp
  rw [ea]
  exact ⟨.ref _, _, I.lnew (t' := s.toks) (r.append r2) (by rw [List.length_append]; omega), rfl, q _ I.fresh⟩
/-- a list times an int (a negative one is nothing) -/
def rRep : R2 := fun x y H Q => ∃ l k xs, x = .ref l ∧ y = .int k ∧ H l = some (.lst xs) ∧ -(2 ^ 63) ≤ k ∧ k < 2 ^ 63 ∧ xs.length * k.toNat ≤ sizeLine ∧
  ∀ p, H p = none → Q (.ref p) (upd H p (.lst (List.replicate k.toNat xs).flatten))
theorem len_rep {α : Type} (xs : List α) (k : Nat) : (List.replicate k xs).flatten.length = k * xs.length := by
  induction k with
  | zero => simp
  | succ k ih => rw [List.replicate_succ, List.flatten_cons, List.length_append, ih, Nat.succ_mul, Nat.add_comm]
theorem op_rep : OpR X (binaryOp .Mult) rRep := by
  intro pins s σ H x y v u Q I rx ry h
  obtain ⟨l, k, xs, rfl, rfl, hH, h1, h2, hz, q⟩ := h
  cases rx
  obtain ⟨t, rfl⟩ := ry
  obtain ⟨z, its, n, r, hl, e⟩ := I.lstM hH
  have hlen : its.toArray.size * k.toNat ≤ sizeLine := by rw [List.size_toArray, ← hl]; exact hz
  have hcap : ¬ its.toArray.size * k.toNat > (2 ^ 63 - 1) / 8 := by
    have : (sizeLine : Nat) ≤ (2 ^ 63 - 1) / 8 := by decide
    omega
  have hfit : ¬ (!Builtin.List.listFitsIndex k) = true := by
    rw [fitsIndex_both h1 h2]
    exact Bool.false_ne_true
  have hlong : ¬ Builtin.List.listTooLong (its.toArray.size * k.toNat) = true := by
    rw [notLongL hlen]
    exact Bool.false_ne_true
  have hnew : List.foldl (fun x1 x2 => x1 ++ x2) #[] (List.replicate (if its.toArray.isEmpty = true then 0 else k.toNat) its.toArray) = (List.replicate k.toNat its).flatten.toArray := by
    have f0 : ∀ m : Nat, List.foldl (fun x1 x2 => x1 ++ x2) #[] (List.replicate m its.toArray) = (List.replicate m its).flatten.toArray := fun m => by
      have := foldl_rep its m []
      rw [List.nil_append] at this
      exact this
    rw [f0]
    cases its with
    | nil => simp
    | cons a r' => rw [if_neg (by simp)]
  refine wpAny_binaryOp_repeat_ref (T := "list") (U := "int") (by decide) ⟨_, e, rfl⟩ (fun s' => typeIs_int s' k t) noFill_list_mul F.fills_int_mul F.slot_int_rmul repeat_list F.slot_int_index.lookup
    (call_meets F.slot_int_rmul (typeIs_int s k t) F.entry_int_rmul (F.args_int_rmul_2 _ _) (int___rmul___int_list k t l its.toArray n)
      ⟨e, rfl, ⟨_, e, rfl⟩, call_meets F.slot_list_mul ⟨_, e, rfl⟩ F.entry_list_mul (F.args_list_mul_2 _ _) (AutoListH.list___mul___list_int_3 l its.toArray n k t hfit hcap hlong) ⟨e, ?_⟩⟩)
  rw [hnew]
  exact ⟨.ref _, _, I.lnew (t' := s.toks) (r.rep k.toNat) (by rw [len_rep, Nat.mul_comm]; exact hz), rfl, q _ I.fresh⟩

/-! ### del xs[i] -/
end

/-! ### xs[a:b] = ys -/
section
variable {prog : Program} {w : World} {A : Around} {E : Value → Shared → Prop} {s : Shared}
end

section
variable {X : Cx}
end
end L2

namespace Att
open PySem PySem.W PySem.Calls PyProof.Rows

/-! ### the script -/
theorem ints_of_wellAll {P : Params} {h : Heap} : ∀ (ns : List Int) (vs : List Value), WellAll P h vs (ns.map WData.int) → IntsAre vs ns := by
  intro ns
  induction ns with
  | nil =>
    intro vs w
    rw [List.map_nil] at w
    cases w
    exact .nil
  | cons n ns ih =>
    intro vs w
    rw [List.map_cons] at w
    cases w with
    | cons a b =>
      cases a
      exact .cons _ _ (ih _ b)

theorem script_of {l : OpenLaw} {n : Nat} (hn : l.most = some n) {P : Params} {h : Heap} {args : List WData} {vals : List Value}
    (hpre : l.row.toRowW.claim.pre args = true) (hwl : WellAll P h vals args) :
    ∃ a vs ns, vals = [Value.ref a] ∧ args = [WData.list (ns.map WData.int)] ∧ h.get? a = some { cls := .type "list", data := .seq vs.toArray } ∧ IntsAre vs ns ∧ ns.length ≤ n := by
  have hsh : WShape.hasAll [] args [.list .int] = true := (pre_splitW hpre).1
  have hc : l.pre.holds [] { args := args } = true := (pre_splitW hpre).2
  obtain ⟨d, r, rfl, h1, h2⟩ := hasAllW_cons hsh
  obtain rfl := hasAllW_nil h2
  obtain ⟨xs, rfl, h3⟩ := hasW_list h1
  obtain ⟨ns, rfl⟩ := items_int h3
  have hlen : ns.length ≤ n := by
    unfold OpenLaw.pre at hc
    have h4 : (WTm.not (.lt (.lit (.int (n : Int))) (.len (.arg 0)))).holds [] { args := [.list (ns.map .int)] } = true := by
      have h4 := (holds_andW hc).1
      rw [hn] at h4
      exact h4
    have h5 := condW_of h4 (w_not (w_lt w_lit (w_len_list (w_arg rfl))))
    rw [List.length_map] at h5
    refine Nat.le_of_not_lt fun q => ?_
    have q' : (n : Int) < ((ns.length : Nat) : Int) := by omega
    first
      | (rw [decide_eq_true q'] at h5; exact absurd h5 (by decide))
      | (simp at h5; omega)
  cases hwl with
  | cons w1 w2 =>
    cases w2
    cases w1 with
    | list ho hall => exact ⟨_, _, ns, rfl, rfl, ho, ints_of_wellAll ns _ hall, hlen⟩

theorem post_true (l : OpenLaw) (args : List WData) : l.row.toRowW.claim.post args (.bool true) args = true :=
  postW_of (r := l.row.toRowW) (X := (true == true))
    (show WShape.has [] (.bool true) .bool = true by first | rfl | decide | simp [WShape.has, WShape.arms, WShape.armsAll])
    (show (WTm.eq .res (.lit (.bool true))).value [] { args := args, res := some (.bool true), after := args } = some (.bool (true == true)) from w_eq_bool (w_res rfl) w_lit) rfl

/-! ### the attachment: holds_open's last premise (the goal 'hc' behind k_head) from a wpAny of the law's body -/
/-- the same from a codeAny of the CALL (for a layer whose function contracts speak of calls) -/
theorem attach_call {l : OpenLaw} {n : Nat} {q : Program} {loose : List Str} {XP : (Str → Option Value) → Heap → Prop} {YP : World → Heap → Prop} {d : DefRec}
    (hn : l.most = some n) (hdf : d.params.defaults = [])
    (call : ∀ (w : World) (s₀ s₁ : Shared) (mg mb : Str → Option Value) (fa : Addr) (o : Obj) (pm cd doc : Value) (a : Addr) (vs : List Value) (ns : List Int),
      Ground q loose [] XP w s₀ mg mb s₁.heap → YP w s₁.heap →
      s₁.heap.get? fa = some o → o.data = .func (docDef d.name d.params d.body d.scope pm cd doc) → s₁.heap.CodeRec cd d.name → mg d.name = some (.ref fa) →
      s₁.heap.get? a = some { cls := .type "list", data := .seq vs.toArray } → IntsAre vs ns → ns.length ≤ n → s₁.gens = #[] →
      codeAny (model l.prog w) callerA (.call (.ref fa) ⟨[.ref a], []⟩) (fun r s' => r = .ok (.ret (.bool true)) ∧ OldK s₁.heap s'.heap ∧ s'.os = s₁.os ∧ AllBare s'.gens) s₁) :
    WalkO q loose XP YP l.row.toRowW d [] (fun f vs => PySem.call f vs) := by
  intro w s₀ s₁ mg mb G Y fa o pm cd doc dV kV ho hd hcd hD hmg hg args vals as hpre hlay hrd hwl hlo
  obtain rfl : dV = .none := Dflts.none hD hdf
  obtain rfl : kV = .none := Dflts.noKw hD
  obtain ⟨a, vs, ns, rfl, rfl, hobj, hints, hlen⟩ := script_of hn hpre hwl
  refine enter_call (codeAny_mono (call w s₀ s₁ mg mb fa o pm cd doc a vs ns G Y ho (fd_plain hd) hcd hmg hobj hints hlen hg) fun r s' hq => ?_)
  obtain ⟨rfl, h2, h3, h4⟩ := hq
  exact ⟨.inl ⟨.bool true, .bool true, [], rfl, fun _ => rfl, .bool true, post_true l _, fun _ => ⟨List.Pairwise.nil, fun _ hm => (nomatch hm)⟩⟩, h2, h3, h4⟩

/-! ### rules over ANY heap (no ledger) from facts about the written part K: the library's own take a ledger (News) for what they write -/
section
variable {prog : Program} {w : World} {A : Around} {E : Value → Shared → Prop} {s : Shared} {K : Frag}

/-! the whole heap as the ledger: makes every rule that writes through a ledger a rule over any heap -/
def noObjs (h : Heap) : Heap := { h with objs := #[] }
def ledger (h : Heap) (L d : Addr) : List (Addr × Obj) := (List.range h.objs.size).filterMap fun a => if a = L ∨ a = d then none else (h.get? a).map fun o => (a, o)
end
end Att

namespace L2
open PySem PySem.Spec PyProof.Rows

theorem vals_ints : ∀ {vs : List Value} {ns : List Int}, IntsAre vs ns → Vals (ns.map V.int) vs
  | _, _, .nil => .nil
  | _, _, .cons n t h => .cons ⟨t, rfl⟩ (vals_ints h)

/-- nothing is tracked but the script, known to the object (or it is an object of the module) -/
def Only (H : Hp) : Prop := ∀ b, H b = none ∨ ∃ o xs, H b = some (.frz o (.lst xs))

/-- THE HEAD: the law's promise, at the heap behind the top. F, the promise of the law's def, may use that base is part of the heap (so K.In base, base.Ns mainGlobals mg stand in Mod) -/
theorem law_call {P : Program} {w : World} {K : PySem.W.Frag} {mg mb : Str → Option Value} {CX : CXT} {k : Nat} {fa a : Addr} {fd : FuncData} {x : Str} {sp : Sp} {s₁ : Shared} {vs : List Value} {ns : List Int}
    (KX : K.In s₁.heap) (hns : s₁.heap.Ns mainGlobals mg) (hb : s₁.heap.Ns builtinsNs mb) (hbb : ∀ x : Str, x ≠ "__name__" → mb x = bootBuiltins x) (hlim : s₁.heap.NoLimit) (hg : s₁.gens = #[])
    (ha : s₁.heap.get? a = some { cls := .type "list", data := .seq vs.toArray }) (hi : IntsAre vs ns) (hl : ns.length ≤ sizeLine) (hr : Room k callerA)
    (F : ∀ base : Heap, K.In base → base.Ns mainGlobals mg → FnOk P w K mg base CX k fa fd [x] sp) (hbind : ∀ (s : Shared) (u : Value), BindsTo s fd ⟨[u], []⟩ [(x, u)])
    (hsp : ∀ H : Hp, Only H → SqL K H a (ns.map V.int) → sp [.ref a] H (fun v _ => v = .bl true) fun _ _ _ => False)
    (hCX : ∀ H e s', CX [] H s₁ (fun _ _ _ => False) e s' → False) :
    codeAny (model P w) callerA (.call (.ref fa) ⟨[.ref a], []⟩) (fun r s' => r = .ok (.ret (.bool true)) ∧ OldK s₁.heap s'.heap ∧ s'.os = s₁.os ∧ AllBare s'.gens) s₁ := by
  have rv := vals_ints hi
  have lenV := hi.length
  -- from an abstract heap in which nothing but the script may be tracked
  have core : ∀ H : Hp, Only H → SqL K H a (ns.map V.int) → HOk P w H s₁.heap → (∀ b, H b ≠ none → b = a) → (H a ≠ none → K.lookup a = none) →
      codeAny (model P w) callerA (.call (.ref fa) ⟨[.ref a], []⟩) (fun r s' => r = .ok (.ret (.bool true)) ∧ OldK s₁.heap s'.heap ∧ s'.os = s₁.os ∧ AllBare s'.gens) s₁ := by
    intro H hO hS hok hA hK
    have base_of : ∀ {b : Addr} {o : Obj}, s₁.heap.get? b = some o → H b = none → (hidT s₁.heap H).get? b = some o := fun e n => hidT_get e n
    have noA : ∀ {b : Addr} {o : Obj} {es : Array DictEntry} {ep : Nat}, s₁.heap.get? b = some o → o.data = .dict es ep → H b = none := fun {b o es ep} e d => by
      cases q : H b with
      | none => rfl
      | some u =>
        have e' : b = a := hA b (by rw [q]; simp)
        subst e'
        rw [ha] at e; cases e
        have d' : Data.seq vs.toArray _ = Data.dict es ep := d
        cases d'
    have nsK : ∀ {b : Addr} {m : Str → Option Value}, s₁.heap.Ns b m → (hidT s₁.heap H).Ns b m := fun {b m} ⟨o, es, ep, e, d, r⟩ => ⟨o, es, ep, base_of e (noA e d), d, r⟩
    have hKb : K.In (hidT s₁.heap H) := fun b o e => base_of (KX b o e) (by
      cases q : H b with
      | none => rfl
      | some u =>
        have e' : b = a := hA b (by rw [q]; simp)
        subst e'
        rw [hK (by rw [q]; simp)] at e; cases e)
    have hM : Mod K mg (hidT s₁.heap H) := ⟨hKb, nsK hns, ⟨mb, nsK hb, hbb⟩, let ⟨mc, h1, h2⟩ := hlim; ⟨mc, nsK h1, h2⟩⟩
    have e0 : Env0 P w K mg (hidT s₁.heap H) callerA [] s₁ H := ⟨rfl, hM, fun b o e => of_hidT e, Nat.le_of_eq (hidT_size _ _), trivial, fun b hb => absurd (show b ∈ ([] : List Addr) from hb) (by simp), hok, .of_eq hg, .inl rfl⟩
    refine codeAny_mono ((F _ hKb (nsK hns)).run callerA [] s₁ H ⟨[.ref a], []⟩ [.ref a] [.ref a] _ _ hr (.inr rfl) e0 (hbind s₁ (.ref a)) (.cons rfl .nil) (hsp H hO hS)) fun r s' h => ?_
    cases r with
    | error e => exact (hCX H e s' h).elim
    | ok fl =>
      cases fl with
      | next => exact False.elim h
      | brk => exact False.elim h
      | cont => exact False.elim h
      | ret u =>
        obtain ⟨v, H', os, bare, un, hok', r', q⟩ := h
        have q' : v = .bl true := q
        subst q'
        obtain rfl : u = Value.bool true := r'
        refine ⟨rfl, OldK.of_keep fun b o e => ?_, os, bare⟩
        cases q : H b with
        | none => exact un.keep b o e q (by intro z; exact absurd (show b ∈ ([] : List Addr) from z) (by simp)) (by simp)
        | some u =>
          rcases hO b with z | ⟨ob, xs, z⟩
          · rw [q] at z; cases z
          · have z2 := un.frzs b ob _ z
            obtain ⟨e1, _⟩ := hok b _ z
            obtain ⟨e2, _⟩ := hok' b _ z2
            rw [e] at e1; cases e1
            exact e2
  cases hk : K.lookup a with
  | some o =>
    -- the script is one of the module's own objects
    have e := KX a o hk
    rw [ha] at e
    cases e
    refine core (fun _ => none) (fun _ => .inl rfl) (.inr ⟨_, vs.toArray, _, hk, rfl, rfl, rfl, by rw [List.size_toArray, lenV]; exact hl, by simpa using rv⟩) (fun b u z => by have z' : (none : Option HO) = some u := z; cases z') (fun b z => absurd rfl z) fun z => absurd rfl z
  | none =>
    refine core (fun b => if b = a then some (.frz { cls := .type "list", data := .seq vs.toArray } (.lst (ns.map V.int))) else none) (fun b => ?_) (.inl (.inr ⟨{ cls := .type "list", data := .seq vs.toArray }, if_pos rfl⟩)) (fun b u z => ?_) (fun b z => ?_) fun _ => hk
    · by_cases hb : b = a
      · exact .inr ⟨_, _, if_pos hb⟩
      · exact .inl (if_neg hb)
    · by_cases hb : b = a
      · have z' := (if_pos hb).symm.trans z
        cases z'
        subst hb
        exact ⟨ha, by rw [List.length_map]; exact hl, vs, _, rv, ha⟩
      · have z' := (if_neg hb).symm.trans z
        cases z'
    · by_cases hb : b = a
      · exact hb
      · exact absurd (if_neg hb) z
end L2

namespace L2
open PySem PySem.Spec PyProof.Rows

abbrev KOf {K : PySem.W.Frag} {h : Heap} (_ : K.In h) : PySem.W.Frag := K

/-- the goal that k_head leaves (case hc), from the law's promise. F gives the function object fd (K's own) once, then the promise over every base -/
theorem walk_of {l : PySem.W.OpenLaw} {n k : Nat} {q : Program} {loose : List Str} {XP : (Str → Option Value) → Heap → Prop} {YP : World → Heap → Prop} {d : DefRec} {K : Params → PySem.W.Frag} {CX : World → CXT} {sp : World → Sp} {x : Str}
    (hn : l.most = some n) (hn2 : n ≤ sizeLine) (hdf : d.params.defaults = []) (hr : Room k callerA)
    (hY : ∀ (w : World) (h : Heap), YP w h → (K w.params).In h)
    (F : ∀ (w : World) (mg : Str → Option Value) (fa : Addr) (h : Heap), (K w.params).In h → h.Ns mainGlobals mg → mg d.name = some (.ref fa) →
      ∃ fd : FuncData, (∀ (s : Shared) (u : Value), BindsTo s fd ⟨[u], []⟩ [(x, u)]) ∧
        ∀ base : Heap, (K w.params).In base → base.Ns mainGlobals mg → FnOk l.prog w (K w.params) mg base (CX w) k fa fd [x] (sp w))
    (hsp : ∀ (w : World) (H : Hp) (a : Addr) (ns : List Int), ns.length ≤ n → Only H → SqL (K w.params) H a (ns.map V.int) → sp w [.ref a] H (fun v _ => v = .bl true) fun _ _ _ => False)
    (hCX : ∀ (w : World) (H : Hp) (s : Shared) (e : Value) (s' : Shared), CX w [] H s (fun _ _ _ => False) e s' → False) :
    PySem.W.WalkO q loose XP YP l.row.toRowW d [] (fun f vs => PySem.call f vs) := by
  refine Att.attach_call hn hdf fun w s₀ s₁ mg mb fa o pm cd doc a vs ns G Y ho hd hcd hmg hobj hints hlen hg => ?_
  have KX := hY w _ Y
  obtain ⟨fd, hb, hF⟩ := F w mg fa _ KX G.T.g hmg
  exact law_call KX G.T.g G.T.b G.T.builtins G.T.nolimit hg hobj hints (Nat.le_trans hlen hn2) hr hF hb (fun H hO hS => hsp w H a ns hlen hO hS) fun H e s' => hCX w H s₁ e s'
end L2


/-! SHORT WORDS over the layer: a def of the text, its body, what a loop and a test want. -/
namespace L2
open PySem PySem.Spec PyProof.Rows

/-! ### the text by places -/
/-- the j-th statement of a class's body -/
def inClass (s : Stmt) (j : Nat) : Stmt := match s with
  | .ClassDef _ _ _ body _ _ _ _ _ _ _ => body.getD j (.Pass ⟨0, 0, 0, 0⟩)
  | _ => .Pass ⟨0, 0, 0, 0⟩
def defArgs (s : Stmt) : Arguments := match s with
  | .FunctionDef _ a _ _ _ _ _ _ _ _ => a
  | _ => { posonlyargs := [], args := [], vararg := none, kwonlyargs := [], kw_defaults := [], kwarg := none, defaults := [] }
def defBody (s : Stmt) : List Stmt := match s with
  | .FunctionDef _ _ b _ _ _ _ _ _ _ => b
  | _ => []
def defScope (s : Stmt) : Scope := match s with
  | .FunctionDef _ _ _ _ _ _ sc _ _ _ => sc
  | _ => { kind := .function, names := [], isGenerator := false, isCoroutine := false }

/-! ### no exception leaves a def -/
abbrev E0 : XK := fun _ _ _ => False
theorem pass0 {X : Cx} : Passes CX0 X E0 := fun _ _ _ _ _ _ _ h => h.elim

/-! ### a def (or method) of the text as it stands behind the top -/
structure Fun (K : PySem.W.Frag) (x qual : Str) (st : Stmt) (f : Addr) (fd : FuncData) : Prop where
  ex : ∃ (oc : Value) (od : Option Addr) (kV doc pm : Value) (an : Option Addr) (cdv ct : Value) (osl : Array (Option Value)),
    fd = PySem.W.fnOf x qual (defArgs st) (defBody st) (defScope st) .none kV doc pm an cdv ct ∧ K.lookup f = some ⟨oc, od, .func fd, osl⟩ ∧ PySem.W.codeIn K cdv qual = true
  kp : PySem.W.keepIn K (.ref f) = true
section
variable {P : Program} {w : World} {K : PySem.W.Frag} {mg : Str → Option Value} {base : Heap}
/-- THE RULE for a def: its body as a term of rules, and the reading of that term -/
theorem Fun.ok {x qual : Str} {st : Stmt} {f : Addr} {fd : FuncData} {N ps : List Str} {k : Nat} {sp : Sp} (F : Fun K x qual st f fd) (S : FnScope N ps (defScope st)) (len : ∀ vs H Q E, sp vs H Q E → vs.length = ps.length)
    (hbody : ∀ (cdv : Value) (A : Around) (outer : List Env) (s : Shared) (H : Hp) (vs : List V) (Q : VK) (E : XK), Room k (A.deeper (envOfC qual (defScope st) s.heap.objs.size f cdv)) → sp vs H Q E →
      ∃ t, PSs (cxOf CX0 P w K mg base N qual (defScope st) f cdv A outer s H E).nox (defBody st) t ∧ t { nx := fun _ H' => Q .non H', rt := Q } (start N vs) H) : FnOk P w K mg base CX0 (k + 1) f fd ps sp := by
  obtain ⟨oc, od, kV, doc, pm, an, cdv, ct, osl, rfl, lk, hcd⟩ := F.ex
  refine fn_of lk hcd S len fun A outer s H vs Q E hr _ hsp => ?_
  obtain ⟨t, h, q⟩ := hbody cdv A outer s H vs Q E hr hsp
  exact ⟨t, h.nox, q⟩
/-- how its arguments bind (no defaults): h is «fun _ _ _ _ _ _ us hl => match us, hl with | [_, _], _ => rfl», one _ a parameter -/
theorem Fun.binds {x qual : Str} {st : Stmt} {f : Addr} {fd : FuncData} {ps : List Str} (F : Fun K x qual st f fd)
    (h : ∀ (kV doc pm : Value) (an : Option Addr) (cdv ct : Value) (us : List Value), us.length = ps.length → bindArgs (PySem.W.fnOf x qual (defArgs st) (defBody st) (defScope st) .none kV doc pm an cdv ct) ⟨us, []⟩ = pure (ps.zip us)) : Binds K fd ps [] := by
  obtain ⟨oc, od, kV, doc, pm, an, cdv, ct, osl, rfl, lk, hcd⟩ := F.ex
  exact .all (h kV doc pm an cdv ct)
theorem fun_mk {x qual : Str} {st : Stmt} {f : Addr} {oc : Value} {od an : Option Addr} {osl : Array (Option Value)} {kV doc pm cdv ct : Value} (l : K.lookup f = some ⟨oc, od, .func (PySem.W.fnOf x qual (defArgs st) (defBody st) (defScope st) .none kV doc pm an cdv ct), osl⟩)
    (c : PySem.W.codeIn K cdv qual = true) (k : PySem.W.keepIn K (.ref f) = true) : Fun K x qual st f (PySem.W.fnOf x qual (defArgs st) (defBody st) (defScope st) .none kV doc pm an cdv ct) := ⟨⟨oc, od, kV, doc, pm, an, cdv, ct, osl, rfl, l, c⟩, k⟩
end
theorem small1000 {n : Nat} (h : n ≤ 1000) : n < sizeLine := Nat.lt_of_le_of_lt h (by decide)

/-! ### expressions in short: the name that stands in the i-th slot -/
section
variable {X : Cx}
theorem pv (i : Nat) {x : Str} {pos : Pos} (hN : X.N[i]? = some x := by rfl) (hv : Vis X.env.scope x := by first | exact Or.inl rfl | exact Or.inr (Or.inl rfl) | exact Or.inr (Or.inr rfl)) (hd : (x == ("__debug__" : Str)) = false := by decide)
    (hcd : (x == ("__classdict__" : Str)) = false := by decide) : PE X (.Name x pos) (tVar i) := pe_var hN hv hd hcd
end

/-! ### tests -/
theorem iteF {A B : Prop} (h : B) : if false = true then A else B := by
  rw [if_neg Bool.false_ne_true]
  exact h
theorem iteT {A B : Prop} (h : A) : if true = true then A else B := by
  rw [if_pos rfl]
  exact h
theorem ite2 {c A B : Prop} [Decidable c] (h1 : c → A) (h2 : ¬ c → B) : if c then A else B := by
  by_cases h : c
  · rw [if_pos h]
    exact h1 h
  · rw [if_neg h]
    exact h2 h
/-! ### heaps -/
/-- all that was tracked is as it was -/
def Same (H H' : Hp) : Prop := ∀ b o, H b = some o → H' b = some o
theorem Same.refl (H : Hp) : Same H H := fun _ _ h => h
theorem Same.trans {H H1 H2 : Hp} (a : Same H H1) (b : Same H1 H2) : Same H H2 := fun c o h => b c o (a c o h)
theorem Same.free {H H' : Hp} (e : Same H H') {l : Addr} (h : H' l = Option.none) : H l = Option.none := by
  cases q : H l with
  | none => rfl
  | some o =>
    rw [e l o q] at h
    cases h
theorem Same.seq {K : PySem.W.Frag} {H H' : Hp} {a : Addr} {xs : List V} (e : Same H H') (h : SqL K H a xs) : SqL K H' a xs := by
  rcases h with (h | ⟨o, h⟩) | h
  · exact .inl (.inl (e _ _ h))
  · exact .inl (.inr ⟨o, e _ _ h⟩)
  · exact .inr h

end L2
end
section
set_option Elab.async false
set_option linter.all false
set_option maxRecDepth 100000
set_option maxHeartbeats 4000000
/-! MORE RULES over the layer: list comprehensions, == and != of nested data, all, is True, isinstance, t[:] -/
namespace L2
open PySem PySem.Spec PyProof.Rows

/-! ### the tests of a clause -/
def PF (X : Cx) (ifs : List Expr) (t : TT) : Prop :=
  ∀ (pins : List (Addr × Obj)) (s : Shared) (σ : St) (H : Hp) (Q : Bool → Hp → Prop), Inv X pins σ H s → t σ H Q →
    wpAny (model X.prog X.w) X.A (forIn ifs true fun c r => if r = true then do let ok ← isTrue c X.env (eval c X.env); pure (ForInStep.yield ok) else pure (ForInStep.yield r)) (TP X pins σ Q) X.xe s
def tYes : TT := fun _ H Q => Q true H
theorem pf_nil {X : Cx} : PF X [] tYes := fun pins s σ H Q I h => wpAny_tests_nil ⟨H, I, h⟩
theorem pf_one {X : Cx} {c : Expr} {t : TT} (hc : PT X c t) : PF X [c] t := fun pins s σ H Q I h => wpAny_tests_one (hc pins s σ H Q I h)

/-! ### the loop of a comprehension that never raises -/
section
variable {prog : Program} {w : World} {A : Around} {R : Result → Shared → Prop} {s : Shared}
theorem compLoop_go {elt target iter : Expr} {ifs : List Expr} {scope : Scope} {pos : Pos} {it acc : Value} {env : Env} (I : Nat → Shared → Prop)
    (turn : ∀ n s, I n s → wpAny (model prog w) A (pyNext it) (fun r s₁ => match r with
      | none => R (.ok .next) s₁
      | some v => wpAny (model prog w) A (letOwnedTupleGo target it v) (fun _ s₁' => wpAny (model prog w) A (assign target env v) (fun _ s₂ =>
          wpAny (model prog w) A (forIn ifs true fun c r => if r = true then do let ok ← isTrue c env (eval c env); pure (ForInStep.yield ok) else pure (ForInStep.yield r)) (fun ok s₃ =>
            if ok = true then wpAny (model prog w) A (eval elt env) (fun x s₄ =>
              wpAny (model prog w) A (call (.builtin "list.append") [acc, x]) (fun _ s₅ => ∃ m, m < n ∧ I m s₅) (fun _ _ => False) s₄) (fun _ _ => False) s₃
            else ∃ m, m < n ∧ I m s₃) (fun _ _ => False) s₂) (fun _ _ => False) s₁') (fun _ _ => False) s₁) (fun _ _ => False) s)
    (n : Nat) (h : I n s) : codeAny (model prog w) A (.compLoop (.ListComp elt [⟨target, iter, ifs, 0⟩] scope pos) 0 it acc env) R s := by
  refine codeAny_loop rfl I (fun n s hI => ?_) n h
  show wpAny _ A ((compTurn (.ListComp elt [⟨target, iter, ifs, 0⟩] scope pos) 0 it acc env).onRaise (fun x => do noteFrame x env; theTreesLotGoes x)) _ _ s
  refine wpAny_noted ?_
  rw [compTurn_list]
  refine wpAny_bind (wpAny_standAt (wpAny_bind (wpAny_mono (turn n s hI) (fun r s₁ h₁ => ?_) fun _ _ f => f.elim)))
  cases r with
  | none => exact wpAny_pure h₁
  | some v =>
    refine wpAny_bind (wpAny_mono h₁ (fun _ s₁' h₁' => wpAny_bind (wpAny_mono h₁' (fun _ s₂ h₂ => wpAny_bind (wpAny_mono h₂ (fun ok s₃ h₃ => ?_) fun _ _ f => f.elim)) fun _ _ f => f.elim)) fun _ _ f => f.elim)
    cases ok with
    | false => exact wpAny_pure ⟨rfl, h₃⟩
    | true =>
      exact wpAny_bind (wpAny_bind (wpAny_mono h₃ (fun x s₄ h₄ => wpAny_bind (wpAny_mono h₄ (fun _ s₅ h₅ => wpAny_pure (wpAny_pure ⟨rfl, h₅⟩)) fun _ _ f => f.elim)) fun _ _ f => f.elim))
end

/-! ### names of a block -/
theorem relabel_in {env : Env} : ∀ {names : List (Str × NameKind)} {y : Str} {k : NameKind},
    (names.map fun (n, k) => if (k == NameKind.free && env.scope.kind == .function && env.kindOf n == some .cell) then (n, NameKind.cell) else (n, k)).lookup y = some k → (k = .cell ∨ k = .free) → ∃ k0, (y, k0) ∈ names ∧ (k0 = .cell ∨ k0 = .free)
  | [], _, _, h, _ => by simp at h
  | (n, k0) :: r, y, k, h, hk => by
    have ih := @relabel_in env r y k
    rw [List.map_cons] at h
    by_cases hc : (k0 == NameKind.free && env.scope.kind == .function && env.kindOf n == some .cell) = true
    · simp only [hc, if_true] at h
      cases hy : y == n with
      | true =>
        have e : y = n := eq_of_beq hy
        subst e
        rw [Bool.and_eq_true, Bool.and_eq_true] at hc
        exact ⟨k0, List.mem_cons_self .., .inr (eq_of_beq hc.1.1)⟩
      | false =>
        rw [List.lookup_cons, hy] at h
        obtain ⟨k1, h1, h2⟩ := ih h hk
        exact ⟨k1, List.mem_cons_of_mem _ h1, h2⟩
    · simp only [hc] at h
      cases hy : y == n with
      | true =>
        have e : y = n := eq_of_beq hy
        subst e
        simp only [List.lookup_cons, hy, Bool.false_eq_true, if_false] at h
        cases h
        exact ⟨k0, List.mem_cons_self .., hk⟩
      | false =>
        simp only [List.lookup_cons, hy, Bool.false_eq_true, if_false] at h
        obtain ⟨k1, h1, h2⟩ := ih h hk
        exact ⟨k1, List.mem_cons_of_mem _ h1, h2⟩
theorem relabel_free {env : Env} : ∀ {names : List (Str × NameKind)} {y : Str}, names.lookup y = some .free →
    (names.map fun (n, k) => if (k == NameKind.free && env.scope.kind == .function && env.kindOf n == some .cell) then (n, NameKind.cell) else (n, k)).lookup y = some .cell ∨
    (names.map fun (n, k) => if (k == NameKind.free && env.scope.kind == .function && env.kindOf n == some .cell) then (n, NameKind.cell) else (n, k)).lookup y = some .free
  | [], _, h => by simp at h
  | (n, k0) :: r, y, h => by
    have ih := @relabel_free env r y
    rw [List.map_cons]
    cases hy : y == n with
    | true =>
      simp only [List.lookup_cons, hy] at h
      cases h
      by_cases hc : (NameKind.free == NameKind.free && env.scope.kind == .function && env.kindOf n == some .cell) = true
      · left; simp only [hc, if_true, List.lookup_cons, hy]
      · right; simp only [hc, Bool.false_eq_true, if_false, List.lookup_cons, hy]
    | false =>
      simp only [List.lookup_cons, hy] at h
      by_cases hc : (k0 == NameKind.free && env.scope.kind == .function && env.kindOf n == some .cell) = true
      · simp only [hc, if_true, List.lookup_cons, hy]; exact ih h
      · simp only [hc, Bool.false_eq_true, if_false, List.lookup_cons, hy]; exact ih h
theorem mem_of_lookup {κ β : Type} [BEq κ] [LawfulBEq κ] : ∀ {l : List (κ × β)} {y : κ} {b : β}, l.lookup y = some b → (y, b) ∈ l
  | [], _, _, h => by simp at h
  | (n, k) :: r, y, b, h => by
    cases hy : y == n with
    | true =>
      have e : y = n := eq_of_beq hy
      subst e
      simp only [List.lookup_cons, hy] at h
      cases h
      exact List.mem_cons_self ..
    | false =>
      simp only [List.lookup_cons, hy] at h
      exact List.mem_cons_of_mem _ (mem_of_lookup h)

/-- the context of a comprehension's block: x its own name, fj the names from around with their slots there -/
def blk (X : Cx) (sc : Scope) (cl : List (Str × Addr)) (fj : List (Str × Nat)) (x : Str) (s₃ : Shared) (H₃ : Hp) (ex : List Addr) : Cx where
  prog := X.prog
  w := X.w
  K := X.K
  mg := X.mg
  base := X.base
  A := X.A
  N := x :: fj.map (·.1)
  s₀ := s₃
  H₀ := H₃
  env := compEnvC sc cl s₃.heap.objs.size X.env
  outer := X.stack
  stack := X.stack
  ex := ex
  fn := fun _ => false
  calm := X.calm
  pn := []
  tr := []
  fx := []
  xe := fun _ _ => False
def frees (σ : St) (fj : List (Str × Nat)) : St := fj.map fun p => (σ[p.2]?).join
/-- what the text must have -/
structure LcOk (X : Cx) (sc : Scope) (cl : List (Str × Addr)) (fj : List (Str × Nat)) (x : Str) : Prop where
  clos : closureFor sc X.env = pure cl
  cell : ∀ y ∈ sc.names, y.2 ≠ .cell
  kind : sc.kind = .function
  names : ∀ y ∈ sc.names, y.2 = .local → sc.names.lookup y.1 = some .local
  hx : sc.names.lookup x = some .local
  sub : ∀ p ∈ cl, X.env.cells.lookup p.1 = some p.2
  has : ∀ y ∈ sc.names, y.2 = .free → (cl.lookup y.1).isSome = true
  fr : ∀ p ∈ fj, X.N[p.2]? = some p.1 ∧ sc.names.lookup p.1 = some .free ∧ (X.env.scope.names.lookup p.1 = some .cell ∨ X.env.scope.names.lookup p.1 = some .free)
  nd : (x :: fj.map (·.1)).Nodup
section
variable {X : Cx} {sc : Scope} {cl : List (Str × Addr)} {fj : List (Str × Nat)} {x : Str} {pins : List (Addr × Obj)} {σ : St} {H : Hp} {s₃ : Shared} {ex : List Addr}
theorem LcOk.sub' (O : LcOk X sc cl fj x) {n : Str} {c : Addr} (h : cl.lookup n = some c) : X.env.cells.lookup n = some c := O.sub (n, c) (mem_of_lookup h)
theorem blk_ok (O : LcOk X sc cl fj x) (I : Inv X pins σ H s₃) (hx : ∀ b ∈ ex, FpOk X pins H b) (hb : ∀ b ∈ ex, ∃ o, s₃.heap.get? b = some o) : (blk X sc cl fj x s₃ H ex).Ok where
  mod := I.ok.mod
  kind := O.kind
  glob := I.ok.glob
  blt := I.ok.blt
  above := Nat.le_refl _
  inj := fun a b c h1 h2 => I.ok.inj a b c (O.sub' h1) (O.sub' h2)
  has := fun y h => by
    have h' : ∃ k, ((relabel sc X.env).names).lookup y = some k ∧ (k = .cell ∨ k = .free) := by
      rcases h with h | h
      · exact ⟨_, h, .inl rfl⟩
      · exact ⟨_, h, .inr rfl⟩
    obtain ⟨k, h1, h2⟩ := h'
    obtain ⟨k0, m, z⟩ := relabel_in h1 h2
    have z' : k0 = .free := z.resolve_left (O.cell _ m)
    subst z'
    have q := O.has _ m rfl
    cases e : cl.lookup y with
    | none => rw [show cl.lookup (y, NameKind.free).1 = cl.lookup y from rfl, e] at q; cases q
    | some c => exact ⟨c, e⟩
  cab := fun _ _ h => by cases h
  hd := by
    rcases I.hdE with z | ⟨e, c, z1, z2⟩
    · exact .inl z
    · exact .inr ⟨e, c, z1, .inl z2⟩
  frames := I.ok.frames
  stk := .inl rfl
  exf := fun b h => by
    obtain ⟨o, e⟩ := hb b h
    obtain ⟨_, _, _, _, h4, _⟩ := hx b h
    exact ⟨Nat.ne_of_lt (Heap.lt_size e), fun y c hc => h4 y c (O.sub' hc)⟩
  bs := fun b o e => I.bs b o e
  bsz := Nat.le_trans I.ok.bsz I.sz
  noex := fun b o e h => by
    obtain ⟨_, _, _, h3, _, _⟩ := hx b h
    rcases h3 with z | z
    · exact I.ok.noex b o e z
    · exact absurd (Nat.lt_of_lt_of_le (Heap.lt_size (I.ok.bs b o e).1) z) (Nat.lt_irrefl _)
  exfs := fun b h z => by
    obtain ⟨_, h1, h2, _, _, _⟩ := hx b h
    exact (List.mem_cons.mp (I.stkSub b z)).elim h1 h2
  funs := I.stack
  frf := I.stkFree
theorem blk_inv (O : LcOk X sc cl fj x) (I : Inv X pins σ H s₃) (hx : ∀ b ∈ ex, FpOk X pins H b) (hb : ∀ b ∈ ex, ∃ o, s₃.heap.get? b = some o) {h₁ : Heap} {m₀ : Str → Option Value} {t : Nat}
    (hns : h₁.Ns s₃.heap.objs.size m₀) (hk : ∀ b o, s₃.heap.get? b = some o → h₁.get? b = some o) : Inv (blk X sc cl fj x s₃ H ex) [] (none :: frees σ fj) H { s₃ with heap := h₁, toks := t } where
  ok := blk_ok O I hx hb
  os := rfl
  bare := I.bare
  base := Un.kept hk
  loc := by
    refine ⟨m₀, hns, fun i y v e1 e2 _ => ?_⟩
    cases i with
    | zero => simp at e2
    | succ i =>
      have e1' : (fj.map (·.1))[i]? = some y := by
        have e : (x :: fj.map (·.1))[i + 1]? = some y := e1
        rw [List.getElem?_cons_succ] at e
        exact e
      have e2' : (frees σ fj)[i]? = some (some v) := by simpa using e2
      rw [List.getElem?_map] at e1'
      cases hp : fj[i]? with
      | none => rw [hp] at e1'; cases e1'
      | some p =>
        rw [hp] at e1'
        have ey : p.1 = y := Option.some.inj e1'
        subst ey
        unfold frees at e2'
        rw [List.getElem?_map, hp] at e2'
        have e3 : (σ[p.2]?).join = some v := Option.some.inj e2'
        have e4 : σ[p.2]? = some (some v) := by
          cases q : σ[p.2]? with
          | none => rw [q] at e3; cases e3
          | some w => rw [q] at e3; cases w with
            | none => cases e3
            | some w => cases e3; rfl
        obtain ⟨f1, f2, f3⟩ := O.fr p (List.mem_of_getElem? hp)
        obtain ⟨m, hn, hl⟩ := I.loc
        obtain ⟨u, r, l⟩ := hl p.2 p.1 v f1 e4 (.inr f3)
        refine ⟨u, r, ?_⟩
        rcases l with ⟨k, _⟩ | ⟨k, c, e, z⟩
        · exfalso
          have k' : X.env.scope.names.lookup p.1 = some .local := k
          rcases f3 with f3 | f3 <;> rw [f3] at k' <;> cases k'
        · have q := O.has _ (mem_of_lookup f2) rfl
          cases ec : cl.lookup p.1 with
          | none => rw [show cl.lookup (p.1, NameKind.free).1 = cl.lookup p.1 from rfl, ec] at q; cases q
          | some c' =>
            have e' := O.sub' ec
            rw [e] at e'
            cases e'
            exact .inr ⟨relabel_free f2, c, ec, z.keeps hk⟩
  cell := fun y c e => let ⟨v, z⟩ := I.cell y c (O.sub' e); ⟨v, z.keeps hk⟩
  free := I.hok.fresh (Nat.le_refl _)
  freeC := fun y c e => I.freeC y c (O.sub' e)
  pin := fun p hp => by cases hp
  hok := I.hok.kept hk
  len := by
    show (none :: frees σ fj).length = (x :: fj.map (·.1)).length
    simp [frees]
  tr := fun p hp => by cases hp
  fix := fun p hp => by cases hp
end

/-! ### [e for x in it if c] -/
/-- W: by the turn, a measure, the list so far and the heap -/
def tLc (wi : TI) (fj : List (Str × Nat)) (tc : TT) (te : TE) : TE := fun σ H Q => wi σ H fun J H1 => ∀ acc, H1 acc = none →
  ∃ W : Nat → Nat → List V → Hp → Prop, (∃ m, W 0 m [] (upd H1 acc (.lst []))) ∧ ∀ i m ys H, W i m ys H →
    (J.stop i H ∧ Q (.ref acc) H) ∨ (J.go i H ∧ ∀ x H', J.yld i H x H' → tc (some x :: frees σ fj) H' fun b H2 =>
      if b = true then te (some x :: frees σ fj) H2 fun v H3 => H3 acc = some (.lst ys) ∧ ys.length < sizeLine ∧ ∃ m', m' < m ∧ W (i + 1) m' (ys ++ [v]) (upd H3 acc (.lst (ys ++ [v])))
      else ∃ m', m' < m ∧ W (i + 1) m' ys H2)
section
variable {X : Cx} {sc : Scope} {cl : List (Str × Addr)} {fj : List (Str × Nat)} {x : Str} {px pos : Pos} {elt iter : Expr} {ifs : List Expr} {wi : TI} {tc : TT} {te : TE}
theorem lc_core (O : LcOk X sc cl fj x) (hc : X.calm = true) (hi : PI X (.Name x px) iter wi)
    (hf : ∀ s₃ H₃ ex, PF (blk X sc cl fj x s₃ H₃ ex) ifs tc) (he : ∀ s₃ H₃ ex, PE (blk X sc cl fj x s₃ H₃ ex) elt te)
    {pins : List (Addr × Obj)} {s : Shared} {σ : St} {H : Hp} {Q : VK} (I : Inv X pins σ H s) (h : tLc wi fj tc te σ H Q) {RR : Value → Addr → Result → Shared → Prop}
    (hRR : ∀ a C s' H' m, Inv X pins σ H' s' → Q (.ref a) H' → s'.heap.Ns C m → H' C = none → C ≠ X.env.locals → X.s₀.heap.objs.size ≤ C →
      (∀ y c, X.env.cells.lookup y = some c → c ≠ C) → (∀ p ∈ X.pn ++ pins, p.1 ≠ C) → RR (.ref a) C (.ok .next) s') :
    wpAny (model X.prog X.w) X.A (eval iter X.env) (fun xv s₁ => wpAny (model X.prog X.w) X.A (pyIter xv) (fun it s₂ => wpAny (model X.prog X.w) X.A (newList []) (fun acc s₃ =>
      wpAny (model X.prog X.w) X.A (newFunctionEnv sc X.env.globals cl [] X.env.qual none .none (some X.env)) (fun cenv s₄ =>
        codeAny (model X.prog X.w) X.A (.compStart (.ListComp elt [⟨.Name x px, iter, ifs, 0⟩] sc pos) 0 it acc { cenv with scope := relabel sc X.env }) (RR acc cenv.locals) s₄) X.xe s₃) X.xe s₂) X.xe s₁) X.xe s := by
  refine thn (hi pins s σ H _ I h) fun v s1 h1 => thn h1 fun itv s2 h2 => ?_
  obtain ⟨it, fp, tn, J, H2, e, I2, T, st2, f2, hW⟩ := h2
  subst e
  have hacc : H2 s2.heap.objs.size = none := I2.hok.fresh (Nat.le_refl _)
  obtain ⟨W, ⟨m0, w0⟩, turn⟩ := hW _ hacc
  have I3 : Inv X pins σ (upd H2 s2.heap.objs.size (.lst [])) { s2 with heap := s2.heap.push { cls := .type "list", data := .seq ([] : List Value).toArray } } := I2.lnew (t' := s2.toks) (ys := []) (its := []) .nil (Nat.zero_le _)
  have old3 : ∀ b o, s2.heap.get? b = some o → (s2.heap.push { cls := .type "list", data := .seq ([] : List Value).toArray }).get? b = some o := fun b o q => Heap.get?_push_of_some _ q
  have st3 := T.keep _ _ _ st2 fun b _ o q => old3 b o q
  have ob3 := T.obj _ _ st3
  have ob2 := T.obj _ _ st2
  have f3 : ∀ b ∈ fp, FpOk X pins (upd H2 s2.heap.objs.size (.lst [])) b := fun b hb => by
    obtain ⟨o, q, _⟩ := ob2 b hb
    obtain ⟨g0, g⟩ := f2 b hb
    exact ⟨by rw [upd_ne (Nat.ne_of_lt (Heap.lt_size q))]; exact g0, g⟩
  refine wpAny_newObj_type ?_
  generalize hS3 : ({ s2 with heap := s2.heap.push { cls := .type "list", data := .seq ([] : List Value).toArray } } : Shared) = s3 at I3 ⊢
  have st3' : tn 0 s3.heap := by rw [← hS3]; exact st3
  have ob3' : ∀ b ∈ fp, ∃ o, s3.heap.get? b = some o ∧ ∀ v, o.data ≠ .cell v := by rw [← hS3]; exact ob3
  generalize hH3 : upd H2 s2.heap.objs.size (.lst []) = H3 at I3 w0 f3
  generalize hac : s2.heap.objs.size = ac at turn ⊢
  clear hS3 st3 ob3 old3
  refine wpAny_newFunctionEnv O.cell (by intro y hy; cases hy) (fun h₁ hns₁ hsb₁ => ?_) O.kind
  have hk1 : ∀ b o, s3.heap.get? b = some o → h₁.get? b = some o := fun b o q => (hsb₁.2 b (Nat.ne_of_lt (Heap.lt_size q))).trans (Heap.get?_push_of_some _ q)
  have B := blk_inv (t := s3.toks + ([] : List (Str × Value)).length) O I3 f3 (fun b hb => let ⟨o, q, _⟩ := ob3' b hb; ⟨o, q⟩) hns₁ hk1
  generalize hX : blk X sc cl fj x s3 H3 fp = X' at B
  have hPF := hf s3 H3 fp
  have hPE := he s3 H3 fp
  rw [hX] at hPF hPE
  have eA : X'.A = X.A := by rw [← hX]; rfl
  have eP : X'.prog = X.prog := by rw [← hX]; rfl
  have eW : X'.w = X.w := by rw [← hX]; rfl
  have eK : X'.K = X.K := by rw [← hX]; rfl
  have eC : X'.calm = true := by rw [← hX]; exact hc
  have eE : X'.env = compEnvC sc cl s3.heap.objs.size X.env := by rw [← hX]; rfl
  have eX : X'.xe = fun _ _ => False := by rw [← hX]; rfl
  have eex : X'.ex = fp := by rw [← hX]; rfl
  have epn : X'.pn = [] := by rw [← hX]; rfl
  have eO : X'.outer = X.stack := by rw [← hX]; rfl
  have eS : X'.s₀ = s3 := by rw [← hX]; rfl
  have eH : X'.H₀ = H3 := by rw [← hX]; rfl
  have eN : X'.N = x :: fj.map (·.1) := by rw [← hX]; rfl
  have eF : X'.fx = [] := by rw [← hX]; rfl
  have stat : ∀ {H' : Hp}, (∀ b ∈ fp, H' b = none) → ∀ b ∈ fp, FpOk X' [] H' b := fun {H'} hn b hb => by
    obtain ⟨o, q, _⟩ := ob3' b hb
    obtain ⟨_, g1, g2, g3, g4, g5⟩ := f3 b hb
    refine ⟨hn b hb, ?_, ?_, .inl (by rw [eex]; exact hb), ?_, ?_⟩
    · rw [eE]; exact Nat.ne_of_lt (Heap.lt_size q)
    · show b ∉ frs X'.outer
      rw [eO]
      exact fun z => (List.mem_cons.mp (I3.stkSub b z)).elim g1 g2
    · rw [eE]; exact fun y c hc' => g4 y c (O.sub' hc')
    · rw [epn]; intro p hp; cases hp
  have loop : codeAny (model X.prog X.w) X.A (.compLoop (.ListComp elt [⟨.Name x px, iter, ifs, 0⟩] sc pos) 0 (.ref it) (.ref ac) (compEnvC sc cl s3.heap.objs.size X.env)) (RR (.ref ac) s3.heap.objs.size)
      { s3 with heap := h₁, toks := s3.toks + ([] : List (Str × Value)).length } := by
    refine compLoop_go (fun n s' => ∃ i o ys H', Inv X' [] (o :: frees σ fj) H' s' ∧ tn i s'.heap ∧ (∀ b ∈ fp, H' b = none) ∧ W i n ys H') ?_ m0
      ⟨0, none, [], H3, B, T.keep _ _ _ st3' fun b _ o q => hk1 b o q, fun b hb => (f3 b hb).1, w0⟩
    rintro n s4 ⟨i, o4, ys, H4, J4, st4, fr4, w4⟩
    rw [← eE, ← eP, ← eW, ← eA]
    rcases turn i n ys H4 w4 with ⟨stop, q⟩ | ⟨go, step⟩
    · have T' : Turn X'.prog X'.w X'.K (.Name x px) J fp it tn := by rw [eP, eW, eK]; exact T
      refine thn (T'.done X' rfl rfl rfl eC i [] s4 _ H4 _ J4 (stat fr4) st4 stop) fun r s5 ⟨hr, J5⟩ => ?_
      subst hr
      have hb5 := J5.base
      rw [eS, eH, eex, show X'.fs = frs X.stack by show frs X'.outer = _; rw [eO]] at hb5
      have ho5 := J5.os
      rw [eS] at ho5
      have hk5 := J5.hok
      rw [eP, eW] at hk5
      have I5 : Inv X pins σ H4 s5 := I3.call' (ch := fp) ho5 hb5 hk5 J5.bare fun b hb => by
        obtain ⟨_, g1, g2, g3, g4, g5⟩ := f3 b hb
        exact ⟨g3, g1, g4, g5⟩
      obtain ⟨m5, n5, _⟩ := J5.loc
      have fr5 := J5.free
      rw [eE] at n5 fr5
      refine hRR ac s3.heap.objs.size s5 H4 m5 I5 q n5 fr5 (Ne.symm (Nat.ne_of_lt I3.lt)) I3.sz (fun y c hc' => ?_) fun p hp => ?_
      · obtain ⟨_, oc, q', _⟩ := I3.cell y c hc'
        exact Nat.ne_of_lt (Heap.lt_size q')
      · exact Nat.ne_of_lt (Heap.lt_size (I3.pin p hp).1)
    · have T' : Turn X'.prog X'.w X'.K (.Name x px) J fp it tn := by rw [eP, eW, eK]; exact T
      refine thn (T'.item X' rfl rfl rfl eC i [] s4 _ H4 _ J4 (stat fr4) st4 go) fun r s5 ⟨u, hr, h5⟩ => ?_
      subst hr
      refine thn h5 fun _ s6 ⟨xv, H6, J6, r6, y6, st6, fr6⟩ => ?_
      have J6' := J6.pinned (stat fr6) (T.obj _ _ st6)
      have lx : X'.env.scope.names.lookup x = some .local := by rw [eE]; exact lookup_relabel_local O.hx
      have pg : PG X' (.Name x px) (gName 0) := pg_name (by rw [eN]; exact O.nd) (by rw [eN]; rfl) (.inl lx) (.inr lx) (by rw [eF]; intro p hp; cases hp)
      have q6 := step xv H6 y6
      refine wpAny_mono (pg _ s6 _ H6 xv u (fun σ' H' => σ' = some xv :: frees σ fj ∧ H' = H6) J6' r6 ⟨rfl, rfl⟩) (fun _ s7 ⟨σ7, H7, J7, e7, e7'⟩ => ?_) (by rw [eX]; exact fun _ _ f => f)
      subst e7 e7'
      refine wpAny_mono (hPF _ s7 _ H7 _ J7 q6) (fun b s8 ⟨H8, J8, q8⟩ => ?_) (by rw [eX]; exact fun _ _ f => f)
      have back : ∀ {H9 : Hp} {s9 : Shared} {o9 : Option V}, Inv X' ([] ++ pinsAt fp s6.heap) (o9 :: frees σ fj) H9 s9 → Inv X' [] (o9 :: frees σ fj) H9 s9 ∧ tn (i + 1) s9.heap ∧ ∀ b ∈ fp, H9 b = none := fun {H9 s9 o9} J9 => by
        refine ⟨J9.unpinned, T.keep _ _ _ st6 fun b hb o q => (J9.pin (b, o) (List.mem_append_right _ (List.mem_append_right _ (mem_pinsAt hb q)))).1, fun b hb => ?_⟩
        obtain ⟨o, q, d⟩ := T.obj _ _ st6 b hb
        exact (J9.pin (b, o) (List.mem_append_right _ (List.mem_append_right _ (mem_pinsAt hb q)))).2.1
      cases b with
      | false =>
        obtain ⟨m', hm, w8⟩ : ∃ m', m' < n ∧ W (i + 1) m' ys H8 := q8
        obtain ⟨b1, b2, b3⟩ := back J8
        exact ⟨m', hm, i + 1, some xv, ys, H8, b1, b2, b3, w8⟩
      | true =>
        refine wpAny_mono (hPE _ s8 _ H8 _ J8 q8) (fun uv s9 ⟨v9, H9, J9, r9, ha9, hl9, m', hm, w9⟩ => ?_) (by rw [eX]; exact fun _ _ f => f)
        refine wpAny_mono (mt_append (X := X') _ s9 _ H9 (.ref ac) [v9] (.ref ac) [uv] (fun _ H' => H' = upd H9 ac (.lst (ys ++ [v9]))) J9 rfl (.cons r9 .nil) ⟨ac, ys, v9, rfl, rfl, ha9, hl9, rfl⟩)
          (fun _ s10 ⟨_, H10, J10, _, e10⟩ => ?_) (by rw [eX]; exact fun _ _ f => f)
        subst e10
        obtain ⟨b1, b2, b3⟩ := back J10
        exact ⟨m', hm, i + 1, some xv, ys ++ [v9], _, b1, b2, b3, w9⟩
  exact codeAny_compStart_list loop (T.self _ 0 _ _ _ (T.keep _ _ _ st3' fun b _ o q => hk1 b o q) loop)
theorem pe_lc (O : LcOk X sc cl fj x) (hc : X.calm = true) (hi : PI X (.Name x px) iter wi)
    (hf : ∀ s₃ H₃ ex, PF (blk X sc cl fj x s₃ H₃ ex) ifs tc) (he : ∀ s₃ H₃ ex, PE (blk X sc cl fj x s₃ H₃ ex) elt te)
    (hs : ∀ x, foldedSetIterable iter X.env x = pure x := by intro _; rfl) : PE X (.ListComp elt [⟨.Name x px, iter, ifs, 0⟩] sc pos) (tLc wi fj tc te) := by
  intro pins s σ H Q I h
  rw [eval_ListComp]
  refine wpAny_comprehension_free (use := none) rfl hs O.clos O.kind O.names (lc_core O hc hi hf he I h (RR := fun acc C => compPost (model X.prog X.w) X.A X.xe none (EP X pins σ Q) acc C) ?_)
  intro a C s' H' m I' q hn hC hL hz h2 h3
  exact ⟨m, hn, fun h' hs' => ⟨.ref a, H', I'.turned (t' := s'.toks) (fun b o hb e => (hs'.2 b hb).trans e) hC hL (.inr hz) h2 h3, rfl, q⟩⟩
end

/-! ### the forms one uses: no test -/
theorem lc_list {K : PySem.W.Frag} {a : Addr} {xs : List V} {fj : List (Str × Nat)} {te : TE} {σ : St} {H1 : Hp} {Q : Addr → Hp → Prop} (hn : xs.length ≤ 1000)
    (Pv : Addr → Nat → List V → Hp → Prop) (h0 : ∀ acc, H1 acc = none → Pv acc 0 [] (upd H1 acc (.lst [])))
    (hl : ∀ acc i ys H, i ≤ xs.length → Pv acc i ys H → ys.length = i ∧ SqL K H a xs)
    (hs : ∀ acc i x ys H (Qf : VK), xs[i]? = some x → Pv acc i ys H → (∀ v H3, H3 acc = some (.lst ys) → Pv acc (i + 1) (ys ++ [v]) (upd H3 acc (.lst (ys ++ [v]))) → Qf v H3) → te (some x :: frees σ fj) H Qf)
    (hd : ∀ acc ys H, H1 acc = none → Pv acc xs.length ys H → Q acc H) :
    ∀ acc, H1 acc = none → ∃ W : Nat → Nat → List V → Hp → Prop, (∃ m, W 0 m [] (upd H1 acc (.lst []))) ∧ ∀ i m ys H, W i m ys H →
      ((Itl K a).stop i H ∧ Q acc H) ∨ ((Itl K a).go i H ∧ ∀ x H', (Itl K a).yld i H x H' → tYes (some x :: frees σ fj) H' fun b H2 =>
        if b = true then te (some x :: frees σ fj) H2 fun v H3 => H3 acc = some (.lst ys) ∧ ys.length < sizeLine ∧ ∃ m', m' < m ∧ W (i + 1) m' (ys ++ [v]) (upd H3 acc (.lst (ys ++ [v])))
        else ∃ m', m' < m ∧ W (i + 1) m' ys H2) := by
  intro acc hacc
  refine ⟨fun i m ys H => m = xs.length - i ∧ i ≤ xs.length ∧ Pv acc i ys H, ⟨_, rfl, Nat.zero_le _, h0 acc hacc⟩, ?_⟩
  rintro i m ys H ⟨rfl, hi, hp⟩
  obtain ⟨l1, l2⟩ := hl acc i ys H hi hp
  by_cases e : i = xs.length
  · subst e; exact .inl ⟨⟨xs, l2, Nat.le_refl _⟩, hd acc ys H hacc hp⟩
  · have hlt : i < xs.length := by omega
    refine .inr ⟨⟨xs, xs[i], l2, List.getElem?_eq_getElem hlt⟩, ?_⟩
    rintro x H' ⟨rfl, hy⟩
    refine (hs acc i x ys _ (fun v H3 => H3 acc = some (.lst ys) ∧ ys.length < sizeLine ∧ ∃ m', m' < xs.length - i ∧ (m' = xs.length - (i + 1) ∧ i + 1 ≤ xs.length ∧ Pv acc (i + 1) (ys ++ [v]) (upd H3 acc (.lst (ys ++ [v]))))) (hy xs l2) hp fun v H3 q1 q2 => ⟨q1, ?_, xs.length - (i + 1), by omega, rfl, by omega, q2⟩)
    exact small1000 (by omega)

/-! ### walking a list or a tuple -/
/-! ### == and != of data -/
mutual
inductive DV (K : PySem.W.Frag) (H : Hp) : V → PyData → Prop
  | non : DV K H .non .none
  | bl (b : Bool) : DV K H (.bl b) (.bool b)
  | int (i : Int) : DV K H (.int i) (.int i)
  | str (x : Str) : DV K H (.str x) (.str x)
  | lst {a : Addr} {xs : List V} {ds : List PyData} : SqL K H a xs → DVs K H xs ds → DV K H (.ref a) (.list ds)
  | tup {a : Addr} {xs : List V} {ds : List PyData} : SqT K H a xs → DVs K H xs ds → DV K H (.ref a) (.tuple ds)
inductive DVs (K : PySem.W.Frag) (H : Hp) : List V → List PyData → Prop
  | nil : DVs K H [] []
  | cons {x : V} {xs : List V} {d : PyData} {ds : List PyData} : DV K H x d → DVs K H xs ds → DVs K H (x :: xs) (d :: ds)
end
section
variable {X : Cx} {pins : List (Addr × Obj)} {σ : St} {H : Hp} {s : Shared}
mutual
theorem DV.reads (I : Inv X pins σ H s) : ∀ {v : V} {d : PyData} {u : Value}, DV X.K H v d → RelV v u → ∃ as, Reads s.heap u d as
  | _, _, _, .non, r => by cases (show _ = Value.none from r); exact ⟨_, .none⟩
  | _, _, _, .bl b, r => by cases (show _ = Value.bool b from r); exact ⟨_, .bool b⟩
  | _, _, _, .int i, r => by obtain ⟨t, e⟩ := (show ∃ t, _ = Value.int i t from r); subst e; exact ⟨_, .int i t⟩
  | _, _, _, .str x, r => by obtain ⟨t, e⟩ := (show ∃ t, _ = Value.str x t from r); subst e; exact ⟨_, .str x t⟩
  | _, _, _, .lst (a := a) hq hd, r => by
    cases (show _ = Value.ref a from r)
    obtain ⟨its, rv, ⟨o, n, e, c, _, dt⟩, _⟩ := I.list hq
    obtain ⟨as, q⟩ := DVs.reads I hd rv
    exact ⟨_, .list e c dt (by simpa using q)⟩
  | _, _, _, .tup (a := a) hq hd, r => by
    cases (show _ = Value.ref a from r)
    obtain ⟨its, rv, p, _⟩ := I.tuple hq
    obtain ⟨o, e, c, n, dt⟩ := p
    obtain ⟨as, q⟩ := DVs.reads I hd rv
    exact ⟨_, .tuple e c dt (by simpa using q)⟩
theorem DVs.reads (I : Inv X pins σ H s) : ∀ {vs : List V} {ds : List PyData} {us : List Value}, DVs X.K H vs ds → Vals vs us → ∃ as, ReadsAll s.heap us ds as
  | _, _, _, .nil, r => by cases r; exact ⟨_, .nil⟩
  | _, _, _, .cons hd ht, r => by
    cases r with
    | cons r1 r2 =>
      obtain ⟨as, q⟩ := DV.reads I hd r1
      obtain ⟨bs, p⟩ := DVs.reads I ht r2
      exact ⟨_, .cons q p⟩
end
end
section
variable {X : Cx}
def rEqD (K : PySem.W.Frag) (neg : Bool) : R2 := fun x y H Q => ∃ d e, DV K H x d ∧ DV K H y e ∧ SeqAt.shaped d = true ∧ SeqAt.shaped e = true ∧ Q (.bl (if neg then !PyData.eqv d e else PyData.eqv d e)) H
theorem op_neD (hu : X.A.units + 64 < cLine) : OpR X (compareOp .NotEq) (rEqD X.K true) := by
  intro pins s σ H x y v u Q I rx ry ⟨d, e, hd, he, sd, se, q⟩
  obtain ⟨as, ra⟩ := hd.reads I rx
  obtain ⟨bs, rb⟩ := he.reads I ry
  exact SeqAt.compareNe_shaped ra rb sd se hu (fin_bl I q rfl)
/-- x is True, x is False -/
def rIsB : R2 := fun x y H Q => ∃ b, y = .bl b ∧ Q (.bl (decide (x = .bl b))) H
/-- isinstance(x, C): C a built-in type -/
def rIsin (K : PySem.W.Frag) (T : String) : List V → Hp → VK → Prop := fun xs H Q => ∃ x t b, xs = [x, .ty T] ∧ TyOf K H x t ∧ PySem.W.kitOne K t (.type T) = some b ∧ Q (.bl b) H
theorem call_isinst {T : String} : CallR X (.builtin "isinstance") (rIsin X.K T) := by
  intro pins s σ H xs us Q I r ⟨x, t, b, e, ty, ek, q⟩
  subst e
  obtain ⟨u, w', rfl, ru, rw'⟩ := vals2 r
  cases (show w' = Value.type T from rw')
  exact isinst_ok I ru ty ek fun tk => ⟨.bl b, H, I.tok tk, rfl, q⟩
/-- isinstance(x, C): C a class of the text -/
theorem call_isinstC {C : Addr} : CallR X (.builtin "isinstance") (fun xs H Q => ∃ x t b, xs = [x, .ref C] ∧ TyOf X.K H x t ∧ PySem.W.kitOne X.K t (.ref C) = some b ∧ Q (.bl b) H) := by
  intro pins s σ H xs us Q I r ⟨x, t, b, e, ty, ek, q⟩
  subst e
  obtain ⟨u, w', rfl, ru, rw'⟩ := vals2 r
  cases (show w' = Value.ref C from rw')
  exact isinst_ok I ru ty ek fun tk => ⟨.bl b, H, I.tok tk, rfl, q⟩
theorem all_range : ∀ bs : List Bool, (List.range bs.length).all (fun i => bs.getD i true) = bs.all id
  | [] => rfl
  | b :: r => by
    rw [List.length_cons, List.range_succ_eq_map, List.all_cons, List.all_map, List.all_cons]
    have := all_range r
    simp only [List.getD_cons_zero, Function.comp_def, List.getD_cons_succ] at this ⊢
    rw [this]
    rfl
/-- the walk over a list while something is handled -/
def HdIn (A : Around) (L : List Addr) (h : Heap) : Prop := A.handled = none ∨ ∃ (e : Addr) (oe : Obj) (vs : Array Value), A.handled = some (.ref e) ∧ e ∈ L ∧ h.get? e = some oe ∧ oe.data = .fields vs ∧
  (vs[2]? = some .none ∨ ∃ (b : Addr) (ob : Obj) (vb : Array Value), vs[2]? = some (.ref b) ∧ b ≠ e ∧ b ∈ L ∧ h.get? b = some ob ∧ ob.data = .fields vb ∧ vb[2]? = some .none)
theorem HdIn.at {A : Around} {L : List Addr} {h : Heap} (x : HdIn A L h) : HdAt A h := by
  rcases x with x | ⟨e, oe, vs, a, _, b, c, d⟩
  · exact .inl x
  · refine .inr ⟨e, oe, vs, a, b, c, ?_⟩
    rcases d with d | ⟨b, ob, vb, d1, d2, _, d3⟩
    · exact .inl d
    · exact .inr ⟨b, ob, vb, d1, d2, d3⟩
theorem HdAt.in {A : Around} {h : Heap} (x : HdAt A h) : ∃ L, HdIn A L h := by
  rcases x with x | ⟨e, oe, vs, a, b, c, d⟩
  · exact ⟨[], .inl x⟩
  · rcases d with d | ⟨b', ob, vb, d1, d2, d3⟩
    · exact ⟨[e], .inr ⟨e, oe, vs, a, by simp, b, c, .inl d⟩⟩
    · exact ⟨[e, b'], .inr ⟨e, oe, vs, a, by simp, b, c, .inr ⟨b', ob, vb, d1, d2, by simp, d3⟩⟩⟩
theorem HdIn.keepF {A : Around} {L : List Addr} {h h' : Heap} (x : HdIn A L h) (k : ∀ b ∈ L, ∀ o, h.get? b = some o → h'.get? b = some o) : HdIn A L h' := by
  rcases x with x | ⟨e, oe, vs, a, m, b, c, d⟩
  · exact .inl x
  · refine .inr ⟨e, oe, vs, a, m, k e m oe b, c, ?_⟩
    rcases d with d | ⟨b, ob, vb, d1, d2, d3, d4, d5⟩
    · exact .inl d
    · exact .inr ⟨b, ob, vb, d1, d2, d3, k b d3 ob d4, d5⟩
theorem walks_listH {prog : Program} {w : World} {A : Around} (I ax : Addr) (hne : ax ≠ I) (items : Array Value) (L : List Addr) :
    Walks prog w A I (I :: ax :: L) [I] items.size (fun i v => items[i]? = some v) (fun i h => h.IsListIter I ax i ∧ h.IsList ax items ∧ HdIn A L h) where
  sub := fun b hb => by rw [List.mem_singleton.mp hb]; exact List.mem_cons_self ..
  frame := fun _ _ _ st hk => ⟨st.1.at fun o e => hk I (List.mem_cons_self ..) o e, st.2.1.at fun o e => hk ax (List.mem_cons_of_mem _ (List.mem_cons_self ..)) o e, st.2.2.keepF fun b hb o e => hk b (List.mem_cons_of_mem _ (List.mem_cons_of_mem _ hb)) o e⟩
  item := fun i s Q E hi st hQ => by
    refine wpAny_pyNext_list_item st.1 st.2.1 (x := items[i]) (by simp [hi]) fun h' hit' hs' => ?_
    refine hQ _ h' s.toks (by simp [hi]) ⟨hit', st.2.1.extBut hs'.extBut hne, ?_⟩ fun b o hb e => hs'.extBut b o (fun h => hb (by simp [h])) e
    have nit : ∀ (c : Addr) (o : Obj) (vs : Array Value), s.heap.get? c = some o → o.data = .fields vs → (vs[2]? = some .none ∨ ∃ b, vs[2]? = some (.ref b)) → c ≠ I := fun c o vs b c' d z => by
      subst z
      obtain ⟨o', ho, _, hd⟩ := st.1
      rw [b] at ho; cases ho; rw [hd] at c'; cases c'
      rcases d with d | ⟨_, d⟩ <;> simp at d
    rcases st.2.2 with x | ⟨e, oe, vs, a, m, b, c, d⟩
    · exact .inl x
    · refine .inr ⟨e, oe, vs, a, m, hs'.extBut e oe (nit e oe vs b c ?_) b, c, ?_⟩
      · rcases d with d | ⟨b, _, _, d, _⟩
        · exact .inl d
        · exact .inr ⟨b, d⟩
      · rcases d with d | ⟨b, ob, vb, d1, d2, d3, d4, d5, d6⟩
        · exact .inl d
        · exact .inr ⟨b, ob, vb, d1, d2, d3, hs'.extBut b ob (nit b ob vb d4 d5 (.inl d6)) d4, d5, d6⟩
  done := fun s Q E st hQ => list_endH st.2.2.at st.1 st.2.1 (by simp) fun h' he => hQ h' s.toks fun b o hb e => he b o (fun h => hb (by simp [h])) e
  self := fun _ _ _ _ st h => wpAny_pyIter_listiter st.1 h
/-- all of a list of bools -/
def rAll (K : PySem.W.Frag) : List V → Hp → VK → Prop := fun xs H Q => ∃ (p : Addr) (bs : List Bool), xs = [.ref p] ∧ SqL K H p (bs.map V.bl) ∧ Q (.bl (bs.all id)) H
theorem call_all (hc : X.calm = true) : CallR X (.builtin "all") (rAll X.K) := by
  intro pins s σ H xs us Q I r ⟨p, bs, e, hq, q⟩
  subst e
  obtain ⟨u, rfl, ru⟩ := vals1 r
  cases (show u = Value.ref p from ru)
  obtain ⟨its, rv, pl, hz⟩ := I.list hq
  have hp : p < s.heap.objs.size := by obtain ⟨o, n, e, _⟩ := pl; exact Heap.lt_size e
  have hlen : its.length = bs.length := by rw [← rv.length, List.length_map]
  refine call_all_walk (wpAny_pyIter_list pl.isList ?_)
  obtain ⟨HL, hHL⟩ := I.hd.in
  refine ⟨s.heap.objs.size, _, [s.heap.objs.size], its.toArray.size, _, _, (fun i => bs.getD i true), rfl, walks_listH s.heap.objs.size p (Nat.ne_of_lt hp) its.toArray HL,
    ⟨⟨_, Heap.get?_push_size _ rfl, rfl, rfl⟩, pl.isList.push _, hHL.keepF fun _ _ _ e => Heap.get?_push_of_some _ e⟩, ?_, fun h' tk hk => ?_⟩
  · intro i v s' Q' E' hv hQ
    have hv' : its[i]? = some v := by simpa using hv
    have hi : i < bs.length := by rw [← hlen]; exact (List.getElem?_eq_some_iff.mp hv').1
    obtain ⟨w', e1, r1⟩ := rv.get (i := i) (x := .bl bs[i]) (by rw [List.getElem?_map, List.getElem?_eq_getElem hi]; rfl)
    rw [hv'] at e1
    cases e1
    cases (show v = Value.bool bs[i] from r1)
    refine wpAny_truthy_bool ?_
    rw [show bs[i] = bs.getD i true by rw [List.getD_eq_getElem?_getD, List.getElem?_eq_getElem hi]; rfl]
    exact hQ
  · have ks : ∀ b o, s.heap.get? b = some o → h'.get? b = some o := fun b o e => hk b o (by
      intro z
      rcases List.mem_cons.mp z with z | z
      · exact absurd (Heap.lt_size e) (by rw [z]; exact Nat.lt_irrefl _)
      · cases z) (Heap.get?_push_of_some _ e)
    refine ⟨.bl _, H, I.kept (t' := tk) ks, rfl, ?_⟩
    rw [List.size_toArray, hlen, all_range]
    exact q
def tDict0 : TE := fun _ H Q => ∀ p, H p = none → Q (.ref p) (upd H p (.dK []))
end

/-! ### t[:] of a tuple is the tuple -/
section
variable {prog : Program} {w : World} {A : Around} {E : Value → Shared → Prop} {s : Shared}
end
section
variable {X : Cx}
def rSlW (K : PySem.W.Frag) : V → Option Int → Option Int → Hp → VK → Prop := fun x lo hi H Q => ∃ a xs, x = .ref a ∧ SqT K H a xs ∧ lo = none ∧ hi = none ∧ Q (.ref a) H
end
end L2
end
section
set_option Elab.async false
set_option linter.all false
set_option maxRecDepth 100000
set_option maxHeartbeats 4000000
/-! EXCEPTIONS, 1: a record in flight, frame by frame -/
namespace L2
open PySem PySem.Spec PyProof.Rows
/-- all is kept but the records at ex; of the frames at fs the slots may change -/
structure Mvd (fs ex : List Addr) (h h' : Heap) : Prop where
  keep : ∀ b o, b ∉ ex → b ∉ fs → h.get? b = some o → h'.get? b = some o
  slot : ∀ b o, b ∉ ex → h.get? b = some o → ∃ sl, h'.get? b = some { o with slots := sl }
  there : ∀ b o, h.get? b = some o → ∃ o', h'.get? b = some o'
theorem Mvd.trans {fs ex : List Addr} {h h1 h2 : Heap} (a : Mvd fs ex h h1) (b : Mvd fs ex h1 h2) : Mvd fs ex h h2 where
  keep := fun c o hx hf e => b.keep c o hx hf (a.keep c o hx hf e)
  slot := fun c o hx e => by
    obtain ⟨sl, e1⟩ := a.slot c o hx e
    obtain ⟨sl', e2⟩ := b.slot c _ hx e1
    exact ⟨sl', e2⟩
  there := fun c o e => by
    obtain ⟨o', e1⟩ := a.there c o e
    exact b.there c o' e1
theorem Mvd.mono {fs fs' ex ex' : List Addr} {h h' : Heap} (a : Mvd fs ex h h') (hf : ∀ b ∈ fs, b ∈ fs') (hx : ∀ b ∈ ex, b ∈ ex') : Mvd fs' ex' h h' :=
  ⟨fun c o nx nf e => a.keep c o (fun z => nx (hx c z)) (fun z => nf (hf c z)) e, fun c o nx e => a.slot c o (fun z => nx (hx c z)) e, a.there⟩
/-- the record of an exception, its newest traceback entry, where that stands, and what it came out of -/
def Fly (e T : Addr) (cls fl cx : Value) (h : Heap) : Prop :=
  ∃ oe vs oT ts, h.get? e = some oe ∧ oe.cls = cls ∧ oe.dict = none ∧ oe.data = .fields vs ∧ vs[1]? = some (.ref T) ∧ vs[2]? = some cx ∧ T ≠ e ∧ h.get? T = some oT ∧ oT.data = .fields ts ∧ ts[3]? = some fl
section
variable {M : Model} {A : Around} {E : Value → Shared → Prop} {s : Shared}
theorem setField_mvd {a : Addr} {o : Obj} {vs : Array Value} {i : Nat} {x : Value} (h : Heap) (ho : h.get? a = some o) (hd : o.data = .fields vs) :
    Mvd [] [a] h (h.update a (Obj.mapFields (·.setIfInBounds i x))) ∧ (h.update a (Obj.mapFields (·.setIfInBounds i x))).get? a = some (Obj.mapFields (·.setIfInBounds i x) o) := by
  have self := Heap.get?_update_self (Obj.mapFields (·.setIfInBounds i x)) ho (Obj.isFreed_of_fields (Obj.data_mapFields hd _))
  have oth : ∀ b, b ∉ [a] → (h.update a (Obj.mapFields (·.setIfInBounds i x))).get? b = h.get? b := fun b hb => Heap.get?_update_other _ _ (fun z => hb (by simp [z]))
  refine ⟨⟨fun b ob hb _ e => (oth b hb).trans e, fun b ob hb e => ⟨ob.slots, (oth b hb).trans e⟩, fun b ob e => ?_⟩, self⟩
  by_cases hb : b ∈ [a]
  · rw [List.mem_singleton.mp hb]; exact ⟨_, self⟩
  · exact ⟨ob, (oth b hb).trans e⟩
theorem dict_mapFields (f : Array Value → Array Value) (o : Obj) : (Obj.mapFields f o).dict = o.dict := by
  unfold Obj.mapFields; split <;> rfl
/-- a new entry for the frame at hand -/
theorem entry_new {cx : Value} {base : Heap} {env : Env} {outer : List Env} {L e : Addr} {oe : Obj} {vs : Array Value} {head : Value} {hadNext : Bool} {Q : Unit → Shared → Prop}
    (hfr : A.frames = some (env :: outer)) (hl : s.heap.FunFrames base (env :: outer)) (hf : env.frame = some L)
    (he : s.heap.get? e = some oe) (hdn : oe.dict = none) (hd : oe.data = .fields vs) (hsz : 1 < vs.size) (h2 : vs[2]? = some cx)
    (h : ∀ h' T, Mvd (frs (env :: outer)) [e] s.heap h' → Fly e T oe.cls (rawInt L) cx h' → s.heap.get? T = none → Q () { s with heap := h' }) :
    wpAny M A (do let a ← frameOf env; let pl ← entryPlaceOf L hadNext; let b ← EntryCells.newEntry head a .none (rawInt L) .none pl; setField (.ref e) 1 b) Q E s := by
  have hene : e ∉ (env :: outer).filterMap (·.frame) := fun hm => by
    obtain ⟨_, o, ho, hnf⟩ := hl.mem hm
    rw [he] at ho; injection ho with ho; subst ho; exact hnf vs hd
  refine wpAny_bind (wpAny_frameOf_fun hfr hl hf fun h₁ hs₁ => ?_)
  refine wpAny_bind (wpAny_entryPlaceOf fun pl hpl => ?_)
  unfold EntryCells.newEntry newFields
  refine wpAny_bind (wpAny_newObj_type ?_ (hpl.sizeOk5 _ _ _ _ _))
  have he₁ : h₁.get? e = some oe := (hs₁.2.1 e hene).trans he
  have he₂ := Heap.get?_push_of_some (h := h₁) { cls := .type "traceback", dict := none, data := .fields ([head, .ref L, .none, rawInt L, .none] ++ (if pl.isEmpty then List.replicate 6 Value.none else pl)).toArray } he₁
  obtain ⟨mv, self⟩ := setField_mvd (i := 1) (x := .ref h₁.objs.size) _ he₂ hd
  have hTe : h₁.objs.size ≠ e := Nat.ne_of_gt (Heap.lt_size he₁)
  have hT := (Heap.get?_update_other (h₁.push { cls := .type "traceback", dict := none, data := .fields ([head, .ref L, .none, rawInt L, .none] ++ (if pl.isEmpty then List.replicate 6 Value.none else pl)).toArray })
    (Obj.mapFields (·.setIfInBounds 1 (Value.ref h₁.objs.size))) (Ne.symm hTe)).trans (Heap.get?_push_size h₁ rfl)
  refine wpAny_setField he₂ hd hsz (h _ h₁.objs.size ⟨fun b o hx hb eo => ?_, fun b o hx eo => ?_, fun b o eo => ?_⟩ ⟨_, _, _, _, self, Obj.cls_mapFields _ _, (dict_mapFields _ _).trans hdn, Obj.data_mapFields hd _, by simp [hsz], by rw [Array.getElem?_setIfInBounds_ne (by decide)]; exact h2, hTe, hT, rfl, by simp⟩ ?_)
  · exact mv.keep b o hx (by simp) (Heap.get?_push_of_some _ ((hs₁.2.1 b hb).trans eo))
  · obtain ⟨sl, es⟩ := hs₁.2.2 b o eo
    obtain ⟨sl', es'⟩ := mv.slot b _ hx (Heap.get?_push_of_some _ es)
    exact ⟨sl', es'⟩
  · obtain ⟨sl, es⟩ := hs₁.2.2 b o eo
    exact mv.there b _ (Heap.get?_push_of_some _ es)
  · cases q : s.heap.get? h₁.objs.size with
    | none => rfl
    | some o =>
      obtain ⟨sl, es⟩ := hs₁.2.2 _ o q
      exact absurd (Heap.lt_size es) (Nat.lt_irrefl _)
/-- the frame looks at an exception that was just made -/
theorem note_first {cx : Value} {base : Heap} {env : Env} {outer : List Env} {L e : Addr} {oe : Obj} {vs : Array Value} {Q : Unit → Shared → Prop}
    (hfr : A.frames = some (env :: outer)) (hl : s.heap.FunFrames base (env :: outer)) (hf : env.frame = some L)
    (he : s.heap.get? e = some oe) (hdn : oe.dict = none) (hd : oe.data = .fields vs) (h1 : vs[1]? = some .none) (h2 : vs[2]? = some cx)
    (h : ∀ h' T, Mvd (frs (env :: outer)) [e] s.heap h' → Fly e T oe.cls (rawInt L) cx h' → s.heap.get? T = none → Q () { s with heap := h' }) : wpAny M A (noteFrame (.ref e) env) Q E s := by
  unfold noteFrame
  simp only [hf]
  refine wpAny_bind (wpAny_field he hd h1 ?_)
  rw [if_neg (by decide)]
  exact entry_new hfr hl hf he hdn hd (Array.getElem?_eq_some_iff.mp h1).1 h2 h
/-- the frame looks at an exception that comes from a callee -/
theorem note_next {cx : Value} {base : Heap} {env : Env} {outer : List Env} {L e T : Addr} {cls : Value} {Q : Unit → Shared → Prop}
    (hfr : A.frames = some (env :: outer)) (hl : s.heap.FunFrames base (env :: outer)) (hf : env.frame = some L) (ht : Fly e T cls .none cx s.heap)
    (h : ∀ h' T', Mvd (frs (env :: outer)) [e, T] s.heap h' → Fly e T' cls (rawInt L) cx h' → s.heap.get? T' = none → Q () { s with heap := h' }) : wpAny M A (noteFrame (.ref e) env) Q E s := by
  obtain ⟨oe, vs, oT, ts, he, hcls, hdn, hd, h1, h2, hTe, hT, hdT, h3⟩ := ht
  subst hcls
  unfold noteFrame
  simp only [hf]
  refine wpAny_bind (wpAny_field he hd h1 ?_)
  rw [if_pos (show (Value.ref T != Value.none) = true from by simp)]
  refine wpAny_bind (wpAny_field hT hdT h3 ?_)
  rw [if_neg (show ¬ ((Value.none == rawInt L) = true) from by simp [rawInt])]
  refine wpAny_bind (wpAny_setField hT hdT (Array.getElem?_eq_some_iff.mp h3).1 ?_)
  obtain ⟨mv, self⟩ := setField_mvd (i := 3) (x := Value.none) _ hT hdT
  have hl' : (s.heap.update T (Obj.mapFields (·.setIfInBounds 3 Value.none))).FunFrames base (env :: outer) := hl.of_keeps fun b o hb hnf => by
    have hbT : b ∉ [T] := fun z => by rw [List.mem_singleton.mp z, hT] at hb; cases hb; exact hnf ts hdT
    exact ⟨o, mv.keep b o hbT (by simp) hb, rfl⟩
  refine entry_new (s := { s with heap := s.heap.update T (Obj.mapFields (·.setIfInBounds 3 Value.none)) }) hfr hl' hf (mv.keep e oe (by simp [Ne.symm hTe]) (by simp) he) hdn hd (Array.getElem?_eq_some_iff.mp h1).1 h2 fun h' T' mv' fl' fr' => ?_
  refine h h' T' ((mv.mono (by simp) (by simp)).trans (mv'.mono (fun _ z => z) (by simp))) fl' ?_
  cases q : s.heap.get? T' with
  | none => rfl
  | some o =>
    obtain ⟨o', q'⟩ := mv.there T' o q
    rw [show (({ s with heap := s.heap.update T (Obj.mapFields (·.setIfInBounds 3 Value.none)) } : Shared).heap.get? T') = none from fr'] at q'
    cases q'
/-- it is met, or goes on to the caller -/
theorem flight_none {e T : Addr} {cls fl cx : Value} {Q : Unit → Shared → Prop} (ht : Fly e T cls fl cx s.heap)
    (h : ∀ h', Mvd [] [T] s.heap h' → Fly e T cls .none cx h' → Q () { s with heap := h' }) : wpAny M A (setFlight (.ref e) none) Q E s := by
  obtain ⟨oe, vs, oT, ts, he, hcls, hdn, hd, h1, h2, hTe, hT, hdT, h3⟩ := ht
  unfold setFlight
  refine wpAny_bind (wpAny_field he hd h1 ?_)
  rw [if_pos (show (Value.ref T != Value.none) = true from by simp)]
  obtain ⟨mv, self⟩ := setField_mvd (i := 3) (x := (none : Option Addr).elim Value.none fun f => rawInt f) _ hT hdT
  have hsz := (Array.getElem?_eq_some_iff.mp h3).1
  refine wpAny_setField hT hdT hsz (h _ mv ⟨oe, vs, _, _, mv.keep e oe (by simp [Ne.symm hTe]) (by simp) he, hcls, hdn, hd, h1, h2, hTe, self, Obj.data_mapFields hdT _, by simp [hsz]⟩)
/-- it was looked at here -/
theorem note_here {env : Env} {L e T : Addr} {cls cx : Value} {Q : Unit → Shared → Prop} (hf : env.frame = some L) (ht : Fly e T cls (rawInt L) cx s.heap) (h : Q () s) : wpAny M A (noteFrame (.ref e) env) Q E s := by
  obtain ⟨oe, vs, oT, ts, he, hcls, hdn, hd, h1, h2, hTe, hT, hdT, h3⟩ := ht
  unfold noteFrame
  simp only [hf]
  refine wpAny_bind (wpAny_field he hd h1 ?_)
  rw [if_pos (show (Value.ref T != Value.none) = true from by simp)]
  refine wpAny_bind (wpAny_field hT hdT h3 ?_)
  rw [if_pos (show ((rawInt L == rawInt L) = true) from by simp)]
  exact wpAny_pure h
/-- it comes back out of a suite of this frame -/
theorem came_back {env : Env} {L e T : Addr} {cls fl cx : Value} (hf : env.frame = some L) (ht : Fly e T cls fl cx s.heap) (h : ∀ h', Mvd [] [T] s.heap h' → Fly e T cls (rawInt L) cx h' → E (.ref e) { s with heap := h' }) : cameBackBy M A env E (.ref e) s := by
  obtain ⟨oe, vs, oT, ts, he, hcls, hdn, hd, h1, h2, hTe, hT, hdT, h3⟩ := ht
  unfold cameBackBy
  refine wpAny_bind (wpAny_field he hd h1 ?_)
  rw [if_neg (show ¬ ((Value.ref T == Value.none) = true) from by simp)]
  rw [hf]
  unfold setFlight
  refine wpAny_bind (wpAny_field he hd h1 ?_)
  rw [if_pos (show (Value.ref T != Value.none) = true from by simp)]
  obtain ⟨mv, self⟩ := setField_mvd (i := 3) (x := (some L : Option Addr).elim Value.none fun f => rawInt f) _ hT hdT
  have hsz := (Array.getElem?_eq_some_iff.mp h3).1
  refine wpAny_setField hT hdT hsz (h _ mv ⟨oe, vs, _, _, mv.keep e oe (by simp [Ne.symm hTe]) (by simp) he, hcls, hdn, hd, h1, h2, hTe, self, Obj.data_mapFields hdT _, by simp [hsz]⟩)
end
end L2
end
section
set_option Elab.async false
set_option linter.all false
set_option maxRecDepth 100000
set_option maxHeartbeats 4000000
/-! EXCEPTIONS, 2: raised, passed on, met -/
namespace L2
open PySem PySem.Spec PyProof.Rows
theorem ObjOk.is {P : Program} {w : World} {H : Hp} {h : Heap} {a : Addr} {o : HO} (x : ObjOk P w H h a o) : ∃ ob, h.get? a = some ob := by
  cases o with
  | lst xs => obtain ⟨_, _, _, _, e⟩ := x; exact ⟨_, e⟩
  | tup xs => obtain ⟨_, _, _, o, e, _⟩ := x; exact ⟨_, e⟩
  | dK kvs => obtain ⟨_, _, _, _, o, _, _, e, _⟩ := x; exact ⟨_, e⟩
  | dT kvs => obtain ⟨_, _, _, _, o, _, _, e, _⟩ := x; exact ⟨_, e⟩
  | set S n => obtain ⟨o, _, _, _, e, _⟩ := x; exact ⟨_, e⟩
  | ins C dx fs => obtain ⟨_, _, _, e, _⟩ := x; exact ⟨_, e⟩
  | own y => obtain ⟨_, e⟩ := x; exact ⟨_, e⟩
  | xd fs => obtain ⟨_, ⟨_, _, _, e, _⟩, _⟩ := x; exact ⟨_, e⟩
  | rng lo hi => obtain ⟨_, _, _, e⟩ := x; exact ⟨_, e⟩
  | frz ob u => obtain ⟨e, _⟩ := x; exact ⟨_, e⟩
  | tbl ps => exact ⟨_, (show h.get? a = some _ from x)⟩
  | met f y => exact ⟨_, (show h.get? a = some _ from x)⟩
  | ext φ => obtain ⟨_, ⟨_, e⟩, _⟩ := x; exact ⟨_, e⟩
  | exc c => obtain ⟨_, _, e, _⟩ := x; exact ⟨_, e⟩
theorem HOk.none_of {P : Program} {w : World} {H : Hp} {h : Heap} (x : HOk P w H h) {a : Addr} (n : h.get? a = none) : H a = none := by
  cases q : H a with
  | none => rfl
  | some u => obtain ⟨o, e⟩ := (x a u q).is; rw [n] at e; cases e
/-- an untracked thing becomes tracked -/
theorem HOk.put {P : Program} {w : World} {H : Hp} {h : Heap} {a : Addr} {o : HO} (x : HOk P w H h) (hn : H a = none) (new : ObjOk P w (upd H a o) h a o) : HOk P w (upd H a o) h := fun b u e => by
  by_cases hb : b = a
  · subst hb; rw [upd_same] at e; cases e; exact new
  · rw [upd_ne hb] at e
    exact (x b u e).stay (fun c v _ q => q) (fun c q => by rw [upd_ne (ne_of_none q hn)]; exact q) fun c xs q => by rw [upd_ne (ne_of_none q hn)]; exact q
section
variable {X : Cx} {pins : List (Addr × Obj)} {σ σ' : St} {H H' : Hp} {s : Shared} {h' : Heap}
/-- THE STEP, where the records at ch are new since the entry -/
theorem Inv.stepN {g' : Array GenState} {t' : Nat} {d' : Drawn} {ch : List Addr} (I : Inv X pins σ H s)
    (hch : ∀ b ∈ ch, X.s₀.heap.get? b = none ∧ b ≠ X.env.locals ∧ (∀ x c, X.env.cells.lookup x = some c → c ≠ b) ∧ ∀ p ∈ X.pn ++ pins, p.1 ≠ b)
    (keep : ∀ b o, b ≠ X.env.locals → b ∉ X.fs → b ∉ ch → s.heap.get? b = some o → H b = none → h'.get? b = some o)
    (slot : ∀ b o, b ≠ X.env.locals → b ∈ X.fs → b ∉ ch → s.heap.get? b = some o → H b = none → ∃ sl, h'.get? b = some { o with slots := sl }) (free : ∀ b o, b ∉ ch → s.heap.get? b = some o → H b = none → H' b = none)
    (there : ∀ b o, b ∉ ch → s.heap.get? b = some o → ∃ o', h'.get? b = some o')
    (tups : ∀ b xs, H b = some (.tup xs) → H' b = some (.tup xs)) (frzs : ∀ b o u, H b = some (.frz o u) → H' b = some (.frz o u)) (tbls : ∀ b ps, H b = some (.tbl ps) → ∃ more, H' b = some (.tbl (ps ++ more))) (excs : ∀ b c, H b = some (.exc c) → H' b = some (.exc c))
    (loc : (∀ x c, X.env.cells.lookup x = some c → ∀ v, s.heap.IsCell c v → h'.IsCell c v) → ∃ m, h'.Ns X.env.locals m ∧ ∀ (i : Nat) (x : Str) (v : V), X.N[i]? = some x → σ'[i]? = some (some v) → Vis X.env.scope x → ∃ u, RelV v u ∧ Look X.env h' m x u)
    (fix : (∀ x c, X.env.cells.lookup x = some c → ∀ v, s.heap.IsCell c v → h'.IsCell c v) → ∀ p ∈ X.fx, ∃ m, h'.Ns X.env.locals m ∧ Look X.env h' m p.1 p.2)
    (len : σ'.length = σ.length) (hok : HOk X.prog X.w H' h') (hg : AllBare g') :
    Inv X pins σ' H' { s with heap := h', gens := g', drawn := d', toks := t' } := by
  have neL : ∀ b o, X.s₀.heap.get? b = some o → b ≠ X.env.locals := fun b o e => Nat.ne_of_lt (Nat.lt_of_lt_of_le (Heap.lt_size e) I.ok.above)
  have neC : ∀ b o, X.s₀.heap.get? b = some o → b ∉ ch := fun b o e hb => by
    rw [(hch b hb).1] at e; cases e
  have cellK : ∀ x c, X.env.cells.lookup x = some c → ∀ v, s.heap.IsCell c v → h'.IsCell c v := fun x c e v ⟨o, ho, hd⟩ => by
    have nch : c ∉ ch := fun z => (hch c z).2.2.1 x c e rfl
    by_cases hc : c ∈ X.fs
    · obtain ⟨sl, q⟩ := slot c o (I.cne x c e) hc nch ho (I.freeC x c e)
      exact ⟨_, q, hd⟩
    · exact ⟨o, keep c o (I.cne x c e) hc nch ho (I.freeC x c e), hd⟩
  refine ⟨I.ok, I.os, hg, ⟨fun b o e n hb hx => ?_, fun b o e n hb hx => ?_, fun b o e n hx => ?_, fun b o e hx => ?_, fun b xs e => tups b xs (I.base.tups b xs e), fun b o xs e => frzs b o xs (I.base.frzs b o xs e), fun b ps e => ?_, fun b c e => excs b c (I.base.excs b c e)⟩, loc cellK, fun x c e => ?_, ?_, fun x c e => ?_, fun p hp => ?_, hok, len.trans I.len, fun p hp => excs _ _ (I.tr p hp), fix cellK⟩
  · exact keep b o (neL b o e) hb (neC b o e) (I.base.keep b o e n hb hx) (I.base.free b o e n hx)
  · obtain ⟨sl, e1⟩ := I.base.slot b o e n hb hx
    obtain ⟨sl', e2⟩ := slot b _ (neL b o e) hb (neC b o e) e1 (I.base.free b o e n hx)
    exact ⟨sl', e2⟩
  · obtain ⟨o', e1⟩ := I.base.there b o e hx
    exact free b o' (neC b o e) e1 (I.base.free b o e n hx)
  · obtain ⟨o', e1⟩ := I.base.there b o e hx
    exact there b o' (neC b o e) e1
  · obtain ⟨m1, e1⟩ := I.base.tbls b ps e
    obtain ⟨m2, e2⟩ := tbls b _ e1
    exact ⟨m1 ++ m2, by rw [e2, Array.append_assoc]⟩
  · obtain ⟨v, z⟩ := I.cell x c e
    exact ⟨v, cellK x c e v z⟩
  · obtain ⟨m, ⟨o, _, _, ho, _⟩, _⟩ := I.loc
    exact free _ o (fun z => (hch _ z).2.1 rfl) ho I.free
  · obtain ⟨v, o, ho, hd⟩ := I.cell x c e
    exact free c o (fun z => (hch c z).2.2.1 x c e rfl) ho (I.freeC x c e)
  · obtain ⟨e, n, ne, nf, d⟩ := I.pin p hp
    have nch : p.1 ∉ ch := fun z => (hch p.1 z).2.2.2 p hp rfl
    exact ⟨keep p.1 p.2 ne nf nch e n, free p.1 p.2 nch e n, ne, nf, d⟩
/-- untracked, new since the entry, none of ours -/
structure Nw (X : Cx) (pins : List (Addr × Obj)) (H : Hp) (b : Addr) : Prop where
  free : H b = none
  new : X.s₀.heap.get? b = none
  loc : b ≠ X.env.locals
  cel : ∀ x c, X.env.cells.lookup x = some c → c ≠ b
  pin : ∀ p ∈ X.pn ++ pins, p.1 ≠ b
theorem Nw.of (I : Inv X pins σ H s) (hex : X.ex = []) {b : Addr} (n : s.heap.get? b = none) (f : H' b = none) : Nw X pins H' b where
  free := f
  new := by
    cases q : X.s₀.heap.get? b with
    | none => rfl
    | some o => obtain ⟨o', e⟩ := I.base.there b o q (by rw [hex]; simp); rw [n] at e; cases e
  loc := fun z => by obtain ⟨m, ⟨o, _, _, ho, _⟩, _⟩ := I.loc; rw [← z, n] at ho; cases ho
  cel := fun x c e z => by obtain ⟨v, o, ho, _⟩ := I.cell x c e; rw [z, n] at ho; cases ho
  pin := fun p hp z => by obtain ⟨e, _⟩ := I.pin p hp; rw [z, n] at e; cases e
/-- a record in flight is written -/
theorem Inv.mvd {ex : List Addr} (I : Inv X pins σ H s) (mv : Mvd (frs X.stack) ex s.heap h') (hex : ∀ b ∈ ex, Nw X pins H b) : Inv X pins σ H { s with heap := h' } := by
  have nx : ∀ b u, H b = some u → b ∉ ex := fun b u e z => by rw [(hex b z).free] at e; cases e
  have nf : ∀ b u, H b = some u → b ∉ frs X.stack := fun b u e z => by rw [I.stkFree b z] at e; cases e
  refine I.stepN (g' := s.gens) (d' := s.drawn) (t' := s.toks) (ch := ex) (fun b hb => ⟨(hex b hb).new, (hex b hb).loc, (hex b hb).cel, (hex b hb).pin⟩) (fun b o hL hf hc e _ => mv.keep b o hc (fun z => (List.mem_cons.mp (I.stkSub b z)).elim hL hf) e) (fun b o _ _ hc e _ => mv.slot b o hc e)
    (fun _ _ _ _ n => n) (fun b o _ e => mv.there b o e) (fun _ _ e => e) (fun _ _ _ e => e) (fun b ps e => ⟨#[], by rw [e]; simp⟩) (fun _ _ e => e) (fun cellK => ?_) (fun cellK p hp => ?_) rfl (fun a o e => (I.hok a o e).stay (fun b u hb q => ?_) (fun _ q => q) fun _ _ q => q) I.bare
  · obtain ⟨m, ⟨o, es, ep, ho, r⟩, hl⟩ := I.loc
    obtain ⟨sl, hL⟩ := mv.slot _ o (fun z => (hex _ z).loc rfl) ho
    refine ⟨m, ⟨_, es, ep, hL, r⟩, fun i x v e1 e2 e3 => ?_⟩
    obtain ⟨u, r, l⟩ := hl i x v e1 e2 e3
    refine ⟨u, r, ?_⟩
    rcases l with l | ⟨k, c, e, z⟩
    · exact .inl l
    · exact .inr ⟨k, c, e, cellK x c e _ z⟩
  · obtain ⟨m, ⟨o, es, ep, ho, r⟩, lk⟩ := I.fix p hp
    obtain ⟨sl, hL⟩ := mv.slot _ o (fun z => (hex _ z).loc rfl) ho
    exact ⟨m, ⟨_, es, ep, hL, r⟩, lk.elim .inl fun ⟨k, c, e, z⟩ => .inr ⟨k, c, e, cellK p.1 c e _ z⟩⟩
  · rcases hb with rfl | hb
    · exact mv.keep b u (nx b _ e) (nf b _ e) q
    · exact mv.keep b u (nx b _ hb) (nf b _ hb) q
end
/-- an exception that was just made -/
def Raw (e : Addr) (cls cx : Value) (h : Heap) : Prop := ∃ oe vs, h.get? e = some oe ∧ oe.cls = cls ∧ oe.dict = none ∧ oe.data = .fields vs ∧ vs[1]? = some .none ∧ vs[2]? = some cx
/-- what it came out of: nothing, or one at rest that is its own -/
def Chn (H : Hp) (h : Heap) (e : Addr) (cx : Value) (d : Option Addr) : Prop := (d = none ∧ cx = .none) ∨ ∃ (b : Addr) (ob : Obj) (vb : Array Value), d = some b ∧ cx = .ref b ∧ b ≠ e ∧ H b = some (.own e) ∧ h.get? b = some ob ∧ ob.data = .fields vb ∧ vb[2]? = some .none
theorem Chn.keep {H H' : Hp} {h h' : Heap} {e : Addr} {cx : Value} {d : Option Addr} (x : Chn H h e cx d) (k : ∀ b ob, H b = some (.own e) → h.get? b = some ob → H' b = some (.own e) ∧ h'.get? b = some ob) : Chn H' h' e cx d := by
  rcases x with x | ⟨b, ob, vb, x1, x2, x3, x4, x5, x6⟩
  · exact .inl x
  · obtain ⟨y1, y2⟩ := k b ob x4 x5
    exact .inr ⟨b, ob, vb, x1, x2, x3, y1, y2, x6⟩
/-- an exception in the air, within a body -/
def Air (X : Cx) (pins : List (Addr × Obj)) (H : Hp) (e : Addr) (cls : Value) (d : Option Addr) (h : Heap) : Prop := Nw X pins H e ∧ ∃ cx, Chn H h e cx d ∧ (Raw e cls cx h ∨ ∃ T fl, Fly e T cls fl cx h ∧ (fl = .none ∨ fl = rawInt X.env.locals) ∧ Nw X pins H T)
/-- what is wanted of an exception is what E says -/
def Out (X : Cx) (E : XK) : Prop := ∀ (pins : List (Addr × Obj)) (σ : St) (H : Hp) (s : Shared) (e : Addr) (cls : Value) (d : Option Addr), Inv X pins σ H s → Air X pins H e cls d s.heap → E cls d H → X.xe (.ref e) s
/-- how an exception lies behind a call -/
def CXE (P : Program) (w : World) : CXT := fun outer H s E e s' => (outer = [] ∧ E = fun _ _ _ => True) ∨ ∃ (a T : Addr) (cls cx : Value) (d : Option Addr) (H' : Hp), e = .ref a ∧ s'.os = s.os ∧ AllBare s'.gens ∧ Un (frs outer) [] H H' s.heap s'.heap ∧ HOk P w H' s'.heap ∧
  H' a = none ∧ s.heap.get? a = none ∧ Fly a T cls .none cx s'.heap ∧ Chn H' s'.heap a cx d ∧ H' T = none ∧ s.heap.get? T = none ∧ E cls d H'
theorem calm_of {P : Program} {w : World} {A : Around} (s : Shared) (h : Calm (CXE P w) A) : A.handled = none := by
  rcases h with h | h
  · have q : CXE P w [] (fun _ => none) s (fun _ _ _ => True) .none s := .inl ⟨rfl, rfl⟩
    rw [h] at q
    exact q.elim
  · exact h
section
variable {X : Cx} {pins : List (Addr × Obj)} {σ : St} {H : Hp} {s : Shared} {E : XK} {M : Model} {e : Addr} {cls : Value}
theorem passes_out (O : Out X E) (hst : X.stack = X.env :: X.outer) (hex : X.ex = []) : Passes (CXE X.prog X.w) X E := by
  intro pins σ H s e s' I h
  rcases h with ⟨h, _⟩ | ⟨a, T, cls, cx, d, H', rfl, os, bare, un, hok, f1, n1, fl, ch, f2, n2, q⟩
  · rw [hst] at h; cases h
  · have I' : Inv X pins σ H' s' := I.call' (ch := []) os un hok bare (fun b z => absurd z (by simp))
    exact O pins σ H' s' a cls d I' ⟨Nw.of I hex n1 f1, cx, ch, .inr ⟨T, _, fl, .inl rfl, Nw.of I hex n2 f2⟩⟩ q
/-- what is tracked is kept by a flight -/
theorem Inv.own_kept {ex : List Addr} {h' : Heap} (I : Inv X pins σ H s) (mv : Mvd (frs X.stack) ex s.heap h') (hex : ∀ b ∈ ex, Nw X pins H b) : ∀ b ob, H b = some (.own e) → s.heap.get? b = some ob → H b = some (.own e) ∧ h'.get? b = some ob := fun b ob hb q =>
  ⟨hb, mv.keep b ob (fun z => by rw [(hex b z).free] at hb; cases hb) (fun z => by rw [I.stkFree b z] at hb; cases hb) q⟩
/-- the frame looks at it -/
theorem look_note {A : Around} {Ex : Value → Shared → Prop} {d : Option Addr} {Q : Unit → Shared → Prop} (I : Inv X pins σ H s) (hA : A.frames = X.A.frames) (hst : X.stack = X.env :: X.outer) (hfr : X.env.frame = some X.env.locals) (hex : X.ex = []) (a : Air X pins H e cls d s.heap)
    (h : ∀ h' T cx, Inv X pins σ H { s with heap := h' } → Fly e T cls (rawInt X.env.locals) cx h' → Chn H h' e cx d → Nw X pins H T → Nw X pins H e → Q () { s with heap := h' }) :
    wpAny M A (noteFrame (.ref e) X.env) Q Ex s := by
  have hl := I.stack
  have hf := I.ok.frames
  rw [hst] at hl hf
  rw [← hA] at hf
  obtain ⟨ne, cx, ch, a⟩ := a
  have fin : ∀ (h1 : Heap) (T : Addr) (ex : List Addr), Mvd (frs (X.env :: X.outer)) ex s.heap h1 → (∀ b ∈ ex, Nw X pins H b) → Fly e T cls (rawInt X.env.locals) cx h1 → s.heap.get? T = none →
      Q () { s with heap := h1 } := fun h1 T ex mv hx fl nT => by
    have mv' : Mvd (frs X.stack) ex s.heap h1 := by rw [hst]; exact mv
    exact h h1 T cx (I.mvd mv' hx) fl (ch.keep (I.own_kept mv' hx)) (Nw.of I hex nT (I.hok.none_of nT)) ne
  rcases a with ⟨oe, vs, he, hc, hdn, hd, h1, h2⟩ | ⟨T0, fl0, fl, hfl, nT0⟩
  · subst hc
    refine note_first hf hl hfr he hdn hd h1 h2 fun h' T mv fl nT => fin h' T [e] mv (fun b hb => by rw [List.mem_singleton.mp hb]; exact ne) fl nT
  · rcases hfl with rfl | rfl
    · refine note_next hf hl hfr fl fun h' T mv fl nT => fin h' T [e, T0] mv (fun b hb => ?_) fl nT
      rcases List.mem_cons.mp hb with rfl | hb
      · exact ne
      · rw [List.mem_singleton.mp hb]; exact nT0
    · exact note_here hfr fl (h s.heap T0 cx I fl ch nT0 ne)
/-- the frame looks at it, and it is met -/
theorem look_land {A : Around} {Ex : Value → Shared → Prop} {d : Option Addr} {Q : Unit → Shared → Prop} (I : Inv X pins σ H s) (hA : A.frames = X.A.frames) (hst : X.stack = X.env :: X.outer) (hfr : X.env.frame = some X.env.locals) (hex : X.ex = []) (a : Air X pins H e cls d s.heap)
    (h : ∀ h' T cx, Inv X pins σ H { s with heap := h' } → Fly e T cls .none cx h' → Chn H h' e cx d → Nw X pins H T → Nw X pins H e → Q () { s with heap := h' }) :
    wpAny M A (noteFrame (.ref e) X.env) (fun _ s2 => wpAny M A (setFlight (.ref e) none) Q Ex s2) Ex s := by
  refine look_note I hA hst hfr hex a fun h1 T cx I1 fl ch nT ne => ?_
  refine flight_none (s := { s with heap := h1 }) fl fun h2 mv2 fl2 => ?_
  have mv' : Mvd (frs X.stack) [T] h1 h2 := mv2.mono (fun b z => nomatch z) fun b z => z
  have hx : ∀ b ∈ [T], Nw X pins H b := fun b hb => by rw [List.mem_singleton.mp hb]; exact nT
  exact h h2 T cx (I1.mvd mv' hx) fl2 (ch.keep (I1.own_kept mv' hx)) nT ne
end
/-- out of a def -/
theorem out_fn {P : Program} {w : World} {K : PySem.W.Frag} {mg : Str → Option Value} {base : Heap} {N : List Str} {qual : Str} {scope : Scope} {f : Addr} {cd : Value} {A : Around} {outer : List Env} {s : Shared} {H : Hp} {E E' : XK} (hE : ∀ c d H, E' c d H → E c d H) :
    Out (cxOf (CXE P w) P w K mg base N qual scope f cd A outer s H E) E' := by
  intro pins σ H' s' e cls d I a q
  show wpAny _ _ (leaving _ (.ref e)) _ _ _
  unfold leaving
  refine wpAny_bind (look_land I rfl rfl rfl rfl a fun h' T cx I' fl ch nT ne => ?_)
  exact .inr ⟨e, T, cls, cx, d, H', rfl, I'.os, I'.bare, I'.base, I'.hok, ne.free, ne.new, fl, ch, nT.free, nT.new, hE _ _ _ q⟩
theorem passes_fn {P : Program} {w : World} {K : PySem.W.Frag} {mg : Str → Option Value} {base : Heap} {N : List Str} {qual : Str} {scope : Scope} {f : Addr} {cd : Value} {A : Around} {outer : List Env} {s : Shared} {H : Hp} {E E' : XK} (hE : ∀ c d H, E' c d H → E c d H) :
    Passes (CXE P w) (cxOf (CXE P w) P w K mg base N qual scope f cd A outer s H E) E' := passes_out (X := cxOf (CXE P w) P w K mg base N qual scope f cd A outer s H E) (out_fn hE) rfl rfl
/-- no exception is wanted -/
theorem cxe0 {P : Program} {w : World} {l : List Env} {H : Hp} {s : Shared} {e : Value} {s' : Shared} (h : CXE P w l H s (fun _ _ _ => False) e s') : False := by
  rcases h with ⟨_, h⟩ | ⟨a, T, cls, cx, d, H', _, _, _, _, _, _, _, _, _, _, _, q⟩
  · have := congrFun (congrFun (congrFun h .none) none) H
    rw [this]; trivial
  · exact q
/-- the class object of an exception of one's own -/
theorem own_obj {K : PySem.W.Frag} {h : Heap} {C : Addr} {bmB : List Value} {newId : String} (X : K.In h) (q : PySem.W.excIn K C bmB newId = true) :
    ∃ bm N nm qn bs hdct sn sub ab col dd k0 k1 k2 k3 k5 mN, h.get? C = some (excClassObj nm qn C N bs bm hdct sn sub ab col dd k0 k1 k2 k3 k5 newId) ∧ h.Ns N mN ∧ mN "__init__" = none ∧ OwnTail h bmB bm := by
  unfold PySem.W.excIn at q
  split at q
  · rename_i dd cd sl ho
    split at q
    · rename_i C' bm k0 k1 k2 k3 n k5 hm hs
      simp only [Bool.and_eq_true, beq_iff_eq, Bool.not_eq_true'] at q
      obtain ⟨⟨⟨⟨⟨rfl, rfl⟩, hdel⟩, ht⟩, hok⟩, hni⟩ := q
      obtain ⟨nm, bs, mro, ns, qn, hd, sn, sub, ab, col, del⟩ := cd
      dsimp only at hm hdel hok hni
      subst hm hdel
      have hsl : sl = #[k0, k1, k2, k3, some (.builtin n), k5] := by
        obtain ⟨l⟩ := sl
        simp only at hs
        rw [hs]
      subst hsl
      exact ⟨bm, ns, nm, qn, bs, hd, sn, sub, ab, col, dd, k0, k1, k2, k3, k5, _, X _ _ ho, .of_isNs (PySem.W.isNs_of_in X hok), PySem.W.nsMap_none_of_in X hok hni, PySem.W.tail_of_in X ht⟩
    · cases q
  · cases q
abbrev veMro : List Value := [.type "ValueError", .type "Exception", .type "BaseException", .type "object"]
/-- raise C(e) -/
def tRaise (E : XK) (C : Addr) (t : TA) : TS := fun _ σ H => t σ H fun vs H1 => vs.length ≤ 1000 ∧ E (.ref C) none H1
theorem ps_raise {X : Cx} {E : XK} {C : Addr} {x : Str} {np cpos pos : Pos} {e : Expr} {es : List Expr} {t : TA} (O : Out X E) (hex : X.ex = []) (hh : X.A.handled = none) (hg : Gl X x) (hm : X.mg x = some (.ref C)) (hc : PySem.W.excIn X.K C veMro "ValueError.__new__" = true)
    (ha : PA X (e :: es) t) (hdb : (x == ("__debug__" : Str)) = false := by decide) (he : starEach (e :: es) X.env = (false, eval e X.env) :: starEach es X.env := by rfl) (hpl : (backTo cpos (starEach es X.env)).any (·.1) = false := by rfl) :
    PS X (.Raise (some (.Call (.Name x np) (e :: es) [] cpos)) none pos) (tRaise E C t) := by
  intro pins s σ H D I h
  obtain ⟨bm, N, nm, q, bs, hdct, sn, sub, ab, col, dd, k0, k1, k2, k3, k5, mN, hC, hN, hni, T⟩ := own_obj I.ok.mod.kin hc
  refine wpAny_Raise_call_subT (C := C) (nm := nm) (q := q) (N := N) (bs := bs) (bm := bm) (hdct := hdct) (sn := sn) (sub := sub) (ab := ab) (col := col) (dd := dd) (k0 := k0) (k1 := k1) (k2 := k2) (k3 := k3) (k5 := k5)
    PySem.F.excBase_ValueError (mN := mN) (T.hasType PySem.F.excBase_ValueError.hasBase) hh (by rw [he]; show (false || (backTo cpos (starEach es X.env)).any (·.1)) = false; rw [hpl]; rfl) hni (ld_glob I hg hm ⟨rfl, ?_⟩ hdb)
  have h2 := ha cpos pins s σ H _ I h
  rw [he] at h2 ⊢
  refine Calls.evalArgs_plain (wpAny_mono h2 (fun us s2 ⟨vs, H1, I1, r, z, q⟩ => ?_) fun _ _ y => y)
  refine ⟨rfl, ?_, I1.bk _ _ hC, hN.keeps I1.bk, T.keeps I1.bk, fun h' e hm => ?_⟩
  · have e := r.length
    show us.length ≤ _
    rw [← e]
    exact Nat.le_of_lt (small1000 z)
  · have I2 : Inv X pins σ H1 { s2 with heap := h' } := I1.kept (t' := s2.toks) hm.keeps
    obtain ⟨t, h1, h2, h3⟩ := hm.there
    exact O pins σ H1 { s2 with heap := h' } e (.ref C) none I2 ⟨Nw.of I1 hex hm.new (I1.hok.none_of hm.new), .none, .inl ⟨rfl, rfl⟩, .inl ⟨_, _, h1, rfl, rfl, rfl, rfl, rfl⟩⟩ q
end L2
end
section
set_option Elab.async false
set_option linter.all false
set_option maxRecDepth 100000
set_option maxHeartbeats 4000000
/-! EXCEPTIONS, 3: try .. except C as e -/
namespace L2
open PySem PySem.Spec PyProof.Rows
/-- a class of the text that an except clause may name -/
structure CatK (K : PySem.W.Frag) (C : Addr) : Prop where
  cls : (match K.lookup C with | some ⟨.type "type", _, .cls _, _⟩ => true | _ => false) = true
  bx : PySem.W.mroIn K C (.type "BaseException") = some true
open PySem.W in
theorem exc_matches {M : Model} {A : Around} {E : Value → Shared → Prop} {s : Shared} {K : PySem.W.Frag} {C0 C e : Addr} {oe : Obj} {b : Bool} {Q : Bool → Shared → Prop} (X : K.In s.heap) (k : CatK K C0) (he : s.heap.get? e = some oe) (hcls : oe.cls = .ref C)
    (hm : mroIn K C (.ref C0) = some b) (h : Q b s) : wpAny M A (excMatches (.ref e) (.ref C0)) Q E s := by
  obtain ⟨hp, g, d, t, os⟩ := s
  have L1 := looks_mroIn (M := M) X k.bx
  have L2 := looks_mroIn (M := M) X hm
  have kc := k.cls
  split at kc
  · rename_i dd cd sl ho
    have hC : hp.get? C0 = some ⟨.type "type", dd, .cls cd, sl⟩ := X _ _ ho
    have f := tc_notTuple
    unfold excMatches
    repeat (first | (with_reducible refine wpAny_loadPart_at he ?_; rw [hcls]) | with_reducible refine wpAny_loadPart_at hC ?_ | (with_reducible refine L1.here ?_) | (with_reducible refine L2.here ?_) | wp_step)
    cases b <;> (wp_walk; exact h)
  · cases kc
end L2
namespace L2
open PySem PySem.Spec PyProof.Rows
abbrev Cx.bod (X : Cx) (pn : List (Addr × Obj)) (fx : List (Str × Value)) (xe : Value → Shared → Prop) : Cx := { X with pn := pn, fx := fx, xe := xe }
abbrev Cx.hnd (X : Cx) (e : Addr) (c : Value) (pn : List (Addr × Obj)) : Cx := { X with A := X.A.mark (some (.ref e)), pn := pn, tr := (e, c) :: X.tr, xe := fun _ _ => False }
theorem Cx.Ok.bod {X : Cx} (ok : X.Ok) (pn : List (Addr × Obj)) (fx : List (Str × Value)) (xe : Value → Shared → Prop) : (X.bod pn fx xe).Ok :=
  ⟨ok.mod, ok.kind, ok.glob, ok.blt, ok.above, ok.inj, ok.has, ok.cab, ok.hd, ok.frames, ok.stk, ok.exf, ok.bs, ok.bsz, ok.noex, ok.exfs, ok.funs, ok.frf⟩
theorem Cx.Ok.hnd {X : Cx} (ok : X.Ok) (e : Addr) (c : Value) (pn : List (Addr × Obj)) : (X.hnd e c pn).Ok :=
  ⟨ok.mod, ok.kind, ok.glob, ok.blt, ok.above, ok.inj, ok.has, ok.cab, .inr ⟨e, c, rfl, .inr (List.mem_cons_self ..)⟩, ok.frames, ok.stk, ok.exf, ok.bs, ok.bsz, ok.noex, ok.exfs, ok.funs, ok.frf⟩
/-- the values of the names that a try's body doesn't assign -/
def mask (W : List Str) : List Str → St → St
  | n :: N, v :: σ => (if W.contains n = true then none else v) :: mask W N σ
  | _, σ => σ
theorem mask_len (W : List Str) : ∀ (N : List Str) (σ : St), (mask W N σ).length = σ.length
  | [], _ => rfl
  | _ :: _, [] => rfl
  | _ :: N, _ :: σ => by simp [mask, mask_len W N σ]
theorem mask_get {W : List Str} : ∀ {N : List Str} {σ : St} {i : Nat} {x : Str} {v : V}, N[i]? = some x → (mask W N σ)[i]? = some (some v) → σ[i]? = some (some v) ∧ x ∉ W
  | [], _, _, _, _, h, _ => by simp at h
  | _ :: _, [], _, _, _, _, h => by simp [mask] at h
  | n :: N, u :: σ, 0, x, v, h1, h2 => by
    simp only [List.getElem?_cons_zero, Option.some.injEq] at h1
    subst h1
    simp only [mask, List.getElem?_cons_zero, Option.some.injEq] at h2
    split at h2
    · cases h2
    · rename_i hc
      exact ⟨by simp [h2], fun z => hc (by simpa using z)⟩
  | n :: N, u :: σ, i + 1, x, v, h1, h2 => by
    have := mask_get (N := N) (σ := σ) (i := i) (x := x) (v := v) (by simpa using h1) (by simpa [mask] using h2)
    simpa using this
section
variable {X : Cx} {pins : List (Addr × Obj)} {σ : St} {H : Hp} {s : Shared} {e : Addr} {c : Value}
/-- the names' values, written out -/
theorem Inv.fixed (I : Inv X pins σ H s) (W : List Str) : ∃ fx : List (Str × Value), (∀ p ∈ fx, p.1 ∉ W) ∧ (∀ p ∈ fx, ∃ m, s.heap.Ns X.env.locals m ∧ Look X.env s.heap m p.1 p.2) ∧
    ∀ (i : Nat) (x : Str) (v : V), X.N[i]? = some x → σ[i]? = some (some v) → Vis X.env.scope x → x ∉ W → ∃ u, RelV v u ∧ (x, u) ∈ fx := by
  obtain ⟨m, hn, hl⟩ := I.loc
  have key : ∀ n : Nat, ∃ fx : List (Str × Value), (∀ p ∈ fx, p.1 ∉ W) ∧ (∀ p ∈ fx, ∃ m, s.heap.Ns X.env.locals m ∧ Look X.env s.heap m p.1 p.2) ∧
      ∀ (i : Nat) (x : Str) (v : V), i < n → X.N[i]? = some x → σ[i]? = some (some v) → Vis X.env.scope x → x ∉ W → ∃ u, RelV v u ∧ (x, u) ∈ fx := by
    intro n
    induction n with
    | zero => exact ⟨[], fun p h => (by cases h), fun p h => (by cases h), fun i x v h => absurd h (Nat.not_lt_zero _)⟩
    | succ n ih =>
      obtain ⟨fx, h1, h2, h3⟩ := ih
      by_cases hx : ∃ x v, X.N[n]? = some x ∧ σ[n]? = some (some v) ∧ Vis X.env.scope x ∧ x ∉ W
      · obtain ⟨x, v, a1, a2, a3, a4⟩ := hx
        obtain ⟨u, r, lk⟩ := hl n x v a1 a2 a3
        refine ⟨(x, u) :: fx, fun p hp => ?_, fun p hp => ?_, fun i y v' hi b1 b2 b3 b4 => ?_⟩
        · rcases List.mem_cons.mp hp with rfl | hp
          · exact a4
          · exact h1 p hp
        · rcases List.mem_cons.mp hp with rfl | hp
          · exact ⟨m, hn, lk⟩
          · exact h2 p hp
        · by_cases hin : i = n
          · subst hin
            rw [a1] at b1; cases b1
            rw [a2] at b2; cases b2
            exact ⟨u, r, List.mem_cons_self ..⟩
          · obtain ⟨u', r', z⟩ := h3 i y v' (by omega) b1 b2 b3 b4
            exact ⟨u', r', List.mem_cons_of_mem _ z⟩
      · refine ⟨fx, h1, h2, fun i y v' hi b1 b2 b3 b4 => ?_⟩
        by_cases hin : i = n
        · subst hin
          exact absurd ⟨y, v', b1, b2, b3, b4⟩ hx
        · exact h3 i y v' (by omega) b1 b2 b3 b4
  obtain ⟨fx, h1, h2, h3⟩ := key X.N.length
  exact ⟨fx, h1, h2, fun i x v a1 a2 a3 a4 => h3 i x v (List.getElem?_eq_some_iff.mp a1).1 a1 a2 a3 a4⟩
theorem Inv.bod (I : Inv X pins σ H s) (hfx0 : X.fx = []) {fx : List (Str × Value)} (hf : ∀ p ∈ fx, ∃ m, s.heap.Ns X.env.locals m ∧ Look X.env s.heap m p.1 p.2) (xe : Value → Shared → Prop) : Inv (X.bod (X.pn ++ pins) fx xe) [] σ H s :=
  ⟨I.ok.bod _ _ _, I.os, I.bare, I.base, I.loc, I.cell, I.free, I.freeC, fun p hp => I.pin p (by simpa using hp), I.hok, I.len, I.tr, hf⟩
theorem Inv.unbod {fx : List (Str × Value)} {xe : Value → Shared → Prop} (J : Inv X pins σ H s) (hfx0 : X.fx = []) {ps : List (Addr × Obj)} {σ' : St} {H' : Hp} {s' : Shared} (I : Inv (X.bod (X.pn ++ pins) fx xe) ps σ' H' s') : Inv X pins σ' H' s' :=
  ⟨J.ok, I.os, I.bare, I.base, I.loc, I.cell, I.free, I.freeC, fun p hp => I.pin p (List.mem_append_left _ hp), I.hok, I.len, I.tr, fun p hp => by rw [hfx0] at hp; cases hp⟩
theorem Nw.unbod {fx : List (Str × Value)} {xe : Value → Shared → Prop} {ps : List (Addr × Obj)} {b : Addr} (n : Nw (X.bod (X.pn ++ pins) fx xe) ps H b) : Nw X pins H b := ⟨n.free, n.new, n.loc, n.cel, fun p hp => n.pin p (List.mem_append_left _ hp)⟩
theorem Nw.hnd {e' : Addr} {b : Addr} (n : Nw X pins H b) (hb : b ≠ e') (c : Value) (o : HO) : Nw (X.hnd e' c (X.pn ++ pins)) [] (upd H e' o) b := ⟨by rw [upd_ne hb]; exact n.free, n.new, n.loc, n.cel, fun p hp => n.pin p (by simpa using hp)⟩
/-- the exception is handled now -/
theorem Inv.hnd (I : Inv X pins σ H s) (hfx0 : X.fx = []) (n : Nw X pins H e) {T : Addr} {cx : Value} {dd : Option Addr} (fl : Fly e T c .none cx s.heap) (ch : Chn H s.heap e cx dd) : Inv (X.hnd e c (X.pn ++ pins)) [] σ (upd H e (.exc c)) s := by
  obtain ⟨oe, vs, oT, ts, h1, h2, h3, h4, _, h5, _⟩ := fl
  refine ⟨I.ok.hnd _ _ _, I.os, I.bare, ⟨I.base.keep, I.base.slot, fun b o q nb hx => ?_, I.base.there, fun b xs q => ?_, fun b o u q => ?_, fun b ps q => ?_, fun b k q => ?_⟩, I.loc, I.cell, ?_, fun x k q => ?_, fun p hp => ?_, I.hok.put n.free ⟨oe, vs, h1, h2, h3, h4, ?_⟩, I.len, fun p hp => ?_, fun p hp => ?_⟩
  case refine_9 =>
    rcases ch with ⟨_, rfl⟩ | ⟨b, ob, vb, _, rfl, d2, d3, d4, d5⟩
    · exact .inl h5
    · exact .inr ⟨b, ob, vb, h5, d2, by rw [upd_ne d2]; exact d3, d4, d5⟩
  · have hb : b ≠ e := fun z => by rw [z] at q; rw [show X.s₀.heap.get? e = none from n.new] at q; cases q
    rw [upd_ne hb]; exact I.base.free b o q nb hx
  · have := I.base.tups b xs q; rw [upd_ne (ne_of_none this n.free)]; exact this
  · have := I.base.frzs b o u q; rw [upd_ne (ne_of_none this n.free)]; exact this
  · obtain ⟨more, z⟩ := I.base.tbls b ps q; exact ⟨more, by rw [upd_ne (ne_of_none z n.free)]; exact z⟩
  · have := I.base.excs b k q; rw [upd_ne (ne_of_none this n.free)]; exact this
  · rw [upd_ne (Ne.symm n.loc)]; exact I.free
  · rw [upd_ne (n.cel x k q)]; exact I.freeC x k q
  · have hp' : p ∈ X.pn ++ pins := by simpa using hp
    obtain ⟨a1, a2, a3⟩ := I.pin p hp'
    exact ⟨a1, by rw [upd_ne (n.pin p hp')]; exact a2, a3⟩
  · rcases List.mem_cons.mp hp with rfl | hp
    · exact upd_same
    · have := I.tr p hp; rw [upd_ne (ne_of_none this n.free)]; exact this
  · have hp' : p ∈ X.fx := hp
    rw [hfx0] at hp'; cases hp'
theorem Inv.offh (J : Inv X pins σ H s) (hfx0 : X.fx = []) {σ' : St} {H' : Hp} {s' : Shared} (I : Inv (X.hnd e c (X.pn ++ pins)) [] σ' H' s') : Inv X pins σ' H' s' :=
  ⟨J.ok, I.os, I.bare, I.base, I.loc, I.cell, I.free, I.freeC, fun p hp => I.pin p (List.mem_append_left _ hp), I.hok, I.len, fun p hp => I.tr p (List.mem_cons_of_mem _ hp), fun p hp => by rw [hfx0] at hp; cases hp⟩
/-- it was handled, and the name is gone -/
theorem Inv.unhnd (J : Inv X pins σ H s) (hfx0 : X.fx = []) {i : Nat} {n : Str} (hi : X.N[i]? = some n) {σ' : St} {H' : Hp} {s' : Shared} {m : Str → Option Value} {u : Option Value} {h' : Heap} {t' : Nat} (I : Inv (X.hnd e c (X.pn ++ pins)) [] σ' H' s') (hm : s'.heap.Ns X.env.locals m)
    (hn : h'.Ns X.env.locals (fun x => if x = n then u else m x)) (sb : Heap.SameBut X.env.locals s'.heap h') (hN : X.N.Nodup) : Inv X pins (σ'.set i none) H' { s' with heap := h', toks := t' } := by
  have K0 : ∀ b o, b ≠ X.env.locals → s'.heap.get? b = some o → h'.get? b = some o := fun b o hb e => (sb.2 b hb).trans e
  have hL : H' X.env.locals = none := I.free
  have I' : Inv X pins σ' H' s' := J.offh hfx0 I
  refine I'.stepN (g' := s'.gens) (d' := s'.drawn) (ch := []) (fun b hb => nomatch hb) (fun b o hb _ _ q _ => K0 b o hb q) (fun b o hb _ _ q _ => ⟨o.slots, K0 b o hb q⟩) (fun _ _ _ _ n => n) (fun b o _ q => ?_) (fun _ _ q => q) (fun _ _ _ q => q) (fun b ps q => ⟨#[], by rw [q]; simp⟩) (fun _ _ q => q)
    (fun cellK => ?_) (fun _ p hp => by rw [hfx0] at hp; cases hp) (by simp) (fun a o q => (I.hok a o q).stay (fun b u hb z => K0 b u ?_ z) (fun _ z => z) fun _ _ z => z) I.bare
  · by_cases hb : b = X.env.locals
    · obtain ⟨ol, _, _, ho, _⟩ := hn
      exact ⟨ol, by rw [hb]; exact ho⟩
    · exact ⟨o, K0 b o hb q⟩
  · obtain ⟨m1, hn1, hl1⟩ := I'.loc
    have em := ns_uniq hn1 hm
    subst em
    refine ⟨_, hn, fun j y v a1 a2 a3 => ?_⟩
    have hji : j ≠ i := fun z => by
      subst z
      by_cases hlt : j < σ'.length
      · rw [List.getElem?_set_self hlt] at a2; cases a2
      · rw [List.getElem?_eq_none (by simp; omega)] at a2; cases a2
    rw [List.getElem?_set_ne (Ne.symm hji)] at a2
    obtain ⟨u', r, lk⟩ := hl1 j y v a1 a2 a3
    refine ⟨u', r, ?_⟩
    rcases lk with ⟨k, e'⟩ | ⟨k, c', e', z⟩
    · have : y ≠ n := fun z => hji (nodup_ix hN a1 (z ▸ hi))
      exact .inl ⟨k, by simp [this, e']⟩
    · exact .inr ⟨k, c', e', cellK y c' e' _ z⟩
  · intro zb
    rcases hb with hb | hb
    · rw [← hb, zb, hL] at q; cases q
    · rw [zb, hL] at hb; cases hb
/-- what the body doesn't assign is known again -/
theorem Inv.known {fx : List (Str × Value)} {xe : Value → Shared → Prop} {W : List Str} (J : Inv X pins σ H s) (hfx0 : X.fx = []) (hk : ∀ (i : Nat) (x : Str) (v : V), X.N[i]? = some x → σ[i]? = some (some v) → Vis X.env.scope x → x ∉ W → ∃ u, RelV v u ∧ (x, u) ∈ fx)
    {ps : List (Addr × Obj)} {σ' : St} {H' : Hp} {s' : Shared} (I : Inv (X.bod (X.pn ++ pins) fx xe) ps σ' H' s') : Inv X pins (mask W X.N σ) H' s' := by
  have I' := J.unbod hfx0 I
  obtain ⟨m, hn, _⟩ := I'.loc
  refine ⟨I'.ok, I'.os, I'.bare, I'.base, ⟨m, hn, fun i x v a1 a2 a3 => ?_⟩, I'.cell, I'.free, I'.freeC, I'.pin, I'.hok, by rw [mask_len]; exact J.len, I'.tr, I'.fix⟩
  obtain ⟨b1, b2⟩ := mask_get a1 a2
  obtain ⟨u, r, hm⟩ := hk i x v a1 b1 a3 b2
  obtain ⟨m1, hn1, lk⟩ := I.fix (x, u) hm
  have em := ns_uniq hn1 hn
  subst em
  exact ⟨u, r, lk⟩
end
/-- behind the handler the exception's name is gone -/
def Ends.dim (D : Ends) (i : Nat) : Ends := { nx := fun σ H => D.nx (σ.set i none) H, rt := D.rt, bk := fun σ H => D.bk (σ.set i none) H, ct := fun σ H => D.ct (σ.set i none) H }
/-- what is wanted of an exception: it is of the class, and the handler leads on; W: the names that the body assigns -/
def xTry (X : Cx) (C0 : Addr) (i : Nat) (W : List Str) (th : TS) (D : Ends) (σ : St) : XK := fun c _ H => (∃ C, c = .ref C ∧ PySem.W.mroIn X.K C (.ref C0) = some true) ∧ ∀ e, H e = none → th (D.dim i) ((mask W X.N σ).set i (some (.ref e))) (upd H e (.exc c))
def tTry (X : Cx) (C0 : Addr) (i : Nat) (W : List Str) (tb : XK → TS) (th : TS) : TS := fun D σ H => tb (xTry X C0 i W th D σ) D σ H
def xTry0 (X : Cx) (C0 : Addr) (W : List Str) (th : TS) (D : Ends) (σ : St) : XK := fun c _ H => (∃ C, c = .ref C ∧ PySem.W.mroIn X.K C (.ref C0) = some true) ∧ ∀ e, H e = none → th D (mask W X.N σ) (upd H e (.exc c))
def tTry0 (X : Cx) (C0 : Addr) (W : List Str) (tb : XK → TS) (th : TS) : TS := fun D σ H => tb (xTry0 X C0 W th D σ) D σ H
section
variable {X : Cx} {C0 : Addr} {x n : Str} {np hpos pos : Pos} {i : Nat} {W : List Str} {body suite : List Stmt} {b₀ : Stmt} {tb : XK → TS} {th : TS}
/-- what is wanted behind the suite of a clause -/
def TryQ (X : Cx) (pins : List (Addr × Obj)) (D : Ends) (hpos : Pos) : Option Str → Flow → Shared → Prop
  | none, f, s => SP X pins D f s
  | some n, f, s => wpAny (model X.prog X.w) X.A (do bindName X.env n .none; unbindBehindTheSuite X.env n hpos) (fun _ s₃ => SP X pins D f s₃) X.xe s
/-- the try's body, and where its exception is met -/
theorem try_core {name : Option Str} {pins : List (Addr × Obj)} {s : Shared} {σ : St} {H : Hp} {D : Ends} {E : XK} (hst : X.stack = X.env :: X.outer) (hfr : X.env.frame = some X.env.locals) (hex : X.ex = []) (hfx0 : X.fx = [])
    (hg : Gl X x) (hm : X.mg x = some (.ref C0)) (hk : CatK X.K C0) (hE : ∀ c d H, E c d H → ∃ C, c = .ref C ∧ PySem.W.mroIn X.K C (.ref C0) = some true)
    (hb : ∀ Ex pn fx xe, (∀ p ∈ fx, p.1 ∉ W) → Out (X.bod pn fx xe) Ex → PSs (X.bod pn fx xe) body (tb Ex)) (hdb : (x == ("__debug__" : Str)) = false) (I : Inv X pins σ H s) (h : tb E D σ H)
    (hs : ∀ (e T C : Addr) (cx : Value) (d : Option Addr) (H' : Hp) (s3 : Shared), Inv X pins (mask W X.N σ) H' s3 → Nw X pins H' e → Nw X pins H' T → T ≠ e → E (.ref C) d H' → Fly e T (.ref C) .none cx s3.heap → Chn H' s3.heap e cx d →
      codeAny (model X.prog X.w) (X.A.mark (some (.ref e))) (.handlers (.ref e) [.ExceptHandler none name (b₀ :: suite) hpos] X.env) (fun r s₂ => match r with
          | .ok f => TryQ X pins D hpos name f s₂
          | .error x => cameBackBy (model X.prog X.w) X.A X.env X.xe x s₂) s3) :
    wpAny (model X.prog X.w) X.A (exec (.Try body [.ExceptHandler (some (.Name x np)) name (b₀ :: suite) hpos] [] [] pos) X.env) (SP X pins D) X.xe s := by
  obtain ⟨fx, fx1, fx2, fx3⟩ := I.fixed W
  have O : Out (X.bod (X.pn ++ pins) fx fun v s1 => ∃ a cls d H', v = .ref a ∧ Inv X pins (mask W X.N σ) H' s1 ∧ Air X pins H' a cls d s1.heap ∧ E cls d H') E := by
    intro ps σ' H' s' a cls d J air q
    obtain ⟨air1, cx, ch, air2⟩ := air
    refine ⟨a, cls, d, H', rfl, I.known hfx0 fx3 J, ⟨air1.unbod, cx, ch, ?_⟩, q⟩
    rcases air2 with z | ⟨T, fl, z1, z3, z2⟩
    · exact .inl z
    · exact .inr ⟨T, fl, z1, z3, z2.unbod⟩
  refine wpAny_Try_except (wpAny_mono (hb _ _ _ _ fx1 O [] s σ H D (I.bod hfx0 fx2 _) h) (fun f s1 q => ?_) fun v s1 q => ?_)
  · cases f with
    | next => obtain ⟨σ', H', J, q⟩ := q; exact wpAny_execs_nil ⟨σ', H', I.unbod hfx0 J, q⟩
    | brk => obtain ⟨σ', H', J, q⟩ := q; exact ⟨σ', H', I.unbod hfx0 J, q⟩
    | cont => obtain ⟨σ', H', J, q⟩ := q; exact ⟨σ', H', I.unbod hfx0 J, q⟩
    | ret u => obtain ⟨v, σ', H', J, r, q⟩ := q; exact ⟨v, σ', H', I.unbod hfx0 J, r, q⟩
  · obtain ⟨e, c, d, H', rfl, J, air, qE⟩ := q
    obtain ⟨C, rfl, hmro⟩ := hE _ _ _ qE
    refine look_land J rfl hst hfr hex air fun h' T cx J1 fl ch nT ne => ?_
    have hTe : T ≠ e := by obtain ⟨_, _, _, _, _, _, _, _, _, _, z, _⟩ := id fl; exact z
    have Ih := J1.hnd hfx0 ne fl ch
    refine wpAny_handleBy_cons (codeAny_handlers_test (ld_glob (X := X.hnd e (.ref C) (X.pn ++ pins)) Ih hg hm ?_ hdb)) (by intro q; cases q)
    obtain ⟨oe, _, _, _, h1, h2, _⟩ := id fl
    refine exc_matches Ih.kIn hk h1 h2 hmro ?_
    show codeAny _ _ (.handlers _ [.ExceptHandler none name (b₀ :: suite) hpos] _) _ _
    refine codeAny_mono (hs e T C cx d H' _ J1 ne nT hTe qE fl ch) fun r s2 hq => ?_
    cases r with
    | error x => exact hq
    | ok f => cases name <;> exact hq
theorem ps_try (W : List Str) (hst : X.stack = X.env :: X.outer) (hfr : X.env.frame = some X.env.locals) (hex : X.ex = []) (hfx0 : X.fx = [])
    (hN : X.N.Nodup) (hi : X.N[i]? = some n) (hl : X.env.scope.names.lookup n = some .local) (hg : Gl X x) (hm : X.mg x = some (.ref C0)) (hk : CatK X.K C0)
    (hb : ∀ Ex pn fx xe, (∀ p ∈ fx, p.1 ∉ W) → Out (X.bod pn fx xe) Ex → PSs (X.bod pn fx xe) body (tb Ex)) (hh : ∀ e c pn, PSs (X.hnd e c pn) (b₀ :: suite) th) (hdb : (x == ("__debug__" : Str)) = false := by decide) :
    PS X (.Try body [.ExceptHandler (some (.Name x np)) (some n) (b₀ :: suite) hpos] [] [] pos) (tTry X C0 i W tb th) := by
  intro pins s σ H D I h
  refine try_core hst hfr hex hfx0 hg hm hk (fun c d H z => z.1) hb hdb I h fun e T C cx d H' s3 J1 ne nT hTe qE fl ch => ?_
  have Ih := J1.hnd hfx0 ne fl ch
  refine codeAny_handlers_suite_as ?_
  refine flight_none fl fun h2 mv2 fl2 => ?_
  have Ih2 := Ih.mvd (mv2.mono (fun b z => nomatch z) fun b z => z) fun b hb => by rw [List.mem_singleton.mp hb]; exact nT.hnd hTe _ _
  refine store_ok (X := X.hnd e (.ref C) (X.pn ++ pins)) (v := .ref e) Ih2 hN hi (.inl hl) rfl (fun s3 I3 => ?_) (.inr hl) (fun p hp => by have hp' : p ∈ X.fx := hp; rw [hfx0] at hp'; cases hp')
  refine wpAny_mono (hh e (.ref C) (X.pn ++ pins) [] s3 _ _ (D.dim i) I3 (qE.2 e ne.free)) (fun f s4 q => ?_) fun _ _ z => z.elim
  have gone : ∀ {σ4 : St} {H4 : Hp}, Inv (X.hnd e (.ref C) (X.pn ++ pins)) [] σ4 H4 s4 → (∀ s5, Inv X pins (σ4.set i none) H4 s5 → SP X pins D f s5) →
      wpAny (model X.prog X.w) X.A (do bindName X.env n .none; unbindBehindTheSuite X.env n hpos) (fun _ s5 => SP X pins D f s5) X.xe s4 := fun {σ4 H4} I4 k => by
    obtain ⟨m, hn, _⟩ := I4.loc
    exact wpAny_nameGoes_keeps hl hn (by rw [J1.ok.kind]; rfl) fun h5 v5 hn5 sb => k _ (J1.unhnd hfx0 hi I4 hn hn5 sb hN)
  cases f with
  | next => obtain ⟨σ4, H4, I4, q⟩ := q; exact gone I4 fun s5 I5 => ⟨_, _, I5, q⟩
  | brk => obtain ⟨σ4, H4, I4, q⟩ := q; exact gone I4 fun s5 I5 => ⟨_, _, I5, q⟩
  | cont => obtain ⟨σ4, H4, I4, q⟩ := q; exact gone I4 fun s5 I5 => ⟨_, _, I5, q⟩
  | ret u => obtain ⟨v, σ4, H4, I4, r, q⟩ := q; exact gone I4 fun s5 I5 => ⟨v, _, _, I5, r, q⟩
end
end L2
namespace L2
open PySem PySem.Spec PyProof.Rows
/-- THE RULE for a def that may raise, or is called where nothing is handled -/
theorem Fun.okE {P : Program} {w : World} {K : PySem.W.Frag} {mg : Str → Option Value} {base : Heap} {x qual : Str} {st : Stmt} {f : Addr} {fd : FuncData} {N ps : List Str} {k : Nat} {sp : Sp} (F : Fun K x qual st f fd) (S : FnScope N ps (defScope st)) (len : ∀ vs H Q E, sp vs H Q E → vs.length = ps.length)
    (hbody : ∀ (cdv : Value) (A : Around) (outer : List Env) (s : Shared) (H : Hp) (vs : List V) (Q : VK) (E : XK), Room k (A.deeper (envOfC qual (defScope st) s.heap.objs.size f cdv)) → A.handled = none → sp vs H Q E →
      ∃ t, PSs (cxOf (CXE P w) P w K mg base N qual (defScope st) f cdv A outer s H E) (defBody st) t ∧ t { nx := fun _ H' => Q .non H', rt := Q } (start N vs) H) : FnOk P w K mg base (CXE P w) (k + 1) f fd ps sp := by
  obtain ⟨oc, od, kV, doc, pm, an, cdv, ct, osl, rfl, lk, hcd⟩ := F.ex
  exact fn_of lk hcd S len fun A outer s H vs Q E hr hc hsp => hbody cdv A outer s H vs Q E hr (calm_of s hc) hsp
theorem Room.mark {k : Nat} {A : Around} {h : Option Value} (r : Room k A) : Room k (A.mark h) := ⟨r.dp, r.un⟩
end L2
end
section
set_option Elab.async false
set_option linter.all false
set_option maxRecDepth 100000
set_option maxHeartbeats 4000000
/-! EXCEPTIONS, 4: a clause that doesn't match; except C: raise D("..") from None -/
namespace L2
open PySem PySem.Spec PyProof.Rows
section
variable {M : Model} {A : Around} {E : Value → Shared → Prop} {s : Shared}
theorem pass_on {env : Env} {what : String} {L e T : Addr} {cls fl cx : Value} {Q : Flow → Shared → Prop} (hf : env.frame = some L) (ht : Fly e T cls fl cx s.heap) (h : ∀ h', Mvd [] [T] s.heap h' → Fly e T cls (rawInt L) cx h' → E (.ref e) { s with heap := h' }) : wpAny M A (PySem.passOn what (.ref e) env : Sem Flow) Q E s := by
  obtain ⟨oe, vs, oT, ts, he, hcls, hdn, hd, h1, h2, hTe, hT, hdT, h3⟩ := ht
  unfold PySem.passOn
  refine wpAny_bind (wpAny_field he hd h1 ?_)
  rw [if_neg (show ¬ ((Value.ref T == Value.none) = true) from by simp)]
  rw [hf]
  unfold setFlight
  refine wpAny_bind (wpAny_bind (wpAny_field he hd h1 ?_))
  rw [if_pos (show (Value.ref T != Value.none) = true from by simp)]
  obtain ⟨mv, self⟩ := setField_mvd (i := 3) (x := (some L : Option Addr).elim Value.none fun f => rawInt f) _ hT hdT
  have hsz := (Array.getElem?_eq_some_iff.mp h3).1
  refine wpAny_setField hT hdT hsz (wpAny_throw (h _ mv ⟨oe, vs, _, _, mv.keep e oe (by simp [Ne.symm hTe]) (by simp) he, hcls, hdn, hd, h1, h2, hTe, self, Obj.data_mapFields hdT _, by simp [hsz]⟩))
end
section
variable {prog : Program} {w : World} {A : Around} {E : Value → Shared → Prop} {s : Shared} {env : Env}
variable {nm q : Str} {C N : Addr} {bs bm bmB : List Value} {hdct : Bool} {sn : List Str} {sub : List Value} {ab : Bool} {col : Option Bool} {dd : Option Addr} {k0 k1 k2 k3 k5 : Option Value} {B newId initId : String}
theorem raiseStmt_none {x c : Sem Value} {Q : Flow → Shared → Prop} (hbase : bm.contains (.type "BaseException") = true)
    (hc : ∀ (s' : Shared) (Q' : Value → Shared → Prop), Q' .none s' → wpAny (model prog w) A c Q' E s')
    (h : wpAny (model prog w) A x (fun v s₁ => ∃ e t, v = .ref e ∧ e ≠ C ∧ s₁.heap.get? C = some (excClassObj nm q C N bs bm hdct sn sub ab col dd k0 k1 k2 k3 k5 newId) ∧
      s₁.heap.get? e = some { cls := .ref C, data := .fields #[.ref t, .none, .none, .none, .bool false, .none] } ∧ (∀ h', Heap.SameBut e s₁.heap h' → HdOff A h' e) ∧
      ∀ (h' : Heap) (v : Value), Heap.SameBut e s₁.heap h' → (∃ o' vs, h'.get? e = some o' ∧ o'.cls = .ref C ∧ o'.dict = none ∧ o'.data = .fields vs ∧ vs[1]? = some .none ∧ vs[2]? = some v) → (∀ e0, A.handled = some (.ref e0) → v = .ref e0) → E (.ref e) { s₁ with heap := h' }) E s) :
    wpAny (model prog w) A (raiseStmt env (some x) (some c)) Q E s := by
  have hcB : (Value.ref C :: bm).contains (.type "BaseException") = true := by rw [List.contains_cons, hbase, Bool.or_true]
  unfold raiseStmt
  refine wpAny_bind (wpAny_mono h (fun v s₁ h₁ => ?_) fun _ _ x => x)
  obtain ⟨e, t, rfl, neC, hC, he, hoff, hE⟩ := h₁
  obtain ⟨hp, g, d, tk, os⟩ := s₁
  refine wpAny_bind (wpAny_holding (hc _ _ ?_))
  refine wpAny_bind (wpAny_pure ?_)
  repeat (first | with_reducible refine wpAny_loadPart_at he ?_ | with_reducible refine wpAny_loadPart_at hC ?_ | (with_reducible refine wpAny_isSubtype_exc hC ?_; rw [hcB]) | wp_step)
  have he1 := Heap.get?_update_self (Obj.mapFields (·.setIfInBounds 3 Value.none)) he rfl
  have he2 := Heap.get?_update_self (Obj.mapFields (·.setIfInBounds 4 (Value.bool true))) he1 rfl
  have sb : Heap.SameBut e hp ((hp.update e (Obj.mapFields fun x => x.setIfInBounds 3 Value.none)).update e (Obj.mapFields fun x => x.setIfInBounds 4 (Value.bool true))) := (Heap.SameBut.update ..).trans (Heap.SameBut.update ..)
  refine raiseNew_hd (hoff _ sb) he2 rfl (by simp) fun h' sb' ⟨o', v, ho', hc', hdn', hd', _, hv⟩ => hE h' v (sb.trans sb') ⟨o', _, ho', hc', hdn', hd', ?_, ?_⟩ hv
  · rfl
  · simp
theorem Raise_none (F : ExcBaseFacts B newId initId bmB) {mN : Str → Option Value} {x z : Str} {np cpos pos cp zp : Pos} {j j2 : Nat} {Q : Flow → Shared → Prop} {e0 : Addr} {o0 : Obj} {v0 : Array Value}
    (hbase : bm.contains (.type "BaseException") = true) (hh : A.handled = some (.ref e0)) (he0 : s.heap.get? e0 = some o0) (hd0 : o0.data = .fields v0) (h02 : v0[2]? = some .none) (hni : mN "__init__" = none)
    (hC : s.heap.get? C = some (excClassObj nm q C N bs bm hdct sn sub ab col dd k0 k1 k2 k3 k5 newId)) (hN : s.heap.Ns N mN) (T : OwnTail s.heap bmB bm)
    (hnm : ∀ Q' : Value → Shared → Prop, Q' (.ref C) s → wpAny (model prog w) A (eval (.Name x np) env) Q' E s)
    (hpl : (backTo cpos (starEach [.Constant (.str z) j cp] env)) = [(false, eval (.Constant (.str z) j cp) env)])
    (k : ∀ (h' : Heap) (e1 : Addr) (tk : Nat), (∀ b o, s.heap.get? b = some o → h'.get? b = some o) → s.heap.get? e1 = none → (∃ o' vs, h'.get? e1 = some o' ∧ o'.cls = .ref C ∧ o'.dict = none ∧ o'.data = .fields vs ∧ vs[1]? = some .none ∧ vs[2]? = some (.ref e0)) → E (.ref e1) { s with heap := h', toks := tk }) :
    wpAny (model prog w) A (exec (.Raise (some (.Call (.Name x np) [.Constant (.str z) j cp] [] cpos)) (some (.Constant .none j2 zp)) pos) env) Q E s := by
  rw [arm_exec_Raise]
  refine wpAny_bind (wpAny_standAt ?_)
  show wpAny _ _ (raiseStmt env (some (do let v ← eval (.Call (.Name x np) [.Constant (.str z) j cp] [] cpos) env; standAt pos; pure v)) (some (do let v ← eval (.Constant .none j2 zp) env; standAt pos; pure v))) _ _ _
  refine raiseStmt_none (C := C) (nm := nm) (q := q) (N := N) (bs := bs) (bm := bm) (hdct := hdct) (sn := sn) (sub := sub) (ab := ab) (col := col) (dd := dd) (k0 := k0) (k1 := k1) (k2 := k2) (k3 := k3) (k5 := k5) (newId := newId) hbase (fun s' Q' h => wpAny_bind (Constant_none (wpAny_bind (wpAny_standAt (wpAny_pure h))))) ?_
  refine wpAny_bind (wpAny_mono (Q := fun v s₃ => ∃ e t, v = .ref e ∧ e ≠ C ∧ s₃.heap.get? C = some (excClassObj nm q C N bs bm hdct sn sub ab col dd k0 k1 k2 k3 k5 newId) ∧
      s₃.heap.get? e = some { cls := .ref C, data := .fields #[.ref t, .none, .none, .none, .bool false, .none] } ∧ (∀ h', Heap.SameBut e s₃.heap h' → HdOff A h' e) ∧
      ∀ (h' : Heap) (v : Value), Heap.SameBut e s₃.heap h' → (∃ o' vs, h'.get? e = some o' ∧ o'.cls = .ref C ∧ o'.dict = none ∧ o'.data = .fields vs ∧ vs[1]? = some .none ∧ vs[2]? = some v) → (∀ e0, A.handled = some (.ref e0) → v = .ref e0) → E (.ref e) { s₃ with heap := h' }) (wpAny_Call_ofName (hnm _ ?_)) (fun v s₃ h₃ => wpAny_bind (wpAny_standAt (wpAny_pure h₃))) fun _ _ x => x)
  unfold callWith
  refine wpAny_bind (wpAny_holding ?_)
  rw [hpl]
  refine Calls.evalArgs_plain (Calls.spliced_cons (Calls.Constant_str (Calls.spliced_nil ?_)))
  refine wpAny_bind (wpAny_standAt ?_)
  obtain ⟨hp, g, d, tk, os⟩ := s
  refine wpAny_bind (wpAny_keeperOf_exc hC ?_)
  refine wpAny_bind (wpAny_call_exc_subT (hrest := (by show 1 ≤ sizeLine; decide)) F T hC hN hni fun h' e hm => wpAny_bind (wpAny_holding (wpAny_point (wpAny_pure ?_))))
  obtain ⟨t, ht, _, _⟩ := hm.there
  have ne : ∀ {b o}, hp.get? b = some o → b ≠ e := fun {b o} z w => by rw [w, hm.new] at z; cases z
  refine ⟨e, t, rfl, Ne.symm (ne hC), hm.keeps _ _ hC, ht, fun h2 sb => .inr ⟨e0, o0, v0, hh, ne he0, (sb.2 _ (ne he0)).trans (hm.keeps _ _ he0), hd0, .inl h02⟩, fun h2 v sb he hv => ?_⟩
  rw [hv e0 hh] at he
  exact k h2 e _ (fun b o z => (sb.2 _ (ne z)).trans (hm.keeps _ _ z)) hm.new he
end
/-- it becomes another one's own -/
theorem Inv.own {X : Cx} {pins : List (Addr × Obj)} {σ : St} {H : Hp} {s : Shared} {e e1 : Addr} (I : Inv X pins σ H s) (n : Nw X pins H e) (ho : ∃ o, s.heap.get? e = some o) : Inv X pins σ (upd H e (.own e1)) s := by
  refine ⟨I.ok, I.os, I.bare, ⟨I.base.keep, I.base.slot, fun b o q nb hx => ?_, I.base.there, fun b xs q => ?_, fun b o u q => ?_, fun b ps q => ?_, fun b k q => ?_⟩, I.loc, I.cell, ?_, fun x k q => ?_, fun p hp => ?_, I.hok.put n.free ho, I.len, fun p hp => ?_, I.fix⟩
  · have hb : b ≠ e := fun z => by rw [z] at q; rw [show X.s₀.heap.get? e = none from n.new] at q; cases q
    rw [upd_ne hb]; exact I.base.free b o q nb hx
  · have := I.base.tups b xs q; rw [upd_ne (ne_of_none this n.free)]; exact this
  · have := I.base.frzs b o u q; rw [upd_ne (ne_of_none this n.free)]; exact this
  · obtain ⟨more, z⟩ := I.base.tbls b ps q; exact ⟨more, by rw [upd_ne (ne_of_none z n.free)]; exact z⟩
  · have := I.base.excs b k q; rw [upd_ne (ne_of_none this n.free)]; exact this
  · rw [upd_ne (Ne.symm n.loc)]; exact I.free
  · rw [upd_ne (n.cel x k q)]; exact I.freeC x k q
  · obtain ⟨a1, a2, a3⟩ := I.pin p hp
    exact ⟨a1, by rw [upd_ne (n.pin p hp)]; exact a2, a3⟩
  · have := I.tr p hp; rw [upd_ne (ne_of_none this n.free)]; exact this
theorem Nw.own {X : Cx} {pins : List (Addr × Obj)} {H : Hp} {b e : Addr} {o : HO} (n : Nw X pins H b) (hb : b ≠ e) : Nw X pins (upd H e o) b := ⟨by rw [upd_ne hb]; exact n.free, n.new, n.loc, n.cel, n.pin⟩
/-- what is wanted of an exception: one of C0 becomes one of C1, any other goes on -/
def xTryR (X : Cx) (C0 C1 : Addr) (E : XK) : XK := fun c d H => ∃ C, c = .ref C ∧ ((PySem.W.mroIn X.K C (.ref C0) = some true ∧ d = none ∧ ∀ e e1, H e = none → E (.ref C1) (some e) (upd H e (.own e1))) ∨ (PySem.W.mroIn X.K C (.ref C0) = some false ∧ E c d H))
def tTryR (X : Cx) (C0 C1 : Addr) (E : XK) (tb : XK → TS) : TS := fun D σ H => tb (xTryR X C0 C1 E) D σ H
section
variable {X : Cx} {C0 C1 : Addr} {x x1 z : Str} {np np1 hpos pos cpos pos1 cp zp : Pos} {j j2 : Nat} {W : List Str} {body : List Stmt} {tb : XK → TS} {E : XK}
theorem ps_tryR (W : List Str) (hst : X.stack = X.env :: X.outer) (hfr : X.env.frame = some X.env.locals) (hex : X.ex = []) (hfx0 : X.fx = [])
    (hg : Gl X x) (hm : X.mg x = some (.ref C0)) (hk : CatK X.K C0) (O : Out X E) (hg1 : Gl X x1) (hm1 : X.mg x1 = some (.ref C1)) (hc1 : PySem.W.excIn X.K C1 veMro "ValueError.__new__" = true)
    (hb : ∀ Ex pn fx xe, (∀ p ∈ fx, p.1 ∉ W) → Out (X.bod pn fx xe) Ex → PSs (X.bod pn fx xe) body (tb Ex)) (hdb : (x == ("__debug__" : Str)) = false := by decide) (hdb1 : (x1 == ("__debug__" : Str)) = false := by decide)
    (hpl : (backTo cpos (starEach [.Constant (.str z) j cp] X.env)) = [(false, eval (.Constant (.str z) j cp) X.env)] := by rfl) :
    PS X (.Try body [.ExceptHandler (some (.Name x np)) none [.Raise (some (.Call (.Name x1 np1) [.Constant (.str z) j cp] [] cpos)) (some (.Constant .none j2 zp)) pos1] hpos] [] [] pos) (tTryR X C0 C1 E tb) := by
  intro pins s σ H D I h
  obtain ⟨fx, fx1, fx2, fx3⟩ := I.fixed W
  have Ob : Out (X.bod (X.pn ++ pins) fx fun v s1 => ∃ a cls d H', v = .ref a ∧ Inv X pins (mask W X.N σ) H' s1 ∧ Air X pins H' a cls d s1.heap ∧ xTryR X C0 C1 E cls d H') (xTryR X C0 C1 E) := by
    intro ps σ' H' s' a cls d J air q
    obtain ⟨air1, cx, ch, air2⟩ := air
    refine ⟨a, cls, d, H', rfl, I.known hfx0 fx3 J, ⟨air1.unbod, cx, ch, ?_⟩, q⟩
    rcases air2 with z | ⟨T, fl, z1, z3, z2⟩
    · exact .inl z
    · exact .inr ⟨T, fl, z1, z3, z2.unbod⟩
  refine wpAny_Try_except (wpAny_mono (hb _ _ _ _ fx1 Ob [] s σ H D (I.bod hfx0 fx2 _) h) (fun f s1 q => ?_) fun v s1 q => ?_)
  · cases f with
    | next => obtain ⟨σ', H', J, q⟩ := q; exact wpAny_execs_nil ⟨σ', H', I.unbod hfx0 J, q⟩
    | brk => obtain ⟨σ', H', J, q⟩ := q; exact ⟨σ', H', I.unbod hfx0 J, q⟩
    | cont => obtain ⟨σ', H', J, q⟩ := q; exact ⟨σ', H', I.unbod hfx0 J, q⟩
    | ret u => obtain ⟨v, σ', H', J, r, q⟩ := q; exact ⟨v, σ', H', I.unbod hfx0 J, r, q⟩
  · obtain ⟨e, c, d, H', rfl, J, air, qE⟩ := q
    refine look_land J rfl hst hfr hex air fun h' T cx J1 fl ch nT ne => ?_
    have hTe : T ≠ e := by obtain ⟨_, _, _, _, _, _, _, _, _, _, z, _⟩ := id fl; exact z
    have Ih := J1.hnd hfx0 ne fl ch
    obtain ⟨C, rfl, qE⟩ := qE
    obtain ⟨oe, vs, oT, ts, f1, f2, f3, f4, f5, f6, _⟩ := id fl
    refine wpAny_handleBy_cons (codeAny_handlers_test (ld_glob (X := X.hnd e (.ref C) (X.pn ++ pins)) Ih hg hm ?_ hdb)) (by intro q; cases q)
    rcases qE with ⟨hmro, rfl, qE⟩ | ⟨hmro, qE⟩
    · refine exc_matches Ih.kIn hk f1 f2 hmro ?_
      show codeAny _ _ (.handlers _ [.ExceptHandler none none _ hpos] _) _ _
      have ecx : cx = .none := by
        rcases ch with ⟨_, z⟩ | ⟨_, _, _, z, _⟩
        · exact z
        · cases z
      subst ecx
      refine codeAny_handlers_suite (flight_none fl fun h2 mv2 fl2 => ?_)
      have hxT : ∀ b ∈ [T], Nw X pins H' b := fun b hb => by rw [List.mem_singleton.mp hb]; exact nT
      have J2 := J1.mvd (mv2.mono (fun b z => nomatch z) fun b z => z) hxT
      obtain ⟨oe2, vs2, oT2, ts2, g1, g2, g3, g4, g5, g6, _⟩ := id fl2
      obtain ⟨bm, N, nm, q, bs, hdct, sn, sub, ab, col, dd, k0, k1, k2, k3, k5, mN, hC, hN, hni, Tl⟩ := own_obj J2.kIn hc1
      have J2h : Inv (X.hnd e (.ref C) (X.pn ++ pins)) [] (mask W X.N σ) (upd H' e (.exc (.ref C))) _ := J2.hnd hfx0 ne fl2 (.inl ⟨rfl, rfl⟩)
      refine wpAny_execs_cons (Raise_none (C := C1) (nm := nm) (q := q) (N := N) (bs := bs) (bm := bm) (hdct := hdct) (sn := sn) (sub := sub) (ab := ab) (col := col) (dd := dd) (k0 := k0) (k1 := k1) (k2 := k2) (k3 := k3) (k5 := k5)
        PySem.F.excBase_ValueError (mN := mN) (Tl.hasType PySem.F.excBase_ValueError.hasBase) (e0 := e) rfl g1 g4 g6 hni hC hN Tl (fun Q' hq => ld_glob (X := X.hnd e (.ref C) (X.pn ++ pins)) J2h hg1 hm1 hq hdb1) hpl fun h3 e1 tk kp n1 he1 => ?_)
      have J3 : Inv X pins (mask W X.N σ) H' { s1 with heap := h3, toks := tk } := J2.kept (t' := tk) kp
      have nee1 : e ≠ e1 := fun z => by rw [z] at g1; rw [show h2.get? e1 = none from n1] at g1; cases g1
      have J4 : Inv X pins (mask W X.N σ) (upd H' e (.own e1)) { s1 with heap := h3, toks := tk } := J3.own ne ⟨_, kp _ _ g1⟩
      have ne1 : Nw X pins (upd H' e (.own e1)) e1 := (Nw.of J2 hex n1 (J2.hok.none_of n1)).own (Ne.symm nee1)
      show wpAny _ _ (noteFrame (.ref e1) X.env) _ _ _
      refine look_note J4 rfl hst hfr hex (d := some e) (cls := .ref C1) ⟨ne1, .ref e, .inr ⟨e, oe2, vs2, rfl, rfl, nee1, upd_same, kp _ _ g1, g4, g6⟩, .inl he1⟩ fun h5 T5 cx5 J5 fl5 ch5 nT5 ne5 => ?_
      refine came_back hfr fl5 fun h6 mv6 fl6 => ?_
      have hx5 : ∀ b ∈ [T5], Nw X pins (upd H' e (.own e1)) b := fun b hb => by rw [List.mem_singleton.mp hb]; exact nT5
      have mv6' : Mvd (frs X.stack) [T5] h5 h6 := mv6.mono (fun b z => nomatch z) fun b z => z
      exact O pins _ _ _ e1 (.ref C1) (some e) (J5.mvd mv6' hx5) ⟨ne5, cx5, ch5.keep (J5.own_kept mv6' hx5), .inr ⟨T5, _, fl6, .inr rfl, nT5⟩⟩ (qE e e1 ne.free)
    · refine exc_matches Ih.kIn hk f1 f2 hmro ?_
      refine wpAny_handleBy_nil (pass_on hfr fl fun h6 mv6 fl6 => ?_)
      have hxT : ∀ b ∈ [T], Nw X pins H' b := fun b hb => by rw [List.mem_singleton.mp hb]; exact nT
      have mv6' : Mvd (frs X.stack) [T] h' h6 := mv6.mono (fun b z => nomatch z) fun b z => z
      exact O pins _ _ _ e (.ref C) d (J1.mvd mv6' hxT) ⟨ne, cx, ch.keep (J1.own_kept mv6' hxT), .inr ⟨T, _, fl6, .inr rfl, nT⟩⟩ qE
end
end L2
end
section
set_option Elab.async false
set_option linter.all false
set_option maxRecDepth 100000
set_option maxHeartbeats 4000000
namespace L2
open PySem PySem.Spec PyProof.Rows

/-! ### lists of pairs as tables -/
section
variable {κ : Type} [DecidableEq κ]
def valV (kvs : List (κ × V)) (k : κ) : Option V := (kvs.find? fun kv => decide (kv.1 = k)).map (·.2)
/-- in its place, or at the end -/
def putK (kvs : List (κ × V)) (k : κ) (v : V) : List (κ × V) :=
  if (kvs.any fun kv => decide (kv.1 = k)) = true then kvs.map (fun kv => if kv.1 = k then (kv.1, v) else kv) else kvs ++ [(k, v)]
def dropK (kvs : List (κ × V)) (k : κ) : List (κ × V) := kvs.filter fun kv => decide (kv.1 ≠ k)

end


/-! ### a tracked dict, its keys ints and texts or tuples of these -/
/-- raw entries of a dict with tuple keys -/
abbrev KT (H : Hp) : List (List Key × V) → List (List Key × Addr × Value) → Prop := Paired fun p q => p.1 = q.1 ∧ H q.2.1 = some (.tup (p.1.map kV)) ∧ RelV p.2 q.2.2
section
variable {P : Program} {w : World} {H : Hp} {h : Heap} {a : Addr}
end

/-- what the dict at a holds at the key y -/
def DGet (H : Hp) (a : Addr) (y : V) (r : Option V) : Prop :=
  (∃ kvs k, Rd H a (.dK kvs) ∧ y = kV k ∧ r = valV kvs k) ∨ ∃ kvs k b, Rd H a (.dT kvs) ∧ y = .ref b ∧ H b = some (.tup (k.map kV)) ∧ r = valV kvs k
/-- the heap behind a[y] = v -/
def DPut (H : Hp) (a : Addr) (y v : V) (H' : Hp) : Prop :=
  (∃ kvs k, H a = some (.dK kvs) ∧ y = kV k ∧ kvs.length < sizeLine ∧ H' = upd H a (.dK (putK kvs k v))) ∨
  ∃ kvs k b, H a = some (.dT kvs) ∧ y = .ref b ∧ H b = some (.tup (k.map kV)) ∧ kvs.length < sizeLine ∧ H' = upd H a (.dT (putK kvs k v))
section
variable {X : Cx} {pins : List (Addr × Obj)} {σ : St} {H : Hp} {s : Shared} {a : Addr} {y v : V} {u r : Value} {o : Option V} {A : Around} {E : Value → Shared → Prop}

end

section
variable {X : Cx} {pins : List (Addr × Obj)} {σ : St} {H : Hp} {s : Shared} {a : Addr} {kvs : List (Key × V)} {k : Key} {u : Value} {A : Around} {E : Value → Shared → Prop}
end


/-! ### readings and rules -/
/-- the element of a subscription, not a slice -/
def NoSl (i : Expr) : Prop := ∀ ov iv, subscripted i false ov iv = operate [ov, iv] (getItem ov iv)
/-- d[y] -/
def tDGet (td ty : TE) : TE := fun σ H Q => td σ H fun x H1 => ty σ H1 fun y H2 => ∃ a v, x = .ref a ∧ DGet H2 a y (some v) ∧ Q v H2
/-- y in d, y not in d -/
def tDIn (ty td : TE) : TE := fun σ H Q => ty σ H fun y H1 => td σ H1 fun x H2 => ∃ a o, x = .ref a ∧ DGet H2 a y o ∧ Q (.bl o.isSome) H2
def tDNotIn (ty td : TE) : TE := fun σ H Q => ty σ H fun y H1 => td σ H1 fun x H2 => ∃ a o, x = .ref a ∧ DGet H2 a y o ∧ Q (.bl (!o.isSome)) H2
/-- d[y] = v -/
def sDPut (td ty tv : TE) : TS := fun D σ H => tv σ H fun v H1 => td σ H1 fun x H2 => ty σ H2 fun y H3 => ∃ a H4, x = .ref a ∧ DPut H3 a y v H4 ∧ D.nx σ H4
/-- d[y] op= v -/
def sDAug (td ty tv : TE) (rd : V → V → Hp → VK → Prop) : TS := fun D σ H => td σ H fun x H1 => ty σ H1 fun y H2 => ∃ a v, x = .ref a ∧ DGet H2 a y (some v) ∧
  tv σ H2 fun y2 H3 => rd v y2 H3 fun z H4 => ∃ H5, DPut H4 a y z H5 ∧ D.nx σ H5
/-- del d[y] -/
def sDDel (td ty : TE) : TS := fun D σ H => td σ H fun x H1 => ty σ H1 fun y H2 => ∃ a kvs k, x = .ref a ∧ H2 a = some (.dK kvs) ∧ y = kV k ∧ (valV kvs k).isSome = true ∧ D.nx σ (upd H2 a (.dK (dropK kvs k)))

section
variable {X : Cx} {o i e value : Expr} {pos pos' tpos : Pos} {td ty tv : TE}
end


/-! ### displays -/
/-- {}, to be a dict of the kind that is wanted -/
def tDNewK : TE := fun _ H Q => ∀ p, H p = none → Q (.ref p) (upd H p (.dK []))
def tDNewT : TE := fun _ H Q => ∀ p, H p = none → Q (.ref p) (upd H p (.dT []))
section
variable {X : Cx} {pos : Pos}
end

/-- the pairs of a display, from the left -/
def tPairs : List (TE × TE) → St → Hp → (List (V × V) → Hp → Prop) → Prop
  | [], _, H, Q => Q [] H
  | (tk, tv) :: r, σ, H, Q => tk σ H fun x H1 => tv σ H1 fun y H2 => tPairs r σ H2 fun ps H3 => Q ((x, y) :: ps) H3
abbrev VV : List (V × V) → List (Value × Value) → Prop := Paired fun p q => RelV p.1 q.1 ∧ RelV p.2 q.2
def PPs (X : Cx) (pos : Pos) (keys : List (Option Expr)) (values : List Expr) (trs : List (TE × TE)) : Prop :=
  ∀ (pins : List (Addr × Obj)) (s : Shared) (σ : St) (H : Hp) (Q : List (V × V) → Hp → Prop), Inv X pins σ H s → tPairs trs σ H Q →
    wpAny (model X.prog X.w) X.A (evalPairs (pairTrees keys values X.env pos)) (fun vs s' => ∃ ps H', Inv X pins σ H' s' ∧ VV ps vs ∧ Q ps H') X.xe s
def mergeK (kvs more : List (Key × V)) : List (Key × V) := more.foldl (fun acc kv => putK acc kv.1 kv.2) kvs
/-- {k: v, ..} with keys ints and texts; the new dict stands empty while the pairs are made -/
def tDisp (trs : List (TE × TE)) : TE := fun σ H Q => ∀ p, H p = none → tPairs trs σ (upd H p (.dK [])) fun ps H2 => H2 p = some (.dK []) ∧ ∃ kvs : List (Key × V), ps = kvs.map (fun kv => (kV kv.1, kv.2)) ∧ kvs.length ≤ 15 ∧ Q (.ref p) (upd H2 p (.dK (mergeK [] kvs)))
/-! ### methods -/
/-- a method call o.m(e) of a built-in, with one argument: what must be seen of the text -/
structure M1 (X : Cx) (o : Expr) (m : Str) (apos : Pos) (e : Expr) (cpos : Pos) : Prop where
  base : attributeBase o m X.env (eval o X.env) = eval o X.env
  few : ((backTo cpos (starEach [e] X.env)).all (fun x => !x.1) && (backToKw cpos (keywordEach [] X.env)).all (fun x => x.1.isSome)
    && decide (([e] : List Expr).length + ([] : List Keyword).length + (if ([] : List Keyword).isEmpty then 0 else 1) < 30)) = true
  line : (apos.endLine == cpos.line) = true
  trees : backTo cpos (starEach [e] X.env) = [(false, eval e X.env)]
structure M2 (X : Cx) (o : Expr) (m : Str) (apos : Pos) (e f : Expr) (cpos : Pos) : Prop where
  base : attributeBase o m X.env (eval o X.env) = eval o X.env
  few : ((backTo cpos (starEach [e, f] X.env)).all (fun x => !x.1) && (backToKw cpos (keywordEach [] X.env)).all (fun x => x.1.isSome)
    && decide (([e, f] : List Expr).length + ([] : List Keyword).length + (if ([] : List Keyword).isEmpty then 0 else 1) < 30)) = true
  line : (apos.endLine == cpos.line) = true
  trees : backTo cpos (starEach [e, f] X.env) = [(false, eval e X.env), (false, eval f X.env)]

/-- a is a dict, whatever its keys -/
def IsD (H : Hp) (a : Addr) : Prop := (∃ kvs, Rd H a (.dK kvs)) ∨ ∃ kvs, Rd H a (.dT kvs)
section
variable {X : Cx} {pins : List (Addr × Obj)} {σ : St} {H : Hp} {s : Shared} {a : Addr} {y d : V} {u r : Value} {o : Option V} {A : Around} {E : Value → Shared → Prop}
end

def tDGet1 (td ty : TE) : TE := fun σ H Q => td σ H fun x H1 => ∃ a, x = .ref a ∧ IsD H1 a ∧ ty σ H1 fun y H2 => ∃ o, DGet H2 a y o ∧ Q (o.getD .non) H2
def tDGet2 (td ty tx : TE) : TE := fun σ H Q => td σ H fun x H1 => ∃ a, x = .ref a ∧ IsD H1 a ∧ ty σ H1 fun y H2 => tx σ H2 fun z H3 => ∃ o, DGet H3 a y o ∧ Q (o.getD z) H3
/-- d.pop(k): there; d.pop(k, x): there or not -/
def tDPop1 (td ty : TE) : TE := fun σ H Q => td σ H fun x H1 => ∃ a, x = .ref a ∧ IsD H1 a ∧ ty σ H1 fun y H2 => ∃ kvs k v, H2 a = some (.dK kvs) ∧ y = kV k ∧ valV kvs k = some v ∧ Q v (upd H2 a (.dK (dropK kvs k)))
def tDPop2 (td ty tx : TE) : TE := fun σ H Q => td σ H fun x H1 => ∃ a, x = .ref a ∧ IsD H1 a ∧ ty σ H1 fun y H2 => tx σ H2 fun z H3 => ∃ kvs k, H3 a = some (.dK kvs) ∧ y = kV k ∧
  (∀ v, valV kvs k = some v → Q v (upd H3 a (.dK (dropK kvs k)))) ∧ (valV kvs k = none → Q z H3)
section
variable {X : Cx} {o e f : Expr} {apos cpos : Pos} {td ty tx : TE}
end

/-! ### dict(d): a copy -/
section
variable {X : Cx} {pins : List (Addr × Obj)} {σ : St} {H : Hp} {s : Shared} {a : Addr} {kvs : List (Key × V)} {A : Around} {E : Value → Shared → Prop}
end


section
variable {X : Cx} {pins : List (Addr × Obj)} {σ : St} {H : Hp} {s : Shared} {a : Addr} {y : V} {u : Value} {A : Around} {E : Value → Shared → Prop}
end
end L2
namespace L2
open PySem PySem.Spec PyProof.Rows
/-! ### a dict's pairs: keys that differ -/
section
variable {κ : Type} [DecidableEq κ]
end
end L2
end
section
set_option Elab.async false
set_option linter.all false
set_option maxRecDepth 100000
set_option maxHeartbeats 4000000
namespace BK
open PySem L2
theorem bt_int : bootBuiltins "int" = some (.type "int") := by decide +kernel
theorem bt_bool : bootBuiltins "bool" = some (.type "bool") := by decide +kernel
theorem bt_list : bootBuiltins "list" = some (.type "list") := by decide +kernel
theorem bt_ValueError : bootBuiltins "ValueError" = some (.type "ValueError") := by decide +kernel
theorem bt_isinstance : bootBuiltins "isinstance" = some (.builtin "isinstance") := by decide +kernel
theorem bt_all : bootBuiltins "all" = some (.builtin "all") := by decide +kernel
theorem bt_len : bootBuiltins "len" = some (.builtin "len") := by decide +kernel
theorem bt_max : bootBuiltins "max" = some (.builtin "max") := by decide +kernel
def isI : V → Bool
  | .int _ => true
  | .bl _ => true
  | _ => false
def isB : V → Bool
  | .bl _ => true
  | _ => false
def isLH : Option HO → Bool
  | some (.lst _) => true
  | _ => false
def isL (H : Hp) : V → Bool
  | .ref a => isLH (H a)
  | _ => false
structure Kd (K : PySem.W.Frag) (H : Hp) (v : V) : Prop where
  ex : ∃ t, TyOf K H v t ∧ PySem.W.kitOne K t (.type "int") = some (isI v) ∧ PySem.W.kitOne K t (.type "bool") = some (isB v) ∧ PySem.W.kitOne K t (.type "list") = some (isL H v)
section
variable {K : PySem.W.Frag} {H H' : Hp}
theorem Kd.int (i : Int) : Kd K H (.int i) := ⟨_, .int i, by kernel_rfl, by kernel_rfl, by kernel_rfl⟩
theorem Kd.bl (b : Bool) : Kd K H (.bl b) := ⟨_, .bl b, by kernel_rfl, by kernel_rfl, by kernel_rfl⟩
theorem Kd.non : Kd K H .non := ⟨_, .non, by kernel_rfl, by kernel_rfl, by kernel_rfl⟩
theorem Kd.str (x : Str) : Kd K H (.str x) := ⟨_, .str x, by kernel_rfl, by kernel_rfl, by kernel_rfl⟩
theorem Kd.lst {a : Addr} {xs : List V} (e : H a = some (.lst xs)) : Kd K H (.ref a) := ⟨_, .lst e, by kernel_rfl, by kernel_rfl, by rw [show isL H (.ref a) = true by show isLH (H a) = _; rw [e]; rfl]; kernel_rfl⟩
theorem tyof_same {v : V} {t : Value} (e : Same H H') (h : TyOf K H v t) : TyOf K H' v t := by
  cases h with
  | non => exact .non
  | bl b => exact .bl b
  | int i => exact .int i
  | str i => exact .str i
  | flt i => exact .flt i
  | lst q => exact .lst (e _ _ q)
  | frz q => exact .frz (e _ _ q)
  | tup q => exact .tup (e _ _ q)
  | dK q => exact .dK (e _ _ q)
  | dT q => exact .dT (e _ _ q)
  | ins q c1 c2 c3 c4 c5 => exact .ins (e _ _ q) c1 c2 c3 c4 c5
  | exc q F => exact .exc (e _ _ q) F
theorem isL_same {v : V} {t : Value} (e : Same H H') (h : TyOf K H v t) : isL H' v = isL H v := by
  cases h with
  | lst q => show isLH _ = isLH _; rw [e _ _ q, q]
  | frz q => show isLH _ = isLH _; rw [e _ _ q, q]
  | tup q => show isLH _ = isLH _; rw [e _ _ q, q]
  | dK q => show isLH _ = isLH _; rw [e _ _ q, q]
  | dT q => show isLH _ = isLH _; rw [e _ _ q, q]
  | ins q c1 c2 c3 c4 c5 => show isLH _ = isLH _; rw [e _ _ q, q]
  | exc q F => show isLH _ = isLH _; rw [e _ _ q, q]
  | _ => rfl
theorem Kd.same {v : V} (e : Same H H') (h : Kd K H v) : Kd K H' v := by
  obtain ⟨t, ty, e1, e2, e3⟩ := h
  exact ⟨t, tyof_same e ty, e1, e2, by rw [isL_same e ty]; exact e3⟩
theorem same_new {H : Hp} {p : Addr} (h : H p = none) (o : HO) : Same H (upd H p o) := fun b u q => by rw [upd_ne (ne_of_none q h)]; exact q
theorem same_upd {H H' : Hp} {p : Addr} (h : H p = none) (s : Same H H') (o : HO) : Same H (upd H' p o) := fun b u q => by rw [upd_ne (ne_of_none q h)]; exact s b u q
theorem sqT_same {a : Addr} {xs : List V} (e : Same H H') (h : SqT K H a xs) : SqT K H' a xs := by
  rcases h with h | h
  · rcases h with h | ⟨o, h⟩
    · exact .inl (.inl (e _ _ h))
    · exact .inl (.inr ⟨o, e _ _ h⟩)
  · exact .inr h
end
def wholeV (v : V) (lo hi : Int) : Bool := match v with
  | .int i => decide (lo ≤ i) && decide (i ≤ hi)
  | _ => false
def goodV (v : V) : Bool := wholeV v 0 999999999
section
variable {P : Program} {w : World} {K : PySem.W.Frag} {mg : Str → Option Value} {base : Heap} {f : Addr} {fd : FuncData} {H H' : Hp}
theorem iteF' {c : Bool} {A B : Prop} (hc : c = false) (h : B) : if c = true then A else B := by subst hc; exact iteF h
theorem iteT' {c : Bool} {A B : Prop} (hc : c = true) (h : A) : if c = true then A else B := by subst hc; exact iteT h
theorem small {n : Nat} (h : n ≤ 1000) : n ≤ sizeLine := Nat.le_of_lt (small1000 h)
theorem dec_V {i j : Int} : decide (V.int i = V.int j) = decide (i = j) := by
  by_cases h : i = j
  · subst h; simp
  · rw [decide_eq_false h, decide_eq_false (fun q => h (V.int.inj q))]
theorem cut_to (xs : List V) (k : Nat) : cutV xs none (some (k : Int)) = xs.take k := by
  unfold cutV
  rw [HT.sIx_none, HT.sIx_nat]
  simp
theorem cut_from (xs : List V) (k : Nat) : cutV xs (some (k : Int)) none = xs.drop k := by
  unfold cutV
  rw [HT.sIx_none, HT.sIx_nat]
  by_cases h : k ≤ xs.length
  · rw [Nat.min_eq_left h]
    rw [List.take_of_length_le (by rw [List.length_drop]; exact Nat.le_refl _)]
  · rw [Nat.min_eq_right (by omega)]
    simp [List.drop_eq_nil_of_le (show xs.length ≤ k by omega)]
/-! ### data -/
mutual
theorem dv_same (e : Same H H') : ∀ {v : V} {d : PyData}, DV K H v d → DV K H' v d
  | _, _, .non => .non
  | _, _, .bl b => .bl b
  | _, _, .int i => .int i
  | _, _, .str x => .str x
  | _, _, .lst q r => .lst (e.seq q) (dvs_same e r)
  | _, _, .tup q r => .tup (sqT_same e q) (dvs_same e r)
theorem dvs_same (e : Same H H') : ∀ {vs : List V} {ds : List PyData}, DVs K H vs ds → DVs K H' vs ds
  | _, _, .nil => .nil
  | _, _, .cons q r => .cons (dv_same e q) (dvs_same e r)
end
theorem dvs_ints : ∀ R : List Int, DVs K H (R.map V.int) (R.map PyData.int)
  | [] => .nil
  | i :: r => .cons (.int i) (dvs_ints r)
theorem eqv_same {d : PyData} (h : SeqAt.shaped d = true) : PyData.eqv d d = true := SeqAt.eqv_refl d (SeqAt.canLay_of_shaped h)
/-- all is kept but what stands at S -/
def Chg (S : List Addr) (H H' : Hp) : Prop := ∀ b o, H b = some o → b ∉ S → H' b = some o
theorem Chg.of {S : List Addr} (s : Same H H') : Chg S H H' := fun b o q _ => s b o q
theorem Chg.upd {S : List Addr} {a : Addr} (c : Chg S H H') (ha : a ∈ S) (o : HO) : Chg S H (L2.upd H' a o) := fun b u q n => by rw [L2.upd_ne (fun z => n (by rw [z]; exact ha))]; exact c b u q n
/-- the reading of a comprehension [f(x) for x in a list], f a test that keeps the heap -/
theorem lc_test {K : PySem.W.Frag} {σ : St} {H : Hp} {a : Addr} {xs : List V} {Q : Addr → Hp → Prop} {sp : Sp} {g : V → Bool} (hsp : ∀ x (H' : Hp) (Qf : VK), Kd K H' x → Qf (.bl (g x)) H' → sp [x] H' Qf E0) (ha : H a = some (.lst xs)) (hz : xs.length ≤ 1000) (hk : ∀ x ∈ xs, Kd K H x)
    (hq : ∀ acc H', H acc = none → Same H H' → H' acc = some (.lst ((xs.map g).map V.bl)) → Q acc H') :
    ∀ acc, H acc = none → ∃ W : Nat → Nat → List V → Hp → Prop, (∃ m, W 0 m [] (upd H acc (.lst []))) ∧ ∀ i m ys H, W i m ys H →
      ((Itl K a).stop i H ∧ Q acc H) ∨ ((Itl K a).go i H ∧ ∀ x H', (Itl K a).yld i H x H' → tYes (some x :: frees σ []) H' fun b H2 =>
        if b = true then tCall sp [] E0 (tCons (tVar 0) tNil) (some x :: frees σ []) H2 fun v H3 => H3 acc = some (.lst ys) ∧ ys.length < sizeLine ∧ ∃ m', m' < m ∧ W (i + 1) m' (ys ++ [v]) (upd H3 acc (.lst (ys ++ [v])))
        else ∃ m', m' < m ∧ W (i + 1) m' ys H2) := by
  refine lc_list (xs := xs) hz (fun acc i ys H' => ys = ((xs.take i).map g).map V.bl ∧ H' acc = some (.lst ys) ∧ H acc = none ∧ Same H H') ?_ ?_ ?_ ?_
  · exact fun acc h => ⟨rfl, upd_same, h, same_new h _⟩
  · rintro acc i ys H' hi ⟨rfl, h1, h2, h3⟩
    refine ⟨?_, SqL.of (h3 _ _ ha)⟩
    rw [List.length_map, List.length_map, List.length_take]
    omega
  · rintro acc i x ys H' Qf hx ⟨rfl, h1, h2, h3⟩ k
    refine ⟨x, rfl, hsp x H' _ ((hk x (List.mem_of_getElem? hx)).same h3) (k _ _ h1 ⟨?_, upd_same, h2, same_upd h2 h3 _⟩)⟩
    rw [List.take_add_one, hx]
    simp
  · rintro acc ys H' h ⟨rfl, h1, h2, h3⟩
    rw [List.take_length] at h1
    exact hq acc H' h2 h3 h1
/-! ### rows, the disk -/
def RowsAt (H : Hp) (rs : List Addr) (R : List (List Int)) : Prop := rs.length = R.length ∧ ∀ (i : Nat) (r : Addr) (row : List Int), rs[i]? = some r → R[i]? = some row → H r = some (.lst (row.map V.int))
def GoodRow (row : List Int) : Prop := row.length = 16 ∧ ∀ x ∈ row, 0 ≤ x ∧ x ≤ 999999999
def lv : Option Int → V
  | none => .non
  | some k => .int k
structure DiskAt (C : Addr) (H : Hp) (d kr : Addr) (R : List (List Int)) (n : Int) (l : Option Int) : Prop where
  ex : ∃ dx rs, H d = some (.ins C dx [("kept_rows", .ref kr), ("writes_done", .int n), ("writes_left", lv l)]) ∧ H kr = some (.lst (rs.map V.ref)) ∧ RowsAt H rs R
  lo : 24 ≤ R.length
  hi : R.length ≤ 96
  good : ∀ row ∈ R, GoodRow row
variable {C d kr : Addr} {R : List (List Int)} {n : Int} {l : Option Int}
end
/-! ### rules by the written part itself (within a comprehension) -/
section
variable {X : Cx} {K : PySem.W.Frag}
def rLenK (K : PySem.W.Frag) : List V → Hp → VK → Prop := fun xs H Q => ∃ p ys, xs = [.ref p] ∧ (SqL K H p ys ∨ SqT K H p ys) ∧ Q (.int ys.length) H
def rListK (K : PySem.W.Frag) : List V → Hp → VK → Prop := fun xs H Q => ∃ p ys, xs = [.ref p] ∧ (SqL K H p ys ∨ SqT K H p ys) ∧ ∀ l, H l = none → Q (.ref l) (upd H l (.lst ys))
theorem ix_listK (h : X.K = K) : IxR X (rIxL K) := by subst h; exact ix_list
end
/-! ### list.index; [x for x in a list of bools if x] -/
section
variable {X : Cx}
def rIndex : V → List V → Hp → VK → Prop := fun x vs H Q => ∃ (l : Addr) (xs : List V) (y : V) (j : Nat), x = .ref l ∧ vs = [y] ∧ H l = some (.lst xs) ∧ flatV y = true ∧ xs.all flatV = true ∧ (∃ z, xs[j]? = some z ∧ eqV z y = true) ∧ (∀ (m : Nat) z, m < j → xs[m]? = some z → eqV z y = false) ∧ Q (.int j) H
theorem mt_index : MtR X "list.index" rIndex := by
  intro pins s σ H x vs v us Q I rx rv h
  obtain ⟨l, xs, y, j, rfl, rfl, hH, fy, fs, ⟨z, hz, ez⟩, hno, q⟩ := h
  cases rx
  obtain ⟨u, rfl, ry⟩ := rv.one
  obtain ⟨zl, its, n, r, hl, e⟩ := I.lstM hH
  have get : ∀ (m : Nat) (hm : m < its.toArray.size), ∃ z', xs[m]? = some z' ∧ eqU y its.toArray[m] = eqV z' y := fun m hm => by
    have hm' : m < its.length := by simpa using hm
    have hx : m < xs.length := by rw [r.length]; exact hm'
    obtain ⟨u', hu, rz⟩ := r.get (List.getElem?_eq_getElem hx)
    have fz : flatV xs[m] = true := List.all_eq_true.mp fs _ (List.getElem_mem hx)
    refine ⟨_, List.getElem?_eq_getElem hx, ?_⟩
    have e1 : its.toArray[m] = u' := by
      have : its[m]? = some its[m] := List.getElem?_eq_getElem hm'
      rw [this] at hu
      simpa using Option.some.inj hu
    rw [e1]
    exact eqU_of rz fz
  have hj : j < its.toArray.size := by have := (List.getElem?_eq_some_iff.mp hz).1; rw [r.length] at this; simpa using this
  refine call_meets PySem.F.slot_list_index ⟨_, e, rfl⟩ PySem.F.entry_list_index (PySem.F.args_list_index_2 _ _) (SeqAt.list_indexAt l its.toArray n none #[] u (eqU y) j hj ?_ ?_ ?_)
    ⟨e, fun w hw => mem_eqAt ry fy r fs w (by simpa using hw), ⟨.int j, H, I.tok _, ⟨_, rfl⟩, q⟩⟩
  · have : j < xs.length := (List.getElem?_eq_some_iff.mp hz).1
    have h2 : sizeLine ≤ 2 ^ 62 := by decide
    omega
  · obtain ⟨z', h1, h2⟩ := get j hj
    rw [hz] at h1; cases h1
    rw [h2]; exact ez
  · intro m hm hlt
    obtain ⟨z', h1, h2⟩ := get m hm
    rw [h2]; exact hno m z' hlt h1
theorem lc_filter {K : PySem.W.Frag} {σ : St} {H : Hp} {a : Addr} {bs : List Bool} {Q : Addr → Hp → Prop} (ha : H a = some (.lst (bs.map V.bl))) (hz : bs.length ≤ 1000)
    (hq : ∀ acc H', H acc = none → Same H H' → H' acc = some (.lst ((bs.filter id).map V.bl)) → Q acc H') :
    ∀ acc, H acc = none → ∃ W : Nat → Nat → List V → Hp → Prop, (∃ m, W 0 m [] (upd H acc (.lst []))) ∧ ∀ i m ys H, W i m ys H →
      ((Itl K a).stop i H ∧ Q acc H) ∨ ((Itl K a).go i H ∧ ∀ x H', (Itl K a).yld i H x H' → tB (tVar 0) (some x :: frees σ []) H' fun b H2 =>
        if b = true then tVar 0 (some x :: frees σ []) H2 fun v H3 => H3 acc = some (.lst ys) ∧ ys.length < sizeLine ∧ ∃ m', m' < m ∧ W (i + 1) m' (ys ++ [v]) (upd H3 acc (.lst (ys ++ [v])))
        else ∃ m', m' < m ∧ W (i + 1) m' ys H2) := by
  intro acc hacc
  refine ⟨fun i m ys H' => m = bs.length - i ∧ i ≤ bs.length ∧ ys = ((bs.take i).filter id).map V.bl ∧ H' acc = some (.lst ys) ∧ Same H H', ⟨bs.length, by simp, Nat.zero_le _, rfl, upd_same, same_new hacc _⟩, ?_⟩
  rintro i m ys H' ⟨rfl, hi, rfl, h1, s1⟩
  have hq' := SqL.of (K := K) (s1 _ _ ha)
  by_cases e : i < bs.length
  · refine .inr ⟨⟨_, .bl bs[i], hq', by rw [List.getElem?_map, List.getElem?_eq_getElem e]; rfl⟩, fun x H2 ⟨e2, hx⟩ => ?_⟩
    subst e2
    have hx' := hx _ hq'
    rw [List.getElem?_map, List.getElem?_eq_getElem e] at hx'
    cases hx'
    refine ⟨_, rfl, bs[i], rfl, ?_⟩
    have tk : bs.take (i + 1) = bs.take i ++ [bs[i]] := by rw [List.take_add_one, List.getElem?_eq_getElem e]; rfl
    cases hb : bs[i] with
    | true =>
      rw [hb] at tk
      refine iteT ⟨_, rfl, h1, ?_, bs.length - (i + 1), by omega, rfl, e, ?_, upd_same, same_upd hacc s1 _⟩
      · have := List.length_filter_le id (bs.take i)
        rw [List.length_map]
        rw [List.length_take] at this
        exact small1000 (by omega)
      · rw [tk, List.filter_append, List.map_append]; rfl
    | false =>
      rw [hb] at tk
      refine iteF ⟨bs.length - (i + 1), by omega, rfl, e, ?_, h1, s1⟩
      rw [tk, List.filter_append, List.map_append]; simp
  · have e' : i = bs.length := by omega
    subst e'
    rw [List.take_length] at h1
    exact .inl ⟨⟨_, hq', by simp⟩, hq acc H' hacc s1 h1⟩
end
section
variable {X : Cx} {K : PySem.W.Frag}
def rIsinC (K : PySem.W.Frag) (C : Addr) : List V → Hp → VK → Prop := fun xs H Q => ∃ x t b, xs = [x, .ref C] ∧ TyOf K H x t ∧ PySem.W.kitOne K t (.ref C) = some b ∧ Q (.bl b) H
variable {o e : Expr} {es : List Expr} {to : TE} {t : TA} {name : Str} {apos cpos : Pos} {T id : String} {r : V → List V → Hp → VK → Prop}
end
/-! ### tests by a rest -/
section
variable {σ : St} {H : Hp} {Q : Bool → Hp → Prop} {i : Nat} {c : Int}
end
/-! ### what is no row of the disk -/
section
variable {C d kr p : Addr} {H H' : Hp} {R : List (List Int)} {n : Int} {l : Option Int}
def NoRowAt (H : Hp) (kr p : Addr) : Prop := ∀ rs : List Addr, H kr = some (.lst (rs.map V.ref)) → p ∉ rs
end
end BK
end
section
set_option Elab.async false
set_option linter.all false
set_option maxRecDepth 100000
set_option maxHeartbeats 4000000
namespace BK
open PySem L2
theorem eqvAll_ints : ∀ ns ms : List Int, PyData.eqvAll (ns.map PyData.int) (ms.map PyData.int) = decide (ns = ms)
  | [], [] => by simp [PyData.eqvAll]
  | [], _ :: _ => by simp [PyData.eqvAll]
  | _ :: _, [] => by simp [PyData.eqvAll]
  | a :: r, b :: t => by
    have e : PyData.eqv (.int a) (.int b) = decide (a = b) := by rw [Bool.eq_iff_iff]; simp [PyData.eqv]
    simp only [List.map_cons, PyData.eqvAll, e, eqvAll_ints r t]
    by_cases h : a = b <;> by_cases h' : r = t <;> simp [h, h']
theorem eqv_ints (ns ms : List Int) : PyData.eqv (.list (ns.map PyData.int)) (.list (ms.map PyData.int)) = decide (ns = ms) := by
  rw [PyData.eqv]; exact eqvAll_ints ns ms
end BK
end
section
set_option Elab.async false
set_option linter.all false
set_option maxRecDepth 100000
/-! sorted of ints: a list, a dict's keys; list of a dict -/
namespace L2
open PySem PySem.Spec PySem.Calls PyProof.Rows PySem.W

section
variable {prog : Program} {w : World} {A : Around} {E : Value → Shared → Prop} {s : Shared} {T : String} {r d : Addr} {n : Nat} {P : Nat → Value → Prop} {OK : Heap → Prop}
end

/-! ### the rules -/
section
variable {X : Cx}
/-- sorted(d): the keys, rising; d has ints as keys -/
def rSortedD (xs : List V) (H : Hp) (Q : VK) : Prop := ∃ (a : Addr) (kvs : List (Key × V)) (ks : List Int), xs = [.ref a] ∧ H a = some (.dK kvs) ∧ kvs.map (·.1) = ks.map (Sum.inl : Int → Key) ∧ kvs.length < 64 ∧
  ∀ l (ns : List Int), H l = none → ns.Perm ks → ns.Pairwise (· ≤ ·) → Q (.ref l) (upd H l (.lst (ns.map V.int)))
/-- sorted(l): a list of ints -/
def rSortedL (xs : List V) (H : Hp) (Q : VK) : Prop := ∃ (p : Addr) (ks : List Int), xs = [.ref p] ∧ SqL X.K H p (ks.map V.int) ∧ ks.length < 64 ∧
  ∀ l (ns : List Int), H l = none → ns.Perm ks → ns.Pairwise (· ≤ ·) → Q (.ref l) (upd H l (.lst (ns.map V.int)))
/-- list(d): the keys in their order -/
def rListD (xs : List V) (H : Hp) (Q : VK) : Prop := ∃ (a : Addr) (kvs : List (Key × V)) (ks : List Int), xs = [.ref a] ∧ H a = some (.dK kvs) ∧ kvs.map (·.1) = ks.map (Sum.inl : Int → Key) ∧
  ∀ l, H l = none → Q (.ref l) (upd H l (.lst (ks.map V.int)))
/-- len(d) -/
def rLenD (xs : List V) (H : Hp) (Q : VK) : Prop := ∃ (a : Addr) (kvs : List (Key × V)), xs = [.ref a] ∧ H a = some (.dK kvs) ∧ Q (.int kvs.length) H
/-- d != {}, d == {} -/
def rNeD0 : R2 := fun x y H Q => ∃ (a b : Addr) (kvs : List (Key × V)), x = .ref a ∧ y = .ref b ∧ H a = some (.dK kvs) ∧ H b = some (.dK []) ∧ Q (.bl (!kvs.isEmpty)) H
def rEqD0 : R2 := fun x y H Q => ∃ (a b : Addr) (kvs : List (Key × V)), x = .ref a ∧ y = .ref b ∧ H a = some (.dK kvs) ∧ H b = some (.dK []) ∧ Q (.bl kvs.isEmpty) H
def rJoin (K : PySem.W.Frag) : V → List V → Hp → VK → Prop := fun x vs H Q => ∃ (z : Str) (p : Addr) (ys : List Str), x = .str z ∧ vs = [.ref p] ∧ SqL K H p (ys.map V.str) ∧ (ys.map (·.length)).sum + ys.length * z.length ≤ 16777216 ∧ Q (.str (Txt.join z ys)) H
end
end L2
end
section
set_option Elab.async false
set_option linter.all false
set_option maxRecDepth 100000
set_option maxHeartbeats 4000000
/-! writes, one behind the other -/
namespace BK
open PySem L2
/-- what a disk is: its rows, its writes, how many more are let be -/
structure DS where
  R : List (List Int)
  n : Int
  l : Option Int
def DS.stop (S : DS) : Bool := match S.l with
  | some k => decide (k < 1)
  | none => false
def DS.put (S : DS) (x : Nat × List Int) : DS := ⟨S.R.set x.1 x.2, S.n + 1, S.l.map (· - 1)⟩
def runW (S : DS) : List (Nat × List Int) → DS × Bool
  | [] => (S, false)
  | x :: r => if S.stop = true then (S, true) else runW (S.put x) r
abbrev DkAt (C : Addr) (H : Hp) (d kr : Addr) (S : DS) : Prop := DiskAt C H d kr S.R S.n S.l
/-- pairs (block, row), of any kind: whether the row is one is told by the bit -/
def PairsV (K : PySem.W.Frag) (RA : Hp → V → Bool → Prop) (H : Hp) (ps : Addr) (L : List (V × V × Bool)) : Prop := ∃ ts : List Addr, H ps = some (.lst (ts.map V.ref)) ∧ ts.length = L.length ∧ ∀ (i : Nat) (t : Addr) (x : V × V × Bool), ts[i]? = some t → L[i]? = some x → H t = some (.tup [x.1, x.2.1]) ∧ Kd K H x.1 ∧ RA H x.2.1 x.2.2
/-- good ones, by their addresses -/
def PL (H : Hp) (ts rs : List Addr) (L : List (Nat × List Int)) : Prop := ts.length = L.length ∧ rs.length = L.length ∧ ∀ (i : Nat) (h1 : i < ts.length) (h2 : i < rs.length) (h3 : i < L.length), H ts[i] = some (.tup [.int L[i].1, .ref rs[i]]) ∧ H rs[i] = some (.lst (L[i].2.map V.int))
def PairsTs (H : Hp) (ps : Addr) (ts rs : List Addr) (L : List (Nat × List Int)) : Prop := H ps = some (.lst (ts.map V.ref)) ∧ PL H ts rs L
/-- as data -/
def pData (L : List (Nat × List Int)) : List PyData := L.map fun x => PyData.tuple [.int x.1, .list (x.2.map PyData.int)]
def PairsAt (H : Hp) (ps : Addr) (L : List (Nat × List Int)) : Prop := ∃ ts rs, PairsTs H ps ts rs L
/-- the homes rise from h on, below m -/
def Rises (m : Int) : Option Int → List (Nat × List Int) → Prop
  | _, [] => True
  | h, x :: r => 17 ≤ x.1 ∧ (x.1 : Int) ≤ m - 1 ∧ (∀ j, h = some j → j < (x.1 : Int)) ∧ Rises m (some (x.1 : Int)) r
structure Homes (H : Hp) (a : Addr) (m : Int) (ks : List Int) (ρ : Int → List Int) : Prop where
  ex : ∃ kvs, H a = some (.dK kvs) ∧ kvs.map (·.1) = ks.map (Sum.inl : Int → Key) ∧ ∀ k ∈ ks, ∃ r, valV kvs (.inl k) = some (.ref r) ∧ H r = some (.lst ((ρ k).map V.int))
  nd : ks.Nodup
  inn : ∀ k ∈ ks, 17 ≤ k ∧ k ≤ m - 1
  good : ∀ k ∈ ks, GoodRow (ρ k)
end BK
end
section
set_option Elab.async false
set_option linter.all false
set_option maxRecDepth 100000
set_option maxHeartbeats 4000000
namespace K4
open PySem L2 BK
def top (i : Nat) : Stmt := PySem.Challenge.pw_blockkeep_k04_layouts.main.body.getD i (.Pass ⟨0, 0, 0, 0⟩)
abbrev s_is_whole : Stmt := top 7
theorem sc_is_whole : FnScope ["thing", "least", "most"] ["thing", "least", "most"] (defScope s_is_whole) := ⟨rfl, rfl, rfl, by decide +kernel, rfl, by decide +kernel, by decide +kernel⟩
abbrev s_Layout___init__ : Stmt := inClass (top 16) 0
theorem sc_Layout___init__ : FnScope ["self", "many", "tables"] ["self", "many", "tables"] (defScope s_Layout___init__) := ⟨rfl, rfl, rfl, by decide +kernel, rfl, by decide +kernel, by decide +kernel⟩
abbrev s__law_word : Stmt := top 22
theorem sc__law_word : FnScope ["_law_error", "_law_marks"] ["_law_error"] (defScope s__law_word) := ⟨rfl, rfl, rfl, by decide +kernel, rfl, by decide +kernel, by decide +kernel⟩
abbrev s__law_made : Stmt := top 23
theorem sc__law_made : FnScope ["_law_many", "_law_tables", "_law_error"] ["_law_many", "_law_tables"] (defScope s__law_made) := ⟨rfl, rfl, rfl, by decide +kernel, rfl, by decide +kernel, by decide +kernel⟩
abbrev s__law_places : Stmt := top 25
theorem sc__law_places : FnScope ["_law_many", "_law_tables", "_law_maps"] ["_law_many", "_law_tables"] (defScope s__law_places) := ⟨rfl, rfl, rfl, by decide +kernel, rfl, by decide +kernel, by decide +kernel⟩
abbrev s_changed : Stmt := top 9
theorem sc_changed : FnScope ["row", "at", "words"] ["row", "at", "words"] (defScope s_changed) := ⟨rfl, rfl, rfl, by decide +kernel, rfl, by decide +kernel, by decide +kernel⟩
abbrev s_empty_row : Stmt := top 8
theorem sc_empty_row : FnScope [] [] (defScope s_empty_row) := ⟨rfl, rfl, rfl, by decide +kernel, rfl, by decide +kernel, by decide +kernel⟩
abbrev s_head_row : Stmt := top 17
theorem sc_head_row : FnScope ["layout", "words"] ["layout"] (defScope s_head_row) := ⟨rfl, rfl, rfl, by decide +kernel, rfl, by decide +kernel, by decide +kernel⟩
abbrev s_layout_of : Stmt := top 18
theorem sc_layout_of : FnScope ["row", "layout"] ["row"] (defScope s_layout_of) := ⟨rfl, rfl, rfl, by decide +kernel, rfl, by decide +kernel, by decide +kernel⟩
abbrev s__law_told : Stmt := top 24
theorem sc__law_told : FnScope ["_law_row", "_law_error"] ["_law_row"] (defScope s__law_told) := ⟨rfl, rfl, rfl, by decide +kernel, rfl, by decide +kernel, by decide +kernel⟩
abbrev s__law_cell_at : Stmt := top 20
theorem sc__law_cell_at : FnScope ["_law_script", "_law_k"] ["_law_script", "_law_k"] (defScope s__law_cell_at) := ⟨rfl, rfl, rfl, by decide +kernel, rfl, by decide +kernel, by decide +kernel⟩
abbrev s__law_whole : Stmt := top 21
theorem sc__law_whole : FnScope ["_law_found"] ["_law_found"] (defScope s__law_whole) := ⟨rfl, rfl, rfl, by decide +kernel, rfl, by decide +kernel, by decide +kernel⟩
abbrev s__law_due : Stmt := top 26
theorem sc__law_due : FnScope ["_law_many", "_law_tables"] ["_law_many", "_law_tables"] (defScope s__law_due) := ⟨rfl, rfl, rfl, by decide +kernel, rfl, by decide +kernel, by decide +kernel⟩
abbrev s_Layout_most_node : Stmt := inClass (top 16) 1
theorem sc_Layout_most_node : FnScope ["self"] ["self"] (defScope s_Layout_most_node) := ⟨rfl, rfl, rfl, by decide +kernel, rfl, by decide +kernel, by decide +kernel⟩
abbrev s__law_same : Stmt := top 27
theorem sc__law_same : FnScope ["_law_layout", "_law_places_here", "_law_found"] ["_law_layout", "_law_places_here"] (defScope s__law_same) := ⟨rfl, rfl, rfl, by decide +kernel, rfl, by decide +kernel, by decide +kernel⟩
abbrev s__law_row_due : Stmt := top 28
theorem sc__law_row_due : FnScope ["_law_row"] ["_law_row"] (defScope s__law_row_due) := ⟨rfl, rfl, rfl, by decide +kernel, rfl, by decide +kernel, by decide +kernel⟩
abbrev s_law : Stmt := top 29
theorem sc_law : FnScope ["_law_script", "_law_many", "_law_tables", "_law_odd", "_law_found", "_law_places_here", "_law_row", "_law_given", "_law_told_here", "_law_kept", "_law_cell", "_law_at", "_law_word_here", "_law_handed"] ["_law_script"] (defScope s_law) := ⟨rfl, rfl, rfl, by decide +kernel, rfl, by decide +kernel, by decide +kernel⟩
/-- the addresses of the text's classes and methods -/
structure Ad where
  cKeepError : Addr
  cNoBlock : Addr
  cBadDisk : Addr
  cNoRoom : Addr
  cLayout : Addr
  fLayout_init : Addr
  f_most_node : Addr
structure Txt (K : PySem.W.Frag) (mg : Str → Option Value) (a : Ad) : Prop where
  isinstance : mg "isinstance" = none
  int : mg "int" = none
  bool : mg "bool" = none
  list : mg "list" = none
  len : mg "len" = none
  all : mg "all" = none
  ValueError : mg "ValueError" = none
  max : mg "max" = none
  cROW_WORDS : ∃ t, mg "ROW_WORDS" = some (.int 16 t)
  cLEAST_BLOCKS : ∃ t, mg "LEAST_BLOCKS" = some (.int 24 t)
  cMOST_BLOCKS : ∃ t, mg "MOST_BLOCKS" = some (.int 96 t)
  cHEAD_SIGN : ∃ t, mg "HEAD_SIGN" = some (.int 7100719 t)
  cMAPS_AT : ∃ t, mg "MAPS_AT" = some (.int 17 t)
  cMOST_TABLES : ∃ t, mg "MOST_TABLES" = some (.int 8 t)
  mKeepError : mg "KeepError" = some (.ref a.cKeepError)
  mNoBlock : mg "NoBlock" = some (.ref a.cNoBlock)
  mBadDisk : mg "BadDisk" = some (.ref a.cBadDisk)
  mNoRoom : mg "NoRoom" = some (.ref a.cNoRoom)
  mLayout : mg "Layout" = some (.ref a.cLayout)
  xBadDisk : PySem.W.excIn K a.cBadDisk veMro "ValueError.__new__" = true
  xNoRoom : PySem.W.excIn K a.cNoRoom veMro "ValueError.__new__" = true
  eBadDisk : ExcK K a.cBadDisk
  eNoRoom : ExcK K a.cNoRoom
  kKeepError : CatK K a.cKeepError
  sBadDisk_KeepError : PySem.W.mroIn K a.cBadDisk (.ref a.cKeepError) = some true
  sNoRoom_KeepError : PySem.W.mroIn K a.cNoRoom (.ref a.cKeepError) = some true
  kNoRoom : CatK K a.cNoRoom
  sBadDisk_NoRoom : PySem.W.mroIn K a.cBadDisk (.ref a.cNoRoom) = some false
  sNoRoom_NoRoom : PySem.W.mroIn K a.cNoRoom (.ref a.cNoRoom) = some true
  qBadDisk_BadDisk : PySem.W.kitOne K (.ref a.cBadDisk) (.ref a.cBadDisk) = some true
  qBadDisk_NoRoom : PySem.W.kitOne K (.ref a.cBadDisk) (.ref a.cNoRoom) = some false
  qBadDisk_NoBlock : PySem.W.kitOne K (.ref a.cBadDisk) (.ref a.cNoBlock) = some false
  qBadDisk_ValueError : PySem.W.kitOne K (.ref a.cBadDisk) (.type "ValueError") = some true
  qNoRoom_BadDisk : PySem.W.kitOne K (.ref a.cNoRoom) (.ref a.cBadDisk) = some false
  qNoRoom_NoRoom : PySem.W.kitOne K (.ref a.cNoRoom) (.ref a.cNoRoom) = some true
  qNoRoom_NoBlock : PySem.W.kitOne K (.ref a.cNoRoom) (.ref a.cNoBlock) = some false
  qNoRoom_ValueError : PySem.W.kitOne K (.ref a.cNoRoom) (.type "ValueError") = some true
  clLayout : Cls K a.cLayout
  n_many : NoAttr K a.cLayout "many"
  n_tables : NoAttr K a.cLayout "tables"
  n_maps_at : NoAttr K a.cLayout "maps_at"
  n_nodes_at : NoAttr K a.cLayout "nodes_at"
  n_data_at : NoAttr K a.cLayout "data_at"
  mkLayout : Mk K a.cLayout a.fLayout_init
  m_most_node : Meth K a.cLayout "most_node" a.f_most_node
/-- a def that keeps its promise, by its name; a method -/
def Df (P : Program) (w : World) (K : PySem.W.Frag) (mg : Str → Option Value) (base : Heap) (CX : CXT) (n : Nat) (x : Str) (ps : List Str) (sp : Sp) : Prop :=
  ∃ f fd, FnOk P w K mg base CX n f fd ps sp ∧ Binds K fd ps [] ∧ PySem.W.keepIn K (.ref f) = true ∧ mg x = some (.ref f)
def Mf (P : Program) (w : World) (K : PySem.W.Frag) (mg : Str → Option Value) (base : Heap) (CX : CXT) (n : Nat) (f : Addr) (ps : List Str) (sp : Sp) : Prop :=
  ∃ fd, FnOk P w K mg base CX n f fd ps sp ∧ Binds K fd ps []
end K4
end
section
set_option Elab.async false
set_option linter.all false
set_option maxRecDepth 100000
set_option maxHeartbeats 4000000
namespace K4
open PySem L2 BK
section
variable {P : Program} {w : World} {K : PySem.W.Frag} {mg : Str → Option Value} {base : Heap} {f : Addr} {fd : FuncData} {a : Ad}
/-! ### is_whole, is_word, is_row, empty_row -/
def spWhole (K : PySem.W.Frag) (_ : Ad) : Sp := fun vs H Q _ => ∃ v lo hi, vs = [v, .int lo, .int hi] ∧ Kd K H v ∧ Q (.bl (wholeV v lo hi)) H
theorem ok_is_whole (F : Fun K "is_whole" "is_whole" s_is_whole f fd) (T : Txt K mg a)  : FnOk P w K mg base CX0 1 f fd ["thing", "least", "most"] (spWhole K a) := by
  have nd := sc_is_whole.nd
  refine F.ok sc_is_whole (fun vs H Q E h => ?_) (fun cdv A outer s H vs Q E hr h => ?_)
  · obtain ⟨v, lo, hi, rfl, _⟩ := h
    rfl
  obtain ⟨v, lo, hi, rfl, ⟨t, ty, e1, e2, _⟩, q⟩ := h
  refine ⟨_, (pss_one (ps_ret (pe_and (pe_callB (call_isinst (T := "int")) rfl T.isinstance bt_isinstance (pa_cons (pv 0) (pa_cons (pe_bltn (v := .ty "int") rfl T.int bt_int rfl) pa_nil))) (pe_and (pe_not (pe_callB (call_isinst (T := "bool")) rfl T.isinstance bt_isinstance (pa_cons (pv 0) (pa_cons (pe_bltn (v := .ty "bool") rfl T.bool bt_bool rfl) pa_nil)))) (pe_one (pe_chain op_le op_le (pv 1) (pv 0) (pv 2))))))), ?_⟩
  refine ⟨_, rfl, _, t, _, rfl, ty, e1, _, rfl, ?_⟩
  cases v with
  | int i =>
    refine iteT ⟨_, rfl, _, t, _, rfl, ty, e2, _, rfl, _, rfl, iteT ?_⟩
    refine ⟨_, rfl, _, rfl, _, _, rfl, rfl, _, rfl, ?_⟩
    refine ite2 (fun c => ?_) (fun c => ?_)
    · refine ⟨_, rfl, _, _, rfl, rfl, ?_⟩
      have c' : decide (lo ≤ i) = true := c
      have : wholeV (.int i) lo hi = decide (i ≤ hi) := by show (decide (lo ≤ i) && decide (i ≤ hi)) = _; rw [c', Bool.true_and]
      rw [this] at q
      exact q
    · have c' : decide (lo ≤ i) = false := Bool.eq_false_iff.mpr c
      have : wholeV (.int i) lo hi = false := by show (decide (lo ≤ i) && decide (i ≤ hi)) = _; rw [c', Bool.false_and]
      rw [this] at q
      exact q
  | bl b => exact iteT ⟨_, rfl, _, t, _, rfl, ty, e2, _, rfl, _, rfl, iteF q⟩
  | _ => exact iteF q
def spEmpty (_ : PySem.W.Frag) (_ : Ad) : Sp := fun vs H Q _ => vs = [] ∧ ∀ p H', H p = none → Same H H' → H' p = some (.lst ((List.replicate 16 (0 : Int)).map V.int)) → Q (.ref p) H'
theorem ok_empty_row (F : Fun K "empty_row" "empty_row" s_empty_row f fd) (T : Txt K mg a)  : FnOk P w K mg base CX0 1 f fd [] (spEmpty K a) := by
  have nd := sc_empty_row.nd
  refine F.ok sc_empty_row (fun vs H Q E h => ?_) (fun cdv A outer s H vs Q E hr h => ?_)
  · obtain ⟨rfl, _⟩ := h
    rfl
  obtain ⟨rfl, q⟩ := h
  refine ⟨_, (pss_one (ps_ret (pe_op op_rep (pe_lst (pa_cons pe_int pa_nil)) (pe_glob (v := .int 16) rfl T.cROW_WORDS.choose_spec ⟨_, rfl⟩)))), ?_⟩
  refine ⟨(by show 1 ≤ sizeLine; decide), fun p hp => ?_⟩
  refine ⟨p, 16, [.int 0], rfl, rfl, upd_same, by decide, by decide, (by show 1 * 16 ≤ sizeLine; decide), fun r hr' => ?_⟩
  have hrH : H r = none := (same_new hp (.lst [.int 0])).free hr'
  exact q r _ hrH ((same_new hp _).trans (same_new hr' _)) upd_same
def spChanged (_ : PySem.W.Frag) (_ : Ad) : Sp := fun vs H Q _ => ∃ (r wd : Addr) (xs ys : List V) (k : Nat), vs = [.ref r, .int k, .ref wd] ∧ H r = some (.lst xs) ∧ H wd = some (.lst ys) ∧ xs.length ≤ 300 ∧ ys.length ≤ 300 ∧ ∀ p H', H p = none → Same H H' → H' p = some (.lst (xs.take k ++ ys ++ xs.drop (k + ys.length))) → Q (.ref p) H'
theorem ok_changed (F : Fun K "changed" "changed" s_changed f fd) (T : Txt K mg a)  : FnOk P w K mg base CX0 1 f fd ["row", "at", "words"] (spChanged K a) := by
  have nd := sc_changed.nd
  refine F.ok sc_changed (fun vs H Q E h => ?_) (fun cdv A outer s H vs Q E hr h => ?_)
  · obtain ⟨r, wd, xs, ys, k, rfl, _⟩ := h
    rfl
  obtain ⟨r, wd, xs, ys, k, rfl, hr0, hw, z1, z2, q⟩ := h
  refine ⟨_, (pss_one (ps_ret (pe_op op_cat (pe_op op_cat (pe_slice sl_list (pv 0) po_none (po_some (pv 1))) (pv 2)) (pe_slice sl_list (pv 0) (po_some (pe_op op_add (pv 1) (pe_callB call_len_seq rfl T.len bt_len (pa_cons (pv 2) pa_nil)))) po_none)))), ?_⟩
  refine ⟨_, rfl, _, rfl, _, rfl, r, xs, rfl, SqL.of hr0, fun p1 n1 => ?_⟩
  rw [cut_to]
  have s1 := same_new n1 (.lst (xs.take k))
  refine ⟨_, rfl, p1, wd, _, _, rfl, rfl, upd_same, s1 _ _ hw, small (by rw [List.length_take]; omega), fun p2 n2 => ?_⟩
  have s2 := s1.trans (same_new n2 (.lst (xs.take k ++ ys)))
  refine ⟨_, rfl, _, rfl, _, rfl, wd, ys, rfl, .inl (SqL.of (s2 _ _ hw)), _, _, rfl, rfl, _, rfl, r, xs, rfl, SqL.of (s2 _ _ hr0), fun p3 n3 => ?_⟩
  dsimp only
  rw [show (k : Int) + (ys.length : Int) = ((k + ys.length : Nat) : Int) by omega, cut_from]
  have s3 := s2.trans (same_new n3 (.lst (xs.drop (k + ys.length))))
  refine ⟨p2, p3, _, _, rfl, rfl, same_new n3 _ _ _ upd_same, upd_same, small (by rw [List.length_append, List.length_take, List.length_drop]; omega), fun p4 n4 => ?_⟩
  exact q p4 _ (s3.free n4) (s3.trans (same_new n4 _)) upd_same
end
end K4
end
section
set_option Elab.async false
set_option linter.all false
set_option maxRecDepth 100000
set_option maxHeartbeats 4000000
namespace K4
open PySem L2 BK
section
variable {P : Program} {w : World} {K : PySem.W.Frag} {mg : Str → Option Value} {base : Heap} {f : Addr} {fd : FuncData} {a : Ad}
/-! ### the layout -/
def nodesAt (m : Int) : Int := 17 + (m + 16 - 1) / 16
def dataAt (m t : Int) : Int := nodesAt m + t
def Good (m t : Int) : Prop := 24 ≤ m ∧ m ≤ 96 ∧ 1 ≤ t ∧ t ≤ 8 ∧ dataAt m t < m
def headRow (m t : Int) : List Int := [7100719, m, t, 17, nodesAt m, dataAt m t] ++ List.replicate 10 0
def LayAt (C : Addr) (H : Hp) (x : Addr) (m t : Int) : Prop := ∃ dx, H x = some (.ins C dx [("many", .int m), ("tables", .int t), ("maps_at", .int 17), ("nodes_at", .int (nodesAt m)), ("data_at", .int (dataAt m t))])
theorem LayAt.chg {C x : Addr} {H H' : Hp} {m t : Int} {S : List Addr} (h : LayAt C H x m t) (c : Chg S H H') (n : x ∉ S) : LayAt C H' x m t := let ⟨dx, e⟩ := h; ⟨dx, c _ _ e n⟩
theorem LayAt.same {C x : Addr} {H H' : Hp} {m t : Int} (h : LayAt C H x m t) (s : Same H H') : LayAt C H' x m t := let ⟨dx, e⟩ := h; ⟨dx, s _ _ e⟩
def spLInit (K : PySem.W.Frag) (a : Ad) : Sp := fun vs H Q E => ∃ (x dx : Addr) (v u : V), vs = [.ref x, v, u] ∧ H x = some (.ins a.cLayout dx []) ∧ Kd K H v ∧ Kd K H u ∧
  (((wholeV v 24 96 && wholeV u 1 8) = false ∧ E (.ref a.cBadDisk) none H) ∨
   (∃ m t : Int, v = .int m ∧ u = .int t ∧ 24 ≤ m ∧ m ≤ 96 ∧ 1 ≤ t ∧ t ≤ 8 ∧ (m ≤ dataAt m t → ∀ H', Chg [x] H H' → E (.ref a.cNoRoom) none H') ∧ (dataAt m t < m → ∀ H', Chg [x] H H' → LayAt a.cLayout H' x m t → Q .non H')))
theorem whole_in {i lo hi : Int} (h1 : lo ≤ i) (h2 : i ≤ hi) : wholeV (.int i) lo hi = true := by
  show (decide (lo ≤ i) && decide (i ≤ hi)) = true
  rw [decide_eq_true h1, decide_eq_true h2]; rfl
theorem whole_is {v : V} {lo hi : Int} (h : wholeV v lo hi = true) : ∃ i, v = .int i ∧ lo ≤ i ∧ i ≤ hi := by
  cases v with
  | int i =>
    have h' : (decide (lo ≤ i) && decide (i ≤ hi)) = true := h
    rw [Bool.and_eq_true, decide_eq_true_eq, decide_eq_true_eq] at h'
    exact ⟨i, rfl, h'.1, h'.2⟩
  | _ => cases h
theorem ok_Layout___init__ (F : Fun K "__init__" "Layout.__init__" s_Layout___init__ f fd) (T : Txt K mg a) (D_is_whole : Df P w K mg base CX0 1 "is_whole" ["thing", "least", "most"] (spWhole K a)) : FnOk P w K mg base (CXE P w) 2 f fd ["self", "many", "tables"] (spLInit K a) := by
  obtain ⟨_, _, Gis_whole, bis_whole, kis_whole, mis_whole⟩ := D_is_whole
  have nd := sc_Layout___init__.nd
  refine F.okE sc_Layout___init__ (fun vs H Q E h => ?_) (fun cdv A outer s H vs Q E hr hA h => ?_)
  · obtain ⟨x, dx, v, u, rfl, _⟩ := h
    rfl
  obtain ⟨x, dx, v, u, rfl, hx, kv, ku, hq⟩ := h
  refine ⟨_, (pss_cons (ps_if (pt_not (pt_val (pe_call Gis_whole (hr.mono (by decide)) rfl mis_whole kis_whole bis_whole .nil pass0 (pa_cons (pv 1) (pa_cons (pe_glob (v := .int 24) rfl T.cLEAST_BLOCKS.choose_spec ⟨_, rfl⟩) (pa_cons (pe_glob (v := .int 96) rfl T.cMOST_BLOCKS.choose_spec ⟨_, rfl⟩) pa_nil)))))) (pss_one (ps_raise (out_fn (fun _ _ _ h => h)) rfl hA rfl T.mBadDisk T.xBadDisk (pa_cons pe_str pa_nil))) pss_nil)
    (pss_cons (ps_if (pt_not (pt_val (pe_call Gis_whole (hr.mono (by decide)) rfl mis_whole kis_whole bis_whole .nil pass0 (pa_cons (pv 2) (pa_cons pe_int (pa_cons (pe_glob (v := .int 8) rfl T.cMOST_TABLES.choose_spec ⟨_, rfl⟩) pa_nil)))))) (pss_one (ps_raise (out_fn (fun _ _ _ h => h)) rfl hA rfl T.mBadDisk T.xBadDisk (pa_cons pe_str pa_nil))) pss_nil)
    (pss_cons (ps_fld (pv 0) (pv 1) rfl)
    (pss_cons (ps_fld (pv 0) (pv 2) rfl)
    (pss_cons (ps_fld (pv 0) (pe_glob (v := .int 17) rfl T.cMAPS_AT.choose_spec ⟨_, rfl⟩) rfl)
    (pss_cons (ps_fld (pv 0) (pe_op op_add (pe_glob (v := .int 17) rfl T.cMAPS_AT.choose_spec ⟨_, rfl⟩) (pe_op op_fdiv (pe_op op_sub (pe_op op_add (pv 1) (pe_glob (v := .int 16) rfl T.cROW_WORDS.choose_spec ⟨_, rfl⟩)) pe_int) (pe_glob (v := .int 16) rfl T.cROW_WORDS.choose_spec ⟨_, rfl⟩))) rfl)
    (pss_cons (ps_fld (pv 0) (pe_op op_add (pe_fld (pv 0) rfl) (pv 2)) rfl)
    (pss_one (ps_if (pt_cmpR op_ge (pe_fld (pv 0) rfl) (pv 1) (nomark _)) (pss_one (ps_raise (out_fn (fun _ _ _ h => h)) rfl hA rfl T.mNoRoom T.xNoRoom (pa_cons pe_str pa_nil))) pss_nil))))))))), ?_⟩
  refine ⟨_, rfl, v, 24, 96, rfl, kv, _, rfl, ?_⟩
  rcases hq with ⟨hw, q⟩ | ⟨m, t, rfl, rfl, h1, h2, h3, h4, q1, q2⟩
  · by_cases hv : wholeV v 24 96 = true
    · refine iteF' (by rw [hv]; rfl) ⟨_, rfl, u, 1, 8, rfl, ku, _, rfl, ?_⟩
      rw [hv, Bool.true_and] at hw
      exact iteT' (by rw [hw]; rfl) ⟨(by show 1 ≤ 1000; decide), q⟩
    · exact iteT' (by rw [Bool.eq_false_iff.mpr hv]; rfl) ⟨(by show 1 ≤ 1000; decide), q⟩
  · refine iteF' (by rw [whole_in h1 h2]; rfl) ⟨_, rfl, _, 1, 8, rfl, ku, _, rfl, iteF' (by rw [whole_in h3 h4]; rfl) ?_⟩
    refine ⟨_, rfl, _, rfl, x, a.cLayout, dx, _, rfl, hx, T.clLayout, T.n_many, by decide, ?_⟩
    refine ⟨_, rfl, _, rfl, x, a.cLayout, dx, _, rfl, upd_same, T.clLayout, T.n_tables, (by show 1 < 1000; decide), ?_⟩
    rw [upd_upd]
    refine ⟨_, rfl, x, a.cLayout, dx, _, rfl, upd_same, T.clLayout, T.n_maps_at, (by show 2 < 1000; decide), ?_⟩
    rw [upd_upd]
    refine ⟨_, rfl, _, _, rfl, rfl, _, _, rfl, rfl, _, _, rfl, rfl, ⟨by decide, by decide⟩, _, _, rfl, rfl, _, rfl, x, a.cLayout, dx, _, rfl, upd_same, T.clLayout, T.n_nodes_at, (by show 3 < 1000; decide), ?_⟩
    rw [upd_upd]
    refine ⟨_, rfl, x, a.cLayout, dx, _, _, rfl, upd_same, T.clLayout, T.n_nodes_at, rfl, _, rfl, _, _, rfl, rfl, _, rfl, x, a.cLayout, dx, _, rfl, upd_same, T.clLayout, T.n_data_at, (by show 4 < 1000; decide), ?_⟩
    rw [upd_upd]
    refine ⟨_, rfl, x, a.cLayout, dx, _, _, rfl, upd_same, T.clLayout, T.n_data_at, rfl, _, rfl, _, _, rfl, rfl, _, rfl, ?_⟩
    have c := (Chg.of (Same.refl H) (S := [x])).upd (a := x) (by simp) (.ins a.cLayout dx [("many", .int m), ("tables", .int t), ("maps_at", .int 17), ("nodes_at", .int (nodesAt m)), ("data_at", .int (dataAt m t))])
    by_cases hd : m ≤ dataAt m t
    · exact iteT' (decide_eq_true hd) ⟨(by show 1 ≤ 1000; decide), q1 hd _ c⟩
    · exact iteF' (decide_eq_false hd) (q2 (by omega) _ c ⟨dx, upd_same⟩)
def spMost (_ : PySem.W.Frag) (a : Ad) : Sp := fun vs H Q _ => ∃ (x : Addr) (m t : Int), vs = [.ref x] ∧ LayAt a.cLayout H x m t ∧ Q (.int (2 * t - 1)) H
theorem ok_Layout_most_node (F : Fun K "most_node" "Layout.most_node" s_Layout_most_node f fd) (T : Txt K mg a)  : FnOk P w K mg base CX0 1 f fd ["self"] (spMost K a) := by
  have nd := sc_Layout_most_node.nd
  refine F.ok sc_Layout_most_node (fun vs H Q E h => ?_) (fun cdv A outer s H vs Q E hr h => ?_)
  · obtain ⟨x, m, t, rfl, _⟩ := h
    rfl
  obtain ⟨x, m, t, rfl, ⟨dx, hx⟩, q⟩ := h
  refine ⟨_, (pss_one (ps_ret (pe_op op_sub (pe_op op_mul pe_int (pe_fld (pv 0) rfl)) pe_int))), ?_⟩
  exact ⟨_, rfl, x, a.cLayout, dx, _, _, rfl, hx, T.clLayout, T.n_tables, rfl, _, _, rfl, rfl, .inl ⟨by decide, by decide⟩, _, _, rfl, rfl, q⟩
def spHead (_ : PySem.W.Frag) (a : Ad) : Sp := fun vs H Q _ => ∃ (x : Addr) (m t : Int), vs = [.ref x] ∧ LayAt a.cLayout H x m t ∧ ∀ p H', H p = none → Same H H' → H' p = some (.lst ((headRow m t).map V.int)) → Q (.ref p) H'
theorem ok_head_row (F : Fun K "head_row" "head_row" s_head_row f fd) (T : Txt K mg a) (D_changed : Df P w K mg base CX0 1 "changed" ["row", "at", "words"] (spChanged K a)) (D_empty_row : Df P w K mg base CX0 1 "empty_row" [] (spEmpty K a)) : FnOk P w K mg base CX0 2 f fd ["layout"] (spHead K a) := by
  obtain ⟨_, _, Gchanged, bchanged, kchanged, mchanged⟩ := D_changed
  obtain ⟨_, _, Gempty_row, bempty_row, kempty_row, mempty_row⟩ := D_empty_row
  have nd := sc_head_row.nd
  refine F.ok sc_head_row (fun vs H Q E h => ?_) (fun cdv A outer s H vs Q E hr h => ?_)
  · obtain ⟨x, m, t, rfl, _⟩ := h
    rfl
  obtain ⟨x, m, t, rfl, ⟨dx, hx⟩, q⟩ := h
  refine ⟨_, (pss_cons (ps_set (i := 1) nd rfl (by first | exact Or.inl rfl | exact Or.inr rfl) (pe_lst (pa_cons (pe_glob (v := .int 7100719) rfl T.cHEAD_SIGN.choose_spec ⟨_, rfl⟩) (pa_cons (pe_fld (pv 0) rfl) (pa_cons (pe_fld (pv 0) rfl) (pa_cons (pe_fld (pv 0) rfl) (pa_cons (pe_fld (pv 0) rfl) (pa_cons (pe_fld (pv 0) rfl) pa_nil))))))))
    (pss_one (ps_ret (pe_call Gchanged (hr.mono (by decide)) rfl mchanged kchanged bchanged .nil pass0 (pa_cons (pe_call0 Gempty_row (hr.mono (by decide)) rfl mempty_row kempty_row bempty_row .nil pass0) (pa_cons pe_int (pa_cons (pv 1) pa_nil))))))), ?_⟩
  refine ⟨_, rfl, x, a.cLayout, dx, _, _, rfl, hx, T.clLayout, T.n_many, rfl, _, rfl, x, a.cLayout, dx, _, _, rfl, hx, T.clLayout, T.n_tables, rfl, _, rfl, x, a.cLayout, dx, _, _, rfl, hx, T.clLayout, T.n_maps_at, rfl, _, rfl, x, a.cLayout, dx, _, _, rfl, hx, T.clLayout, T.n_nodes_at, rfl, _, rfl, x, a.cLayout, dx, _, _, rfl, hx, T.clLayout, T.n_data_at, rfl, (by show 6 ≤ sizeLine; decide), fun p1 n1 => ?_⟩
  have s1 := same_new n1 (.lst [.int 7100719, .int m, .int t, .int 17, .int (nodesAt m), .int (dataAt m t)])
  refine ⟨rfl, fun p2 H2 n2 s2 h2 => ⟨_, rfl, ?_⟩⟩
  refine ⟨p2, p1, _, _, 0, rfl, h2, s2 _ _ upd_same, by simp, (by show 6 ≤ 300; decide), fun p3 H3 n3 s3 h3 => ?_⟩
  exact q p3 H3 ((s1.trans s2).free n3) ((s1.trans s2).trans s3) h3
def spLayoutOf (_ : PySem.W.Frag) (a : Ad) : Sp := fun vs H Q E => ∃ (r : Addr) (row : List Int), vs = [.ref r] ∧ H r = some (.lst (row.map V.int)) ∧ row.length = 16 ∧
  ((∃ m t, Good m t ∧ row = headRow m t ∧ ∀ x H', H x = none → Same H H' → LayAt a.cLayout H' x m t → Q (.ref x) H') ∨ ((∀ m t, Good m t → row ≠ headRow m t) ∧ ∀ d H', Same H H' → E (.ref a.cBadDisk) d H'))
theorem ok_layout_of (F : Fun K "layout_of" "layout_of" s_layout_of f fd) (T : Txt K mg a) (M_Layout___init__ : Mf P w K mg base (CXE P w) 2 a.fLayout_init ["self", "many", "tables"] (spLInit K a)) (D_head_row : Df P w K mg base CX0 2 "head_row" ["layout"] (spHead K a)) : FnOk P w K mg base (CXE P w) 4 f fd ["row"] (spLayoutOf K a) := by
  obtain ⟨_, GLayout_init, bLayout_init⟩ := M_Layout___init__
  obtain ⟨_, _, Ghead_row, bhead_row, khead_row, mhead_row⟩ := D_head_row
  have nd := sc_layout_of.nd
  refine F.okE sc_layout_of (fun vs H Q E h => ?_) (fun cdv A outer s H vs Q E hr hA h => ?_)
  · obtain ⟨r, row, rfl, _⟩ := h
    rfl
  obtain ⟨r, row, rfl, hr0, h16, hq⟩ := h
  refine ⟨_, (pss_cons (ps_tryR ["layout"] rfl rfl rfl rfl rfl T.mNoRoom T.kNoRoom (out_fn (fun _ _ _ h => h)) rfl T.mBadDisk T.xBadDisk (fun Ex pn fx xe hfx O => (pss_one (ps_set (i := 1) nd rfl (by first | exact Or.inl rfl | exact Or.inr rfl) (pe_make T.mkLayout GLayout_init (hr.mono (by decide)) rfl T.mLayout bLayout_init .nil (passes_out O rfl rfl) (pa_cons (pe_ix (ix_listK (K := K) rfl) (pv 0) pe_int (fun _ _ => rfl)) (pa_cons (pe_ix (ix_listK (K := K) rfl) (pv 0) pe_int (fun _ _ => rfl)) pa_nil)) (hcm := (.inr hA))) (hfx := fun p h z => hfx p h (by rw [z]; simp))))))
    (pss_cons (ps_if (pt_cmpR (op_neD hr.units) (pv 0) (pe_call Ghead_row (hr.mono (by decide)) rfl mhead_row khead_row bhead_row .nil pass0 (pa_cons (pv 1) pa_nil)) (nomark _)) (pss_one (ps_raise (out_fn (fun _ _ _ h => h)) rfl hA rfl T.mBadDisk T.xBadDisk (pa_cons pe_str pa_nil))) pss_nil)
    (pss_one (ps_ret (pv 1))))), ?_⟩
  have g1 : row[1]? = some row[1] := List.getElem?_eq_getElem (by omega)
  have g2 : row[2]? = some row[2] := List.getElem?_eq_getElem (by omega)
  have a1 : atI (row.map V.int) 1 = some (.int row[1]) := atI_nat (j := 1) (by rw [List.getElem?_map, g1]; rfl)
  have a2 : atI (row.map V.int) 2 = some (.int row[2]) := atI_nat (j := 2) (by rw [List.getElem?_map, g2]; rfl)
  refine ⟨_, rfl, r, _, 1, _, rfl, rfl, SqL.of hr0, a1, _, rfl, r, _, 2, _, rfl, rfl, SqL.of hr0, a2, fun x dx nx ndx nex => ?_⟩
  have s0 : Same H (upd (upd H dx (.own x)) x (.ins a.cLayout dx [])) := fun b o e => by
    rw [upd_ne (ne_of_none e nx), upd_ne (ne_of_none e ndx)]
    exact e
  have up : ∀ {H'}, Chg [x] (upd (upd H dx (.own x)) x (.ins a.cLayout dx [])) H' → Same H H' := fun c b o e => c b o (s0 b o e) (by simp only [List.mem_singleton]; exact ne_of_none e nx)
  have notgood : (∀ m t, Good m t → row ≠ headRow m t) → ∀ d H', Same H H' → E (.ref a.cBadDisk) d H' := by
    rcases hq with ⟨m, t, g, e, _⟩ | ⟨_, q⟩
    · exact fun z => absurd e (z m t g)
    · exact fun _ => q
  have hhead : ∀ m t, row = headRow m t → row[1] = m ∧ row[2] = t := fun m t e => by subst e; exact ⟨rfl, rfl⟩
  refine ⟨x, dx, _, _, rfl, upd_same, .int _, .int _, ?_⟩
  by_cases hw : 24 ≤ row[1] ∧ row[1] ≤ 96 ∧ 1 ≤ row[2] ∧ row[2] ≤ 8
  · refine .inr ⟨row[1], row[2], rfl, rfl, hw.1, hw.2.1, hw.2.2.1, hw.2.2.2, fun hd H1 c1 => ?_, fun hd H1 c1 L1 => ⟨rfl, ?_⟩⟩
    · refine ⟨a.cNoRoom, rfl, .inl ⟨T.sNoRoom_NoRoom, rfl, fun e e1 ne => ?_⟩⟩
      refine notgood (fun m t g z => ?_) _ _ (same_upd (up c1 |>.free ne) (up c1) _)
      obtain ⟨z1, z2⟩ := hhead m t z
      have := g.2.2.2.2
      rw [z1, z2] at hd
      omega
    · have s1 := up c1
      refine ⟨_, rfl, _, rfl, x, row[1], row[2], rfl, L1, fun p H2 n2 s2 h2 => ?_⟩
      refine ⟨.list (row.map PyData.int), .list ((headRow row[1] row[2]).map PyData.int), .lst (SqL.of ((s1.trans s2) _ _ hr0)) (dvs_ints _), .lst (SqL.of h2) (dvs_ints _), PySem.W.ke_shaped_ints _, PySem.W.ke_shaped_ints _, _, rfl, ?_⟩
      rw [eqv_ints]
      by_cases he : row = headRow row[1] row[2]
      · refine iteF' (by rw [decide_eq_true he]; rfl) ?_
        rcases hq with ⟨m, t, g, e, q⟩ | ⟨no, _⟩
        · obtain ⟨z1, z2⟩ := hhead m t e
          refine ⟨_, rfl, q x H2 nx (s1.trans s2) ?_⟩
          rw [← z1, ← z2]; exact L1.same s2
        · exact absurd he (no _ _ ⟨hw.1, hw.2.1, hw.2.2.1, hw.2.2.2, hd⟩)
      · refine iteT' (by rw [decide_eq_false he]; rfl) ⟨(by show 1 ≤ 1000; decide), notgood (fun m t g z => he ?_) _ _ (s1.trans s2)⟩
        obtain ⟨z1, z2⟩ := hhead m t z
        rw [z1, z2]; exact z
  · refine .inl ⟨?_, a.cBadDisk, rfl, .inr ⟨T.sBadDisk_NoRoom, notgood (fun m t g z => hw ?_) _ _ s0⟩⟩
    · cases e1 : wholeV (.int row[1]) 24 96 with
      | false => rfl
      | true =>
        cases e2 : wholeV (.int row[2]) 1 8 with
        | false => rfl
        | true =>
          obtain ⟨_, z1, z2, z3⟩ := whole_is e1
          obtain ⟨_, y1, y2, y3⟩ := whole_is e2
          cases z1; cases y1
          exact absurd ⟨z2, z3, y2, y3⟩ hw
    · obtain ⟨z1, z2⟩ := hhead m t z
      rw [z1, z2]
      exact ⟨g.1, g.2.1, g.2.2.1, g.2.2.2.1⟩
end
end K4
end
section
set_option Elab.async false
set_option linter.all false
set_option maxRecDepth 100000
set_option maxHeartbeats 4000000
namespace K4
open PySem L2 BK
section
variable {P : Program} {w : World} {K : PySem.W.Frag} {mg : Str → Option Value} {base : Heap} {f : Addr} {fd : FuncData} {a : Ad}
/-! ### _law_cell_at -/
def cell (ns : List Int) (k : Int) : Int := ns.getD k.toNat 0
def spCell (K : PySem.W.Frag) (_ : Ad) : Sp := fun vs H Q _ => ∃ (p : Addr) (ns : List Int) (k : Int), vs = [.ref p, .int k] ∧ SqL K H p (ns.map V.int) ∧ 0 ≤ k ∧ Q (.int (cell ns k)) H
theorem ok__law_cell_at (F : Fun K "_law_cell_at" "_law_cell_at" s__law_cell_at f fd) (T : Txt K mg a)  : FnOk P w K mg base CX0 1 f fd ["_law_script", "_law_k"] (spCell K a) := by
  have nd := sc__law_cell_at.nd
  refine F.ok sc__law_cell_at (fun vs H Q E h => ?_) (fun cdv A outer s H vs Q E hr h => ?_)
  · obtain ⟨p, ns, k, rfl, _⟩ := h
    rfl
  obtain ⟨p, ns, k, rfl, hS, h0, q⟩ := h
  refine ⟨_, (pss_cons (ps_if (pt_cmpR op_lt (pv 1) (pe_callB call_len_seq rfl T.len bt_len (pa_cons (pv 0) pa_nil)) (nomark _)) (pss_one (ps_ret (pe_ix ix_list (pv 0) (pv 1) (fun _ _ => rfl)))) pss_nil)
    (pss_one (ps_ret pe_int))), ?_⟩
  refine ⟨_, rfl, _, rfl, p, _, rfl, .inl hS, _, _, rfl, rfl, _, rfl, ?_⟩
  refine ite2 (fun c => ?_) (fun c => ?_)
  · have c' : k < (((ns.map V.int).length : Nat) : Int) := of_decide_eq_true c
    rw [List.length_map] at c'
    have hk : k.toNat < ns.length := by omega
    have e : atI (ns.map V.int) ((k.toNat : Nat) : Int) = some (.int ns[k.toNat]) := atI_nat (by rw [List.getElem?_map, List.getElem?_eq_getElem hk]; rfl)
    rw [show ((k.toNat : Nat) : Int) = k by omega] at e
    refine ⟨_, rfl, _, rfl, p, _, k, _, rfl, rfl, hS, e, ?_⟩
    rw [show ns[k.toNat] = cell ns k by unfold cell; rw [List.getD_eq_getElem?_getD, List.getElem?_eq_getElem hk]; rfl]
    exact q
  · have c' : ¬ k < (((ns.map V.int).length : Nat) : Int) := of_decide_eq_false (Bool.eq_false_iff.mpr c)
    rw [List.length_map] at c'
    rw [show cell ns k = 0 by unfold cell; rw [List.getD_eq_getElem?_getD, List.getElem?_eq_none (by omega)]; rfl] at q
    exact q

/-! ### _law_whole -/
def intV : V → Bool
  | .int _ => true
  | _ => false
def spWholeL (K : PySem.W.Frag) (_ : Ad) : Sp := fun vs H Q _ => ∃ v, vs = [v] ∧ Kd K H v ∧ Q (.bl (intV v)) H
theorem ok__law_whole (F : Fun K "_law_whole" "_law_whole" s__law_whole f fd) (T : Txt K mg a)  : FnOk P w K mg base CX0 1 f fd ["_law_found"] (spWholeL K a) := by
  have nd := sc__law_whole.nd
  refine F.ok sc__law_whole (fun vs H Q E h => ?_) (fun cdv A outer s H vs Q E hr h => ?_)
  · obtain ⟨v, rfl, _⟩ := h
    rfl
  obtain ⟨v, rfl, ⟨t, ty, e1, e2, _⟩, q⟩ := h
  refine ⟨_, (pss_one (ps_ret (pe_and (pe_callB (call_isinst (T := "int")) rfl T.isinstance bt_isinstance (pa_cons (pv 0) (pa_cons (pe_bltn (v := .ty "int") rfl T.int bt_int rfl) pa_nil))) (pe_one (pe_not (pe_callB (call_isinst (T := "bool")) rfl T.isinstance bt_isinstance (pa_cons (pv 0) (pa_cons (pe_bltn (v := .ty "bool") rfl T.bool bt_bool rfl) pa_nil)))))))), ?_⟩
  refine ⟨_, rfl, _, t, _, rfl, ty, e1, _, rfl, ?_⟩
  cases v with
  | int i => exact iteT ⟨_, rfl, _, t, _, rfl, ty, e2, _, rfl, q⟩
  | bl b => exact iteT ⟨_, rfl, _, t, _, rfl, ty, e2, _, rfl, q⟩
  | _ => exact iteF q
/-! ### _law_word -/
def Is2 (K : PySem.W.Frag) (a : Ad) (C : Addr) (j : Nat) : Prop := ExcK K C ∧ PySem.W.kitOne K (.ref C) (.ref a.cBadDisk) = some (decide (j = 0)) ∧ PySem.W.kitOne K (.ref C) (.ref a.cNoRoom) = some (decide (j = 1)) ∧ PySem.W.kitOne K (.ref C) (.ref a.cNoBlock) = some false ∧ PySem.W.kitOne K (.ref C) (.type "ValueError") = some true ∧ j < 2
theorem is_disk (T : Txt K mg a) : Is2 K a a.cBadDisk 0 := ⟨T.eBadDisk, T.qBadDisk_BadDisk, T.qBadDisk_NoRoom, T.qBadDisk_NoBlock, T.qBadDisk_ValueError, by decide⟩
theorem is_room (T : Txt K mg a) : Is2 K a a.cNoRoom 1 := ⟨T.eNoRoom, T.qNoRoom_BadDisk, T.qNoRoom_NoRoom, T.qNoRoom_NoBlock, T.qNoRoom_ValueError, by decide⟩
def wordOf (j : Nat) : Str := if j = 0 then "disk" else "room"
def spWordL (K : PySem.W.Frag) (a : Ad) : Sp := fun vs H Q _ => ∃ (e C : Addr) (j : Nat), vs = [.ref e] ∧ H e = some (.exc (.ref C)) ∧ Is2 K a C j ∧ ∀ H', Same H H' → Q (.str (wordOf j)) H'
theorem ok__law_word (F : Fun K "_law_word" "_law_word" s__law_word f fd) (T : Txt K mg a)  : FnOk P w K mg base CX0 1 f fd ["_law_error"] (spWordL K a) := by
  have nd := sc__law_word.nd
  refine F.ok sc__law_word (fun vs H Q E h => ?_) (fun cdv A outer s H vs Q E hr h => ?_)
  · obtain ⟨e, C, j, rfl, _⟩ := h
    rfl
  obtain ⟨e, C, j, rfl, he, ⟨eC, k1, k2, k3, kV, hj⟩, q⟩ := h
  refine ⟨_, (pss_cons (ps_set (i := 1) nd rfl (by first | exact Or.inl rfl | exact Or.inr rfl) (pe_lst (pa_cons (pe_callB (call_isinstC (C := a.cBadDisk)) rfl T.isinstance bt_isinstance (pa_cons (pv 0) (pa_cons (pe_glob (v := .ref a.cBadDisk) rfl T.mBadDisk rfl) pa_nil))) (pa_cons (pe_callB (call_isinstC (C := a.cNoRoom)) rfl T.isinstance bt_isinstance (pa_cons (pv 0) (pa_cons (pe_glob (v := .ref a.cNoRoom) rfl T.mNoRoom rfl) pa_nil))) (pa_cons (pe_callB (call_isinstC (C := a.cNoBlock)) rfl T.isinstance bt_isinstance (pa_cons (pv 0) (pa_cons (pe_glob (v := .ref a.cNoBlock) rfl T.mNoBlock rfl) pa_nil))) pa_nil)))))
    (pss_cons (ps_if (PW.pt (pw_or (pt_not (pt_val (pe_callB (call_isinst (T := "ValueError")) rfl T.isinstance bt_isinstance (pa_cons (pv 0) (pa_cons (pe_bltn (v := .ty "ValueError") rfl T.ValueError bt_ValueError rfl) pa_nil))))) (pw_or1 (pt_cmpR op_ne (pe_callB call_len_seq rfl T.len bt_len (pa_cons (pe_lc (cl := []) (fj := []) (by exact ⟨rfl, by decide +kernel, rfl, by decide +kernel, rfl, fun _ h => (by cases h), by decide +kernel, fun _ h => (by cases h), by decide +kernel⟩) rfl (pi_list (pv 1)) (fun _ _ _ => (pf_one (pt_val (pv 0)))) (fun _ _ _ => (pv 0))) pa_nil)) pe_int (nomark _))))) (pss_one (ps_ret pe_str)) pss_nil)
    (pss_one (ps_ret (pe_ix ix_list (pe_lst (pa_cons pe_str (pa_cons pe_str (pa_cons pe_str pa_nil)))) (pe_bm PySem.F.plainAttrs_list PySem.F.slot_list_index PySem.F.type_list_index mt_index (pv 1) (pa_cons pe_bl pa_nil)) (fun _ _ => rfl)))))), ?_⟩
  have ty : TyOf K H (.ref e) (.ref C) := .exc he eC
  refine ⟨_, rfl, _, .ref C, _, rfl, ty, k1, _, rfl, _, .ref C, _, rfl, ty, k2, _, rfl, _, .ref C, _, rfl, ty, k3, (by show 3 ≤ sizeLine; decide), fun p np => ?_⟩
  have s3 := same_new np (.lst [.bl (decide (j = 0)), .bl (decide (j = 1)), .bl false])
  refine ⟨_, rfl, _, .ref C, true, rfl, tyof_same s3 ty, kV, _, rfl, iteF' (by rfl) ?_⟩
  refine ⟨_, rfl, p, rfl, ⟨_, SqL.of upd_same⟩, lc_filter (bs := [decide (j = 0), decide (j = 1), false]) upd_same (by show 3 ≤ 1000; decide) fun acc H3 n3 s4 h3 => ?_⟩
  have hl : ([decide (j = 0), decide (j = 1), false].filter id).length = 1 := by
    rcases (show j = 0 ∨ j = 1 by omega) with z | z <;> (subst z; rfl)
  refine ⟨acc, _, rfl, .inl (SqL.of h3), rfl, _, rfl, iteF' (by rw [List.length_map, hl]; rfl) ?_⟩
  have hp3 := s4 _ _ (upd_same (H := H) (a := p) (o := .lst [.bl (decide (j = 0)), .bl (decide (j = 1)), .bl false]))
  refine ⟨(by show 3 ≤ sizeLine; decide), fun p2 n2 => ?_⟩
  have s5 := same_new n2 (.lst [.str "disk", .str "room", .str "block"])
  refine ⟨_, rfl, .inl ⟨rfl, _, SqL.of (s5 _ _ hp3)⟩, p, _, .bl true, j, rfl, rfl, s5 _ _ hp3, rfl, rfl, ?_, ?_, p2, _, _, .str (wordOf j), rfl, rfl, SqL.of upd_same, ?_, q _ ((s3.trans s4).trans s5)⟩
  · rcases (show j = 0 ∨ j = 1 by omega) with z | z <;> (subst z; exact ⟨.bl true, rfl, rfl⟩)
  · intro m z hm hz
    rcases (show j = 0 ∨ j = 1 by omega) with y | y
    · omega
    · subst y
      have : m = 0 := by omega
      subst this
      cases hz; rfl
  · rcases (show j = 0 ∨ j = 1 by omega) with y | y <;> (subst y; rfl)
/-! ### _law_made, _law_told -/
def spMade (K : PySem.W.Frag) (a : Ad) : Sp := fun vs H Q _ => ∃ v u, vs = [v, u] ∧ Kd K H v ∧ Kd K H u ∧
  (((wholeV v 24 96 && wholeV u 1 8) = false ∧ ∀ p H', Same H H' → H' p = some (.lst [.non, .str "disk"]) → Q (.ref p) H') ∨
   (∃ m t : Int, v = .int m ∧ u = .int t ∧ 24 ≤ m ∧ m ≤ 96 ∧ 1 ≤ t ∧ t ≤ 8 ∧ (m ≤ dataAt m t → ∀ p H', Same H H' → H' p = some (.lst [.non, .str "room"]) → Q (.ref p) H') ∧
     (dataAt m t < m → ∀ p x H', Same H H' → H x = none → LayAt a.cLayout H' x m t → H' p = some (.lst [.ref x, .str ""]) → Q (.ref p) H')))
theorem ok__law_made (F : Fun K "_law_made" "_law_made" s__law_made f fd) (T : Txt K mg a) (M_Layout___init__ : Mf P w K mg base (CXE P w) 2 a.fLayout_init ["self", "many", "tables"] (spLInit K a)) (D__law_word : Df P w K mg base CX0 1 "_law_word" ["_law_error"] (spWordL K a)) : FnOk P w K mg base (CXE P w) 4 f fd ["_law_many", "_law_tables"] (spMade K a) := by
  obtain ⟨_, GLayout_init, bLayout_init⟩ := M_Layout___init__
  obtain ⟨_, _, Gl_word, bl_word, kl_word, ml_word⟩ := D__law_word
  have nd := sc__law_made.nd
  refine F.okE sc__law_made (fun vs H Q E h => ?_) (fun cdv A outer s H vs Q E hr hA h => ?_)
  · obtain ⟨v, u, rfl, _⟩ := h
    rfl
  obtain ⟨v, u, rfl, kv, ku, hq⟩ := h
  refine ⟨_, (pss_one (ps_try (i := 2) [] rfl rfl rfl rfl nd rfl rfl rfl T.mKeepError T.kKeepError (fun Ex pn fx xe hfx O => (pss_one (ps_ret (pe_lst (pa_cons (pe_make T.mkLayout GLayout_init (hr.mono (by decide)) rfl T.mLayout bLayout_init .nil (passes_out O rfl rfl) (pa_cons (pv 0) (pa_cons (pv 1) pa_nil)) (hcm := (.inr hA))) (pa_cons pe_str pa_nil)))))) (fun e c pn => (pss_one (ps_ret (pe_lst (pa_cons pe_non (pa_cons (pe_call Gl_word (Room.mark (hr.mono (by decide))) rfl ml_word kl_word bl_word .nil pass0 (pa_cons (pv 2) pa_nil)) pa_nil)))))))), ?_⟩
  refine ⟨_, rfl, _, rfl, fun x dx nx ndx nex => ?_⟩
  have s0 : Same H (upd (upd H dx (.own x)) x (.ins a.cLayout dx [])) := fun b o e => by
    rw [upd_ne (ne_of_none e nx), upd_ne (ne_of_none e ndx)]
    exact e
  have up : ∀ {H'}, Chg [x] (upd (upd H dx (.own x)) x (.ins a.cLayout dx [])) H' → Same H H' := fun c b o e => c b o (s0 b o e) (by simp only [List.mem_singleton]; exact ne_of_none e nx)
  refine ⟨x, dx, v, u, rfl, upd_same, kv.same s0, ku.same s0, ?_⟩
  rcases hq with ⟨hw, q⟩ | ⟨m, t, rfl, rfl, h1, h2, h3, h4, q1, q2⟩
  · refine .inl ⟨hw, ⟨_, rfl, T.sBadDisk_KeepError⟩, fun e ne => ⟨_, rfl, e, a.cBadDisk, 0, rfl, upd_same, is_disk T, fun H' s' => ⟨(by show 2 ≤ sizeLine; decide), fun p np => q p _ (((s0.trans (same_new ne _)).trans s').trans (same_new np _)) upd_same⟩⟩⟩
  · refine .inr ⟨m, t, rfl, rfl, h1, h2, h3, h4, fun hd H1 c1 => ⟨⟨_, rfl, T.sNoRoom_KeepError⟩, fun e ne => ⟨_, rfl, e, a.cNoRoom, 1, rfl, upd_same, is_room T, fun H' s' => ⟨(by show 2 ≤ sizeLine; decide), fun p np => q1 hd p _ ((((up c1).trans (same_new ne _)).trans s').trans (same_new np _)) upd_same⟩⟩⟩, fun hd H1 c1 L1 => ⟨rfl, (by show 2 ≤ sizeLine; decide), fun p np => q2 hd p x _ ((up c1).trans (same_new np _)) nx (L1.same (same_new np _)) upd_same⟩⟩
def spTold (K : PySem.W.Frag) (a : Ad) : Sp := fun vs H Q _ => ∃ (r : Addr) (row : List Int), vs = [.ref r] ∧ H r = some (.lst (row.map V.int)) ∧ row.length = 16 ∧
  ((∃ m t, Good m t ∧ row = headRow m t ∧ ∀ p x H', H x = none → Same H H' → LayAt a.cLayout H' x m t → H' p = some (.lst [.ref x, .str ""]) → Q (.ref p) H') ∨ ((∀ m t, Good m t → row ≠ headRow m t) ∧ ∀ p H', Same H H' → H' p = some (.lst [.non, .str "disk"]) → Q (.ref p) H'))
theorem ok__law_told (F : Fun K "_law_told" "_law_told" s__law_told f fd) (T : Txt K mg a) (D_layout_of : Df P w K mg base (CXE P w) 4 "layout_of" ["row"] (spLayoutOf K a)) (D__law_word : Df P w K mg base CX0 1 "_law_word" ["_law_error"] (spWordL K a)) : FnOk P w K mg base (CXE P w) 5 f fd ["_law_row"] (spTold K a) := by
  obtain ⟨_, _, Glayout_of, blayout_of, klayout_of, mlayout_of⟩ := D_layout_of
  obtain ⟨_, _, Gl_word, bl_word, kl_word, ml_word⟩ := D__law_word
  have nd := sc__law_told.nd
  refine F.okE sc__law_told (fun vs H Q E h => ?_) (fun cdv A outer s H vs Q E hr hA h => ?_)
  · obtain ⟨r, row, rfl, _⟩ := h
    rfl
  obtain ⟨r, row, rfl, hr0, h16, hq⟩ := h
  refine ⟨_, (pss_one (ps_try (i := 1) [] rfl rfl rfl rfl nd rfl rfl rfl T.mKeepError T.kKeepError (fun Ex pn fx xe hfx O => (pss_one (ps_ret (pe_lst (pa_cons (pe_call Glayout_of (hr.mono (by decide)) rfl mlayout_of klayout_of blayout_of .nil (passes_out O rfl rfl) (pa_cons (pv 0) pa_nil) (hcm := (.inr hA))) (pa_cons pe_str pa_nil)))))) (fun e c pn => (pss_one (ps_ret (pe_lst (pa_cons pe_non (pa_cons (pe_call Gl_word (Room.mark (hr.mono (by decide))) rfl ml_word kl_word bl_word .nil pass0 (pa_cons (pv 1) pa_nil)) pa_nil)))))))), ?_⟩
  refine ⟨_, rfl, r, row, rfl, hr0, h16, ?_⟩
  rcases hq with ⟨m, t, g, e, q⟩ | ⟨no, q⟩
  · exact .inl ⟨m, t, g, e, fun x H' nx s' L => ⟨(by show 2 ≤ sizeLine; decide), fun p np => q p x _ nx (s'.trans (same_new np _)) (L.same (same_new np _)) upd_same⟩⟩
  · exact .inr ⟨no, fun d H1 s1 => ⟨⟨_, rfl, T.sBadDisk_KeepError⟩, fun e ne => ⟨_, rfl, e, a.cBadDisk, 0, rfl, upd_same, is_disk T, fun H' s' => ⟨(by show 2 ≤ sizeLine; decide), fun p np => q p _ (((s1.trans (same_new ne _)).trans s').trans (same_new np _)) upd_same⟩⟩⟩⟩
/-! ### _law_places, _law_due, _law_same -/
def places (m t : Int) : List Int := [m, t, 17, nodesAt m, dataAt m t]
def spPlaces (_ : PySem.W.Frag) (_ : Ad) : Sp := fun vs H Q _ => ∃ m t : Int, vs = [.int m, .int t] ∧ 0 ≤ m ∧ ∀ p H', H p = none → Same H H' → H' p = some (.lst ((places m t).map V.int)) → Q (.ref p) H'
theorem ok__law_places (F : Fun K "_law_places" "_law_places" s__law_places f fd) (T : Txt K mg a)  : FnOk P w K mg base CX0 1 f fd ["_law_many", "_law_tables"] (spPlaces K a) := by
  have nd := sc__law_places.nd
  refine F.ok sc__law_places (fun vs H Q E h => ?_) (fun cdv A outer s H vs Q E hr h => ?_)
  · obtain ⟨m, t, rfl, _⟩ := h
    rfl
  obtain ⟨m, t, rfl, h0, q⟩ := h
  refine ⟨_, (pss_cons (ps_set (i := 2) nd rfl (by first | exact Or.inl rfl | exact Or.inr rfl) pe_int)
    (pss_cons (ps_while PassesOwn.never (pt_cmpR op_lt (pe_op op_mul pe_int (pv 2)) (pv 0) (nomark _)) (pss_one (ps_set (i := 2) nd rfl (by first | exact Or.inl rfl | exact Or.inr rfl) (pe_op op_add (pv 2) pe_int))))
    (pss_one (ps_ret (pe_lst (pa_cons (pv 0) (pa_cons (pv 1) (pa_cons pe_int (pa_cons (pe_op op_add pe_int (pv 2)) (pa_cons (pe_op op_add (pe_op op_add pe_int (pv 2)) (pv 1)) pa_nil)))))))))), ?_⟩
  refine ⟨fun n σ' H' => ∃ k : Nat, σ' = [some (.int m), some (.int t), some (.int k)] ∧ H' = H ∧ n = (m + 16).toNat - k ∧ 16 * (k : Int) < m + 16, ⟨_, 0, rfl, rfl, rfl, by omega⟩, ?_⟩
  rintro n σ' H' ⟨k, rfl, rfl, rfl, hk⟩
  refine ⟨_, rfl, _, _, rfl, rfl, .inl ⟨by decide, by decide⟩, _, rfl, _, _, rfl, rfl, _, rfl, ?_⟩
  by_cases hc : 16 * (k : Int) < m
  · refine iteT' (decide_eq_true hc) ⟨fun σ2 H2 => σ2 = [some (.int m), some (.int t), some (.int ((k : Int) + 1))] ∧ H2 = H', fun σ2 H2 ⟨e1, e2⟩ => ⟨(m + 16).toNat - (k + 1), by omega, k + 1, by rw [e1]; rfl, e2, rfl, by omega⟩, ?_⟩
    exact ⟨_, rfl, _, _, rfl, rfl, rfl, rfl⟩
  · refine iteF' (decide_eq_false hc) ?_
    have e : nodesAt m = 17 + (k : Int) := by unfold nodesAt; omega
    refine ⟨_, rfl, _, rfl, _, rfl, _, _, rfl, rfl, _, rfl, _, _, rfl, rfl, _, rfl, _, _, rfl, rfl, (by show 5 ≤ sizeLine; decide), fun p np => q p _ np (same_new np _) ?_⟩
    rw [upd_same]
    unfold places dataAt
    rw [e]; rfl
def dueW (v u : V) : Str := match v, u with
  | .int m, .int t => if 24 ≤ m ∧ m ≤ 96 ∧ 1 ≤ t ∧ t ≤ 8 then (if m ≤ dataAt m t then "room" else "") else "disk"
  | _, _ => "disk"
theorem due_bad {v u : V} (h : (wholeV v 24 96 && wholeV u 1 8) = false) : dueW v u = "disk" := by
  unfold dueW
  split
  · rw [if_neg]
    rintro ⟨h1, h2, h3, h4⟩
    rw [whole_in h1 h2, whole_in h3 h4] at h
    cases h
  · rfl
def spDueL (K : PySem.W.Frag) (_ : Ad) : Sp := fun vs H Q _ => ∃ v u, vs = [v, u] ∧ Kd K H v ∧ Kd K H u ∧ ∀ H', Same H H' → Q (.str (dueW v u)) H'
theorem due_room {m t : Int} (h1 : 24 ≤ m) (h2 : m ≤ 96) (h3 : 1 ≤ t) (h4 : t ≤ 8) : dueW (.int m) (.int t) = (if m ≤ dataAt m t then "room" else "" : Str) := by
  show (if 24 ≤ m ∧ m ≤ 96 ∧ 1 ≤ t ∧ t ≤ 8 then (if m ≤ dataAt m t then "room" else "" : Str) else "disk") = _
  rw [if_pos ⟨h1, h2, h3, h4⟩]
theorem ok__law_due (F : Fun K "_law_due" "_law_due" s__law_due f fd) (T : Txt K mg a) (D__law_whole : Df P w K mg base CX0 1 "_law_whole" ["_law_found"] (spWholeL K a)) (D__law_places : Df P w K mg base CX0 1 "_law_places" ["_law_many", "_law_tables"] (spPlaces K a)) : FnOk P w K mg base CX0 2 f fd ["_law_many", "_law_tables"] (spDueL K a) := by
  obtain ⟨_, _, Gl_whole, bl_whole, kl_whole, ml_whole⟩ := D__law_whole
  obtain ⟨_, _, Gl_places, bl_places, kl_places, ml_places⟩ := D__law_places
  have nd := sc__law_due.nd
  refine F.ok sc__law_due (fun vs H Q E h => ?_) (fun cdv A outer s H vs Q E hr h => ?_)
  · obtain ⟨v, u, rfl, _⟩ := h
    rfl
  obtain ⟨v, u, rfl, kv, ku, q⟩ := h
  refine ⟨_, (pss_cons (ps_if (PW.pt (pw_or (pt_not (pt_val (pe_call Gl_whole (hr.mono (by decide)) rfl ml_whole kl_whole bl_whole .nil pass0 (pa_cons (pv 0) pa_nil)))) (pw_or (pt_not (pt_val (pe_call Gl_whole (hr.mono (by decide)) rfl ml_whole kl_whole bl_whole .nil pass0 (pa_cons (pv 1) pa_nil)))) (pw_or (pt_cmpR op_lt (pv 0) pe_int (nomark _)) (pw_or (pt_cmpR op_gt (pv 0) pe_int (nomark _)) (pw_or (pt_cmpR op_lt (pv 1) pe_int (nomark _)) (pw_or1 (pt_cmpR op_gt (pv 1) pe_int (nomark _))))))))) (pss_one (ps_ret pe_str)) pss_nil)
    (pss_one (ps_ret (pe_ix ix_list (pe_lst (pa_cons pe_str (pa_cons pe_str pa_nil))) (pe_callTy call_int1 rfl T.int bt_int (pa_cons (pe_cmpR op_ge (pe_ix ix_list (pe_call Gl_places (hr.mono (by decide)) rfl ml_places kl_places bl_places .nil pass0 (pa_cons (pv 0) (pa_cons (pv 1) pa_nil))) pe_int (fun _ _ => rfl)) (pv 0) (nomark _)) pa_nil)) (fun _ _ => rfl))))), ?_⟩
  have bad : (wholeV v 24 96 && wholeV u 1 8) = false → Q (.str "disk") H := fun h => by rw [← due_bad h]; exact q H (Same.refl _)
  refine ⟨_, rfl, v, rfl, kv, _, rfl, ?_⟩
  by_cases hv : intV v = true
  · obtain ⟨m, rfl⟩ : ∃ m, v = .int m := by cases v <;> first | exact ⟨_, rfl⟩ | cases hv
    refine iteF' (by rfl) ⟨_, rfl, u, rfl, ku, _, rfl, ?_⟩
    by_cases hu : intV u = true
    · obtain ⟨t, rfl⟩ : ∃ t, u = .int t := by cases u <;> first | exact ⟨_, rfl⟩ | cases hu
      have badn : ¬ (24 ≤ m ∧ m ≤ 96 ∧ 1 ≤ t ∧ t ≤ 8) → Q (.str "disk") H := fun h => bad (by
        cases e1 : wholeV (.int m) 24 96 with
        | false => rfl
        | true =>
          cases e2 : wholeV (.int t) 1 8 with
          | false => rfl
          | true =>
            obtain ⟨_, z1, z2, z3⟩ := whole_is e1
            obtain ⟨_, y1, y2, y3⟩ := whole_is e2
            cases z1; cases y1
            exact absurd ⟨z2, z3, y2, y3⟩ h)
      refine iteF' (by rfl) ⟨_, rfl, _, _, rfl, rfl, _, rfl, ite2 (fun c => iteT (badn fun z => ?_)) (fun c => ⟨_, rfl, _, _, rfl, rfl, _, rfl, ite2 (fun c2 => iteT (badn fun z => ?_)) (fun c2 => ⟨_, rfl, _, _, rfl, rfl, _, rfl, ite2 (fun c3 => iteT (badn fun z => ?_)) (fun c3 => ⟨_, rfl, _, _, rfl, rfl, _, rfl, ite2 (fun c4 => badn fun z => ?_) (fun c4 => ?_)⟩)⟩)⟩)⟩
      · have := of_decide_eq_true c; omega
      · have := of_decide_eq_true c2; omega
      · have := of_decide_eq_true c3; omega
      · have := of_decide_eq_true c4; omega
      · have d1 := of_decide_eq_false (Bool.eq_false_iff.mpr c)
        have d2 := of_decide_eq_false (Bool.eq_false_iff.mpr c2)
        have d3 := of_decide_eq_false (Bool.eq_false_iff.mpr c3)
        have d4 := of_decide_eq_false (Bool.eq_false_iff.mpr c4)
        refine ⟨(by show 2 ≤ sizeLine; decide), fun p1 n1 => ⟨_, rfl, _, rfl, m, t, rfl, by omega, fun p2 H2 n2 s2 h2 => ?_⟩⟩
        have s1 := same_new n1 (.lst [.str "", .str "room"])
        refine ⟨p2, _, 4, .int (dataAt m t), rfl, rfl, SqL.of h2, rfl, _, rfl, _, _, rfl, rfl, .inr ⟨_, rfl, ?_⟩⟩
        refine ⟨p1, _, _, .str (dueW (.int m) (.int t)), rfl, rfl, SqL.of (s2 _ _ upd_same), ?_, q _ (s1.trans s2)⟩
        rw [due_room (by omega) (by omega) (by omega) (by omega)]
        by_cases hd : m ≤ dataAt m t
        · rw [decide_eq_true hd, if_pos hd]; rfl
        · rw [decide_eq_false hd, if_neg hd]; rfl
    · refine iteT' (by rw [Bool.eq_false_iff.mpr hu]; rfl) (iteT (bad ?_))
      cases u <;> first | exact absurd rfl hu | exact Bool.and_false _
  · refine iteT' (by rw [Bool.eq_false_iff.mpr hv]; rfl) (iteT (bad ?_))
    cases v <;> first | exact absurd rfl hv | rfl
def spSame (_ : PySem.W.Frag) (a : Ad) : Sp := fun vs H Q _ => ∃ (x p : Addr) (m t : Int), vs = [.ref x, .ref p] ∧ LayAt a.cLayout H x m t ∧ H p = some (.lst ((places m t).map V.int)) ∧ ∀ H', Same H H' → Q (.bl true) H'
theorem all_int (R : List Int) : ((R.map V.int).map intV).all id = true := by
  rw [List.all_map, List.all_map, List.all_eq_true]
  intro x _; rfl
theorem ok__law_same (F : Fun K "_law_same" "_law_same" s__law_same f fd) (T : Txt K mg a) (D__law_whole : Df P w K mg base CX0 1 "_law_whole" ["_law_found"] (spWholeL K a)) (M_Layout_most_node : Mf P w K mg base CX0 1 a.f_most_node ["self"] (spMost K a)) : FnOk P w K mg base CX0 2 f fd ["_law_layout", "_law_places_here"] (spSame K a) := by
  obtain ⟨_, _, Gl_whole, bl_whole, kl_whole, ml_whole⟩ := D__law_whole
  obtain ⟨_, G_most_node, b_most_node⟩ := M_Layout_most_node
  have nd := sc__law_same.nd
  refine F.ok sc__law_same (fun vs H Q E h => ?_) (fun cdv A outer s H vs Q E hr h => ?_)
  · obtain ⟨x, p, m, t, rfl, _⟩ := h
    rfl
  obtain ⟨x, p, m, t, rfl, L, hp, q⟩ := h
  obtain ⟨dx, hx⟩ := id L
  refine ⟨_, (pss_cons (ps_set (i := 2) nd rfl (by first | exact Or.inl rfl | exact Or.inr rfl) (pe_lst (pa_cons (pe_fld (pv 0) rfl) (pa_cons (pe_fld (pv 0) rfl) (pa_cons (pe_fld (pv 0) rfl) (pa_cons (pe_fld (pv 0) rfl) (pa_cons (pe_fld (pv 0) rfl) pa_nil)))))))
    (pss_cons (ps_if (PW.pt (pw_or (pt_not (pt_val (pe_callB (call_all rfl) rfl T.all bt_all (pa_cons (pe_lc (cl := []) (fj := []) (by exact ⟨rfl, by decide +kernel, rfl, by decide +kernel, rfl, fun _ h => (by cases h), by decide +kernel, fun _ h => (by cases h), by decide +kernel⟩) rfl (pi_list (pv 2)) (fun _ _ _ => pf_nil) (fun _ _ _ => (pe_call Gl_whole (hr.mono (by decide)) rfl ml_whole kl_whole bl_whole .nil pass0 (pa_cons (pv 0) pa_nil)))) pa_nil)))) (pw_or1 (pt_cmpR (op_neD hr.units) (pv 2) (pv 1) (nomark _))))) (pss_one (ps_ret pe_bl)) pss_nil)
    (pss_one (ps_ret (pe_and (pe_call Gl_whole (hr.mono (by decide)) rfl ml_whole kl_whole bl_whole .nil pass0 (pa_cons (pe_meth0 (pv 0) T.clLayout T.m_most_node G_most_node (hr.mono (by decide)) b_most_node .nil pass0) pa_nil)) (pe_one (pe_cmpR op_eq (pe_meth0 (pv 0) T.clLayout T.m_most_node G_most_node (hr.mono (by decide)) b_most_node .nil pass0) (pe_op op_sub (pe_op op_mul pe_int (pe_ix ix_list (pv 1) pe_int (fun _ _ => rfl))) pe_int) (nomark _)))))))), ?_⟩
  refine ⟨_, rfl, x, a.cLayout, dx, _, _, rfl, hx, T.clLayout, T.n_many, rfl, _, rfl, x, a.cLayout, dx, _, _, rfl, hx, T.clLayout, T.n_tables, rfl, _, rfl, x, a.cLayout, dx, _, _, rfl, hx, T.clLayout, T.n_maps_at, rfl, _, rfl, x, a.cLayout, dx, _, _, rfl, hx, T.clLayout, T.n_nodes_at, rfl, _, rfl, x, a.cLayout, dx, _, _, rfl, hx, T.clLayout, T.n_data_at, rfl, (by show 5 ≤ sizeLine; decide), fun p1 n1 => ?_⟩
  have s1 := same_new n1 (.lst ((places m t).map V.int))
  refine ⟨_, rfl, p1, rfl, ⟨_, SqL.of upd_same⟩, lc_test (sp := spWholeL K a) (g := intV) (xs := (places m t).map V.int) (fun x H' Qf kd hq => ⟨x, rfl, kd, hq⟩) upd_same (by show 5 ≤ 1000; decide) (fun x hx => ?_) fun acc H2 na s2 h2 => ?_⟩
  · obtain ⟨i, _, rfl⟩ := List.mem_map.mp hx
    exact .int i
  refine ⟨acc, _, rfl, SqL.of h2, _, rfl, iteF' (by rw [all_int]; rfl) ?_⟩
  have sA := s1.trans s2
  refine ⟨_, rfl, _, rfl, .list ((places m t).map PyData.int), .list ((places m t).map PyData.int), .lst (SqL.of (s2 _ _ upd_same)) (dvs_ints (places m t)), .lst (SqL.of (sA _ _ hp)) (dvs_ints (places m t)), PySem.W.ke_shaped_ints _, PySem.W.ke_shaped_ints _, _, rfl, iteF' (by simp [eqv_same (PySem.W.ke_shaped_ints _)]) ?_⟩
  have L2 := L.same sA
  obtain ⟨dx2, hx2⟩ := id L2
  refine ⟨_, rfl, x, dx2, _, rfl, hx2, rfl, x, m, t, rfl, L2, _, rfl, .int _, _, rfl, ?_⟩
  refine iteT ⟨_, rfl, x, dx2, _, rfl, hx2, rfl, x, m, t, rfl, L2, _, rfl, p, _, 1, .int t, rfl, rfl, SqL.of (sA _ _ hp), rfl, _, _, rfl, rfl, .inl ⟨by decide, by decide⟩, _, _, rfl, rfl, rfl, ?_⟩
  have := q H2 sA
  simpa using this
/-! ### _law_row_due -/
def spRowDue (_ : PySem.W.Frag) (_ : Ad) : Sp := fun vs H Q _ => ∃ (r : Addr) (row : List Int), vs = [.ref r] ∧ H r = some (.lst (row.map V.int)) ∧ row.length = 16 ∧
  ((∃ m t, Good m t ∧ row = headRow m t) → ∀ H', Same H H' → Q (.str "") H') ∧ ((∀ m t, Good m t → row ≠ headRow m t) → ∀ H', Same H H' → Q (.str "disk") H')
theorem cut_mid (xs : List V) (i j : Nat) (h : j ≤ xs.length) (h2 : i ≤ j) : cutV xs (some (i : Int)) (some (j : Int)) = (xs.drop i).take (j - i) := by
  unfold cutV
  rw [HT.sIx_nat, HT.sIx_nat, Nat.min_eq_left (show i ≤ xs.length by omega), Nat.min_eq_left h]
theorem ok__law_row_due (F : Fun K "_law_row_due" "_law_row_due" s__law_row_due f fd) (T : Txt K mg a) (D__law_due : Df P w K mg base CX0 2 "_law_due" ["_law_many", "_law_tables"] (spDueL K a)) (D__law_places : Df P w K mg base CX0 1 "_law_places" ["_law_many", "_law_tables"] (spPlaces K a)) : FnOk P w K mg base CX0 3 f fd ["_law_row"] (spRowDue K a) := by
  obtain ⟨_, _, Gl_due, bl_due, kl_due, ml_due⟩ := D__law_due
  obtain ⟨_, _, Gl_places, bl_places, kl_places, ml_places⟩ := D__law_places
  have nd := sc__law_row_due.nd
  refine F.ok sc__law_row_due (fun vs H Q E h => ?_) (fun cdv A outer s H vs Q E hr h => ?_)
  · obtain ⟨r, row, rfl, _⟩ := h
    rfl
  obtain ⟨r, row, rfl, hr0, h16, qy, qn⟩ := h
  refine ⟨_, (pss_cons (ps_if (PW.pt (pw_or (pt_cmpR op_ne (pe_ix ix_list (pv 0) pe_int (fun _ _ => rfl)) pe_int (nomark _)) (pw_or1 (pt_cmpR op_ne (pe_call Gl_due (hr.mono (by decide)) rfl ml_due kl_due bl_due .nil pass0 (pa_cons (pe_ix ix_list (pv 0) pe_int (fun _ _ => rfl)) (pa_cons (pe_ix ix_list (pv 0) pe_int (fun _ _ => rfl)) pa_nil))) pe_str (nomark _))))) (pss_one (ps_ret pe_str)) pss_nil)
    (pss_cons (ps_if (PW.pt (pw_or (pt_cmpR (op_neD hr.units) (pe_slice sl_list (pv 0) (po_some pe_int) (po_some pe_int)) (pe_slice sl_list (pe_call Gl_places (hr.mono (by decide)) rfl ml_places kl_places bl_places .nil pass0 (pa_cons (pe_ix ix_list (pv 0) pe_int (fun _ _ => rfl)) (pa_cons (pe_ix ix_list (pv 0) pe_int (fun _ _ => rfl)) pa_nil))) (po_some pe_int) po_none) (nomark _)) (pw_or1 (pt_cmpR (op_neD hr.units) (pe_slice sl_list (pv 0) (po_some pe_int) po_none) (pe_op op_rep (pe_lst (pa_cons pe_int pa_nil)) pe_int) (nomark _))))) (pss_one (ps_ret pe_str)) pss_nil)
    (pss_one (ps_ret pe_str)))), ?_⟩
  have gt : ∀ (i : Nat) (hi : i < 16), atI (row.map V.int) (i : Int) = some (.int (row[i]'(by omega))) := fun i hi => atI_nat (by rw [List.getElem?_map, List.getElem?_eq_getElem (by omega)]; rfl)
  have hhead : ∀ m t, row = headRow m t → row[0] = 7100719 ∧ row[1] = m ∧ row[2] = t := fun m t e => by subst e; exact ⟨rfl, rfl, rfl⟩
  refine ⟨_, rfl, r, _, 0, _, rfl, rfl, SqL.of hr0, gt 0 (by decide), rfl, _, rfl, ?_⟩
  by_cases h0 : row[0] = 7100719
  case neg =>
    refine iteT' (by rw [dec_V, decide_eq_false h0]; rfl) (iteT (qn (fun m t g z => h0 (hhead m t z).1) H (Same.refl _)))
  refine iteF' (by rw [dec_V, decide_eq_true h0]; rfl) ⟨_, rfl, r, _, 1, _, rfl, rfl, SqL.of hr0, gt 1 (by decide), _, rfl, r, _, 2, _, rfl, rfl, SqL.of hr0, gt 2 (by decide), _, _, rfl, .int _, .int _, fun H1 s1 => ⟨rfl, _, rfl, ?_⟩⟩
  by_cases hw : 24 ≤ row[1] ∧ row[1] ≤ 96 ∧ 1 ≤ row[2] ∧ row[2] ≤ 8
  case neg =>
    have e : dueW (.int row[1]) (.int row[2]) = "disk" := if_neg hw
    rw [e]
    refine iteT (qn (fun m t g z => hw ?_) H1 s1)
    obtain ⟨_, z1, z2⟩ := hhead m t z
    rw [z1, z2]
    exact ⟨g.1, g.2.1, g.2.2.1, g.2.2.2.1⟩
  have ed : dueW (.int row[1]) (.int row[2]) = (if row[1] ≤ dataAt row[1] row[2] then "room" else "" : Str) := due_room hw.1 hw.2.1 hw.2.2.1 hw.2.2.2
  rw [ed]
  by_cases hd : row[1] ≤ dataAt row[1] row[2]
  · rw [if_pos hd]
    refine iteT (qn (fun m t g z => ?_) H1 s1)
    obtain ⟨_, z1, z2⟩ := hhead m t z
    have := g.2.2.2.2
    rw [z1, z2] at hd
    omega
  rw [if_neg hd]
  have g : Good row[1] row[2] := ⟨hw.1, hw.2.1, hw.2.2.1, hw.2.2.2, by omega⟩
  refine iteF ?_
  have hr1 := s1 _ _ hr0
  refine ⟨_, rfl, _, rfl, _, rfl, r, _, rfl, SqL.of hr1, fun p1 n1 => ?_⟩
  rw [show (cutV (row.map V.int) (some (3 : Int)) (some (6 : Int))) = ((row.drop 3).take 3).map V.int by rw [show (3 : Int) = ((3 : Nat) : Int) from rfl, show (6 : Int) = ((6 : Nat) : Int) from rfl, cut_mid _ 3 6 (by rw [List.length_map]; omega) (by decide), List.map_take, List.map_drop]]
  have s2 := s1.trans (same_new n1 (.lst (((row.drop 3).take 3).map V.int)))
  have hr2 := s2 _ _ hr0
  refine ⟨_, rfl, r, _, 1, _, rfl, rfl, SqL.of hr2, gt 1 (by decide), _, rfl, r, _, 2, _, rfl, rfl, SqL.of hr2, gt 2 (by decide), row[1], row[2], rfl, by omega, fun p2 H2 n2 s3 h2 => ?_⟩
  refine ⟨_, rfl, p2, _, rfl, SqL.of h2, fun p3 n3 => ?_⟩
  rw [show (cutV ((places row[1] row[2]).map V.int) (some (2 : Int)) none) = ((places row[1] row[2]).drop 2).map V.int by rw [show (2 : Int) = ((2 : Nat) : Int) from rfl, cut_from, List.map_drop]]
  have s4 := s3.trans (same_new n3 (.lst (((places row[1] row[2]).drop 2).map V.int)))
  refine ⟨.list (((row.drop 3).take 3).map PyData.int), .list (((places row[1] row[2]).drop 2).map PyData.int), .lst (SqL.of (s4 _ _ upd_same)) (dvs_ints _), .lst (SqL.of upd_same) (dvs_ints _), PySem.W.ke_shaped_ints _, PySem.W.ke_shaped_ints _, _, rfl, ?_⟩
  have sA := s2.trans s4
  rw [eqv_ints]
  by_cases he1 : (row.drop 3).take 3 = (places row[1] row[2]).drop 2
  case neg =>
    refine iteT' (by rw [decide_eq_false he1]; rfl) (iteT (qn (fun m t g z => he1 ?_) _ sA))
    obtain ⟨_, z1, z2⟩ := hhead m t z
    rw [z1, z2, z]; rfl
  refine iteF' (by rw [decide_eq_true he1]; rfl) ⟨_, rfl, _, rfl, r, _, rfl, SqL.of (sA _ _ hr0), fun p4 n4 => ?_⟩
  rw [show (cutV (row.map V.int) (some (6 : Int)) none) = (row.drop 6).map V.int by rw [show (6 : Int) = ((6 : Nat) : Int) from rfl, cut_from, List.map_drop]]
  have s5 := sA.trans (same_new n4 (.lst ((row.drop 6).map V.int)))
  refine ⟨(by show 1 ≤ sizeLine; decide), fun p5 n5 => ⟨p5, 10, [.int 0], rfl, rfl, upd_same, by decide, by decide, (by show 1 * 10 ≤ sizeLine; decide), fun p6 n6 => ?_⟩⟩
  have s6 := s5.trans ((same_new n5 (.lst [.int 0])).trans (same_new n6 (.lst ((List.replicate 10 (0 : Int)).map V.int))))
  refine ⟨.list ((row.drop 6).map PyData.int), .list ((List.replicate 10 (0 : Int)).map PyData.int), .lst (SqL.of (((same_new n5 (.lst [.int 0])).trans (same_new n6 _)) _ _ upd_same)) (dvs_ints _), .lst (SqL.of upd_same) (dvs_ints (List.replicate 10 (0 : Int))), PySem.W.ke_shaped_ints _, PySem.W.ke_shaped_ints _, _, rfl, ?_⟩
  rw [eqv_ints]
  by_cases he2 : row.drop 6 = List.replicate 10 0
  · refine iteF' (by rw [decide_eq_true he2]; rfl) (qy ⟨row[1], row[2], g, ?_⟩ _ s6)
    have e3 : row = row.take 3 ++ ((row.drop 3).take 3 ++ row.drop 6) := by
      rw [show row.drop 6 = (row.drop 3).drop 3 by rw [List.drop_drop], List.take_append_drop, List.take_append_drop]
    have e4 : row.take 3 = [row[0], row[1], row[2]] := by
      match row, h16 with
      | a0 :: a1 :: a2 :: _, _ => rfl
    refine e3.trans ?_
    rw [he1, he2, e4, h0]; rfl
  · refine iteT' (by rw [decide_eq_false he2]; rfl) (qn (fun m t g z => he2 ?_) _ s6)
    rw [z]; rfl
end
end K4
end
section
set_option Elab.async false
set_option linter.all false
set_option maxRecDepth 100000
set_option maxHeartbeats 4000000
namespace K4
open PySem L2 BK
section
variable {P : Program} {w : World} {K : PySem.W.Frag} {mg : Str → Option Value} {base : Heap} {f : Addr} {fd : FuncData} {a : Ad}
def spLaw (K : PySem.W.Frag) : Sp := fun vs H Q _ => ∃ (p : Addr) (ns : List Int), vs = [.ref p] ∧ SqL K H p (ns.map V.int) ∧ ns.length ≤ 63 ∧ ∀ H', Q (.bl true) H'
abbrev spLawA (K : PySem.W.Frag) (_ : Ad) : Sp := spLaw K
theorem odd_of (p1 : Addr) (c : Int) (h0 : 0 ≤ c) (h5 : c < 5) : ∃ vo, atI [.bl true, .non, .str "30", .ref p1, .bl false] c = some vo ∧ ∀ H' : Hp, H' p1 = some (.lst [.int 24]) → Kd K H' vo := by
  rcases (show c = 0 ∨ c = 1 ∨ c = 2 ∨ c = 3 ∨ c = 4 by omega) with e | e | e | e | e <;> subst e
  · exact ⟨_, rfl, fun _ _ => .bl _⟩
  · exact ⟨_, rfl, fun _ _ => .non⟩
  · exact ⟨_, rfl, fun _ _ => .str _⟩
  · exact ⟨_, rfl, fun _ h => .lst h⟩
  · exact ⟨_, rfl, fun _ _ => .bl _⟩
theorem head_len (m t : Int) : (headRow m t).length = 16 := rfl
theorem ok_law (F : Fun K "law" "law" s_law f fd) (T : Txt K mg a) (D__law_made : Df P w K mg base (CXE P w) 4 "_law_made" ["_law_many", "_law_tables"] (spMade K a)) (D__law_places : Df P w K mg base CX0 1 "_law_places" ["_law_many", "_law_tables"] (spPlaces K a)) (D__law_told : Df P w K mg base (CXE P w) 5 "_law_told" ["_law_row"] (spTold K a)) (D_head_row : Df P w K mg base CX0 2 "head_row" ["layout"] (spHead K a)) (D__law_cell_at : Df P w K mg base CX0 1 "_law_cell_at" ["_law_script", "_law_k"] (spCell K a)) (D__law_due : Df P w K mg base CX0 2 "_law_due" ["_law_many", "_law_tables"] (spDueL K a)) (D__law_same : Df P w K mg base CX0 2 "_law_same" ["_law_layout", "_law_places_here"] (spSame K a)) (D__law_row_due : Df P w K mg base CX0 3 "_law_row_due" ["_law_row"] (spRowDue K a)) : FnOk P w K mg base (CXE P w) 6 f fd ["_law_script"] (spLawA K a) := by
  obtain ⟨_, _, Gl_made, bl_made, kl_made, ml_made⟩ := D__law_made
  obtain ⟨_, _, Gl_places, bl_places, kl_places, ml_places⟩ := D__law_places
  obtain ⟨_, _, Gl_told, bl_told, kl_told, ml_told⟩ := D__law_told
  obtain ⟨_, _, Ghead_row, bhead_row, khead_row, mhead_row⟩ := D_head_row
  obtain ⟨_, _, Gl_cell_at, bl_cell_at, kl_cell_at, ml_cell_at⟩ := D__law_cell_at
  obtain ⟨_, _, Gl_due, bl_due, kl_due, ml_due⟩ := D__law_due
  obtain ⟨_, _, Gl_same, bl_same, kl_same, ml_same⟩ := D__law_same
  obtain ⟨_, _, Gl_row_due, bl_row_due, kl_row_due, ml_row_due⟩ := D__law_row_due
  have nd := sc_law.nd
  refine F.okE sc_law (fun vs H Q E h => ?_) (fun cdv A outer s H vs Q E hr hA h => ?_)
  · obtain ⟨sc, ns, rfl, _⟩ := h
    rfl
  obtain ⟨sc, ns, rfl, hS, h63, q⟩ := h
  refine ⟨_, (pss_cons (ps_set (i := 1) nd rfl (by first | exact Or.inl rfl | exact Or.inr rfl) (pe_op op_add pe_int (pe_op op_mod (pe_call Gl_cell_at (hr.mono (by decide)) rfl ml_cell_at kl_cell_at bl_cell_at .nil pass0 (pa_cons (pv 0) (pa_cons pe_int pa_nil))) pe_int)))
    (pss_cons (ps_set (i := 2) nd rfl (by first | exact Or.inl rfl | exact Or.inr rfl) (pe_op op_sub (pe_op op_mod (pe_call Gl_cell_at (hr.mono (by decide)) rfl ml_cell_at kl_cell_at bl_cell_at .nil pass0 (pa_cons (pv 0) (pa_cons pe_int pa_nil))) pe_int) pe_int))
    (pss_cons (ps_set (i := 3) nd rfl (by first | exact Or.inl rfl | exact Or.inr rfl) (pe_ix ix_list (pe_lst (pa_cons pe_bl (pa_cons pe_non (pa_cons pe_str (pa_cons (pe_lst (pa_cons pe_int pa_nil)) (pa_cons pe_bl pa_nil)))))) (pe_op op_mod (pe_op op_fdiv (pe_call Gl_cell_at (hr.mono (by decide)) rfl ml_cell_at kl_cell_at bl_cell_at .nil pass0 (pa_cons (pv 0) (pa_cons pe_int pa_nil))) pe_int) pe_int) (fun _ _ => rfl)))
    (pss_cons (ps_if (pt_cmpR op_eq (pe_op op_mod (pe_call Gl_cell_at (hr.mono (by decide)) rfl ml_cell_at kl_cell_at bl_cell_at .nil pass0 (pa_cons (pv 0) (pa_cons pe_int pa_nil))) pe_int) pe_int (nomark _)) (pss_one (ps_set (i := 1) nd rfl (by first | exact Or.inl rfl | exact Or.inr rfl) (pv 3))) pss_nil)
    (pss_cons (ps_if (pt_cmpR op_eq (pe_op op_mod (pe_call Gl_cell_at (hr.mono (by decide)) rfl ml_cell_at kl_cell_at bl_cell_at .nil pass0 (pa_cons (pv 0) (pa_cons pe_int pa_nil))) pe_int) pe_int (nomark _)) (pss_one (ps_set (i := 2) nd rfl (by first | exact Or.inl rfl | exact Or.inr rfl) (pv 3))) pss_nil)
    (pss_cons (ps_set (i := 4) nd rfl (by first | exact Or.inl rfl | exact Or.inr rfl) (pe_call Gl_made (hr.mono (by decide)) rfl ml_made kl_made bl_made .nil (passes_fn (fun _ _ _ h => h)) (pa_cons (pv 1) (pa_cons (pv 2) pa_nil)) (hcm := (.inr hA))))
    (pss_cons (ps_if (pt_cmpR op_ne (pe_ix ix_list (pv 4) pe_int (fun _ _ => rfl)) (pe_call Gl_due (hr.mono (by decide)) rfl ml_due kl_due bl_due .nil pass0 (pa_cons (pv 1) (pa_cons (pv 2) pa_nil))) (nomark _)) (pss_one (ps_ret pe_bl)) pss_nil)
    (pss_cons (ps_if (pt_cmpR op_ne (pe_ix ix_list (pv 4) pe_int (fun _ _ => rfl)) pe_str (nomark _)) (pss_one (ps_ret pe_bl)) pss_nil)
    (pss_cons (ps_set (i := 5) nd rfl (by first | exact Or.inl rfl | exact Or.inr rfl) (pe_call Gl_places (hr.mono (by decide)) rfl ml_places kl_places bl_places .nil pass0 (pa_cons (pv 1) (pa_cons (pv 2) pa_nil))))
    (pss_cons (ps_set (i := 6) nd rfl (by first | exact Or.inl rfl | exact Or.inr rfl) (pe_op op_cat (pe_op op_cat (pe_lst (pa_cons pe_int (pa_cons (pv 1) (pa_cons (pv 2) pa_nil)))) (pe_slice sl_list (pv 5) (po_some pe_int) po_none)) (pe_op op_rep (pe_lst (pa_cons pe_int pa_nil)) pe_int)))
    (pss_cons (ps_if (PW.pt (pw_or (pt_not (pt_val (pe_call Gl_same (hr.mono (by decide)) rfl ml_same kl_same bl_same .nil pass0 (pa_cons (pe_ix ix_list (pv 4) pe_int (fun _ _ => rfl)) (pa_cons (pv 5) pa_nil))))) (pw_or1 (pt_cmpR (op_neD hr.units) (pe_call Ghead_row (hr.mono (by decide)) rfl mhead_row khead_row bhead_row .nil pass0 (pa_cons (pe_ix ix_list (pv 4) pe_int (fun _ _ => rfl)) pa_nil)) (pv 6) (nomark _))))) (pss_one (ps_ret pe_bl)) pss_nil)
    (pss_cons (ps_set (i := 7) nd rfl (by first | exact Or.inl rfl | exact Or.inr rfl) (pe_callTy call_list_of rfl T.list bt_list (pa_cons (pv 6) pa_nil)))
    (pss_cons (ps_set (i := 8) nd rfl (by first | exact Or.inl rfl | exact Or.inr rfl) (pe_call Gl_told (hr.mono (by decide)) rfl ml_told kl_told bl_told .nil (passes_fn (fun _ _ _ h => h)) (pa_cons (pv 7) pa_nil) (hcm := (.inr hA))))
    (pss_cons (ps_expr (pe_bm0 PySem.F.plainAttrs_list PySem.F.slot_list_clear PySem.F.type_list_clear mt_clear (pv 7)))
    (pss_cons (ps_set (i := 9) nd rfl (by first | exact Or.inl rfl | exact Or.inr rfl) (pe_call Ghead_row (hr.mono (by decide)) rfl mhead_row khead_row bhead_row .nil pass0 (pa_cons (pe_ix ix_list (pv 4) pe_int (fun _ _ => rfl)) pa_nil)))
    (pss_cons (ps_expr (pe_bm0 PySem.F.plainAttrs_list PySem.F.slot_list_clear PySem.F.type_list_clear mt_clear (pe_call Ghead_row (hr.mono (by decide)) rfl mhead_row khead_row bhead_row .nil pass0 (pa_cons (pe_ix ix_list (pv 4) pe_int (fun _ _ => rfl)) pa_nil))))
    (pss_cons (ps_if (PW.pt (pw_or (pt_cmpR op_ne (pe_ix ix_list (pv 8) pe_int (fun _ _ => rfl)) pe_str (nomark _)) (pw_or (pt_not (pt_val (pe_call Gl_same (hr.mono (by decide)) rfl ml_same kl_same bl_same .nil pass0 (pa_cons (pe_ix ix_list (pv 8) pe_int (fun _ _ => rfl)) (pa_cons (pv 5) pa_nil))))) (pw_or1 (pt_cmpR (op_neD hr.units) (pe_call Ghead_row (hr.mono (by decide)) rfl mhead_row khead_row bhead_row .nil pass0 (pa_cons (pe_ix ix_list (pv 8) pe_int (fun _ _ => rfl)) pa_nil)) (pv 6) (nomark _)))))) (pss_one (ps_ret pe_bl)) pss_nil)
    (pss_cons (ps_if (PW.pt (pw_or (pt_cmpR (op_neD hr.units) (pv 9) (pv 6) (nomark _)) (pw_or (pt_cmpR (op_neD hr.units) (pe_call Ghead_row (hr.mono (by decide)) rfl mhead_row khead_row bhead_row .nil pass0 (pa_cons (pe_ix ix_list (pv 4) pe_int (fun _ _ => rfl)) pa_nil)) (pv 6) (nomark _)) (pw_or1 (pt_not (pt_val (pe_call Gl_same (hr.mono (by decide)) rfl ml_same kl_same bl_same .nil pass0 (pa_cons (pe_ix ix_list (pv 4) pe_int (fun _ _ => rfl)) (pa_cons (pv 5) pa_nil))))))))) (pss_one (ps_ret pe_bl)) pss_nil)
    (pss_cons (ps_set (i := 10) nd rfl (by first | exact Or.inl rfl | exact Or.inr rfl) (pe_call Gl_cell_at (hr.mono (by decide)) rfl ml_cell_at kl_cell_at bl_cell_at .nil pass0 (pa_cons (pv 0) (pa_cons pe_int pa_nil))))
    (pss_cons (ps_set (i := 11) nd rfl (by first | exact Or.inl rfl | exact Or.inr rfl) (pe_op op_mod (pe_op op_fdiv (pv 10) pe_int) pe_int))
    (pss_cons (ps_set (i := 12) nd rfl (by first | exact Or.inl rfl | exact Or.inr rfl) (pe_ix ix_list (pe_lst (pa_cons (pe_op op_add (pe_ix ix_list (pv 6) (pv 11) (fun _ _ => rfl)) pe_int) (pa_cons (pe_callB (call_max2 hA) rfl T.max bt_max (pa_cons pe_int (pa_cons (pe_op op_sub (pe_ix ix_list (pv 6) (pv 11) (fun _ _ => rfl)) pe_int) pa_nil))) (pa_cons (pe_op op_mod (pe_op op_mul (pv 10) pe_int) pe_int) pa_nil)))) (pe_op op_mod (pv 10) pe_int) (fun _ _ => rfl)))
    (pss_cons (ps_asg (pv 12) (pg_sub (pv 6) (pv 11) set_list))
    (pss_cons (ps_set (i := 13) nd rfl (by first | exact Or.inl rfl | exact Or.inr rfl) (pe_callTy call_list_of rfl T.list bt_list (pa_cons (pv 6) pa_nil)))
    (pss_cons (ps_set (i := 8) nd rfl (by first | exact Or.inl rfl | exact Or.inr rfl) (pe_call Gl_told (hr.mono (by decide)) rfl ml_told kl_told bl_told .nil (passes_fn (fun _ _ _ h => h)) (pa_cons (pv 13) pa_nil) (hcm := (.inr hA))))
    (pss_cons (ps_if (PW.pt (pw_or (pt_cmpR (op_neD hr.units) (pv 13) (pv 6) (nomark _)) (pw_or1 (pt_cmpR op_ne (pe_ix ix_list (pv 8) pe_int (fun _ _ => rfl)) (pe_call Gl_row_due (hr.mono (by decide)) rfl ml_row_due kl_row_due bl_row_due .nil pass0 (pa_cons (pv 6) pa_nil)) (nomark _))))) (pss_one (ps_ret pe_bl)) pss_nil)
    (pss_one (ps_ret (pe_or (pe_cmpR op_ne (pe_ix ix_list (pv 8) pe_int (fun _ _ => rfl)) pe_str (nomark _)) (pe_one (pe_call Gl_same (hr.mono (by decide)) rfl ml_same kl_same bl_same .nil pass0 (pa_cons (pe_ix ix_list (pv 8) pe_int (fun _ _ => rfl)) (pa_cons (pe_call Gl_places (hr.mono (by decide)) rfl ml_places kl_places bl_places .nil pass0 (pa_cons (pe_ix ix_list (pv 6) pe_int (fun _ _ => rfl)) (pa_cons (pe_ix ix_list (pv 6) pe_int (fun _ _ => rfl)) pa_nil))) pa_nil)))))))))))))))))))))))))))))))), ?_⟩
  refine ⟨_, rfl, sc, ns, 0, rfl, hS, by decide, _, _, rfl, rfl, (by show (0 : Int) < 77; decide), _, _, rfl, rfl, ?_⟩
  refine ⟨_, rfl, sc, ns, 1, rfl, hS, by decide, _, _, rfl, rfl, (by show (0 : Int) < 12; decide), _, _, rfl, rfl, ?_⟩
  refine ⟨(by show 1 ≤ sizeLine; decide), fun p1 n1 => ⟨(by show 5 ≤ sizeLine; decide), fun p2 n2 => ?_⟩⟩
  have sO : Same H _ := (same_new n1 (.lst [.int 24])).trans (same_new n2 (.lst [.bl true, .non, .str "30", .ref p1, .bl false]))
  have hp1 := same_new n2 (.lst [.bl true, .non, .str "30", .ref p1, .bl false]) p1 _ (upd_same (H := H) (a := p1) (o := .lst [.int 24]))
  obtain ⟨vo, hat, kdo⟩ := odd_of (K := K) p1 (cell ns 2 / 8 % 5) (by omega) (by omega)
  refine ⟨_, rfl, sc, ns, 2, rfl, sO.seq hS, by decide, _, _, rfl, rfl, ⟨by decide, by decide⟩, _, _, rfl, rfl, (by show (0 : Int) < 5; decide), p2, _, _, vo, rfl, rfl, SqL.of upd_same, hat, ?_⟩
  have kvo := kdo _ hp1
  have hS1 := sO.seq hS
  generalize (upd (upd H p1 (.lst [.int 24])) p2 (.lst [.bl true, .non, .str "30", .ref p1, .bl false])) = H1 at sO kvo hS1 ⊢
  clear hp1 kdo hat
  generalize hT : tSeq (tAsg (tCall (spMade K a) _ _ _) (gName 4)) _ = TL
  have main : ∀ (v u : V), Kd K H1 v → Kd K H1 u → TL { nx := fun _ H' => Q .non H', rt := Q } [some (.ref sc), some v, some u, some vo, none, none, none, none, none, none, none, none, none, none] H1 := by
    intro v u kv ku
    rw [← hT]
    refine ⟨_, rfl, _, rfl, v, u, rfl, kv, ku, ?_⟩
    by_cases hw : (wholeV v 24 96 && wholeV u 1 8) = true
    case neg =>
      have hw' := Bool.eq_false_iff.mpr hw
      refine .inl ⟨hw', fun p H2 s2 hp => ?_⟩
      refine ⟨_, rfl, p, _, 1, _, rfl, rfl, SqL.of hp, rfl, _, rfl, _, rfl, v, u, rfl, kv.same s2, ku.same s2, fun H3 s3 => ⟨rfl, _, rfl, iteF' (by rw [due_bad hw']; simp) ?_⟩⟩
      exact ⟨_, rfl, p, _, 1, _, rfl, rfl, SqL.of (s3 _ _ hp), rfl, rfl, _, rfl, iteT' (by decide +kernel) (q _)⟩
    rw [Bool.and_eq_true] at hw
    obtain ⟨m, rfl, h1, h2⟩ := whole_is hw.1
    obtain ⟨t, rfl, h3, h4⟩ := whole_is hw.2
    refine .inr ⟨m, t, rfl, rfl, h1, h2, h3, h4, fun hd p H2 s2 hp => ?_, fun hd p x H2 s2 nx L hp => ?_⟩
    · refine ⟨_, rfl, p, _, 1, _, rfl, rfl, SqL.of hp, rfl, _, rfl, _, rfl, _, _, rfl, kv.same s2, ku.same s2, fun H3 s3 => ⟨rfl, _, rfl, iteF' (by rw [due_room h1 h2 h3 h4, if_pos hd]; simp) ?_⟩⟩
      exact ⟨_, rfl, p, _, 1, _, rfl, rfl, SqL.of (s3 _ _ hp), rfl, rfl, _, rfl, iteT' (by decide +kernel) (q _)⟩
    have g : Good m t := ⟨h1, h2, h3, h4, hd⟩
    refine ⟨_, rfl, p, _, 1, _, rfl, rfl, SqL.of hp, rfl, _, rfl, _, rfl, _, _, rfl, kv.same s2, ku.same s2, fun H3 s3 => ⟨rfl, _, rfl, iteF' (by rw [due_room h1 h2 h3 h4, if_neg (by omega)]; simp) ?_⟩⟩
    refine ⟨_, rfl, p, _, 1, _, rfl, rfl, SqL.of (s3 _ _ hp), rfl, rfl, _, rfl, iteF' (by decide +kernel) ?_⟩
    -- the places, the row
    refine ⟨_, rfl, _, rfl, m, t, rfl, by omega, fun p3 H4 n4 s4 hp3 => ?_⟩
    have hp4 := s4 _ _ (s3 _ _ hp)
    have L4 := (L.same s3).same s4
    refine ⟨_, rfl, _, rfl, (by show 3 ≤ sizeLine; decide), fun l1 m1 => ?_⟩
    have t1 := same_new m1 (.lst [.int 7100719, .int m, .int t])
    refine ⟨_, rfl, _, rfl, p3, _, rfl, SqL.of (t1 _ _ hp3), fun l2 m2 => ?_⟩
    rw [show cutV ((places m t).map V.int) (some (2 : Int)) none = [.int 17, .int (nodesAt m), .int (dataAt m t)] by rw [show (2 : Int) = ((2 : Nat) : Int) from rfl, cut_from]; rfl]
    have t2 := t1.trans (same_new m2 (.lst [.int 17, .int (nodesAt m), .int (dataAt m t)]))
    refine ⟨l1, l2, _, _, rfl, rfl, same_new m2 _ _ _ upd_same, upd_same, (by show 6 ≤ sizeLine; decide), fun l3 m3 => ?_⟩
    have t3 := t2.trans (same_new m3 (.lst ([.int 7100719, .int m, .int t] ++ [.int 17, .int (nodesAt m), .int (dataAt m t)])))
    refine ⟨(by show 1 ≤ sizeLine; decide), fun l4 m4 => ⟨l4, 10, [.int 0], rfl, rfl, upd_same, by decide, by decide, (by show 1 * 10 ≤ sizeLine; decide), fun l5 m5 => ?_⟩⟩
    have t5 := (same_new m4 (.lst [.int 0])).trans (same_new m5 (.lst (List.replicate (10 : Int).toNat [V.int 0]).flatten))
    refine ⟨l3, l5, _, _, rfl, rfl, t5 _ _ upd_same, upd_same, (by show 16 ≤ sizeLine; decide), fun r nr => ?_⟩
    have t6 := (t3.trans t5).trans (same_new nr (.lst ([.int 7100719, .int m, .int t] ++ [.int 17, .int (nodesAt m), .int (dataAt m t)] ++ (List.replicate (10 : Int).toNat [V.int 0]).flatten)))
    have hr5 : (upd (upd (upd (upd (upd (upd H4 l1 (.lst [.int 7100719, .int m, .int t])) l2 (.lst [.int 17, .int (nodesAt m), .int (dataAt m t)])) l3 (.lst ([.int 7100719, .int m, .int t] ++ [.int 17, .int (nodesAt m), .int (dataAt m t)]))) l4 (.lst [.int 0])) l5 (.lst (List.replicate (10 : Int).toNat [V.int 0]).flatten)) r (.lst ([.int 7100719, .int m, .int t] ++ [.int 17, .int (nodesAt m), .int (dataAt m t)] ++ (List.replicate (10 : Int).toNat [V.int 0]).flatten))) r = some (.lst ((headRow m t).map V.int)) := upd_same
    have hp5 := t6 _ _ hp4
    have hq5 := t6 _ _ hp3
    have L5 := L4.same t6
    have hS5 := (((sO.trans s2).trans s3).trans (s4.trans t6)).seq hS
    refine ⟨_, rfl, p, _, 0, _, rfl, rfl, SqL.of hp5, rfl, _, rfl, x, p3, m, t, rfl, L5, hq5, fun H6 s6 => ⟨_, rfl, iteF' (by rfl) ?_⟩⟩
    have hp6 := s6 _ _ hp5
    have hq6 := s6 _ _ hq5
    have hr6 := s6 _ _ hr5
    have L6 := L5.same s6
    have hS6 := s6.seq hS5
    clear hr5 hp5 hq5 L5 t6 t5 t3 t2 t1
    refine ⟨_, rfl, p, _, 0, _, rfl, rfl, SqL.of hp6, rfl, x, m, t, rfl, L6, fun k1 H7 n7 s7 hk1 => ?_⟩
    refine ⟨_, rfl, .list ((headRow m t).map PyData.int), .list ((headRow m t).map PyData.int), .lst (SqL.of hk1) (dvs_ints _), .lst (SqL.of (s7 _ _ hr6)) (dvs_ints _), PySem.W.ke_shaped_ints _, PySem.W.ke_shaped_ints _, _, rfl, iteF' (by rw [eqv_ints]; simp) ?_⟩
    have hp7 := s7 _ _ hp6
    have hq7 := s7 _ _ hq6
    have hr7 := s7 _ _ hr6
    have L7 := L6.same s7
    have hS7 := s7.seq hS6
    -- read again
    refine ⟨_, rfl, r, _, rfl, .inl (SqL.of hr7), fun gv ngv => ?_⟩
    have u1 := same_new ngv (.lst ((headRow m t).map V.int))
    refine ⟨_, rfl, gv, headRow m t, rfl, upd_same, rfl, .inl ⟨m, t, g, rfl, fun p8 x8 H8 n8 s8 L8 hp8 => ?_⟩⟩
    have hgv := s8 _ _ (upd_same (H := H7) (a := gv) (o := .lst ((headRow m t).map V.int)))
    refine ⟨_, rfl, .inl ⟨rfl, _, SqL.of hgv⟩, gv, _, rfl, rfl, hgv, ?_⟩
    have u9 : Same H7 (upd H8 gv (.lst [])) := same_upd ngv (u1.trans s8) _
    have hp89 : (upd H8 gv (.lst [])) p8 = some (.lst [.ref x8, .str ""]) := by rw [upd_ne (ne_of hp8 hgv (fun z => by cases z))]; exact hp8
    have L89 : LayAt a.cLayout (upd H8 gv (.lst [])) x8 m t := L8.chg (S := [gv]) ((Chg.of (Same.refl _)).upd (by simp) _) (by obtain ⟨_, z⟩ := L8; simp only [List.mem_singleton]; exact ne_of z hgv (fun z => by cases z))
    generalize upd H8 gv (.lst []) = H9 at u9 hp89 L89 ⊢
    have hp9 := u9 _ _ hp7
    have hq9 := u9 _ _ hq7
    have hr9 := u9 _ _ hr7
    have L9 := L7.same u9
    refine ⟨_, rfl, p, _, 0, _, rfl, rfl, SqL.of hp9, rfl, x, m, t, rfl, L9, fun k2 HA nA sA hk2 => ?_⟩
    refine ⟨_, rfl, p, _, 0, _, rfl, rfl, SqL.of (sA _ _ hp9), rfl, x, m, t, rfl, L9.same sA, fun k3 HB nB sB hk3 => ?_⟩
    refine ⟨.inl ⟨rfl, _, SqL.of hk3⟩, k3, _, rfl, rfl, hk3, ?_⟩
    have uC : Same HA (upd HB k3 (.lst [])) := same_upd nB sB _
    generalize upd HB k3 (.lst []) = HC at uC ⊢
    have uD := u9.trans (sA.trans uC)
    have vD := sA.trans uC
    have hkC := uC _ _ hk2
    have hp8C := vD _ _ hp89
    have L8C := L89.same vD
    have hpC := uD _ _ hp7
    have hqC := uD _ _ hq7
    have hrC := uD _ _ hr7
    have LC := L7.same uD
    have hSC := uD.seq hS7
    -- the second one is the same
    refine ⟨_, rfl, p8, _, 1, _, rfl, rfl, SqL.of hp8C, rfl, rfl, _, rfl, iteF' (by decide +kernel) ?_⟩
    refine ⟨_, rfl, p8, _, 0, _, rfl, rfl, SqL.of hp8C, rfl, _, rfl, x8, p3, m, t, rfl, L8C, hqC, fun HD sD => ⟨_, rfl, iteF' (by rfl) ?_⟩⟩
    refine ⟨_, rfl, p8, _, 0, _, rfl, rfl, SqL.of (sD _ _ hp8C), rfl, x8, m, t, rfl, L8C.same sD, fun k4 HE nE sE hk4 => ?_⟩
    have wE := sD.trans sE
    refine ⟨_, rfl, .list ((headRow m t).map PyData.int), .list ((headRow m t).map PyData.int), .lst (SqL.of hk4) (dvs_ints _), .lst (SqL.of (wE _ _ hrC)) (dvs_ints _), PySem.W.ke_shaped_ints _, PySem.W.ke_shaped_ints _, _, rfl, iteF' (by rw [eqv_ints]; simp) ?_⟩
    refine ⟨_, rfl, _, rfl, .list ((headRow m t).map PyData.int), .list ((headRow m t).map PyData.int), .lst (SqL.of (wE _ _ hkC)) (dvs_ints _), .lst (SqL.of (wE _ _ hrC)) (dvs_ints _), PySem.W.ke_shaped_ints _, PySem.W.ke_shaped_ints _, _, rfl, iteF' (by rw [eqv_ints]; simp) ?_⟩
    refine ⟨_, rfl, p, _, 0, _, rfl, rfl, SqL.of (wE _ _ hpC), rfl, x, m, t, rfl, LC.same wE, fun k5 HF nF sF hk5 => ?_⟩
    have wF := wE.trans sF
    refine ⟨_, rfl, .list ((headRow m t).map PyData.int), .list ((headRow m t).map PyData.int), .lst (SqL.of hk5) (dvs_ints _), .lst (SqL.of (wF _ _ hrC)) (dvs_ints _), PySem.W.ke_shaped_ints _, PySem.W.ke_shaped_ints _, _, rfl, iteF' (by rw [eqv_ints]; simp) ?_⟩
    refine ⟨_, rfl, p, _, 0, _, rfl, rfl, SqL.of (wF _ _ hpC), rfl, _, rfl, x, p3, m, t, rfl, LC.same wF, wF _ _ hqC, fun HG sG => ⟨_, rfl, iteF' (by rfl) ?_⟩⟩
    have wG := wF.trans sG
    have hrG := wG _ _ hrC
    have hSG := wG.seq hSC
    -- one word is changed
    refine ⟨_, rfl, sc, ns, 3, rfl, hSG, by decide, ?_⟩
    generalize cell ns 3 = c
    refine ⟨_, rfl, _, _, rfl, rfl, ⟨by decide, by decide⟩, _, _, rfl, rfl, (by show (0 : Int) < 16; decide), ?_⟩
    obtain ⟨k, ek, hk⟩ : ∃ k : Nat, c / 6 % 16 = (k : Int) ∧ k < 16 := ⟨(c / 6 % 16).toNat, by omega, by omega⟩
    dsimp only
    rw [ek]
    obtain ⟨wd, hwd⟩ : ∃ wd, (headRow m t)[k]? = some wd := ⟨_, List.getElem?_eq_getElem (by rw [head_len]; exact hk)⟩
    have hat : atI ((headRow m t).map V.int) (k : Int) = some (.int wd) := atI_nat (by rw [List.getElem?_map, hwd]; rfl)
    refine ⟨_, rfl, _, rfl, r, _, _, _, rfl, rfl, SqL.of hrG, hat, _, _, rfl, rfl, ?_⟩
    refine ⟨_, rfl, _, rfl, r, _, _, _, rfl, rfl, SqL.of hrG, hat, _, _, rfl, rfl, _, _, rfl, ?_⟩
    refine ⟨_, rfl, _, _, rfl, rfl, .inr ⟨by decide, by decide⟩, _, _, rfl, rfl, (by show (0 : Int) < 1000000000; decide), (by show 3 ≤ sizeLine; decide), fun l6 m6 => ?_⟩
    obtain ⟨nw, hnw⟩ : ∃ nw : Int, atI [V.int (wd + 1), V.int (if wd - 1 > 0 then wd - 1 else 0), V.int (c * 48271 % 1000000000)] (c % 3) = some (.int nw) := by
      rcases (show c % 3 = 0 ∨ c % 3 = 1 ∨ c % 3 = 2 by omega) with e | e | e <;> (rw [e]; exact ⟨_, rfl⟩)
    refine ⟨_, rfl, _, _, rfl, rfl, (by show (0 : Int) < 3; decide), l6, _, _, .int nw, rfl, rfl, SqL.of upd_same, hnw, ?_⟩
    have hrI := same_new m6 (.lst [V.int (wd + 1), V.int (if wd - 1 > 0 then wd - 1 else 0), V.int (c * 48271 % 1000000000)]) _ _ hrG
    refine ⟨_, rfl, _, rfl, _, rfl, r, _, _, k, rfl, rfl, hrI, ?_, ?_⟩
    · rw [List.length_map, head_len]; unfold ixN; rw [if_pos (by omega), if_pos (by omega)]; simp
    rw [show ((headRow m t).map V.int).set k (.int nw) = ((headRow m t).set k nw).map V.int by rw [List.map_set]]
    have hlen : ((headRow m t).set k nw).length = 16 := by rw [List.length_set]; rfl
    generalize (headRow m t).set k nw = row at hlen ⊢
    have hrJ := upd_same (H := upd HG l6 (.lst [V.int (wd + 1), V.int (if wd - 1 > 0 then wd - 1 else 0), V.int (c * 48271 % 1000000000)])) (a := r) (o := .lst (row.map V.int))
    generalize upd (upd HG l6 (.lst [V.int (wd + 1), V.int (if wd - 1 > 0 then wd - 1 else 0), V.int (c * 48271 % 1000000000)])) r (.lst (row.map V.int)) = HJ at hrJ ⊢
    refine ⟨_, rfl, r, _, rfl, .inl (SqL.of hrJ), fun hd nhd => ?_⟩
    have x1 := same_new nhd (.lst (row.map V.int))
    have hhd := upd_same (H := HJ) (a := hd) (o := .lst (row.map V.int))
    generalize upd HJ hd (.lst (row.map V.int)) = HK at x1 hhd ⊢
    have hrK := x1 _ _ hrJ
    have gt : ∀ (i : Nat) (hi : i < 16), atI (row.map V.int) (i : Int) = some (.int (row[i]'(by omega))) := fun i hi => atI_nat (by rw [List.getElem?_map, List.getElem?_eq_getElem (by omega)]; rfl)
    refine ⟨_, rfl, hd, row, rfl, hhd, hlen, ?_⟩
    have same2 : ∀ {H' : Hp}, Same HK H' → DV K H' (.ref hd) (.list (row.map PyData.int)) ∧ DV K H' (.ref r) (.list (row.map PyData.int)) := fun s => ⟨.lst (SqL.of (s _ _ hhd)) (dvs_ints _), .lst (SqL.of (s _ _ hrK)) (dvs_ints _)⟩
    by_cases hg : ∃ m t, Good m t ∧ row = headRow m t
    · obtain ⟨m2, t2, g2, er⟩ := hg
      refine .inl ⟨m2, t2, g2, er, fun pZ xZ HL nL sL LZ hpZ => ?_⟩
      obtain ⟨d1, d2⟩ := same2 sL
      refine ⟨_, rfl, _, rfl, _, _, d1, d2, PySem.W.ke_shaped_ints _, PySem.W.ke_shaped_ints _, _, rfl, iteF' (by rw [eqv_ints]; simp) ?_⟩
      refine ⟨_, rfl, pZ, _, 1, _, rfl, rfl, SqL.of hpZ, rfl, _, rfl, r, row, rfl, sL _ _ hrK, hlen, fun _ HM sM => ?_, fun no => absurd er (no m2 t2 g2)⟩
      refine ⟨rfl, _, rfl, iteF' (by decide +kernel) ?_⟩
      have hpZ' := sM _ _ hpZ
      refine ⟨_, rfl, pZ, _, 1, _, rfl, rfl, SqL.of hpZ', rfl, rfl, _, rfl, iteF' (by decide +kernel) ?_⟩
      have hrM := sM _ _ (sL _ _ hrK)
      refine ⟨_, rfl, pZ, _, 0, _, rfl, rfl, SqL.of hpZ', rfl, _, rfl, r, _, 1, _, rfl, rfl, SqL.of hrM, gt 1 (by decide), _, rfl, r, _, 2, _, rfl, rfl, SqL.of hrM, gt 2 (by decide), _, _, rfl, ?_, fun pp HN nN sN hpp => ?_⟩
      · have := g2.1
        subst er; show 0 ≤ m2; omega
      refine ⟨xZ, pp, m2, t2, rfl, (LZ.same sM).same sN, ?_, fun H' _ => q H'⟩
      rw [hpp]; subst er; rfl
    · have no : ∀ m t, Good m t → row ≠ headRow m t := fun m t g e => hg ⟨m, t, g, e⟩
      refine .inr ⟨no, fun pZ HL sL hpZ => ?_⟩
      obtain ⟨d1, d2⟩ := same2 sL
      refine ⟨_, rfl, _, rfl, _, _, d1, d2, PySem.W.ke_shaped_ints _, PySem.W.ke_shaped_ints _, _, rfl, iteF' (by rw [eqv_ints]; simp) ?_⟩
      refine ⟨_, rfl, pZ, _, 1, _, rfl, rfl, SqL.of hpZ, rfl, _, rfl, r, row, rfl, sL _ _ hrK, hlen, fun hgo => absurd hgo hg, fun _ HM sM => ?_⟩
      refine ⟨rfl, _, rfl, iteF' (by decide +kernel) ?_⟩
      exact ⟨_, rfl, pZ, _, 1, _, rfl, rfl, SqL.of (sM _ _ hpZ), rfl, rfl, _, rfl, iteT' (by decide +kernel) (q _)⟩
  -- which counts
  refine ⟨_, rfl, sc, ns, 2, rfl, hS1, by decide, _, _, rfl, rfl, (by show (0 : Int) < 8; decide), rfl, _, rfl, ?_⟩
  by_cases c1 : cell ns 2 % 8 = 1
  · refine iteT' (by rw [dec_V]; exact decide_eq_true c1) ⟨_, rfl, ?_⟩
    refine ⟨_, rfl, sc, ns, 2, rfl, hS1, by decide, _, _, rfl, rfl, (by show (0 : Int) < 8; decide), rfl, _, rfl, iteF' (by rw [dec_V]; exact decide_eq_false (by omega)) ?_⟩
    exact main vo _ kvo (.int _)
  · refine iteF' (by rw [dec_V]; exact decide_eq_false c1) ?_
    refine ⟨_, rfl, sc, ns, 2, rfl, hS1, by decide, _, _, rfl, rfl, (by show (0 : Int) < 8; decide), rfl, _, rfl, ?_⟩
    by_cases c2 : cell ns 2 % 8 = 2
    · exact iteT' (by rw [dec_V]; exact decide_eq_true c2) ⟨_, rfl, main _ vo (.int _) kvo⟩
    · exact iteF' (by rw [dec_V]; exact decide_eq_false c2) (main _ _ (.int _) (.int _))
end
end K4
end
section
set_option Elab.async false
set_option linter.all false
set_option maxRecDepth 100000
set_option maxHeartbeats 4000000
namespace K4
open PySem L2 BK
theorem all_mk {l : PySem.W.OpenLaw} {w : World} {K : PySem.W.Frag} {h : Heap} {mg : Str → Option Value} {fa : Addr} {cKeepError cNoBlock cBadDisk cNoRoom cLayout fLayout_init f_most_node : Addr} (X : K.In h) (G : h.Ns mainGlobals mg) (hfa : mg "law" = some (.ref fa))
    {tROW_WORDS tLEAST_BLOCKS tMOST_BLOCKS tHEAD_SIGN tMAPS_AT tMOST_TABLES : Tok}
    {od1 an1 : Option Addr} {sl1 : Array (Option Value)} {oc1 kV1 dc1 pm1 cd1 ct1 : Value} {f1 : Addr}
    {od2 an2 : Option Addr} {sl2 : Array (Option Value)} {oc2 kV2 dc2 pm2 cd2 ct2 : Value}
    {od3 an3 : Option Addr} {sl3 : Array (Option Value)} {oc3 kV3 dc3 pm3 cd3 ct3 : Value} {f3 : Addr}
    {od4 an4 : Option Addr} {sl4 : Array (Option Value)} {oc4 kV4 dc4 pm4 cd4 ct4 : Value} {f4 : Addr}
    {od5 an5 : Option Addr} {sl5 : Array (Option Value)} {oc5 kV5 dc5 pm5 cd5 ct5 : Value} {f5 : Addr}
    {od6 an6 : Option Addr} {sl6 : Array (Option Value)} {oc6 kV6 dc6 pm6 cd6 ct6 : Value} {f6 : Addr}
    {od7 an7 : Option Addr} {sl7 : Array (Option Value)} {oc7 kV7 dc7 pm7 cd7 ct7 : Value} {f7 : Addr}
    {od8 an8 : Option Addr} {sl8 : Array (Option Value)} {oc8 kV8 dc8 pm8 cd8 ct8 : Value} {f8 : Addr}
    {od9 an9 : Option Addr} {sl9 : Array (Option Value)} {oc9 kV9 dc9 pm9 cd9 ct9 : Value} {f9 : Addr}
    {od10 an10 : Option Addr} {sl10 : Array (Option Value)} {oc10 kV10 dc10 pm10 cd10 ct10 : Value} {f10 : Addr}
    {od11 an11 : Option Addr} {sl11 : Array (Option Value)} {oc11 kV11 dc11 pm11 cd11 ct11 : Value} {f11 : Addr}
    {od12 an12 : Option Addr} {sl12 : Array (Option Value)} {oc12 kV12 dc12 pm12 cd12 ct12 : Value} {f12 : Addr}
    {od13 an13 : Option Addr} {sl13 : Array (Option Value)} {oc13 kV13 dc13 pm13 cd13 ct13 : Value} {f13 : Addr}
    {od14 an14 : Option Addr} {sl14 : Array (Option Value)} {oc14 kV14 dc14 pm14 cd14 ct14 : Value}
    {od15 an15 : Option Addr} {sl15 : Array (Option Value)} {oc15 kV15 dc15 pm15 cd15 ct15 : Value} {f15 : Addr}
    {od16 an16 : Option Addr} {sl16 : Array (Option Value)} {oc16 kV16 dc16 pm16 cd16 ct16 : Value} {f16 : Addr}
    {od17 an17 : Option Addr} {sl17 : Array (Option Value)} {oc17 kV17 dc17 pm17 cd17 ct17 : Value} {f17 : Addr}
    (n_KeepError : PySem.W.nsIn K mainGlobals "KeepError" = some (some (.ref cKeepError)))
    (n_NoBlock : PySem.W.nsIn K mainGlobals "NoBlock" = some (some (.ref cNoBlock)))
    (n_BadDisk : PySem.W.nsIn K mainGlobals "BadDisk" = some (some (.ref cBadDisk)))
    (n_NoRoom : PySem.W.nsIn K mainGlobals "NoRoom" = some (some (.ref cNoRoom)))
    (n_Layout : PySem.W.nsIn K mainGlobals "Layout" = some (some (.ref cLayout)))
    (a_fLayout_init : PySem.W.findIn K (.ref cLayout) "__init__" = some (some (.ref fLayout_init)))
    (a_f_most_node : PySem.W.findIn K (.ref cLayout) "most_node" = some (some (.ref f_most_node)))
    (a1 : PySem.W.nsIn K mainGlobals "is_whole" = some (some (.ref f1)))
    (a3 : PySem.W.nsIn K mainGlobals "_law_word" = some (some (.ref f3)))
    (a4 : PySem.W.nsIn K mainGlobals "_law_made" = some (some (.ref f4)))
    (a5 : PySem.W.nsIn K mainGlobals "_law_places" = some (some (.ref f5)))
    (a6 : PySem.W.nsIn K mainGlobals "changed" = some (some (.ref f6)))
    (a7 : PySem.W.nsIn K mainGlobals "empty_row" = some (some (.ref f7)))
    (a8 : PySem.W.nsIn K mainGlobals "head_row" = some (some (.ref f8)))
    (a9 : PySem.W.nsIn K mainGlobals "layout_of" = some (some (.ref f9)))
    (a10 : PySem.W.nsIn K mainGlobals "_law_told" = some (some (.ref f10)))
    (a11 : PySem.W.nsIn K mainGlobals "_law_cell_at" = some (some (.ref f11)))
    (a12 : PySem.W.nsIn K mainGlobals "_law_whole" = some (some (.ref f12)))
    (a13 : PySem.W.nsIn K mainGlobals "_law_due" = some (some (.ref f13)))
    (a15 : PySem.W.nsIn K mainGlobals "_law_same" = some (some (.ref f15)))
    (a16 : PySem.W.nsIn K mainGlobals "_law_row_due" = some (some (.ref f16)))
    (a17 : PySem.W.nsIn K mainGlobals "law" = some (some (.ref f17)))
    (z_isinstance : PySem.W.nsIn K mainGlobals "isinstance" = some none)
    (z_int : PySem.W.nsIn K mainGlobals "int" = some none)
    (z_bool : PySem.W.nsIn K mainGlobals "bool" = some none)
    (z_list : PySem.W.nsIn K mainGlobals "list" = some none)
    (z_len : PySem.W.nsIn K mainGlobals "len" = some none)
    (z_all : PySem.W.nsIn K mainGlobals "all" = some none)
    (z_ValueError : PySem.W.nsIn K mainGlobals "ValueError" = some none)
    (z_max : PySem.W.nsIn K mainGlobals "max" = some none)
    (v_ROW_WORDS : PySem.W.nsIn K mainGlobals "ROW_WORDS" = some (some (.int 16 tROW_WORDS)))
    (v_LEAST_BLOCKS : PySem.W.nsIn K mainGlobals "LEAST_BLOCKS" = some (some (.int 24 tLEAST_BLOCKS)))
    (v_MOST_BLOCKS : PySem.W.nsIn K mainGlobals "MOST_BLOCKS" = some (some (.int 96 tMOST_BLOCKS)))
    (v_HEAD_SIGN : PySem.W.nsIn K mainGlobals "HEAD_SIGN" = some (some (.int 7100719 tHEAD_SIGN)))
    (v_MAPS_AT : PySem.W.nsIn K mainGlobals "MAPS_AT" = some (some (.int 17 tMAPS_AT)))
    (v_MOST_TABLES : PySem.W.nsIn K mainGlobals "MOST_TABLES" = some (some (.int 8 tMOST_TABLES)))
    (x_BadDisk : PySem.W.excIn K cBadDisk veMro "ValueError.__new__" = true)
    (x_NoRoom : PySem.W.excIn K cNoRoom veMro "ValueError.__new__" = true)
    (g0_BadDisk : PySem.W.findIn K (.ref cBadDisk) "__getattribute__" = some (some (.builtin "BaseException.__getattribute__")))
    (g1_BadDisk : PySem.W.findIn K (.ref cBadDisk) "__getattr__" = some none)
    (g2_BadDisk : PySem.W.findIn K (.ref cBadDisk) "__class__" = some (some (.builtin "object.__class__")))
    (g3_BadDisk : PySem.W.mroIn K cBadDisk (.type "BaseException") = some true)
    (g4_BadDisk : PySem.W.mroIn K cBadDisk (.type "object") = some true)
    (g5_BadDisk : PySem.W.findObj K cBadDisk none "__class__" = some (.bind (.builtin "getset_descriptor.__get__") (.builtin "object.__class__")))
    (g6_BadDisk : (PySem.W.clsIn K cBadDisk).isSome = true)
    (g0_NoRoom : PySem.W.findIn K (.ref cNoRoom) "__getattribute__" = some (some (.builtin "BaseException.__getattribute__")))
    (g1_NoRoom : PySem.W.findIn K (.ref cNoRoom) "__getattr__" = some none)
    (g2_NoRoom : PySem.W.findIn K (.ref cNoRoom) "__class__" = some (some (.builtin "object.__class__")))
    (g3_NoRoom : PySem.W.mroIn K cNoRoom (.type "BaseException") = some true)
    (g4_NoRoom : PySem.W.mroIn K cNoRoom (.type "object") = some true)
    (g5_NoRoom : PySem.W.findObj K cNoRoom none "__class__" = some (.bind (.builtin "getset_descriptor.__get__") (.builtin "object.__class__")))
    (g6_NoRoom : (PySem.W.clsIn K cNoRoom).isSome = true)
    (h0_KeepError : (match K.lookup cKeepError with | some ⟨.type "type", _, .cls _, _⟩ => true | _ => false) = true)
    (h1_KeepError : PySem.W.mroIn K cKeepError (.type "BaseException") = some true)
    (s_BadDisk_KeepError : PySem.W.mroIn K cBadDisk (.ref cKeepError) = some true)
    (s_NoRoom_KeepError : PySem.W.mroIn K cNoRoom (.ref cKeepError) = some true)
    (h0_NoRoom : (match K.lookup cNoRoom with | some ⟨.type "type", _, .cls _, _⟩ => true | _ => false) = true)
    (h1_NoRoom : PySem.W.mroIn K cNoRoom (.type "BaseException") = some true)
    (s_BadDisk_NoRoom : PySem.W.mroIn K cBadDisk (.ref cNoRoom) = some false)
    (s_NoRoom_NoRoom : PySem.W.mroIn K cNoRoom (.ref cNoRoom) = some true)
    (q_BadDisk_BadDisk : PySem.W.kitOne K (.ref cBadDisk) (.ref cBadDisk) = some true)
    (q_BadDisk_NoRoom : PySem.W.kitOne K (.ref cBadDisk) (.ref cNoRoom) = some false)
    (q_BadDisk_NoBlock : PySem.W.kitOne K (.ref cBadDisk) (.ref cNoBlock) = some false)
    (q_BadDisk_ValueError : PySem.W.kitOne K (.ref cBadDisk) (.type "ValueError") = some true)
    (q_NoRoom_BadDisk : PySem.W.kitOne K (.ref cNoRoom) (.ref cBadDisk) = some false)
    (q_NoRoom_NoRoom : PySem.W.kitOne K (.ref cNoRoom) (.ref cNoRoom) = some true)
    (q_NoRoom_NoBlock : PySem.W.kitOne K (.ref cNoRoom) (.ref cNoBlock) = some false)
    (q_NoRoom_ValueError : PySem.W.kitOne K (.ref cNoRoom) (.type "ValueError") = some true)
    (pg_Layout : PySem.W.plainGet K cLayout Str.empty = true)
    (hd_Layout : PySem.W.hasDictIn K cLayout = true)
    (po_Layout : PySem.W.plainOver K cLayout = true)
    (sa_Layout : PySem.W.findIn K (.ref cLayout) "__setattr__" = some (some (.builtin "object.__setattr__")))
    (na_many : PySem.W.findIn K (.ref cLayout) "many" = some none)
    (na_tables : PySem.W.findIn K (.ref cLayout) "tables" = some none)
    (na_maps_at : PySem.W.findIn K (.ref cLayout) "maps_at" = some none)
    (na_nodes_at : PySem.W.findIn K (.ref cLayout) "nodes_at" = some none)
    (na_data_at : PySem.W.findIn K (.ref cLayout) "data_at" = some none)
    (mk_Layout : PySem.W.makesIn K cLayout = true)
    (i_fLayout_init : PySem.W.isFn K (.ref fLayout_init) = true)
    (kc_Layout : PySem.W.keepIn K (.ref cLayout) = true)
    (i_f_most_node : PySem.W.isFn K (.ref f_most_node) = true)
    (kp_f_most_node : PySem.W.keepIn K (.ref f_most_node) = true)
    (l1 : K.lookup f1 = some ⟨oc1, od1, .func (PySem.W.fnOf "is_whole" "is_whole" (defArgs s_is_whole) (defBody s_is_whole) (defScope s_is_whole) .none kV1 dc1 pm1 an1 cd1 ct1), sl1⟩)
    (c1 : PySem.W.codeIn K cd1 "is_whole" = true)
    (k1 : PySem.W.keepIn K (.ref f1) = true)
    (l2 : K.lookup fLayout_init = some ⟨oc2, od2, .func (PySem.W.fnOf "__init__" "Layout.__init__" (defArgs s_Layout___init__) (defBody s_Layout___init__) (defScope s_Layout___init__) .none kV2 dc2 pm2 an2 cd2 ct2), sl2⟩)
    (c2 : PySem.W.codeIn K cd2 "Layout.__init__" = true)
    (k2 : PySem.W.keepIn K (.ref fLayout_init) = true)
    (l3 : K.lookup f3 = some ⟨oc3, od3, .func (PySem.W.fnOf "_law_word" "_law_word" (defArgs s__law_word) (defBody s__law_word) (defScope s__law_word) .none kV3 dc3 pm3 an3 cd3 ct3), sl3⟩)
    (c3 : PySem.W.codeIn K cd3 "_law_word" = true)
    (k3 : PySem.W.keepIn K (.ref f3) = true)
    (l4 : K.lookup f4 = some ⟨oc4, od4, .func (PySem.W.fnOf "_law_made" "_law_made" (defArgs s__law_made) (defBody s__law_made) (defScope s__law_made) .none kV4 dc4 pm4 an4 cd4 ct4), sl4⟩)
    (c4 : PySem.W.codeIn K cd4 "_law_made" = true)
    (k4 : PySem.W.keepIn K (.ref f4) = true)
    (l5 : K.lookup f5 = some ⟨oc5, od5, .func (PySem.W.fnOf "_law_places" "_law_places" (defArgs s__law_places) (defBody s__law_places) (defScope s__law_places) .none kV5 dc5 pm5 an5 cd5 ct5), sl5⟩)
    (c5 : PySem.W.codeIn K cd5 "_law_places" = true)
    (k5 : PySem.W.keepIn K (.ref f5) = true)
    (l6 : K.lookup f6 = some ⟨oc6, od6, .func (PySem.W.fnOf "changed" "changed" (defArgs s_changed) (defBody s_changed) (defScope s_changed) .none kV6 dc6 pm6 an6 cd6 ct6), sl6⟩)
    (c6 : PySem.W.codeIn K cd6 "changed" = true)
    (k6 : PySem.W.keepIn K (.ref f6) = true)
    (l7 : K.lookup f7 = some ⟨oc7, od7, .func (PySem.W.fnOf "empty_row" "empty_row" (defArgs s_empty_row) (defBody s_empty_row) (defScope s_empty_row) .none kV7 dc7 pm7 an7 cd7 ct7), sl7⟩)
    (c7 : PySem.W.codeIn K cd7 "empty_row" = true)
    (k7 : PySem.W.keepIn K (.ref f7) = true)
    (l8 : K.lookup f8 = some ⟨oc8, od8, .func (PySem.W.fnOf "head_row" "head_row" (defArgs s_head_row) (defBody s_head_row) (defScope s_head_row) .none kV8 dc8 pm8 an8 cd8 ct8), sl8⟩)
    (c8 : PySem.W.codeIn K cd8 "head_row" = true)
    (k8 : PySem.W.keepIn K (.ref f8) = true)
    (l9 : K.lookup f9 = some ⟨oc9, od9, .func (PySem.W.fnOf "layout_of" "layout_of" (defArgs s_layout_of) (defBody s_layout_of) (defScope s_layout_of) .none kV9 dc9 pm9 an9 cd9 ct9), sl9⟩)
    (c9 : PySem.W.codeIn K cd9 "layout_of" = true)
    (k9 : PySem.W.keepIn K (.ref f9) = true)
    (l10 : K.lookup f10 = some ⟨oc10, od10, .func (PySem.W.fnOf "_law_told" "_law_told" (defArgs s__law_told) (defBody s__law_told) (defScope s__law_told) .none kV10 dc10 pm10 an10 cd10 ct10), sl10⟩)
    (c10 : PySem.W.codeIn K cd10 "_law_told" = true)
    (k10 : PySem.W.keepIn K (.ref f10) = true)
    (l11 : K.lookup f11 = some ⟨oc11, od11, .func (PySem.W.fnOf "_law_cell_at" "_law_cell_at" (defArgs s__law_cell_at) (defBody s__law_cell_at) (defScope s__law_cell_at) .none kV11 dc11 pm11 an11 cd11 ct11), sl11⟩)
    (c11 : PySem.W.codeIn K cd11 "_law_cell_at" = true)
    (k11 : PySem.W.keepIn K (.ref f11) = true)
    (l12 : K.lookup f12 = some ⟨oc12, od12, .func (PySem.W.fnOf "_law_whole" "_law_whole" (defArgs s__law_whole) (defBody s__law_whole) (defScope s__law_whole) .none kV12 dc12 pm12 an12 cd12 ct12), sl12⟩)
    (c12 : PySem.W.codeIn K cd12 "_law_whole" = true)
    (k12 : PySem.W.keepIn K (.ref f12) = true)
    (l13 : K.lookup f13 = some ⟨oc13, od13, .func (PySem.W.fnOf "_law_due" "_law_due" (defArgs s__law_due) (defBody s__law_due) (defScope s__law_due) .none kV13 dc13 pm13 an13 cd13 ct13), sl13⟩)
    (c13 : PySem.W.codeIn K cd13 "_law_due" = true)
    (k13 : PySem.W.keepIn K (.ref f13) = true)
    (l14 : K.lookup f_most_node = some ⟨oc14, od14, .func (PySem.W.fnOf "most_node" "Layout.most_node" (defArgs s_Layout_most_node) (defBody s_Layout_most_node) (defScope s_Layout_most_node) .none kV14 dc14 pm14 an14 cd14 ct14), sl14⟩)
    (c14 : PySem.W.codeIn K cd14 "Layout.most_node" = true)
    (k14 : PySem.W.keepIn K (.ref f_most_node) = true)
    (l15 : K.lookup f15 = some ⟨oc15, od15, .func (PySem.W.fnOf "_law_same" "_law_same" (defArgs s__law_same) (defBody s__law_same) (defScope s__law_same) .none kV15 dc15 pm15 an15 cd15 ct15), sl15⟩)
    (c15 : PySem.W.codeIn K cd15 "_law_same" = true)
    (k15 : PySem.W.keepIn K (.ref f15) = true)
    (l16 : K.lookup f16 = some ⟨oc16, od16, .func (PySem.W.fnOf "_law_row_due" "_law_row_due" (defArgs s__law_row_due) (defBody s__law_row_due) (defScope s__law_row_due) .none kV16 dc16 pm16 an16 cd16 ct16), sl16⟩)
    (c16 : PySem.W.codeIn K cd16 "_law_row_due" = true)
    (k16 : PySem.W.keepIn K (.ref f16) = true)
    (l17 : K.lookup f17 = some ⟨oc17, od17, .func (PySem.W.fnOf "law" "law" (defArgs s_law) (defBody s_law) (defScope s_law) .none kV17 dc17 pm17 an17 cd17 ct17), sl17⟩)
    (c17 : PySem.W.codeIn K cd17 "law" = true)
    (k17 : PySem.W.keepIn K (.ref f17) = true) :
    ∃ fd : FuncData, (∀ (s : Shared) (v : Value), BindsTo s fd ⟨[v], []⟩ [("_law_script", v)]) ∧ ∀ base : Heap, K.In base → base.Ns mainGlobals mg → FnOk l.prog w K mg base (CXE l.prog w) 6 fa fd ["_law_script"] (spLaw K) := by
  have e := hfa.symm.trans (PySem.W.mg_of X G a17)
  cases e
  have T : Txt K mg (⟨cKeepError, cNoBlock, cBadDisk, cNoRoom, cLayout, fLayout_init, f_most_node⟩ : Ad) := ⟨PySem.W.mg_none_of X G z_isinstance, PySem.W.mg_none_of X G z_int, PySem.W.mg_none_of X G z_bool, PySem.W.mg_none_of X G z_list, PySem.W.mg_none_of X G z_len, PySem.W.mg_none_of X G z_all, PySem.W.mg_none_of X G z_ValueError, PySem.W.mg_none_of X G z_max, ⟨_, PySem.W.mg_of X G v_ROW_WORDS⟩, ⟨_, PySem.W.mg_of X G v_LEAST_BLOCKS⟩, ⟨_, PySem.W.mg_of X G v_MOST_BLOCKS⟩, ⟨_, PySem.W.mg_of X G v_HEAD_SIGN⟩, ⟨_, PySem.W.mg_of X G v_MAPS_AT⟩, ⟨_, PySem.W.mg_of X G v_MOST_TABLES⟩, PySem.W.mg_of X G n_KeepError, PySem.W.mg_of X G n_NoBlock, PySem.W.mg_of X G n_BadDisk, PySem.W.mg_of X G n_NoRoom, PySem.W.mg_of X G n_Layout, x_BadDisk, x_NoRoom, ⟨g0_BadDisk, g1_BadDisk, g2_BadDisk, g3_BadDisk, g4_BadDisk, g5_BadDisk, g6_BadDisk⟩, ⟨g0_NoRoom, g1_NoRoom, g2_NoRoom, g3_NoRoom, g4_NoRoom, g5_NoRoom, g6_NoRoom⟩, ⟨h0_KeepError, h1_KeepError⟩, s_BadDisk_KeepError, s_NoRoom_KeepError, ⟨h0_NoRoom, h1_NoRoom⟩, s_BadDisk_NoRoom, s_NoRoom_NoRoom, q_BadDisk_BadDisk, q_BadDisk_NoRoom, q_BadDisk_NoBlock, q_BadDisk_ValueError, q_NoRoom_BadDisk, q_NoRoom_NoRoom, q_NoRoom_NoBlock, q_NoRoom_ValueError, ⟨pg_Layout, hd_Layout, po_Layout, sa_Layout⟩, na_many, na_tables, na_maps_at, na_nodes_at, na_data_at, ⟨mk_Layout, a_fLayout_init, i_fLayout_init, kc_Layout⟩, ⟨a_f_most_node, i_f_most_node, kp_f_most_node⟩⟩
  have F1 := fun_mk (st := s_is_whole) l1 c1 k1
  have b1 := F1.binds (ps := ["thing", "least", "most"]) fun _ _ _ _ _ _ us hl => match us, hl with | [_, _, _], _ => rfl
  have F2 := fun_mk (st := s_Layout___init__) l2 c2 k2
  have b2 := F2.binds (ps := ["self", "many", "tables"]) fun _ _ _ _ _ _ us hl => match us, hl with | [_, _, _], _ => rfl
  have F3 := fun_mk (st := s__law_word) l3 c3 k3
  have b3 := F3.binds (ps := ["_law_error"]) fun _ _ _ _ _ _ us hl => match us, hl with | [_], _ => rfl
  have F4 := fun_mk (st := s__law_made) l4 c4 k4
  have b4 := F4.binds (ps := ["_law_many", "_law_tables"]) fun _ _ _ _ _ _ us hl => match us, hl with | [_, _], _ => rfl
  have F5 := fun_mk (st := s__law_places) l5 c5 k5
  have b5 := F5.binds (ps := ["_law_many", "_law_tables"]) fun _ _ _ _ _ _ us hl => match us, hl with | [_, _], _ => rfl
  have F6 := fun_mk (st := s_changed) l6 c6 k6
  have b6 := F6.binds (ps := ["row", "at", "words"]) fun _ _ _ _ _ _ us hl => match us, hl with | [_, _, _], _ => rfl
  have F7 := fun_mk (st := s_empty_row) l7 c7 k7
  have b7 := F7.binds (ps := []) fun _ _ _ _ _ _ us hl => match us, hl with | [], _ => rfl
  have F8 := fun_mk (st := s_head_row) l8 c8 k8
  have b8 := F8.binds (ps := ["layout"]) fun _ _ _ _ _ _ us hl => match us, hl with | [_], _ => rfl
  have F9 := fun_mk (st := s_layout_of) l9 c9 k9
  have b9 := F9.binds (ps := ["row"]) fun _ _ _ _ _ _ us hl => match us, hl with | [_], _ => rfl
  have F10 := fun_mk (st := s__law_told) l10 c10 k10
  have b10 := F10.binds (ps := ["_law_row"]) fun _ _ _ _ _ _ us hl => match us, hl with | [_], _ => rfl
  have F11 := fun_mk (st := s__law_cell_at) l11 c11 k11
  have b11 := F11.binds (ps := ["_law_script", "_law_k"]) fun _ _ _ _ _ _ us hl => match us, hl with | [_, _], _ => rfl
  have F12 := fun_mk (st := s__law_whole) l12 c12 k12
  have b12 := F12.binds (ps := ["_law_found"]) fun _ _ _ _ _ _ us hl => match us, hl with | [_], _ => rfl
  have F13 := fun_mk (st := s__law_due) l13 c13 k13
  have b13 := F13.binds (ps := ["_law_many", "_law_tables"]) fun _ _ _ _ _ _ us hl => match us, hl with | [_, _], _ => rfl
  have F14 := fun_mk (st := s_Layout_most_node) l14 c14 k14
  have b14 := F14.binds (ps := ["self"]) fun _ _ _ _ _ _ us hl => match us, hl with | [_], _ => rfl
  have F15 := fun_mk (st := s__law_same) l15 c15 k15
  have b15 := F15.binds (ps := ["_law_layout", "_law_places_here"]) fun _ _ _ _ _ _ us hl => match us, hl with | [_, _], _ => rfl
  have F16 := fun_mk (st := s__law_row_due) l16 c16 k16
  have b16 := F16.binds (ps := ["_law_row"]) fun _ _ _ _ _ _ us hl => match us, hl with | [_], _ => rfl
  have F17 := fun_mk (st := s_law) l17 c17 k17
  refine ⟨PySem.W.fnOf "law" "law" (defArgs s_law) (defBody s_law) (defScope s_law) .none kV17 dc17 pm17 an17 cd17 ct17, fun s v => .of_eq rfl, fun base _ _ => ?_⟩
  have D_is_whole : Df l.prog w K mg base CX0 1 "is_whole" ["thing", "least", "most"] (spWhole K (⟨cKeepError, cNoBlock, cBadDisk, cNoRoom, cLayout, fLayout_init, f_most_node⟩ : Ad)) := ⟨_, _, ok_is_whole F1 T , b1, k1, PySem.W.mg_of X G a1⟩
  have M_Layout___init__ : Mf l.prog w K mg base (CXE l.prog w) 2 (⟨cKeepError, cNoBlock, cBadDisk, cNoRoom, cLayout, fLayout_init, f_most_node⟩ : Ad).fLayout_init ["self", "many", "tables"] (spLInit K (⟨cKeepError, cNoBlock, cBadDisk, cNoRoom, cLayout, fLayout_init, f_most_node⟩ : Ad)) := ⟨_, ok_Layout___init__ F2 T D_is_whole, b2⟩
  have D__law_word : Df l.prog w K mg base CX0 1 "_law_word" ["_law_error"] (spWordL K (⟨cKeepError, cNoBlock, cBadDisk, cNoRoom, cLayout, fLayout_init, f_most_node⟩ : Ad)) := ⟨_, _, ok__law_word F3 T , b3, k3, PySem.W.mg_of X G a3⟩
  have D__law_made : Df l.prog w K mg base (CXE l.prog w) 4 "_law_made" ["_law_many", "_law_tables"] (spMade K (⟨cKeepError, cNoBlock, cBadDisk, cNoRoom, cLayout, fLayout_init, f_most_node⟩ : Ad)) := ⟨_, _, ok__law_made F4 T M_Layout___init__ D__law_word, b4, k4, PySem.W.mg_of X G a4⟩
  have D__law_places : Df l.prog w K mg base CX0 1 "_law_places" ["_law_many", "_law_tables"] (spPlaces K (⟨cKeepError, cNoBlock, cBadDisk, cNoRoom, cLayout, fLayout_init, f_most_node⟩ : Ad)) := ⟨_, _, ok__law_places F5 T , b5, k5, PySem.W.mg_of X G a5⟩
  have D_changed : Df l.prog w K mg base CX0 1 "changed" ["row", "at", "words"] (spChanged K (⟨cKeepError, cNoBlock, cBadDisk, cNoRoom, cLayout, fLayout_init, f_most_node⟩ : Ad)) := ⟨_, _, ok_changed F6 T , b6, k6, PySem.W.mg_of X G a6⟩
  have D_empty_row : Df l.prog w K mg base CX0 1 "empty_row" [] (spEmpty K (⟨cKeepError, cNoBlock, cBadDisk, cNoRoom, cLayout, fLayout_init, f_most_node⟩ : Ad)) := ⟨_, _, ok_empty_row F7 T , b7, k7, PySem.W.mg_of X G a7⟩
  have D_head_row : Df l.prog w K mg base CX0 2 "head_row" ["layout"] (spHead K (⟨cKeepError, cNoBlock, cBadDisk, cNoRoom, cLayout, fLayout_init, f_most_node⟩ : Ad)) := ⟨_, _, ok_head_row F8 T D_changed D_empty_row, b8, k8, PySem.W.mg_of X G a8⟩
  have D_layout_of : Df l.prog w K mg base (CXE l.prog w) 4 "layout_of" ["row"] (spLayoutOf K (⟨cKeepError, cNoBlock, cBadDisk, cNoRoom, cLayout, fLayout_init, f_most_node⟩ : Ad)) := ⟨_, _, ok_layout_of F9 T M_Layout___init__ D_head_row, b9, k9, PySem.W.mg_of X G a9⟩
  have D__law_told : Df l.prog w K mg base (CXE l.prog w) 5 "_law_told" ["_law_row"] (spTold K (⟨cKeepError, cNoBlock, cBadDisk, cNoRoom, cLayout, fLayout_init, f_most_node⟩ : Ad)) := ⟨_, _, ok__law_told F10 T D_layout_of D__law_word, b10, k10, PySem.W.mg_of X G a10⟩
  have D__law_cell_at : Df l.prog w K mg base CX0 1 "_law_cell_at" ["_law_script", "_law_k"] (spCell K (⟨cKeepError, cNoBlock, cBadDisk, cNoRoom, cLayout, fLayout_init, f_most_node⟩ : Ad)) := ⟨_, _, ok__law_cell_at F11 T , b11, k11, PySem.W.mg_of X G a11⟩
  have D__law_whole : Df l.prog w K mg base CX0 1 "_law_whole" ["_law_found"] (spWholeL K (⟨cKeepError, cNoBlock, cBadDisk, cNoRoom, cLayout, fLayout_init, f_most_node⟩ : Ad)) := ⟨_, _, ok__law_whole F12 T , b12, k12, PySem.W.mg_of X G a12⟩
  have D__law_due : Df l.prog w K mg base CX0 2 "_law_due" ["_law_many", "_law_tables"] (spDueL K (⟨cKeepError, cNoBlock, cBadDisk, cNoRoom, cLayout, fLayout_init, f_most_node⟩ : Ad)) := ⟨_, _, ok__law_due F13 T D__law_whole D__law_places, b13, k13, PySem.W.mg_of X G a13⟩
  have M_Layout_most_node : Mf l.prog w K mg base CX0 1 (⟨cKeepError, cNoBlock, cBadDisk, cNoRoom, cLayout, fLayout_init, f_most_node⟩ : Ad).f_most_node ["self"] (spMost K (⟨cKeepError, cNoBlock, cBadDisk, cNoRoom, cLayout, fLayout_init, f_most_node⟩ : Ad)) := ⟨_, ok_Layout_most_node F14 T , b14⟩
  have D__law_same : Df l.prog w K mg base CX0 2 "_law_same" ["_law_layout", "_law_places_here"] (spSame K (⟨cKeepError, cNoBlock, cBadDisk, cNoRoom, cLayout, fLayout_init, f_most_node⟩ : Ad)) := ⟨_, _, ok__law_same F15 T D__law_whole M_Layout_most_node, b15, k15, PySem.W.mg_of X G a15⟩
  have D__law_row_due : Df l.prog w K mg base CX0 3 "_law_row_due" ["_law_row"] (spRowDue K (⟨cKeepError, cNoBlock, cBadDisk, cNoRoom, cLayout, fLayout_init, f_most_node⟩ : Ad)) := ⟨_, _, ok__law_row_due F16 T D__law_due D__law_places, b16, k16, PySem.W.mg_of X G a16⟩
  exact ok_law F17 T D__law_made D__law_places D__law_told D_head_row D__law_cell_at D__law_due D__law_same D__law_row_due
theorem walk {l : PySem.W.OpenLaw} {q : Program} {loose : List Str} {XP : (Str → Option Value) → Heap → Prop} {YP : World → Heap → Prop} {d : DefRec} {K : Params → PySem.W.Frag} (hn : l.most = some 63) (hdf : d.params.defaults = [])
    (hY : ∀ (w : World) (h : Heap), YP w h → (K w.params).In h)
    (F : ∀ (w : World) (mg : Str → Option Value) (fa : Addr) (h : Heap), (K w.params).In h → h.Ns mainGlobals mg → mg d.name = some (.ref fa) →
      ∃ fd : FuncData, (∀ (s : Shared) (u : Value), BindsTo s fd ⟨[u], []⟩ [("_law_script", u)]) ∧ ∀ base : Heap, (K w.params).In base → base.Ns mainGlobals mg → FnOk l.prog w (K w.params) mg base (CXE l.prog w) 6 fa fd ["_law_script"] (spLaw (K w.params))) :
    PySem.W.WalkO q loose XP YP l.row.toRowW d [] (fun f vs => PySem.call f vs) :=
  L2.walk_of (n := 63) (k := 6) (x := "_law_script") (CX := fun w => CXE l.prog w) (sp := fun w => spLaw (K w.params)) hn (by decide) hdf ⟨by decide, by decide⟩ hY F (fun _ _ a ns hl _ hS => ⟨a, ns, rfl, hS, hl, fun _ => rfl⟩) fun _ _ _ _ _ z => cxe0 z
end K4
open PySem PySem.W PyProof.Rows
set_option maxRecDepth 100000 in
set_option maxHeartbeats 0 in
theorem PySem.Challenge.cw_blockkeep_k04_layouts_holds : PySem.Challenge.rw_blockkeep_k04_layouts.Holds := by
  w_on; o_law; k_head; (case hw => w_witness2)
  k_fill
  refine K4.walk (l := PySem.Challenge.rw_blockkeep_k04_layouts) rfl rfl (fun w h Y => PySem.W.kIn_of Y) ?F
  case F =>
    intro w mg fa h KX G hmg
    refine' K4.all_mk KX G hmg ?h_n_KeepError ?h_n_NoBlock ?h_n_BadDisk ?h_n_NoRoom ?h_n_Layout ?h_a_fLayout_init ?h_a_f_most_node ?h_a1 ?h_a3 ?h_a4 ?h_a5 ?h_a6 ?h_a7 ?h_a8 ?h_a9 ?h_a10 ?h_a11 ?h_a12 ?h_a13 ?h_a15 ?h_a16 ?h_a17 ?h_z_isinstance ?h_z_int ?h_z_bool ?h_z_list ?h_z_len ?h_z_all ?h_z_ValueError ?h_z_max ?h_v_ROW_WORDS ?h_v_LEAST_BLOCKS ?h_v_MOST_BLOCKS ?h_v_HEAD_SIGN ?h_v_MAPS_AT ?h_v_MOST_TABLES ?h_x_BadDisk ?h_x_NoRoom ?h_g0_BadDisk ?h_g1_BadDisk ?h_g2_BadDisk ?h_g3_BadDisk ?h_g4_BadDisk ?h_g5_BadDisk ?h_g6_BadDisk ?h_g0_NoRoom ?h_g1_NoRoom ?h_g2_NoRoom ?h_g3_NoRoom ?h_g4_NoRoom ?h_g5_NoRoom ?h_g6_NoRoom ?h_h0_KeepError ?h_h1_KeepError ?h_s_BadDisk_KeepError ?h_s_NoRoom_KeepError ?h_h0_NoRoom ?h_h1_NoRoom ?h_s_BadDisk_NoRoom ?h_s_NoRoom_NoRoom ?h_q_BadDisk_BadDisk ?h_q_BadDisk_NoRoom ?h_q_BadDisk_NoBlock ?h_q_BadDisk_ValueError ?h_q_NoRoom_BadDisk ?h_q_NoRoom_NoRoom ?h_q_NoRoom_NoBlock ?h_q_NoRoom_ValueError ?h_pg_Layout ?h_hd_Layout ?h_po_Layout ?h_sa_Layout ?h_na_many ?h_na_tables ?h_na_maps_at ?h_na_nodes_at ?h_na_data_at ?h_mk_Layout ?h_i_fLayout_init ?h_kc_Layout ?h_i_f_most_node ?h_kp_f_most_node ?h_l1 ?h_c1 ?h_k1 ?h_l2 ?h_c2 ?h_k2 ?h_l3 ?h_c3 ?h_k3 ?h_l4 ?h_c4 ?h_k4 ?h_l5 ?h_c5 ?h_k5 ?h_l6 ?h_c6 ?h_k6 ?h_l7 ?h_c7 ?h_k7 ?h_l8 ?h_c8 ?h_k8 ?h_l9 ?h_c9 ?h_k9 ?h_l10 ?h_c10 ?h_k10 ?h_l11 ?h_c11 ?h_k11 ?h_l12 ?h_c12 ?h_k12 ?h_l13 ?h_c13 ?h_k13 ?h_l14 ?h_c14 ?h_k14 ?h_l15 ?h_c15 ?h_k15 ?h_l16 ?h_c16 ?h_k16 ?h_l17 ?h_c17 ?h_k17
    (case h_n_KeepError => k_is)
    (case h_n_NoBlock => k_is)
    (case h_n_BadDisk => k_is)
    (case h_n_NoRoom => k_is)
    (case h_n_Layout => k_is)
    (case h_a_fLayout_init => k_is)
    (case h_a_f_most_node => k_is)
    (case h_a1 => k_is)
    (case h_a3 => k_is)
    (case h_a4 => k_is)
    (case h_a5 => k_is)
    (case h_a6 => k_is)
    (case h_a7 => k_is)
    (case h_a8 => k_is)
    (case h_a9 => k_is)
    (case h_a10 => k_is)
    (case h_a11 => k_is)
    (case h_a12 => k_is)
    (case h_a13 => k_is)
    (case h_a15 => k_is)
    (case h_a16 => k_is)
    (case h_a17 => k_is)
    (case h_z_isinstance => k_is)
    (case h_z_int => k_is)
    (case h_z_bool => k_is)
    (case h_z_list => k_is)
    (case h_z_len => k_is)
    (case h_z_all => k_is)
    (case h_z_ValueError => k_is)
    (case h_z_max => k_is)
    (case h_v_ROW_WORDS => k_is)
    (case h_v_LEAST_BLOCKS => k_is)
    (case h_v_MOST_BLOCKS => k_is)
    (case h_v_HEAD_SIGN => k_is)
    (case h_v_MAPS_AT => k_is)
    (case h_v_MOST_TABLES => k_is)
    (case h_x_BadDisk => k_exc)
    (case h_x_NoRoom => k_exc)
    (case h_g0_BadDisk => k_is)
    (case h_g1_BadDisk => k_is)
    (case h_g2_BadDisk => k_is)
    (case h_g3_BadDisk => k_is)
    (case h_g4_BadDisk => k_is)
    (case h_g5_BadDisk => kernel_rfl)
    (case h_g6_BadDisk => kernel_rfl)
    (case h_g0_NoRoom => k_is)
    (case h_g1_NoRoom => k_is)
    (case h_g2_NoRoom => k_is)
    (case h_g3_NoRoom => k_is)
    (case h_g4_NoRoom => k_is)
    (case h_g5_NoRoom => kernel_rfl)
    (case h_g6_NoRoom => kernel_rfl)
    (case h_h0_KeepError => kernel_rfl)
    (case h_h1_KeepError => k_is)
    (case h_s_BadDisk_KeepError => k_is)
    (case h_s_NoRoom_KeepError => k_is)
    (case h_h0_NoRoom => kernel_rfl)
    (case h_h1_NoRoom => k_is)
    (case h_s_BadDisk_NoRoom => k_is)
    (case h_s_NoRoom_NoRoom => k_is)
    (case h_q_BadDisk_BadDisk => kernel_rfl)
    (case h_q_BadDisk_NoRoom => kernel_rfl)
    (case h_q_BadDisk_NoBlock => kernel_rfl)
    (case h_q_BadDisk_ValueError => kernel_rfl)
    (case h_q_NoRoom_BadDisk => kernel_rfl)
    (case h_q_NoRoom_NoRoom => kernel_rfl)
    (case h_q_NoRoom_NoBlock => kernel_rfl)
    (case h_q_NoRoom_ValueError => kernel_rfl)
    (case h_pg_Layout => k_is)
    (case h_hd_Layout => k_is)
    (case h_po_Layout => k_is)
    (case h_sa_Layout => k_is)
    (case h_na_many => k_is)
    (case h_na_tables => k_is)
    (case h_na_maps_at => k_is)
    (case h_na_nodes_at => k_is)
    (case h_na_data_at => k_is)
    (case h_mk_Layout => k_is)
    (case h_i_fLayout_init => k_is)
    (case h_kc_Layout => k_is)
    (case h_i_f_most_node => k_is)
    (case h_kp_f_most_node => k_is)
    (case h_l1 => k_is)
    (case h_c1 => k_is)
    (case h_k1 => k_is)
    (case h_l2 => k_is)
    (case h_c2 => k_is)
    (case h_k2 => k_is)
    (case h_l3 => k_is)
    (case h_c3 => k_is)
    (case h_k3 => k_is)
    (case h_l4 => k_is)
    (case h_c4 => k_is)
    (case h_k4 => k_is)
    (case h_l5 => k_is)
    (case h_c5 => k_is)
    (case h_k5 => k_is)
    (case h_l6 => k_is)
    (case h_c6 => k_is)
    (case h_k6 => k_is)
    (case h_l7 => k_is)
    (case h_c7 => k_is)
    (case h_k7 => k_is)
    (case h_l8 => k_is)
    (case h_c8 => k_is)
    (case h_k8 => k_is)
    (case h_l9 => k_is)
    (case h_c9 => k_is)
    (case h_k9 => k_is)
    (case h_l10 => k_is)
    (case h_c10 => k_is)
    (case h_k10 => k_is)
    (case h_l11 => k_is)
    (case h_c11 => k_is)
    (case h_k11 => k_is)
    (case h_l12 => k_is)
    (case h_c12 => k_is)
    (case h_k12 => k_is)
    (case h_l13 => k_is)
    (case h_c13 => k_is)
    (case h_k13 => k_is)
    (case h_l14 => k_is)
    (case h_c14 => k_is)
    (case h_k14 => k_is)
    (case h_l15 => k_is)
    (case h_c15 => k_is)
    (case h_k15 => k_is)
    (case h_l16 => k_is)
    (case h_c16 => k_is)
    (case h_k16 => k_is)
    (case h_l17 => k_is)
    (case h_c17 => k_is)
    (case h_k17 => k_is)
end
