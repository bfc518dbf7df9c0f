import PyProof.Rows.All
import Wide.All
import OpenK.AllK
import Wide.FinOn
import Lean
import PyProof.EqAt
import PyProof.EqKinds
import PyProof.TupleCall
import PyProof.EqLayable
import PyProof.ConsumeWalk
import PySem.Challenge.RW_blockkeep_k14_whole_no_room
set_option Elab.async false
set_option linter.all false
set_option maxRecDepth 100000
set_option maxHeartbeats 4000000
local macro_rules | `(tactic| omega) => `(tactic| first | lia | omega +splitNatSub)
section
namespace L2
open PySem PySem.Spec PyProof.Rows
def Ctx (h:Heap) (e:Addr) (vs:Array Value):Prop:=vs[2]? = some .none∨∃ (b:Addr) (ob:Obj) (vb:Array Value),vs[2]? = some (.ref b)∧b≠e∧h.get? b=some ob∧ob.data=.fields vb∧vb[2]? = some .none
def HdAt (A:Around) (h:Heap):Prop:=A.handled=none∨∃ (e:Addr) (oe:Obj) (vs:Array Value),A.handled=some (.ref e)∧h.get? e=some oe∧oe.data=.fields vs∧Ctx h e vs
def zSq (A:Around) (h:Heap) (a:Addr):Prop:=A.handled=none∨∃ (e:Addr) (oe:Obj) (vs:Array Value),A.handled=some (.ref e)∧e≠a∧h.get? e=some oe∧oe.data=.fields vs ∧
 (vs[2]? = some .none∨∃ (b:Addr) (ob:Obj) (vb:Array Value),vs[2]? = some (.ref b)∧b≠e∧b≠a∧h.get? b=some ob∧ob.data=.fields vb∧vb[2]? = some .none)
theorem zD8:entryFor table "proto.unchain" = some Builtin.«proto.unchain» := entryFor_of_fast (by kernel_rfl)
section
variable {prog:Program}{w:World}{A:Around}{E:Value→Shared→Prop}{s:Shared}
theorem zGb {v o slow:Value}{t:Bool}{a:Addr}{oo:Obj}{vs:Array Value}{R:Result→Shared→Prop}(ho:o=.ref a) (hoe:s.heap.get? a=some oo) (hde:oo.data=.fields vs) (h2:vs[2]? = some .none)
  (h:R (.ok (.ret .none)) s):codeAny (model prog w) A (.builtin "proto.unchain" ⟨[v,o,slow,.bool t],[]⟩) R s:=by
 subst ho
 refine codeAny_builtin zD8 ?_
 unfold Builtin.«proto.unchain»
 refine wpAny_bind (wpAny_field hoe hde h2 ?_)
 rw [if_pos (by rfl)]
 refine wpAny_bind (wpAny_pure (wpAny_pure ?_))
 exact h
theorem zCv {α:Type}{a:Addr}{o:Obj}{vs:Array Value}{Q:α→Shared→Prop}(hd:zSq A s.heap a) (ho:s.heap.get? a=some o) (hdt:o.data=.fields vs) (h3:2 < vs.size)
  (h:∀ h',Heap.SameBut a s.heap h'→(∃ o' v,h'.get? a=some o'∧o'.cls=o.cls∧o'.dict=o.dict∧o'.data=.fields (vs.setIfInBounds 2 v)∧(A.handled=none→h'=s.heap)∧∀ e,A.handled=some (.ref e)→v=.ref e)→E (.ref a) { s with heap:=h' }):wpAny (model prog w) A (raiseNew (.ref a):Sem α) Q E s:=by
 unfold raiseNew
 refine wpAny_bind (wpAny_handled ?_)
 rcases hd with hn | ⟨e,oe,es,he,ne0,hoe,hde,h2⟩
 ·rw [hn]
  have hx:vs.setIfInBounds 2 vs[2]=vs:=Array.ext (by simp) fun i h1 h2=>by
   rw [Array.getElem_setIfInBounds]
   split
   ·rename_i z;subst z;rfl
   ·rfl
  exact wpAny_bind (wpAny_pure (wpAny_throw (h s.heap (Heap.SameBut.refl ..) ⟨o,vs[2],ho,rfl,rfl,by rw [hx];exact hdt,fun _=>rfl,fun e he=>by rw [hn] at he;cases he⟩)))
 ·rw [he]
  have ne:(Value.ref e != Value.ref a)=true:=by simp [ne0]
  dsimp only
  rw [if_pos ne]
  have fin:wpAny (model prog w) A (updateField a 2 (.ref e) >>= fun _=>throw (.ref a)) Q E s :=
   wpAny_bind (show wpAny _ _ (setField (.ref a) 2 (.ref e)) _ _ _ from wpAny_setField ho hdt h3 (wpAny_throw (h _ (Heap.SameBut.update ..)
    ⟨_,.ref e,Heap.get?_update_self _ ho (Obj.isFreed_of_fields (Obj.data_mapFields hdt _)),Obj.cls_mapFields ..,(by unfold Obj.mapFields;split <;> rfl),Obj.data_mapFields hdt _,fun z=>(by rw [he] at z;cases z),fun e' z=>(by rw [he] at z;cases z;rfl)⟩)))
  refine wpAny_bind (wpAny_holding (wpAny_runValue ?_))
  rcases h2 with h2 | ⟨b,ob,vb,h2,hbe,hba,hob,hdb,hb2⟩
  ·exact zGb rfl hoe hde h2 fin
  ·refine codeAny_builtin zD8 ?_
   unfold Builtin.«proto.unchain»
   refine wpAny_bind (wpAny_field hoe hde h2 ?_)
   rw [if_neg (by simp),if_neg (by simp [hba]),if_neg (by simp [hbe])]
   refine wpAny_bind (wpAny_pure ?_)
   exact wpAny_pure ⟨Code.quiet_builtin _ (by decide +kernel),zGb rfl hob hdb hb2 fin⟩
theorem HdAt.two {A:Around}{h h':Heap}{it:Addr}{o1 o2:Obj}(x:HdAt A h) (k:∀ b o,b≠it→h.get? b=some o→h'.get? b=some o) (hi:∀ oe vs,h.get? it=some oe→oe.data=.fields vs→vs[2]? ≠ some .none∧∀ b,vs[2]? ≠ some (.ref b)) :
  zSq A ((h'.push o1).push o2) (h'.push o1).objs.size:=by
 rcases x with x | ⟨e,oe,vs,a,b,c,d⟩
 ·exact .inl x
 ·have b':=k e oe (fun z=>by
   have:=hi oe vs (z ▸ b) c
   rcases d with d | ⟨b,_,_,d,_⟩
   ·exact this.1 d
   ·exact this.2 b d) b
  have nw:∀ {c o},h'.get? c=some o→c≠(h'.push o1).objs.size:=fun {c o} z=>by
   rw [Heap.size_push]
   exact Nat.ne_of_lt (Nat.lt_succ_of_lt (Heap.lt_size z))
  refine .inr ⟨e,oe,vs,a,nw b',Heap.get?_push_of_some _ (Heap.get?_push_of_some _ b'),c,?_⟩
  rcases d with d | ⟨b,ob,vb,d1,d2,d3,d4,d5⟩
  ·exact .inl d
  ·have d3':=k b ob (fun z=>(hi ob vb (z ▸ d3) d4).1 d5) d3
   exact .inr ⟨b,ob,vb,d1,d2,nw d3',Heap.get?_push_of_some _ (Heap.get?_push_of_some _ d3'),d4,d5⟩
theorem zIp {it l:Addr}{i:Nat}{items:Array Value}{Q:Option Value→Shared→Prop}(hh:HdAt A s.heap)
  (hit:s.heap.IsListIter it l i) (hl:s.heap.IsList l items) (hx:items[i]? = none)
  (hQ:∀ h',Heap.ExtBut it s.heap h'→Q none { s with heap:=h' }):wpAny (model prog w) A (pyNext (.ref it)) Q E s:=by
 obtain ⟨o,ho,hc,hd⟩:=id hit
 obtain ⟨ol,hol,_,nl,hdl⟩:=hl
 unfold pyNext
 refine wpAny_bind (wpAny_attempt (wpAny_callSpecial?_slot (name:=Str.ofString "__next__") hit.typeIs slot_listiter_next
  (wpAny_call_entry slot_listiter_next hit.typeIs entry_listiter_next ?_ (args_listiter_next _))))
 show wpAny _ _ (field (.ref it) 0 >>= _) _ _ s
 refine wpAny_bind (wpAny_field ho hd (x:=.ref l) rfl ?_)
 show wpAny _ _ (if (Value.ref l == Value.none)=true then _ else _) _ _ s
 rw [if_neg (show ¬ ((Value.ref l == Value.none)=true) from Bool.false_ne_true)]
 show wpAny _ _ (field (.ref it) 1 >>= _) _ _ s
 refine wpAny_bind (wpAny_field ho hd (x:=.int i 0) rfl ?_)
 show wpAny _ _ (seqItems? (.ref l) >>= _) _ _ s
 refine wpAny_bind (wpAny_seqItems hol hdl ?_)
 simp only [Int.toNat_natCast,hx]
 refine wpAny_bind (wpAny_rule (wpAny_bind (wpAny_setField ho hd (by simp) ?_)))
 show wpAny _ _ (newExc (.type "StopIteration") [] >>= _) _ _ _
 refine wpAny_bind ?_
 simp only [newExc,newTuple]
 refine wpAny_bind (wpAny_newObj_type ?_ (by size_fits))
 refine wpAny_bind (m:=firstArgMember _ _) (wpAny_of_eq (a:=Value.none) (by first | rfl | (simp only [firstArgMember];rfl)) ?_)
 refine wpAny_newObj_type ?_ (by size_fits)
 refine zCv (HdAt.two (A:=A.in1) (it:=it) hh (fun b o' hb e=>(Heap.SameBut.update ..).extBut b o' hb e) (fun oe vs e e2=>by rw [ho] at e;cases e;rw [hd] at e2;cases e2;exact ⟨by simp,by simp⟩)) (Heap.get?_push_size _ rfl) rfl (by simp;omega) fun h' sb ⟨o',_,ho',hc',_⟩=>?_
 refine wpAny_bind (wpAny_isInstance (T := "StopIteration") (b:=true) ⟨_,ho',hc'⟩ isSubtype_stop ?_)
 refine wpAny_pure (hQ _ fun b ob hb e=>(sb.2 b ?_).trans (((Heap.SameBut.update ..).extBut.push _).push _ b ob hb e))
 exact Nat.ne_of_lt (Nat.lt_of_lt_of_le (Heap.lt_size e) (by rw [Heap.size_push,Heap.size_after_update];exact Nat.le_succ _))
theorem zGi {it:Addr}{x left step:Int}{Q:Option Value→Shared→Prop}(hh:HdAt A s.heap) (hit:IsRangeIter s.heap it x left step) (hleft:left≤0)
  (hQ:∀ h',Heap.ExtBut it s.heap h'→Q none { s with heap:=h' }):wpAny (model prog w) A (pyNext (.ref it)) Q E s:=by
 have hT:s.TypeIs (.ref it) "range_iterator" := ⟨_,hit,rfl⟩
 unfold pyNext
 refine wpAny_bind (wpAny_attempt (wpAny_callSpecial?_slot (name:=Str.ofString "__next__") hT F.slot_range_iterator_next
  (wpAny_call_entry F.slot_range_iterator_next hT F.entry_range_iterator_next ?_ (F.args_range_iterator_next_1 _))))
 show wpAny _ _ (field (.ref it) 0 >>= _) _ _ s
 refine wpAny_bind (wpAny_field hit rfl (x:=rawInt x) rfl ?_)
 show wpAny _ _ (field (.ref it) 1 >>= _) _ _ s
 refine wpAny_bind (wpAny_field hit rfl (x:=rawInt left) rfl ?_)
 show wpAny _ _ (field (.ref it) 2 >>= _) _ _ s
 refine wpAny_bind (wpAny_field hit rfl (x:=rawInt step) rfl ?_)
 show wpAny _ _ (if left≤0 then _ else _) _ _ s
 rw [if_pos hleft]
 refine wpAny_bind (wpAny_rule ?_)
 refine wpAny_bind ?_
 show wpAny _ _ (newExc (.type "StopIteration") [] >>= _) _ _ _
 refine wpAny_bind ?_
 simp only [newExc,newTuple]
 refine wpAny_bind (wpAny_newObj_type ?_ (by size_fits))
 refine wpAny_bind (m:=firstArgMember _ _) (wpAny_of_eq (a:=Value.none) (by first | rfl | (simp only [firstArgMember];rfl)) ?_)
 refine wpAny_newObj_type ?_ (by size_fits)
 refine zCv (HdAt.two (A:=A.in1) (it:=it) hh (fun b o' hb e=>e) (fun oe vs e e2=>by rw [show s.heap.get? it=some _ from hit] at e;cases e;cases e2;exact ⟨by simp [rawInt],by simp [rawInt]⟩)) (Heap.get?_push_size _ rfl) rfl (by simp;omega) fun h' sb ⟨o',_,ho',hc',_⟩=>?_
 refine wpAny_bind (wpAny_isInstance (T := "StopIteration") (b:=true) ⟨_,ho',hc'⟩ isSubtype_stop ?_)
 refine wpAny_pure (hQ _ fun b ob hb e=>(sb.2 b ?_).trans (((Heap.ExtBut.refl it s.heap).push _).push _ b ob hb e))
 exact Nat.ne_of_lt (Nat.lt_of_lt_of_le (Heap.lt_size e) (by rw [Heap.size_push];exact Nat.le_succ _))
end
section
variable {prog:Program}{w:World}{A:Around}{E:Value→Shared→Prop}{s:Shared}{K:PySem.W.Frag}{e D:Addr}{oe:Obj}
open PySem.Calls PySem.W in
theorem zNp {Q:Option Value→Shared→Prop}(X:K.In s.heap) (I:PySem.W.InstAt s.heap e oe D none) (hga:findIn K (.ref D) "__getattribute__" = some (some (.builtin "BaseException.__getattribute__"))) (hk:findIn K (.ref D) "__getattr__" = some none)
  (ha:findIn K (.ref D) "__class__" = some (some (.builtin "object.__class__"))) (hB:mroIn K D (.type "BaseException")=some true) (hm:mroIn K D (.type "object")=some true)
  (hf:findObj K D none "__class__" = some (.bind (.builtin "getset_descriptor.__get__") (.builtin "object.__class__")))
  (h:Q (some (.ref D)) { s with toks:=s.toks + 1 }):wpAny (model prog w) A (getAttr? (.ref e) "__class__") Q E s:=by
 obtain ⟨h0,g,d,t,os⟩:=s
 have L0:=I.type (M:=model prog w)
 have L1:=looks_findIn (M:=model prog w) X hga
 have L2:=looks_findIn (M:=model prog w) X hk
 have L3:=looks_findIn (M:=model prog w) X ha
 have L4:=looks_mroIn (M:=model prog w) X hB
 unfold getAttr? getAttrBy? getAttrBy
 refine wpAny_bind (wpAny_mkText (wpAny_bind (wpAny_attempt (wpAny_holding (wpAny_bind (L0.at (wpAny_bind (L1.at ?_))))))))
 show wpAny _ _ (getAttrByItsOwn _ _ _ _ _ _) _ _ _
 unfold getAttrByItsOwn hookBefore
 rw [if_pos (show onTheHeap (Value.ref D)=true from rfl)]
 have L5:=looks_find (M:=model prog w) X I hf
 refine wpAny_bind (L2.at (wpAny_bind (wpAny_attempt (wpAny_holding ?_))))
 unfold callGetattribute
 rw [if_neg (by decide)]
 unfold boundAndCalled
 refine wpAny_bind (wpAny_of_eq (PySem.F.attr_ValueError.ga.bind (.ref e)) ?_)
 refine wpAny_call (codeAny_call_builtin PySem.F.attr_ValueError.ga.plain F.entry_bexc_ga ?_)
 have hk':builtinKind "BaseException.__getattribute__" = some .slot:=by decide +kernel
 have hsplit:splitId "BaseException.__getattribute__" = some ("BaseException", "__getattribute__"):=by decide +kernel
 have harg:=F.args_bexc_ga (.ref e) (.str "__class__" t)
 simp only [checkBuiltinCall,hk',hsplit]
 refine wpAny_bind ?_
 unfold isInstance
 refine wpAny_bind (L0.at (L4.at ?_))
 rw [if_neg (by decide)]
 refine wpAny_of_eq harg ?_
 unfold Builtin.«object.__getattribute__»
 refine wpAny_bind (wpAny_pure (wpAny_bind (wpAny_pure (wpAny_bind (L0.at (wpAny_bind (L5.at ?_)))))))
 unfold Builtin.ObjectAttr.bindTo
 refine wpAny_bind (wpAny_holding (wpAny_call (PySem.W.class_get (ox:=oe) (od:=none) X I hm ?_)))
 refine wpAny_pure ?_
 exact handed_on rfl (wpAny_pure h)
structure ExcK (K:PySem.W.Frag) (D:Addr):Prop where
 ga:PySem.W.findIn K (.ref D) "__getattribute__" = some (some (.builtin "BaseException.__getattribute__"))
 gr:PySem.W.findIn K (.ref D) "__getattr__" = some none
 cl:PySem.W.findIn K (.ref D) "__class__" = some (some (.builtin "object.__class__"))
 bx:PySem.W.mroIn K D (.type "BaseException")=some true
 ob:PySem.W.mroIn K D (.type "object")=some true
 fd:PySem.W.findObj K D none "__class__" = some (.bind (.builtin "getset_descriptor.__get__") (.builtin "object.__class__"))
 is:(PySem.W.clsIn K D).isSome=true
open PySem.Calls PySem.W in
theorem zO1 (F:ExcK K D):KitX K (.ref e) (.ref D) (fun h=>∃ oe,PySem.W.InstAt h e oe D none) where
 ty:=fun _ _ _ ⟨_,I⟩=>I.type
 it:=fun _ _ X _=>by
  obtain ⟨cdD,hcD⟩:=Option.isSome_iff_exists.mp F.is
  unfold clsIn at hcD
  split at hcD
  ·rename_i c' d' cd' sl' ho
   intro A' Q' E' s' k q
   unfold isType loadHead
   exact wpAny_bind (wpAny_loadPart (k _ _ (X _ _ ho)) (wpAny_pure q))
  ·cases hcD
 ne:=fun h tp dd its n sl X htp=>by
  obtain ⟨cdD,hcD⟩:=Option.isSome_iff_exists.mp F.is
  refine Bool.eq_false_iff.mpr fun q=>?_
  have e:D=tp:=Value.ref.inj (beq_iff_eq.mp q)
  subst e
  unfold clsIn at hcD
  split at hcD
  ·rename_i c' d' cd' sl' ho
   have z:=(X _ _ ho).symm.trans htp
   cases z
  ·cases hcD
 ca:=fun X ⟨_,I⟩ k=>zNp X I F.ga F.gr F.cl F.bx F.ob F.fd k
end
end L2
namespace L2
open PySem PySem.Spec PyProof.Rows
abbrev Key:=Sum Int Str
def zIr:Key→Value→Bool
 | .inl k,v=>Value.isInt k v
 | .inr x,v=>Value.isStrOf x v
def zT9 (w:World):Key→Int
 | .inl k=>hashInt k
 | .inr x=>hashStr w x
theorem keyIs_shape:∀ {k:Key}{v:Value},zIr k v=true→(∃ i t,k=Sum.inl i∧v=Value.int i t)∨(∃ x t,k=Sum.inr x∧v=Value.str x t)
 | .inl i,v,h=>by
  obtain ⟨t,e⟩:=Value.isInt_shape (k:=i) (v:=v) h
  exact .inl ⟨i,t,rfl,e⟩
 | .inr x,v,h=>by
  obtain ⟨t,e⟩:=Value.isStrOf_shape (x:=x) (v:=v) h
  exact .inr ⟨x,t,rfl,e⟩
theorem zNb (i:Int) (t:Tok):zIr (.inl i) (.int i t)=true:=by simp [zIr,Value.isInt]
theorem zNa (x:Str) (t:Tok):zIr (.inr x) (.str x t)=true:=by simp [zIr,Value.isStrOf]
theorem zSf (a b:Int):decide ((Sum.inl a:Key)=Sum.inl b)=(a == b):=by
 by_cases e:a=b
 ·subst e;simp
 ·have h:¬ (Sum.inl a:Key)=Sum.inl b:=fun q=>e (Sum.inl.inj q)
  rw [decide_eq_false h]
  exact (beq_eq_false_iff_ne.mpr e).symm
theorem zSc (a b:Str):decide ((Sum.inr a:Key)=Sum.inr b)=decide (a=b):=by
 by_cases e:a=b
 ·subst e;simp
 ·have h:¬ (Sum.inr a:Key)=Sum.inr b:=fun q=>e (Sum.inr.inj q)
  rw [decide_eq_false h,decide_eq_false e]
theorem zSe (a:Int) (b:Str):decide ((Sum.inl a:Key)=Sum.inr b)=false:=decide_eq_false (fun q=>nomatch q)
theorem zSd (a:Str) (b:Int):decide ((Sum.inr a:Key)=Sum.inl b)=false:=decide_eq_false (fun q=>nomatch q)
def zAh (prog:Program) (w:World):PySem.KeyKind prog w Key where
 is:=zIr
 hash:=zT9 w
 inj:=fun v a b ha hb=>by
  rcases keyIs_shape ha with ⟨i,t,rfl,rfl⟩ | ⟨x,t,rfl,rfl⟩
  ·rcases keyIs_shape hb with ⟨j,u,rfl,e⟩ | ⟨y,u,rfl,e⟩
   ·injection e with e1 _;rw [e1]
   ·exact nomatch e
  ·rcases keyIs_shape hb with ⟨j,u,rfl,e⟩ | ⟨y,u,rfl,e⟩
   ·exact nomatch e
   ·injection e with e1 _;rw [e1]
 byValue:=fun k v h=>by
  rcases keyIs_shape h with ⟨i,t,rfl,rfl⟩ | ⟨x,t,rfl,rfl⟩ <;> rfl
 pyHash:=fun hv h=>by
  rcases keyIs_shape hv with ⟨i,t,rfl,rfl⟩ | ⟨x,t,rfl,rfl⟩
  ·exact wpAny_pyHash_int h
  ·exact wpAny_pyHash_str h
 eqBool:=fun hu hv h=>by
  rcases keyIs_shape hu with ⟨i,t,rfl,rfl⟩ | ⟨x,t,rfl,rfl⟩
  ·rcases keyIs_shape hv with ⟨j,u,rfl,rfl⟩ | ⟨y,u,rfl,rfl⟩
   ·rw [zSf] at h;exact wpAny_eqBool_int h
   ·rw [zSe] at h;exact SeqAt.EqAt.int_str i t y u _ _ _ _ h
  ·rcases keyIs_shape hv with ⟨j,u,rfl,rfl⟩ | ⟨y,u,rfl,rfl⟩
   ·rw [zSd] at h;exact SeqAt.EqAt.str_int x t j u _ _ _ _ h
   ·rw [zSc] at h;exact wpAny_eqBool_str h
 «strs» := fun k x t v h=>by
  rcases keyIs_shape h with ⟨i,u,rfl,e⟩ | ⟨y,u,rfl,e⟩
  ·exact nomatch e
  ·injection e with e1 _
   subst e1
   cases v <;> rfl
theorem zJu (prog:Program) (w:World) (i:Int) (t:Tok):(zAh prog w).is (.inl i) (.int i t)=true:=zNb i t
theorem zJt (prog:Program) (w:World) (x:Str) (t:Tok):(zAh prog w).is (.inr x) (.str x t)=true:=zNa x t
end L2
namespace L2
open PySem PySem.Spec PyProof.Rows
inductive V where
 | non | bl (b:Bool) | int (i:Int) | str (x:Str) | byt (b:Array UInt8) | flt (b:UInt64) | ref (a:Addr) | ty (n:String)
 deriving DecidableEq
def RelV:V→Value→Prop
 | .non,u=>u=Value.none
 | .bl b,u=>u=Value.bool b
 | .int i,u=>∃ t,u=Value.int i t
 | .str x,u=>∃ t,u=Value.str x t
 | .byt b,u=>∃ t,u=Value.bytes b t
 | .flt b,u=>∃ t,u=Value.float b t
 | .ref a,u=>u=Value.ref a
 | .ty n,u=>u=Value.type n
abbrev Vals:List V→List Value→Prop:=Paired RelV
theorem Vals.length {xs:List V}{us:List Value}(r:Vals xs us):xs.length=us.length:=Paired.length r
theorem Vals.get:∀ {xs:List V}{us:List Value}{i:Nat}{x:V},Vals xs us→xs[i]? = some x→∃ u,us[i]? = some u∧RelV x u
 | _,_,_,_,.nil,e=>by simp at e
 | _,_,0,_,.cons r _,e=>by simp at e;subst e;exact ⟨_,rfl,r⟩
 | _,_,i + 1,x,.cons _ t,e=>by
  obtain ⟨u,h1,h2⟩:=Vals.get (i:=i) (x:=x) t (by simpa using e)
  exact ⟨u,by simpa using h1,h2⟩
theorem Vals.set {x:V}{u:Value}(r:RelV x u):∀ {xs:List V}{us:List Value}(i:Nat),Vals xs us→Vals (xs.set i x) (us.set i u)
 | _,_,_,.nil=>.nil
 | _,_,0,.cons _ t=>.cons r t
 | _,_,i + 1,.cons q t=>.cons q (Vals.set r i t)
theorem Vals.append:∀ {xs ys:List V}{us ws:List Value},Vals xs us→Vals ys ws→Vals (xs ++ ys) (us ++ ws)
 | _,_,_,_,.nil,s=>s
 | _,_,_,_,.cons r t,s=>.cons r (Vals.append t s)
theorem Vals.take:∀ {xs:List V}{us:List Value}(n:Nat),Vals xs us→Vals (xs.take n) (us.take n)
 | _,_,0,_=>.nil
 | _,_,_ + 1,.nil=>.nil
 | _,_,n + 1,.cons r t=>.cons r (Vals.take n t)
theorem Vals.drop:∀ {xs:List V}{us:List Value}(n:Nat),Vals xs us→Vals (xs.drop n) (us.drop n)
 | _,_,0,r=>r
 | _,_,_ + 1,.nil=>.nil
 | _,_,n + 1,.cons _ t=>Vals.drop n t
def RelO:Option V→Option Value→Prop
 | some v,some u=>RelV v u
 | none,none=>True
 | _,_=>False
def KV {κ:Type}:List (κ × V)→List (κ × Value)→Prop:=Paired fun (p:κ × V) (q:κ × Value)=>p.1=q.1∧RelV p.2 q.2
def kV:Key→V
 | .inl i=>.int i
 | .inr x=>.str x
inductive HO where
 | lst (xs:List V)
 | tup (xs:List V)
 | dK (kvs:List (Key × V)) | dT (kvs:List (List Key × V))
 | set (S:Int→Bool) (n:Nat)
 | ins (C dx:Addr) (fs:List (Str × V))
 | own (x:Addr)
 | xd (fs:List (Str × V))
 | met (f x:Addr)
 | rng (lo hi:Int)
 | frz (o:Obj) (u:HO)
 | tbl (ps:Array Value)
 | exc (cls:Value)
 | ext (φ:Heap→Prop)
abbrev Hp:=Addr→Option HO
def upd (H:Hp) (a:Addr) (o:HO):Hp:=fun b=>if b=a then some o else H b
theorem zB {H:Hp}{a:Addr}{o:HO}:upd H a o a=some o:=by unfold upd;rw [if_pos rfl]
theorem upd_ne {H:Hp}{a b:Addr}{o:HO}(h:b≠a):upd H a o b=H b:=by unfold upd;rw [if_neg h]
theorem zEe {H:Hp}{a:Addr}{o u:HO}:upd (upd H a o) a u=upd H a u:=by
 funext b;unfold upd;split <;> rfl
theorem ze {H:Hp}{a b:Addr}{o u:HO}(h:H a=some o) (h':H b=some u) (d:o≠u):a≠b:=by
 intro e;subst e;rw [h] at h';exact d (Option.some.inj h')
theorem zJ {H:Hp}{a b:Addr}{o:HO}(h:H a=some o) (h':H b=none):a≠b:=by
 intro e;subst e;rw [h] at h';cases h'
section
variable (P:Program) (w:World)
def ObjOk (H:Hp) (h:Heap) (a:Addr):HO→Prop
 | .lst xs=>xs.length≤sizeLine∧∃ (its:List Value) (n:Nat),Vals xs its∧h.get? a=some { cls:=.type "list", data:=.seq its.toArray n }
 | .tup xs=>xs.length≤sizeLine∧∃ its:List Value,Vals xs its∧IsTup h a its.toArray
 | .dK kvs=>kvs.length≤sizeLine∧(a == sysModules)=false∧∃ vs,KV kvs vs∧h.DictOf (zAh P w) a vs
 | .dT kvs=>kvs.length≤sizeLine∧(a == sysModules)=false∧∃ xs:List (List Key × Addr × Value),
   Paired (fun (p:List Key × V) (q:List Key × Addr × Value)=>p.1=q.1∧H q.2.1=some (.tup (p.1.map kV))∧RelV p.2 q.2.2) kvs xs ∧
   ∃ o es ep,h.get? a=some o∧o.ExactDict∧o.data=.dict es ep∧es.toList=xs.map (entryOfKey (tupleKind (zAh P w)))∧(xs.map (·.1)).Nodup
 | .set S n=>h.SetOf (intKind P w) a S n
 | .ins C dx fs=>H dx=some (.own a)∧fs.length≤1000∧dx≠a∧h.get? a=some (PySem.W.instObj C dx) ∧
   ∃ mA,h.Ns1 dx mA∧(∀ f,RelO (fs.lookup f) (mA f))∧PySem.Within mA (fs.map (·.1))
 | .own _=>∃ o,h.get? a=some o
 | .xd fs=>∃ mA,h.Ns1 a mA∧∀ f,RelO (fs.lookup f) (mA f)
 | .rng lo hi=>∃ t u v,h.get? a=some { cls:=.type "range", data:=.fields #[.int lo t,.int hi u,.int 1 v] }
 | .frz o u=>h.get? a=some o∧ObjOk H h a u
 | .tbl ps=>h.get? a=some { cls:=.none,data:=.fields ps }
 | .met f x=>h.get? a=some (PySem.W.methodObj (.ref f) (.ref x))
 | .exc c=>∃ oe vs,h.get? a=some oe∧oe.cls=c∧oe.dict=none∧oe.data=.fields vs∧(vs[2]? = some .none∨∃ b ob vb,vs[2]? = some (.ref b)∧b≠a∧H b=some (.own a)∧h.get? b=some ob∧ob.data=.fields vb∧vb[2]? = some .none)
 | .ext φ=>φ h∧(∃ o,h.get? a=some o)∧∀ h1 h2:Heap,φ h1→(∀ o,h1.get? a=some o→h2.get? a=some o)→φ h2
def HOk (H:Hp) (h:Heap):Prop:=∀ a o,H a=some o→ObjOk P w H h a o
end
section
variable {P:Program}{w:World}{H H':Hp}{h h':Heap}{a:Addr}{o:HO}
theorem ObjOk.lt (x:ObjOk P w H h a o):a < h.objs.size:=by
 cases o with
 | lst xs=>obtain ⟨_,_,_,_,e⟩:=x;exact Heap.lt_size e
 | tup xs=>obtain ⟨_,_,_,p⟩:=x;exact p.lt
 | dK kvs=>obtain ⟨_,_,_,_,o,_,_,e,_⟩:=x;exact Heap.lt_size e
 | dT kvs=>obtain ⟨_,_,_,_,o,_,_,e,_⟩:=x;exact Heap.lt_size e
 | set S n=>obtain ⟨o,_,_,_,e,_⟩:=x;exact Heap.lt_size e
 | ins C dx fs=>obtain ⟨_,_,_,e,_⟩:=x;exact Heap.lt_size e
 | own y=>obtain ⟨_,e⟩:=x;exact Heap.lt_size e
 | xd fs=>obtain ⟨_,⟨_,_,_,e,_⟩,_⟩:=x;exact Heap.lt_size e
 | rng lo hi=>obtain ⟨_,_,_,e⟩:=x;exact Heap.lt_size e
 | frz ob u=>obtain ⟨e,_⟩:=x;exact Heap.lt_size e
 | tbl ps=>exact Heap.lt_size (show h.get? a=some _ from x)
 | met f y=>exact Heap.lt_size (show h.get? a=some _ from x)
 | ext φ=>obtain ⟨_,⟨_,e⟩,_⟩:=x;exact Heap.lt_size e
 | exc c=>obtain ⟨_,_,e,_⟩:=x;exact Heap.lt_size e
theorem Paired.mapP {α β:Type}{F G:α→β→Prop}:∀ {l₁:List α}{l₂:List β},Paired F l₁ l₂→(∀ a b,F a b→G a b)→Paired G l₁ l₂
 | _,_,.nil,_=>.nil
 | _,_,.cons r t,f=>.cons (f _ _ r) (Paired.mapP t f)
theorem ObjOk.stay (x:ObjOk P w H h a o) (k:∀ b u,(b=a∨H b=some (.own a))→h.get? b=some u→h'.get? b=some u)
  (ho:∀ b,H b=some (.own a)→H' b=some (.own a)) (ht:∀ b xs,H b=some (.tup xs)→H' b=some (.tup xs)):ObjOk P w H' h' a o:=by
 induction o with
 | lst xs=>obtain ⟨z,its,n,r,e⟩:=x;exact ⟨z,its,n,r,k _ _ (.inl rfl) e⟩
 | tup xs=>obtain ⟨z,its,r,ob,e,c⟩:=x;exact ⟨z,its,r,ob,k _ _ (.inl rfl) e,c⟩
 | dK kvs=>obtain ⟨z,y,vs,r,ob,es,ep,e,c⟩:=x;exact ⟨z,y,vs,r,ob,es,ep,k _ _ (.inl rfl) e,c⟩
 | dT kvs =>
  obtain ⟨z,y,xs,r,ob,es,ep,e,c⟩:=x
  exact ⟨z,y,xs,Paired.mapP r fun p q z=>⟨z.1,ht _ _ z.2.1,z.2.2⟩,ob,es,ep,k _ _ (.inl rfl) e,c⟩
 | set S n=>obtain ⟨ob,es,ep,t,e,c⟩:=x;exact ⟨ob,es,ep,t,k _ _ (.inl rfl) e,c⟩
 | ins C dx fs =>
  obtain ⟨d,z,ne,e,mA,⟨od,es,ep,e2,c⟩,r⟩:=x
  exact ⟨ho _ d,z,ne,k _ _ (.inl rfl) e,mA,⟨od,es,ep,k _ _ (.inr d) e2,c⟩,r⟩
 | own y=>obtain ⟨ob,e⟩:=x;exact ⟨ob,k _ _ (.inl rfl) e⟩
 | xd fs=>obtain ⟨mA,⟨od,es,ep,e,c⟩,r⟩:=x;exact ⟨mA,⟨od,es,ep,k _ _ (.inl rfl) e,c⟩,r⟩
 | rng lo hi=>obtain ⟨t,u,v,e⟩:=x;exact ⟨t,u,v,k _ _ (.inl rfl) e⟩
 | frz ob u ih=>obtain ⟨e,q⟩:=x;exact ⟨k _ _ (.inl rfl) e,ih q⟩
 | tbl ps =>
  have e:h.get? a=some { cls:=.none,data:=.fields ps }:=x
  show h'.get? a=some { cls:=.none,data:=.fields ps }
  exact k a _ (.inl rfl) e
 | met f y =>
  have e:h.get? a=some (PySem.W.methodObj (.ref f) (.ref y)):=x
  show h'.get? a=some (PySem.W.methodObj (.ref f) (.ref y))
  exact k a _ (.inl rfl) e
 | exc c =>
  obtain ⟨oe,vs,e,r1,r2,r3,r⟩:=x
  refine ⟨oe,vs,k _ _ (.inl rfl) e,r1,r2,r3,?_⟩
  rcases r with r | ⟨b,ob,vb,d1,d2,d3,d4,d5⟩
  ·exact .inl r
  ·exact .inr ⟨b,ob,vb,d1,d2,ho _ d3,k _ _ (.inr d3) d4,d5⟩
 | ext φ=>obtain ⟨p,⟨o,e⟩,st⟩:=x;exact ⟨st _ _ p fun o q=>k _ _ (.inl rfl) q,⟨o,k _ _ (.inl rfl) e⟩,st⟩
theorem HOk.lt (x:HOk P w H h) (e:H a=some o):a < h.objs.size:=(x a o e).lt
theorem HOk.fresh (x:HOk P w H h) (e:h.objs.size≤a):H a=none:=by
 cases q:H a with
 | none=>rfl
 | some u=>exact absurd (Nat.lt_of_lt_of_le (x.lt q) e) (Nat.lt_irrefl _)
theorem HOk.kept (x:HOk P w H h) (k:∀ b u,h.get? b=some u→h'.get? b=some u):HOk P w H h':=fun a o e =>
 (x a o e).stay (fun b u _ q=>k b u q) (fun _ q=>q) fun _ _ q=>q
theorem HOk.laid (x:HOk P w H h) (k:∀ b u,h.get? b=some u→h'.get? b=some u) (hp:h.objs.size≤a) (new:ObjOk P w (upd H a o) h' a o):HOk P w (upd H a o) h':=fun b u e=>by
 have hn:=x.fresh hp
 by_cases hb:b=a
 ·subst hb;rw [zB] at e;cases e;exact new
 ·rw [upd_ne hb] at e
  exact (x b u e).stay (fun c v _ q=>k c v q) (fun c q=>by rw [upd_ne (zJ q hn)];exact q) fun c xs q=>by rw [upd_ne (zJ q hn)];exact q
end
def HdE (A:Around) (H:Hp):Prop:=A.handled=none∨∃ (e:Addr) (c:Value),A.handled=some (.ref e)∧H e=some (.exc c)
theorem HdE.at {P:Program}{w:World}{A:Around}{H:Hp}{h:Heap}(x:HdE A H) (ok:HOk P w H h):HdAt A h:=by
 rcases x with x | ⟨e,c,a,b⟩
 ·exact .inl x
 ·obtain ⟨oe,vs,q,_,_,d,z⟩:=ok e _ b
  refine .inr ⟨e,oe,vs,a,q,d,?_⟩
  rcases z with z | ⟨b,ob,vb,d1,d2,_,d4⟩
  ·exact .inl z
  ·exact .inr ⟨b,ob,vb,d1,d2,d4⟩
def Rd (H:Hp) (a:Addr) (u:HO):Prop:=H a=some u∨∃ o,H a=some (.frz o u)
theorem Rd.ok {P:Program}{w:World}{H:Hp}{h:Heap}{a:Addr}{u:HO}(r:Rd H a u) (x:HOk P w H h):ObjOk P w H h a u:=by
 rcases r with r | ⟨o,r⟩
 ·exact x a u r
 ·obtain ⟨_,q⟩:=x a _ r
  exact q
def Mut:Option HO→Prop
 | some (.lst _)=>True
 | some (.dK _)=>True
 | some (.dT _)=>True
 | some (.set _ _)=>True
 | some (.ins _ _ _)=>True
 | some (.ext _)=>True
 | _=>False
section
variable {P:Program}{w:World}{H:Hp}{h h':Heap}{x e:Addr}{o':HO}
theorem HOk.write (ok:HOk P w H h) (mu:Mut (H x)) (he:e=x∨H e=some (.own x)) (k:∀ b u,b≠e→h.get? b=some u→h'.get? b=some u) (heo:∃ u,h'.get? e=some u)
  (new:ObjOk P w (upd H x o') h' x o'):HOk P w (upd H x o') h':=fun b u q=>by
 have nown:∀ c y,H c=some (.own y)→c≠x:=fun c y r z=>by subst z;rw [r] at mu;exact mu
 have ntup:∀ c xs,H c=some (.tup xs)→c≠x:=fun c xs r z=>by subst z;rw [r] at mu;exact mu
 by_cases hb:b=x
 ·subst hb;rw [zB] at q;cases q;exact new
 ·rw [upd_ne hb] at q
  by_cases hbe:b=e
  ·have q':H b=some (.own x):=by
    rcases he with z | z
    ·exact absurd (hbe.trans z) hb
    ·rw [hbe];exact z
   rw [q] at q';cases q'
   obtain ⟨v,hv⟩:=heo
   exact ⟨v,by rw [hbe];exact hv⟩
  ·refine (ok b u q).stay (fun c v hc r=>k c v ?_ r) (fun c r=>by rw [upd_ne (nown c b r)];exact r) fun c xs r=>by rw [upd_ne (ntup c xs r)];exact r
   rcases hc with rfl | hc
   ·exact hbe
   ·rintro rfl
    rcases he with z | z
    ·exact nown c b hc z
    ·rw [hc] at z;cases z;exact hb rfl
end
structure Un (fs ex:List Addr) (H H':Hp) (h h':Heap):Prop where
 keep:∀ b o,h.get? b=some o→H b=none→b ∉ fs→b ∉ ex→h'.get? b=some o
 slot:∀ b o,h.get? b=some o→H b=none→b ∈ fs→b ∉ ex→∃ sl,h'.get? b=some { o with slots:=sl }
 free:∀ b o,h.get? b=some o→H b=none→b ∉ ex→H' b=none
 there:∀ b o,h.get? b=some o→b ∉ ex→∃ o',h'.get? b=some o'
 tups:∀ b xs,H b=some (.tup xs)→H' b=some (.tup xs)
 frzs:∀ b o u,H b=some (.frz o u)→H' b=some (.frz o u)
 tbls:∀ b ps,H b=some (.tbl ps)→∃ more,H' b=some (.tbl (ps ++ more))
 excs:∀ b c,H b=some (.exc c)→H' b=some (.exc c)
section
variable {fs fs' ex ex':List Addr}{H H1 H2:Hp}{h h1 h2 h':Heap}{a x e:Addr}{o:HO}
theorem Un.any (u:Un fs ex H H1 h h1) {b:Addr}{ob:Obj}(q:h.get? b=some ob) (n:H b=none) (hx:b ∉ ex):∃ sl,h1.get? b=some { ob with slots:=sl }:=by
 by_cases hb:b ∈ fs
 ·exact u.slot b ob q n hb hx
 ·exact ⟨ob.slots,u.keep b ob q n hb hx⟩
theorem Un.kept (k:∀ b u,h.get? b=some u→h'.get? b=some u):Un fs ex H H h h' :=
 ⟨fun b ob q _ _ _=>k b ob q,fun b ob q _ _ _=>⟨ob.slots,k b ob q⟩,fun _ _ _ n _=>n,fun b ob q _=>⟨ob,k b ob q⟩,fun _ _ q=>q,fun _ _ _ q=>q,fun _ ps q=>⟨#[],by rw [q];simp⟩,fun _ _ q=>q⟩
theorem Un.refl:Un fs ex H H h h:=Un.kept fun _ _ q=>q
theorem Un.laid (k:∀ b u,h.get? b=some u→h'.get? b=some u) (hp:h.objs.size≤a) (hn:H a=none):Un fs ex H (upd H a o) h h' where
 keep:=fun b u q _ _ _=>k b u q
 slot:=fun b u q _ _ _=>⟨u.slots,k b u q⟩
 free:=fun b u q n _=>by rw [upd_ne (Nat.ne_of_lt (Nat.lt_of_lt_of_le (Heap.lt_size q) hp))];exact n
 there:=fun b u q _=>⟨u,k b u q⟩
 tups:=fun b xs q=>by rw [upd_ne (zJ q hn)];exact q
 frzs:=fun b u xs q=>by rw [upd_ne (zJ q hn)];exact q
 tbls:=fun b ps q=>⟨#[],by rw [upd_ne (zJ q hn),q];simp⟩
 excs:=fun b c q=>by rw [upd_ne (zJ q hn)];exact q
theorem Un.write (mu:Mut (H x)) (he:e=x∨H e=some (.own x)) (k:∀ b u,b≠e→h.get? b=some u→h'.get? b=some u) (heo:∃ u,h'.get? e=some u):Un fs ex H (upd H x o) h h':=by
 have hx:∀ b,H b=none→b≠x:=fun b n z=>by subst z;rw [n] at mu;exact mu
 have hb:∀ b,H b=none→b≠e:=fun b n z=>by
  subst z
  rcases he with r | r
  ·exact hx b n r
  ·rw [n] at r;cases r
 have hm:∀ b u,H b=some u→¬ Mut (some u)→b≠x:=fun b u q nm z=>by subst z;rw [q] at mu;exact nm mu
 refine ⟨fun b u q n _ _=>k b u (hb b n) q,fun b u q n _ _=>⟨u.slots,k b u (hb b n) q⟩,fun b u q n _=>by rw [upd_ne (hx b n)];exact n,fun b u q _=>?_,
  fun b xs q=>by rw [upd_ne (hm b _ q fun z=>z)];exact q,fun b u xs q=>by rw [upd_ne (hm b _ q fun z=>z)];exact q,fun b ps q=>⟨#[],by rw [upd_ne (hm b _ q fun z=>z),q];simp⟩,fun b c q=>by rw [upd_ne (hm b _ q fun z=>z)];exact q⟩
 by_cases hbe:b=e
 ·subst hbe;exact heo
 ·exact ⟨u,k b u hbe q⟩
end
def trk (h:Heap) (H:Hp):List Addr:=(List.range h.objs.size).filter fun a=>(H a).isSome
def zO3 (h:Heap) (H:Hp):Heap:=PySem.W.hideAll h (trk h H)
theorem zNg (h:Heap) (H:Hp):(zO3 h H).objs.size=h.objs.size:=PySem.W.hideAll_size _ _
theorem zO2 {h:Heap}{H:Hp}{b:Addr}{o:Obj}(e:h.get? b=some o) (n:H b=none):(zO3 h H).get? b=some o :=
 PySem.W.hideAll_get _ e fun hm=>by
  have q:(H b).isSome=true:=(List.mem_filter.mp hm).2
  rw [n] at q;simp at q
theorem of_hidT {h:Heap}{H:Hp}{b:Addr}{o:Obj}(e:(zO3 h H).get? b=some o):h.get? b=some o∧H b=none:=by
 have e':h.get? b=some o:=PySem.W.of_hideAll (trk h H) e
 refine ⟨e',?_⟩
 cases q:H b with
 | none=>rfl
 | some x =>
  have hm:b ∈ trk h H:=List.mem_filter.mpr ⟨List.mem_range.mpr (Heap.lt_size e'),by simp [q]⟩
  have z:(zO3 h H).get? b=none:=PySem.W.hideAll_none (trk h H) hm
  rw [z] at e;cases e
end L2
namespace L2
open PySem PySem.Spec PyProof.Rows
structure Mod (K:PySem.W.Frag) (mg:Str→Option Value) (base:Heap):Prop where
 kin:K.In base
 glob:base.Ns mainGlobals mg
 blt:∃ mb,base.Ns builtinsNs mb∧∀ x:Str,x ≠ "__name__" → mb x=bootBuiltins x
 nolimit:base.NoLimit
structure Cx where
 prog:Program
 w:World
 K:PySem.W.Frag
 mg:Str→Option Value
 base:Heap
 A:Around
 N:List Str
 s₀:Shared
 H₀:Hp
 env:Env
 outer:List Env
 stack:List Env
 ex:List Addr
 fn:Str→Bool
 calm:Bool
 pn:List (Addr × Obj)
 tr:List (Addr × Value)
 fx:List (Str × Value)
 xe:Value→Shared→Prop
def frs (l:List Env):List Addr:=l.filterMap (·.frame)
abbrev Cx.fs (X:Cx):List Addr:=frs X.outer
def Vis (sc:Scope) (x:Str):Prop:=sc.names.lookup x=some .local∨sc.names.lookup x=some .cell∨sc.names.lookup x=some .free
def Loc (sc:Scope) (x:Str):Prop:=sc.names.lookup x=some .local∨sc.names.lookup x=some .cell
def zRc (env:Env) (h:Heap) (m:Str→Option Value) (x:Str) (u:Value):Prop :=
 (env.kindOf x=some .local∧m x=some u)∨((env.kindOf x=some .cell∨env.kindOf x=some .free)∧∃ c,env.cells.lookup x=some c∧h.IsCell c (some u))
structure Cx.Ok (X:Cx):Prop where
 mod:Mod X.K X.mg X.base
 kind:X.env.scope.kind=.function
 glob:X.env.globals=mainGlobals
 blt:X.env.builtins=builtinsNs
 above:X.s₀.heap.objs.size≤X.env.locals
 inj:∀ x y c,X.env.cells.lookup x=some c→X.env.cells.lookup y=some c→x=y
 has:∀ x,(X.env.kindOf x=some .cell∨X.env.kindOf x=some .free)→∃ c,X.env.cells.lookup x=some c
 cab:∀ x c,X.fn x=true→X.env.cells.lookup x=some c→X.s₀.heap.objs.size≤c
 hd:X.A.handled=none∨∃ (e:Addr) (c:Value),X.A.handled=some (.ref e)∧(X.H₀ e=some (.exc c)∨(e,c) ∈ X.tr)
 frames:X.A.frames=some X.stack
 stk:X.stack=X.outer∨(X.stack=X.env :: X.outer∧X.env.frame=some X.env.locals)
 exf:∀ b ∈ X.ex,b≠X.env.locals∧∀ x c,X.env.cells.lookup x=some c→c≠b
 bs:∀ b o,X.base.get? b=some o→X.s₀.heap.get? b=some o∧X.H₀ b=none
 bsz:X.base.objs.size≤X.s₀.heap.objs.size
 noex:∀ b o,X.base.get? b=some o→b ∉ X.ex
 exfs:∀ b ∈ X.ex,b ∉ X.fs
 funs:X.s₀.heap.FunFrames X.base X.outer
 frf:∀ b ∈ X.fs,X.H₀ b=none
structure Inv (X:Cx) (pins:List (Addr × Obj)) (σ:List (Option V)) (H:Hp) (s:Shared):Prop where
 ok:X.Ok
 os:s.os=X.s₀.os
 bare:AllBare s.gens
 base:Un X.fs X.ex X.H₀ H X.s₀.heap s.heap
 loc:∃ m,s.heap.Ns X.env.locals m∧∀ (i:Nat) (x:Str) (v:V),X.N[i]? = some x→σ[i]? = some (some v)→Vis X.env.scope x→∃ u,RelV v u∧zRc X.env s.heap m x u
 cell:∀ x c,X.env.cells.lookup x=some c→∃ v,s.heap.IsCell c v
 free:H X.env.locals=none
 freeC:∀ x c,X.env.cells.lookup x=some c→H c=none
 pin:∀ p ∈ X.pn ++ pins,s.heap.get? p.1=some p.2∧H p.1=none∧p.1≠X.env.locals∧p.1 ∉ X.fs∧∀ v,p.2.data≠.cell v
 hok:HOk X.prog X.w H s.heap
 len:σ.length=X.N.length
 tr:∀ p ∈ X.tr,H p.1=some (.exc p.2)
 fix:∀ p ∈ X.fx,∃ m,s.heap.Ns X.env.locals m∧zRc X.env s.heap m p.1 p.2
theorem zM0 {h:Heap}{a:Addr}{m m':Str→Option Value}(n:h.Ns a m) (n':h.Ns a m'):m=m':=by
 obtain ⟨o,es,ep,h1,h2,_,h3⟩:=n
 obtain ⟨o',es',ep',h1',h2',_,h3'⟩:=n'
 rw [h1] at h1';cases h1'
 rw [h2] at h2';cases h2'
 funext x
 rw [← h3,← h3']
section
variable {X:Cx}{pins:List (Addr × Obj)}{σ:List (Option V)}{H H':Hp}{s:Shared}{h':Heap}
theorem Cx.Ok.nofr (ok:X.Ok) {b:Addr}{o:Obj}(e:X.base.get? b=some o):b ∉ X.fs:=fun hb=>by
 have:=(ok.funs.mem hb).1
 rw [e] at this;cases this
theorem Inv.bs (I:Inv X pins σ H s):∀ b o,X.base.get? b=some o→s.heap.get? b=some o∧H b=none:=fun b o e =>
 ⟨I.base.keep b o (I.ok.bs b o e).1 (I.ok.bs b o e).2 (I.ok.nofr e) (I.ok.noex b o e),I.base.free b o (I.ok.bs b o e).1 (I.ok.bs b o e).2 (I.ok.noex b o e)⟩
theorem Inv.bk (I:Inv X pins σ H s):∀ b o,X.base.get? b=some o→s.heap.get? b=some o:=fun b o e=>(I.bs b o e).1
theorem Inv.mod (I:Inv X pins σ H s):Mod X.K X.mg X.base:=I.ok.mod
theorem Inv.hdE (I:Inv X pins σ H s):HdE X.A H:=by
 rcases I.ok.hd with h | ⟨e,c,h1,h2⟩
 ·exact .inl h
 ·rcases h2 with h2 | h2
  ·exact .inr ⟨e,c,h1,I.base.excs e c h2⟩
  ·exact .inr ⟨e,c,h1,I.tr (e,c) h2⟩
theorem Inv.hd (I:Inv X pins σ H s):HdAt X.A s.heap:=I.hdE.at I.hok
theorem Inv.kIn (I:Inv X pins σ H s):X.K.In s.heap:=I.ok.mod.kin.keeps I.bk
theorem Inv.lt (I:Inv X pins σ H s):X.env.locals < s.heap.objs.size:=let ⟨_,hn,_⟩:=I.loc;hn.lt
theorem Inv.sz (I:Inv X pins σ H s):X.s₀.heap.objs.size≤s.heap.objs.size:=Nat.le_trans I.ok.above (Nat.le_of_lt I.lt)
theorem Inv.nofs (I:Inv X pins σ H s) {a:Addr}(h:s.heap.objs.size≤a):a ∉ X.fs:=fun hb=>by
 obtain ⟨_,o,ho,_⟩:=I.ok.funs.mem hb
 exact absurd (Nat.lt_of_lt_of_le (Heap.lt_size ho) (Nat.le_trans I.sz h)) (Nat.lt_irrefl _)
theorem Inv.cne (I:Inv X pins σ H s):∀ x c,X.env.cells.lookup x=some c→c≠X.env.locals:=fun x c e z=>by
 obtain ⟨v,o,ho,hd⟩:=I.cell x c e
 obtain ⟨m,⟨o',es,ep,ho',hd',_⟩,_⟩:=I.loc
 rw [z,ho'] at ho;cases ho;rw [hd'] at hd;cases hd
theorem Inv.funs (I:Inv X pins σ H s):s.heap.FunFrames X.base X.outer:=by
 have all:∀ (l:List Env),(∀ b ∈ frs l,b ∈ X.fs)→X.s₀.heap.FunFrames X.base l→s.heap.FunFrames X.base l:=by
  intro l
  induction l with
  | nil=>intro _ _;trivial
  | cons env r ih =>
   intro hs hl
   obtain ⟨hk,⟨L,o,hf,hn,ho,hd⟩,hr⟩:=hl
   have hL:L ∈ X.fs:=hs L (by unfold frs;rw [List.filterMap_cons,hf];exact List.mem_cons_self)
   obtain ⟨sl,e⟩:=I.base.slot L o ho (I.ok.frf L hL) hL fun z=>I.ok.exfs L z hL
   exact ⟨hk,⟨L,_,hf,hn,e,hd⟩,ih (fun b hb=>hs b (by unfold frs;rw [List.filterMap_cons,hf];exact List.mem_cons_of_mem _ hb)) hr⟩
 exact all X.outer (fun _ hb=>hb) I.ok.funs
theorem Inv.stack (I:Inv X pins σ H s):s.heap.FunFrames X.base X.stack:=by
 rcases I.ok.stk with e | ⟨e,hf⟩
 ·rw [e];exact I.funs
 ·rw [e]
  obtain ⟨m,hn,_⟩:=I.loc
  refine .cons (by rw [I.ok.kind];decide) hf hn ?_ I.funs
  exact Heap.get?_none_of_le (Nat.le_trans I.ok.bsz I.ok.above)
theorem Inv.stkSub (I:Inv X pins σ H s):∀ b ∈ frs X.stack,b ∈ X.env.locals :: X.fs:=fun b hb=>by
 rcases I.ok.stk with e | ⟨e,hf⟩
 ·rw [e] at hb;exact List.mem_cons_of_mem _ hb
 ·rw [e] at hb
  unfold frs at hb
  rw [List.filterMap_cons,hf] at hb
  exact hb
theorem Inv.stkFree (I:Inv X pins σ H s):∀ b ∈ frs X.stack,H b=none:=fun b hb=>by
 rcases List.mem_cons.mp (I.stkSub b hb) with e | hb
 ·rw [e];exact I.free
 ·obtain ⟨_,o,ho,_⟩:=I.ok.funs.mem hb
  exact I.base.free b o ho (I.ok.frf b hb) fun z=>I.ok.exfs b z hb
theorem Inv.step {g':Array GenState}{t':Nat}{d':Drawn}{ch:List Addr}(I:Inv X pins σ H s)
  (hch:∀ b ∈ ch,(b ∈ X.ex∨X.s₀.heap.objs.size≤b)∧b≠X.env.locals∧(∀ x c,X.env.cells.lookup x=some c→c≠b)∧∀ p ∈ X.pn ++ pins,p.1≠b)
  (keep:∀ b o,b≠X.env.locals→b ∉ X.fs→b ∉ ch→s.heap.get? b=some o→H b=none→h'.get? b=some o)
  (slot:∀ b o,b≠X.env.locals→b ∈ X.fs→b ∉ ch→s.heap.get? b=some o→H b=none→∃ sl,h'.get? b=some { o with slots:=sl }) (free:∀ b o,b ∉ ch→s.heap.get? b=some o→H b=none→H' b=none)
  (there:∀ b o,b ∉ ch→s.heap.get? b=some o→∃ o',h'.get? b=some o')
  (tups:∀ b xs,H b=some (.tup xs)→H' b=some (.tup xs)) (frzs:∀ b o u,H b=some (.frz o u)→H' b=some (.frz o u)) (tbls:∀ b ps,H b=some (.tbl ps)→∃ more,H' b=some (.tbl (ps ++ more))) (excs:∀ b c,H b=some (.exc c)→H' b=some (.exc c))
  (ns:∀ m,s.heap.Ns X.env.locals m→h'.Ns X.env.locals m) (hok:HOk X.prog X.w H' h') (hg:AllBare g') :
  Inv X pins σ H' { s with heap:=h',gens:=g',drawn:=d',toks:=t' }:=by
 have neL:∀ b o,X.s₀.heap.get? b=some o→b≠X.env.locals:=fun b o e=>Nat.ne_of_lt (Nat.lt_of_lt_of_le (Heap.lt_size e) I.ok.above)
 have neC:∀ b o,X.s₀.heap.get? b=some o→b ∉ X.ex→b ∉ ch:=fun b o e hx hb=>by
  rcases (hch b hb).1 with z | z
  ·exact hx z
  ·exact absurd (Nat.lt_of_lt_of_le (Heap.lt_size e) z) (Nat.lt_irrefl _)
 have cellK:∀ x c,X.env.cells.lookup x=some c→∀ v,s.heap.IsCell c v→h'.IsCell c v:=fun x c e v ⟨o,ho,hd⟩=>by
  have nch:c ∉ ch:=fun z=>(hch c z).2.2.1 x c e rfl
  by_cases hc:c ∈ X.fs
  ·obtain ⟨sl,q⟩:=slot c o (I.cne x c e) hc nch ho (I.freeC x c e)
   exact ⟨_,q,hd⟩
  ·exact ⟨o,keep c o (I.cne x c e) hc nch ho (I.freeC x c e),hd⟩
 refine ⟨I.ok,I.os,hg,⟨fun b o e n hb hx=>?_,fun b o e n hb hx=>?_,fun b o e n hx=>?_,fun b o e hx=>?_,fun b xs e=>tups b xs (I.base.tups b xs e),fun b o xs e=>frzs b o xs (I.base.frzs b o xs e),fun b ps e=>?_,fun b k e=>excs b k (I.base.excs b k e)⟩,?_,fun x c e=>?_,?_,fun x c e=>?_,fun p hp=>?_,hok,I.len,fun p hp=>excs _ _ (I.tr p hp),fun p hp=>let ⟨m,hn,lk⟩:=I.fix p hp;⟨m,ns m hn,lk.elim .inl fun ⟨k,c,e,z⟩=>.inr ⟨k,c,e,cellK p.1 c e _ z⟩⟩⟩
 ·exact keep b o (neL b o e) hb (neC b o e hx) (I.base.keep b o e n hb hx) (I.base.free b o e n hx)
 ·obtain ⟨sl,e1⟩:=I.base.slot b o e n hb hx
  obtain ⟨sl',e2⟩:=slot b _ (neL b o e) hb (neC b o e hx) e1 (I.base.free b o e n hx)
  exact ⟨sl',e2⟩
 ·obtain ⟨o',e1⟩:=I.base.there b o e hx
  exact free b o' (neC b o e hx) e1 (I.base.free b o e n hx)
 ·obtain ⟨o',e1⟩:=I.base.there b o e hx
  exact there b o' (neC b o e hx) e1
 ·obtain ⟨m1,e1⟩:=I.base.tbls b ps e
  obtain ⟨m2,e2⟩:=tbls b _ e1
  exact ⟨m1 ++ m2,by rw [e2,Array.append_assoc]⟩
 ·obtain ⟨m,hn,hl⟩:=I.loc
  refine ⟨m,ns m hn,fun i x v e1 e2 e3=>?_⟩
  obtain ⟨u,r,l⟩:=hl i x v e1 e2 e3
  refine ⟨u,r,?_⟩
  rcases l with l | ⟨k,c,e,z⟩
  ·exact .inl l
  ·exact .inr ⟨k,c,e,cellK x c e _ z⟩
 ·obtain ⟨v,z⟩:=I.cell x c e
  exact ⟨v,cellK x c e v z⟩
 ·obtain ⟨m,⟨o,_,_,ho,_⟩,_⟩:=I.loc
  exact free _ o (fun z=>(hch _ z).2.1 rfl) ho I.free
 ·obtain ⟨v,o,ho,hd⟩:=I.cell x c e
  exact free c o (fun z=>(hch c z).2.2.1 x c e rfl) ho (I.freeC x c e)
 ·obtain ⟨e,n,ne,nf,d⟩:=I.pin p hp
  have nch:p.1 ∉ ch:=fun z=>(hch p.1 z).2.2.2 p hp rfl
  exact ⟨keep p.1 p.2 ne nf nch e n,free p.1 p.2 nch e n,ne,nf,d⟩
theorem Inv.un {t':Nat}(I:Inv X pins σ H s) (u:Un X.fs [] H H' s.heap h') (hok:HOk X.prog X.w H' h'):Inv X pins σ H' { s with heap:=h',toks:=t' }:=by
 obtain ⟨m,⟨o,es,ep,ho,r⟩,_⟩:=id I.loc
 obtain ⟨sl,hL⟩:=u.any ho I.free (by simp)
 exact I.step (g':=s.gens) (d':=s.drawn) (ch:=[]) (fun _ z=>nomatch z) (fun b o _ hb _ e n=>u.keep b o e n hb (by simp)) (fun b o _ hb _ e n=>u.slot b o e n hb (by simp)) (fun b o _ e n=>u.free b o e n (by simp)) (fun b o _ e=>u.there b o e (by simp)) u.tups u.frzs u.tbls u.excs (fun m' hm=>by
  obtain ⟨o',es',ep',ho',r'⟩:=hm
  rw [ho] at ho';cases ho'
  exact ⟨_,es',ep',hL,r'⟩) hok I.bare
theorem Inv.call {g':Array GenState}{t':Nat}{d':Drawn}{ch:List Addr}(I:Inv X pins σ H s) (u:Un (frs X.stack) ch H H' s.heap h') (hok:HOk X.prog X.w H' h') (hg:AllBare g')
  (hch:∀ b ∈ ch,(b ∈ X.ex∨X.s₀.heap.objs.size≤b)∧b≠X.env.locals∧(∀ x c,X.env.cells.lookup x=some c→c≠b)∧∀ p ∈ X.pn ++ pins,p.1≠b) :
  Inv X pins σ H' { s with heap:=h',gens:=g',drawn:=d',toks:=t' }:=by
 obtain ⟨m,⟨o,es,ep,ho,r⟩,_⟩:=id I.loc
 obtain ⟨sl,hL⟩:=u.any ho I.free fun z=>(hch _ z).2.1 rfl
 exact I.step (ch:=ch) hch (fun b o hL hb hc e n=>u.keep b o e n (fun z=>(List.mem_cons.mp (I.stkSub b z)).elim hL hb) hc) (fun b o _ _ hc e n=>u.any e n hc) (fun b o hc e n=>u.free b o e n hc) (fun b o hc e=>u.there b o e hc) u.tups u.frzs u.tbls u.excs (fun m' hm=>by
  obtain ⟨o',es',ep',ho',r'⟩:=hm
  rw [ho] at ho';cases ho'
  exact ⟨_,es',ep',hL,r'⟩) hok hg
theorem Inv.turned {t':Nat}{it:Addr}(I:Inv X pins σ H s) (k:∀ b o,b≠it→s.heap.get? b=some o→h'.get? b=some o) (hn:H it=none) (hL:it≠X.env.locals)
  (h1:it ∈ X.ex∨X.s₀.heap.objs.size≤it) (h2:∀ x c,X.env.cells.lookup x=some c→c≠it) (h3:∀ p ∈ X.pn ++ pins,p.1≠it):Inv X pins σ H { s with heap:=h',toks:=t' }:=by
 have nit:∀ b u,H b=some u→b≠it:=fun b u e z=>by rw [z,hn] at e;cases e
 refine I.step (g':=s.gens) (d':=s.drawn) (ch:=[it]) (fun b hb=>?_) (fun b o _ _ hc e _=>k b o (fun z=>hc (by simp [z])) e) (fun b o _ _ hc e _=>⟨o.slots,k b o (fun z=>hc (by simp [z])) e⟩) (fun _ _ _ _ n=>n)
  (fun b o hc e=>⟨o,k b o (fun z=>hc (by simp [z])) e⟩) (fun _ _ e=>e) (fun _ _ _ e=>e) (fun b ps e=>⟨#[],by rw [e];simp⟩) (fun _ _ e=>e) (fun m hm=>?_) (fun b u e=>?_) I.bare
 ·have e:b=it:=by simpa using hb
  subst e
  exact ⟨h1,hL,h2,h3⟩
 ·obtain ⟨o,es,ep,ho,r⟩:=hm
  exact ⟨o,es,ep,k _ o (Ne.symm hL) ho,r⟩
 ·refine (I.hok b u e).stay (fun c v hc q=>k c v ?_ q) (fun _ q=>q) fun _ _ q=>q
  rcases hc with z | z
  ·rw [z];exact nit b u e
  ·exact nit c _ z
theorem Inv.tok (I:Inv X pins σ H s) (t:Nat):Inv X pins σ H { s with toks:=t }:=I.un (h':=s.heap) (t':=t) Un.refl I.hok
theorem Inv.kept {t':Nat}(I:Inv X pins σ H s) (k:∀ b u,s.heap.get? b=some u→h'.get? b=some u):Inv X pins σ H { s with heap:=h',toks:=t' }:=I.un (Un.kept k) (I.hok.kept k)
theorem Inv.laid {a:Addr}{o:HO}{t':Nat}(I:Inv X pins σ H s) (k:∀ b u,s.heap.get? b=some u→h'.get? b=some u) (hp:s.heap.objs.size≤a) (new:ObjOk X.prog X.w (upd H a o) h' a o) :
  Inv X pins σ (upd H a o) { s with heap:=h',toks:=t' }:=I.un (Un.laid k hp (I.hok.fresh hp)) (I.hok.laid k hp new)
theorem Inv.write {x e:Addr}{o:HO}{t':Nat}(I:Inv X pins σ H s) (mu:Mut (H x)) (he:e=x∨H e=some (.own x)) (k:∀ b u,b≠e→s.heap.get? b=some u→h'.get? b=some u) (heo:∃ u,h'.get? e=some u)
  (new:ObjOk X.prog X.w (upd H x o) h' x o):Inv X pins σ (upd H x o) { s with heap:=h',toks:=t' }:=I.un (Un.write mu he k heo) (I.hok.write mu he k heo new)
theorem Inv.pins_of {pins':List (Addr × Obj)}(I:Inv X pins σ H s) (h:∀ p ∈ pins',s.heap.get? p.1=some p.2∧H p.1=none∧p.1≠X.env.locals∧p.1 ∉ X.fs∧∀ v,p.2.data≠.cell v):Inv X pins' σ H s :=
 ⟨I.ok,I.os,I.bare,I.base,I.loc,I.cell,I.free,I.freeC,fun p hp=>(List.mem_append.mp hp).elim (fun z=>I.pin p (List.mem_append_left _ z)) (h p),I.hok,I.len,I.tr,I.fix⟩
theorem zKr {N:List Str}(hN:N.Nodup) {i j:Nat}{x:Str}(a:N[i]? = some x) (b:N[j]? = some x):i=j:=by
 obtain ⟨h1,e1⟩:=List.getElem?_eq_some_iff.mp a
 obtain ⟨h2,e2⟩:=List.getElem?_eq_some_iff.mp b
 exact (List.getElem_inj hN).mp (e1.trans e2.symm)
theorem zL9 {M:Model}{A:Around}{E:Value→Shared→Prop}{i:Nat}{x:Str}{v:V}{u:Value}{Q:Unit→Shared→Prop}(I:Inv X pins σ H s) (hN:X.N.Nodup) (hi:X.N[i]? = some x) (hx:Loc X.env.scope x) (r:RelV v u)
  (h:∀ s',Inv X pins (σ.set i (some v)) H s'→(∃ a,Heap.SameBut a s.heap s'.heap∧(a=X.env.locals∨X.env.cells.lookup x=some a))→Q () s') (hf:X.fn x=true∨X.env.scope.names.lookup x=some .local:=by first|exact .inl rfl|exact .inr rfl | assumption) (hfx:∀ p ∈ X.fx,p.1≠x:=by first|exact fun p h=>absurd (show p ∈ ([] : List (Str × Value)) from h) (by simp) | assumption):wpAny M A (storeName X.env x u) Q E s:=by
 obtain ⟨m,hn,hl⟩:=id I.loc
 have hcls:(X.env.scope.kind == .class || (X.env.scope.kind == .module && X.env.locals != X.env.globals))=false:=by rw [I.ok.kind];rfl
 have hiσ:i < σ.length:=by rw [I.len];exact (List.getElem?_eq_some_iff.mp hi).1
 have cne:=I.cne
 have tracked:∀ {a:Addr}{h':Heap},(∃ o,s.heap.get? a=some o∧H a=none)→Heap.SameBut a s.heap h'→HOk X.prog X.w H h':=fun {a h'} ha hs b ob e=>by
  obtain ⟨_,_,hfree⟩:=ha
  refine (I.hok b ob e).stay (fun c w' hc q=>(hs.2 c ?_).trans q) (fun _ q=>q) fun _ _ q=>q
  rintro rfl
  rcases hc with rfl | hc
  ·rw [hfree] at e;cases e
  ·rw [hfree] at hc;cases hc
 rcases hx with hk | hk
 ·refine wpAny_storeName_local hk hn (fun h' hn' hs=>?_) hcls
  obtain ⟨oL,_,_,hoL,_⟩:=id hn
  refine h _ ⟨I.ok,I.os,I.bare,⟨fun b o e n hb hx=>?_,fun b o e n hb hx=>?_,I.base.free,fun b o e hx=>?_,I.base.tups,I.base.frzs,I.base.tbls,I.base.excs⟩,⟨_,hn',fun j y v' e1 e2 e3=>?_⟩,fun y c e=>?_,I.free,I.freeC,fun p hp=>?_,tracked ⟨oL,hoL,I.free⟩ hs,by simpa using I.len,I.tr,fun p hp=>?_⟩ ⟨_,hs,.inl rfl⟩
  rotate_right
  ·obtain ⟨m1,hn1,lk⟩:=I.fix p hp
   have em:=zM0 hn1 hn
   subst em
   refine ⟨_,hn',?_⟩
   rcases lk with ⟨k,e⟩ | ⟨k,c,e,z⟩
   ·exact .inl ⟨k,by simp [hfx p hp,e]⟩
   ·exact .inr ⟨k,c,e,z.sameBut hs (cne p.1 c e)⟩
  ·exact (hs.2 b (Nat.ne_of_lt (Nat.lt_of_lt_of_le (Heap.lt_size e) I.ok.above))).trans (I.base.keep b o e n hb hx)
  ·obtain ⟨sl,e1⟩:=I.base.slot b o e n hb hx
   exact ⟨sl,(hs.2 b (Nat.ne_of_lt (Nat.lt_of_lt_of_le (Heap.lt_size e) I.ok.above))).trans e1⟩
  ·obtain ⟨o',e1⟩:=I.base.there b o e hx
   exact ⟨o',(hs.2 b (Nat.ne_of_lt (Nat.lt_of_lt_of_le (Heap.lt_size e) I.ok.above))).trans e1⟩
  ·by_cases hj:j=i
   ·subst hj
    rw [hi] at e1;cases e1
    rw [List.getElem?_set_self hiσ] at e2
    cases e2
    exact ⟨u,r,.inl ⟨hk,by simp⟩⟩
   ·rw [List.getElem?_set_ne (Ne.symm hj)] at e2
    obtain ⟨u',r',q⟩:=hl j y v' e1 e2 e3
    refine ⟨u',r',?_⟩
    rcases q with ⟨k,e⟩ | ⟨k,c,e,z⟩
    ·refine .inl ⟨k,?_⟩
     have:y≠x:=fun e=>hj (zKr hN e1 (e ▸ hi))
     simp [this,e]
    ·exact .inr ⟨k,c,e,z.sameBut hs (cne y c e)⟩
  ·obtain ⟨w',z⟩:=I.cell y c e
   exact ⟨w',z.sameBut hs (cne y c e)⟩
  ·obtain ⟨e,n,ne,nf,d⟩:=I.pin p hp
   exact ⟨(hs.2 p.1 ne).trans e,n,ne,nf,d⟩
 ·have hfn:X.fn x=true:=by
   rcases hf with z | z
   ·exact z
   ·rw [z] at hk;cases hk
  obtain ⟨c,hc⟩:=I.ok.has x (.inl hk)
  obtain ⟨w',z⟩:=I.cell x c hc
  refine wpAny_storeName_cell I.ok.kind hk hc z (fun h' hc' hs=>?_)
  obtain ⟨oc,hoc,hocd⟩:=id z
  refine h { s with heap:=h' } ⟨I.ok,I.os,I.bare,⟨fun b o e n hb hx=>?_,fun b o e n hb hx=>?_,I.base.free,fun b o e hx=>?_,I.base.tups,I.base.frzs,I.base.tbls,I.base.excs⟩,⟨m,hn.sameBut hs (Ne.symm (cne x c hc)),fun j y v' e1 e2 e3=>?_⟩,fun y c' e=>?_,I.free,I.freeC,fun p hp=>?_,tracked ⟨oc,hoc,I.freeC x c hc⟩ hs,by simpa using I.len,I.tr,fun p hp=>?_⟩ ⟨c,hs,.inr hc⟩
  rotate_right
  ·obtain ⟨m1,hn1,lk⟩:=I.fix p hp
   refine ⟨m1,hn1.sameBut hs (Ne.symm (cne x c hc)),?_⟩
   rcases lk with q | ⟨k,c',e,z'⟩
   ·exact .inl q
   ·refine .inr ⟨k,c',e,z'.sameBut hs ?_⟩
    rintro rfl
    exact hfx p hp (I.ok.inj _ _ _ e hc)
  ·exact (hs.2 b (Nat.ne_of_lt (Nat.lt_of_lt_of_le (Heap.lt_size e) (I.ok.cab x c hfn hc)))).trans (I.base.keep b o e n hb hx)
  ·obtain ⟨sl,e1⟩:=I.base.slot b o e n hb hx
   exact ⟨sl,(hs.2 b (Nat.ne_of_lt (Nat.lt_of_lt_of_le (Heap.lt_size e) (I.ok.cab x c hfn hc)))).trans e1⟩
  ·obtain ⟨o',e1⟩:=I.base.there b o e hx
   exact ⟨o',(hs.2 b (Nat.ne_of_lt (Nat.lt_of_lt_of_le (Heap.lt_size e) (I.ok.cab x c hfn hc)))).trans e1⟩
  ·by_cases hj:j=i
   ·subst hj
    rw [hi] at e1;cases e1
    rw [List.getElem?_set_self hiσ] at e2
    cases e2
    exact ⟨u,r,.inr ⟨.inl hk,c,hc,hc'⟩⟩
   ·rw [List.getElem?_set_ne (Ne.symm hj)] at e2
    obtain ⟨u',r',q⟩:=hl j y v' e1 e2 e3
    refine ⟨u',r',?_⟩
    rcases q with q | ⟨k,c',e,z'⟩
    ·exact .inl q
    ·refine .inr ⟨k,c',e,z'.sameBut hs ?_⟩
     rintro rfl
     exact hj (zKr hN e1 (I.ok.inj _ _ _ e hc ▸ hi))
  ·by_cases hcc:c'=c
   ·subst hcc;exact ⟨_,hc'⟩
   ·obtain ⟨w2,z2⟩:=I.cell y c' e
    exact ⟨w2,z2.sameBut hs hcc⟩
  ·obtain ⟨e,n,ne,nf,d⟩:=I.pin p hp
   refine ⟨(hs.2 p.1 ?_).trans e,n,ne,nf,d⟩
   intro q
   rw [q,hoc] at e
   have q':oc=p.2:=Option.some.inj e
   exact d w' (by rw [← q'];exact hocd)
theorem zKa {M:Model}{A:Around}{E:Value→Shared→Prop}{i:Nat}{x:Str}{v:V}{u:Value}{Q:Unit→Shared→Prop}(I:Inv X pins σ H s) (hN:X.N.Nodup) (hi:X.N[i]? = some x) (hx:Loc X.env.scope x) (r:RelV v u)
  (h:∀ s',Inv X pins (σ.set i (some v)) H s'→Q () s') (hf:X.fn x=true∨X.env.scope.names.lookup x=some .local:=by first|exact .inl rfl|exact .inr rfl | assumption) (hfx:∀ p ∈ X.fx,p.1≠x:=by first|exact fun p h=>absurd (show p ∈ ([] : List (Str × Value)) from h) (by simp) | assumption):wpAny M A (storeName X.env x u) Q E s :=
 zL9 I hN hi hx r (fun s' I' _=>h s' I') hf hfx
theorem Inv.call' {s':Shared}{ch:List Addr}(I:Inv X pins σ H s) (ho:s'.os=s.os) (u:Un (frs X.stack) ch H H' s.heap s'.heap) (hok:HOk X.prog X.w H' s'.heap) (hg:AllBare s'.gens)
  (hch:∀ b ∈ ch,(b ∈ X.ex∨X.s₀.heap.objs.size≤b)∧b≠X.env.locals∧(∀ x c,X.env.cells.lookup x=some c→c≠b)∧∀ p ∈ X.pn ++ pins,p.1≠b):Inv X pins σ H' s':=by
 obtain ⟨h',g',d',t',o'⟩:=s'
 have e:o'=s.os:=ho
 subst e
 exact I.call (g':=g') (t':=t') (d':=d') u hok hg hch
end
abbrev XK:=Value→Option Addr→Hp→Prop
abbrev St:=List (Option V)
abbrev VK:=V→Hp→Prop
abbrev TE:=St→Hp→VK→Prop
abbrev TT:=St→Hp→(Bool→Hp→Prop)→Prop
abbrev TA:=St→Hp→(List V→Hp→Prop)→Prop
structure Ends where
 nx:St→Hp→Prop
 rt:VK
 bk:St→Hp→Prop:=fun _ _=>False
 ct:St→Hp→Prop:=fun _ _=>False
abbrev TS:=Ends→St→Hp→Prop
inductive EP (X:Cx) (pins:List (Addr × Obj)) (σ:St) (Q:VK) (u:Value) (s':Shared):Prop
 | mk:∀ v H',(Inv X pins σ H' s')→(RelV v u)→(Q v H')→EP X pins σ Q u s'
inductive TP (X:Cx) (pins:List (Addr × Obj)) (σ:St) (Q:Bool→Hp→Prop) (b:Bool) (s':Shared):Prop
 | mk:∀ H',(Inv X pins σ H' s')→(Q b H')→TP X pins σ Q b s'
inductive AP (X:Cx) (pins:List (Addr × Obj)) (σ:St) (Q:List V→Hp→Prop) (us:List Value) (s':Shared):Prop
 | mk:∀ vs H',(Inv X pins σ H' s')→(Vals vs us)→(Q vs H')→AP X pins σ Q us s'
def SP (X:Cx) (pins:List (Addr × Obj)) (D:Ends) (f:Flow) (s':Shared):Prop :=
 match f with
 | .next=>∃ σ' H',Inv X pins σ' H' s'∧D.nx σ' H'
 | .brk=>∃ σ' H',Inv X pins σ' H' s'∧D.bk σ' H'
 | .cont=>∃ σ' H',Inv X pins σ' H' s'∧D.ct σ' H'
 | .ret u=>∃ v σ' H',Inv X pins σ' H' s'∧RelV v u∧D.rt v H'
def PE (X:Cx) (e:Expr) (t:TE):Prop :=
 ∀ (pins:List (Addr × Obj)) (s:Shared) (σ:St) (H:Hp) (Q:VK),Inv X pins σ H s→t σ H Q→wpAny (model X.prog X.w) X.A (eval e X.env) (EP X pins σ Q) X.xe s
def PT (X:Cx) (e:Expr) (t:TT):Prop :=
 ∀ (pins:List (Addr × Obj)) (s:Shared) (σ:St) (H:Hp) (Q:Bool→Hp→Prop),Inv X pins σ H s→t σ H Q→wpAny (model X.prog X.w) X.A (isTrue e X.env (eval e X.env)) (TP X pins σ Q) X.xe s
def PW (X:Cx) (e:Expr) (t:TT):Prop :=
 ∀ (whole:Sem Value) (pins:List (Addr × Obj)) (s:Shared) (σ:St) (H:Hp) (Q:Bool→Hp→Prop),Inv X pins σ H s→t σ H Q→wpAny (model X.prog X.w) X.A (isTrue e X.env whole) (TP X pins σ Q) X.xe s
theorem PW.pt {X:Cx}{e:Expr}{t:TT}(h:PW X e t):PT X e t:=h _
def PA (X:Cx) (es:List Expr) (t:TA):Prop :=
 ∀ (pos:Pos) (pins:List (Addr × Obj)) (s:Shared) (σ:St) (H:Hp) (Q:List V→Hp→Prop),Inv X pins σ H s→t σ H Q→wpAny (model X.prog X.w) X.A (spliced (backTo pos (starEach es X.env))) (AP X pins σ Q) X.xe s
def PS (X:Cx) (st:Stmt) (t:TS):Prop :=
 ∀ (pins:List (Addr × Obj)) (s:Shared) (σ:St) (H:Hp) (D:Ends),Inv X pins σ H s→t D σ H→wpAny (model X.prog X.w) X.A (exec st X.env) (SP X pins D) X.xe s
def PSs (X:Cx) (st:List Stmt) (t:TS):Prop :=
 ∀ (pins:List (Addr × Obj)) (s:Shared) (σ:St) (H:Hp) (D:Ends),Inv X pins σ H s→t D σ H→wpAny (model X.prog X.w) X.A (execs st X.env) (SP X pins D) X.xe s
theorem thn {α:Type}{t:Sem α}{Q Q':α→Shared→Prop}{M:Model}{A:Around}{E:Value→Shared→Prop}{s:Shared}(h:wpAny M A t Q E s) (hQ:∀ a s,Q a s→Q' a s):wpAny M A t Q' E s:=wpAny_mono h hQ fun _ _ x=>x
end L2
namespace L2
open PySem PySem.Spec PyProof.Rows
section
variable {X:Cx}
inductive tVar' (i:Nat) (σ:St) (H:Hp) (Q:VK):Prop
 | mk:∀ v,(σ[i]? = some (some v))→(Q v H)→tVar' i σ H Q
def zLw (i:Nat):TE:=fun σ H Q=>tVar' i σ H Q
def tC (v:V):TE:=fun _ H Q=>Q v H
theorem zRy {i:Nat}{x:Str}{pos:Pos}(hN:X.N[i]? = some x) (hv:Vis X.env.scope x) (hd:(x == ("__debug__" : Str))=false:=by decide) (hcd:(x == ("__classdict__" : Str))=false:=by decide):PE X (.Name x pos) (zLw i):=by
 intro pins s σ H Q I h
 obtain ⟨v,e,h⟩:=h
 obtain ⟨m,hn,hl⟩:=I.loc
 obtain ⟨u,r,l⟩:=hl i x v hN e hv
 have fin:EP X pins σ Q u s:=⟨v,H,I,r,h⟩
 rcases l with ⟨hk,hm⟩ | ⟨hk,c,hc,hcell⟩
 ·exact wpAny_Name (wpAny_loadName_local I.ok.kind hk hn hm fin) hd
 ·rcases hk with hk | hk
  ·exact wpAny_Name (wpAny_loadName_cell I.ok.kind hk hc hcell fin) hd
  ·exact wpAny_Name (wpAny_loadName_free I.ok.kind hk hc hcell fin hcd) hd
theorem zM {i j pos}:PE X (.Constant (.int i) j pos) (tC (.int i)):=fun _ _ _ H _ I h=>wpAny_Constant_int ⟨.int i,H,I.tok _,⟨_,rfl⟩,h⟩
theorem zIb {b j pos}:PE X (.Constant (.bool b) j pos) (tC (.bl b)):=fun _ _ _ H _ I h=>Constant_bool ⟨.bl b,H,I,rfl,h⟩
theorem zKm {j pos}:PE X (.Constant .none j pos) (tC .non):=fun _ _ _ H _ I h=>Constant_none ⟨.non,H,I,rfl,h⟩
theorem zAr {x j pos}:PE X (.Constant (.str x) j pos) (tC (.str x)):=fun _ _ _ H _ I h=>Calls.Constant_str ⟨.str x,H,I.tok _,⟨_,rfl⟩,h⟩
def Gl (X:Cx) (x:Str):Prop:=X.env.kindOf x=some .globalImplicit
theorem zEo {E:Value→Shared→Prop}{pins:List (Addr × Obj)}{s:Shared}{σ:St}{H:Hp}{x:Str}{u:Value}{pos:Pos}{Q:Value→Shared→Prop}(I:Inv X pins σ H s) (hg:Gl X x) (hm:X.mg x=some u) (h:Q u s)
  (hd:(x == ("__debug__" : Str))=false:=by decide):wpAny (model X.prog X.w) X.A (eval (.Name x pos) X.env) Q E s :=
 Calls.Name_function_global I.ok.kind hg (Calls.loadGlobal_global (by rw [I.ok.glob];exact I.mod.glob.keeps I.bk) hm h) hd
theorem zD6 {E:Value→Shared→Prop}{pins:List (Addr × Obj)}{s:Shared}{σ:St}{H:Hp}{x:Str}{u:Value}{pos:Pos}{Q:Value→Shared→Prop}(I:Inv X pins σ H s) (hg:Gl X x) (hm:X.mg x=none) (hv:bootBuiltins x=some u) (h:Q u s)
  (hn:x ≠ "__name__" := by decide) (hd:(x == ("__debug__" : Str))=false:=by decide):wpAny (model X.prog X.w) X.A (eval (.Name x pos) X.env) Q E s:=by
 obtain ⟨mb,h1,h2⟩:=I.mod.blt
 exact Calls.Name_function_global I.ok.kind hg (Calls.loadGlobal_builtin (by rw [I.ok.glob];exact I.mod.glob.keeps I.bk) hm (by rw [I.ok.blt];exact h1.keeps I.bk) ((h2 x hn).trans hv) h) hd
theorem zK {x:Str}{v:V}{u:Value}{pos:Pos}(hg:Gl X x) (hm:X.mg x=some u) (r:RelV v u) (hd:(x == ("__debug__" : Str))=false:=by decide):PE X (.Name x pos) (tC v) :=
 fun _ _ _ H _ I h=>zEo I hg hm ⟨v,H,I,r,h⟩ hd
theorem zHh {x:Str}{v:V}{u:Value}{pos:Pos}(hg:Gl X x) (hm:X.mg x=none) (hv:bootBuiltins x=some u) (r:RelV v u) (hn:x ≠ "__name__" := by decide) (hd:(x == ("__debug__" : Str))=false:=by decide):PE X (.Name x pos) (tC v) :=
 fun _ _ _ H _ I h=>zD6 I hg hm hv ⟨v,H,I,r,h⟩ hn hd
variable {a b:Expr}{ta tb:TE}{pos:Pos}
def PC (X:Cx) (op:CmpOp) (a b:Expr) (t:TE):Prop :=
 ∀ (pins:List (Addr × Obj)) (s:Shared) (σ:St) (H:Hp) (Q:VK),Inv X pins σ H s→t σ H Q →
  wpAny (model X.prog X.w) X.A (eval a X.env) (fun v s₁=>wpAny (model X.prog X.w) X.A (eval b X.env) (fun u s₂=>wpAny (model X.prog X.w) X.A (compareOp op v u) (EP X pins σ Q) X.xe s₂) X.xe s₁) X.xe s
inductive tB' (Q:(Bool→Hp→Prop)) (x:V) (H1:Hp):Prop
 | mk:∀ c,(x=.bl c)→(Q c H1)→tB' Q x H1
def tB (t:TE):TT:=fun σ H Q=>t σ H fun x H1=>tB' Q x H1
theorem zRv {op:CmpOp}{t:TE}(h:PC X op a b t) (h1:behindInMarks op b=false:=by first|exact nobehind _ (by decide) (by decide) | rfl):PT X (.Compare a [op] [b] pos) (tB t):=by
 intro pins s σ H Q I hw
 refine wpAny_isTrue_Compare1 (thn (h pins s σ H _ I hw) fun v s1 h1=>thn h1 fun u s2 h2=>thn h2 fun c s3 ⟨x,H1,I1,r1,q1⟩=>?_) h1
 obtain ⟨d,rfl,q⟩:=q1
 cases r1
 exact wpAny_truthy_bool ⟨H1,I1,q⟩
theorem zBa {e:Expr}{t:TE}(h:PE X e t) (he:∀ whole,isTrue e X.env whole=(do let v ← whole;standAt e.pos;holding [v] (truthy v)):=by intro _;rfl):PT X e (tB t):=by
 intro pins s σ H Q I hw
 refine isTrue_plain (thn (h pins s σ H _ I hw) fun v s1 ⟨x,H1,I1,r1,q1⟩=>?_) (he _)
 obtain ⟨d,rfl,q⟩:=q1
 cases r1
 exact wpAny_truthy_bool ⟨H1,I1,q⟩
variable {tA tB':TT}{rest:List Expr}
def zT5 (t u:TT):TT:=fun σ H Q=>t σ H fun c H1=>if c=true then u σ H1 Q else Q false H1
def tOr (t u:TT):TT:=fun σ H Q=>t σ H fun c H1=>if c=true then Q true H1 else u σ H1 Q
def zTo (t:TT):TT:=fun σ H Q=>t σ H fun c H1=>Q (!c) H1
theorem zMm (ha:PT X a tA):PW X (.BoolOp .And [a] pos) tA:=by
 intro wh pins s σ H Q I h
 refine isTrue_and (thn (ha pins s σ H Q I h) fun c s1 e=>?_)
 cases c with
 | true=>exact isTrue_and_nil e
 | false=>exact e
theorem zMl (ha:PT X a tA):PW X (.BoolOp .Or [a] pos) tA:=by
 intro wh pins s σ H Q I h
 refine isTrue_or (thn (ha pins s σ H Q I h) fun c s1 e=>?_)
 cases c with
 | false=>exact isTrue_or_nil e
 | true=>exact e
theorem zPn (ha:PT X a tA) (hb:PW X (.BoolOp .And (b :: rest) pos) tB'):PW X (.BoolOp .And (a :: b :: rest) pos) (zT5 tA tB'):=by
 intro wh pins s σ H Q I h
 refine isTrue_and (thn (ha pins s σ H _ I h) fun c s1 ⟨H1,I1,q1⟩=>?_)
 cases c with
 | true=>exact hb wh pins s1 σ H1 Q I1 q1
 | false=>exact ⟨H1,I1,q1⟩
theorem zOo (ha:PT X a tA) (hb:PW X (.BoolOp .Or (b :: rest) pos) tB'):PW X (.BoolOp .Or (a :: b :: rest) pos) (tOr tA tB'):=by
 intro wh pins s σ H Q I h
 refine isTrue_or (thn (ha pins s σ H _ I h) fun c s1 ⟨H1,I1,q1⟩=>?_)
 cases c with
 | true=>exact ⟨H1,I1,q1⟩
 | false=>exact hb wh pins s1 σ H1 Q I1 q1
theorem zBs (ha:PT X a tA):PT X (.UnaryOp .Not a pos) (zTo tA):=by
 intro pins s σ H Q I h
 exact isTrue_not (thn (ha pins s σ H (fun c H1=>Q (!c) H1) I h) fun c s1 ⟨H1,I1,q1⟩=>⟨H1,I1,q1⟩)
def zS5 (ta tb:TE):TE:=fun σ H Q=>ta σ H fun x H1=>∃ c,x=.bl c∧if c=true then tb σ H1 Q else Q (.bl false) H1
def zS2 (ta:TE):TE:=fun σ H Q=>ta σ H fun x H1=>∃ c,x=.bl c∧Q (.bl (!c)) H1
theorem zMu {op}{t:TE}(h:PE X a t):PE X (.BoolOp op [a] pos) t:=fun pins s σ H Q I hw=>BoolOp_one (h pins s σ H Q I hw)
theorem zKp (ha:PE X a ta) (hb:PE X (.BoolOp .And (b :: rest) pos) tb):PE X (.BoolOp .And (a :: b :: rest) pos) (zS5 ta tb):=by
 intro pins s σ H Q I h
 refine BoolOp_and (thn (ha pins s σ H _ I h) fun v s1 ⟨x,H1,I1,r1,q1⟩=>?_)
 obtain ⟨c,rfl,q1⟩:=q1
 cases r1
 refine wpAny_truthy_bool ?_
 cases c with
 | true=>exact hb pins s1 σ H1 Q I1 q1
 | false=>exact ⟨.bl false,H1,I1,rfl,q1⟩
theorem zRz (ha:PE X a ta):PE X (.UnaryOp .Not a pos) (zS2 ta):=by
 intro pins s σ H Q I h
 refine UnaryOp_ (thn (ha pins s σ H _ I h) fun v s1 ⟨x,H1,I1,r1,q1⟩=>?_)
 obtain ⟨c,rfl,q1⟩:=q1
 cases r1
 exact not_of (wpAny_truthy_bool ⟨.bl (!c),H1,I1,rfl,q1⟩)
def tIf (t:TT) (ta tb:TE):TE:=fun σ H Q=>t σ H fun c H1=>if c=true then ta σ H1 Q else tb σ H1 Q
theorem zKn {c:Expr}(hc:PT X c tA) (ha:PE X a ta) (hb:PE X b tb):PE X (.IfExp c a b pos) (tIf tA ta tb):=by
 intro pins s σ H Q I h
 refine wpAny_IfExp (thn (hc pins s σ H _ I h) fun d s1 ⟨H1,I1,q1⟩=>?_)
 cases d with
 | true=>exact ha pins s1 σ H1 Q I1 q1
 | false=>exact hb pins s1 σ H1 Q I1 q1
end
end L2
namespace L2
open PySem PySem.Spec PyProof.Rows
def SqL (K:PySem.W.Frag) (H:Hp) (a:Addr) (xs:List V):Prop :=
 Rd H a (.lst xs) ∨
  ∃ (o:Obj) (its:Array Value) (n:Nat),K.lookup a=some o∧o.cls=.type "list" ∧ o.dict=none∧o.data=.seq its n∧its.size≤sizeLine∧Vals xs its.toList
def SqT (K:PySem.W.Frag) (H:Hp) (a:Addr) (xs:List V):Prop :=
 Rd H a (.tup xs) ∨
  ∃ (o:Obj) (its:Array Value) (n:Nat),K.lookup a=some o∧o.cls=.type "tuple" ∧ o.data=.seq its n∧its.size≤sizeLine∧Vals xs its.toList
def zUd:Value→Option V
 | .none=>some .non
 | .bool b=>some (.bl b)
 | .int i _=>some (.int i)
 | .str x _=>some (.str x)
 | .bytes b _=>some (.byt b)
 | .float b _=>some (.flt b)
 | .ref a=>some (.ref a)
 | .type n=>some (.ty n)
 | _=>none
theorem RelV.abs {x:V}{u:Value}(r:RelV x u):zUd u=some x:=by
 cases x with
 | non=>cases r;rfl
 | bl _=>cases r;rfl
 | int _=>obtain ⟨t,rfl⟩:=r;rfl
 | str _=>obtain ⟨t,rfl⟩:=r;rfl
 | byt _=>obtain ⟨t,rfl⟩:=r;rfl
 | flt _=>obtain ⟨t,rfl⟩:=r;rfl
 | ref _=>cases r;rfl
 | ty _=>cases r;rfl
theorem RelV.inj {x y:V}{u:Value}(r:RelV x u) (q:RelV y u):x=y:=Option.some.inj (r.abs.symm.trans q.abs)
theorem Vals.inj:∀ {xs ys:List V}{us:List Value},Vals xs us→Vals ys us→xs=ys
 | _,_,_,.nil,.nil=>rfl
 | _,_,_,.cons r t,.cons r' t'=>by rw [r.inj r',Vals.inj t t']
section
variable {X:Cx}{pins:List (Addr × Obj)}{σ:St}{H:Hp}{s:Shared}{a:Addr}{xs ys:List V}
theorem SqL.of {K:PySem.W.Frag}(h:H a=some (.lst xs)):SqL K H a xs:=.inl (.inl h)
theorem SqT.of {K:PySem.W.Frag}(h:H a=some (.tup xs)):SqT K H a xs:=.inl (.inl h)
theorem Inv.list (I:Inv X pins σ H s) (h:SqL X.K H a xs):∃ its:List Value,Vals xs its∧PlainL s.heap a its.toArray∧xs.length≤sizeLine:=by
 rcases h with h | ⟨o,its,n,hk,hc,hd,hs,hz,r⟩
 ·obtain ⟨z,its,n,r,e⟩:=h.ok I.hok
  exact ⟨its,r,⟨_,n,e,rfl,rfl,rfl⟩,z⟩
 ·refine ⟨its.toList,r,⟨o,n,I.kIn a o hk,hc,hd,by simpa using hs⟩,?_⟩
  have e:=r.length
  simp only [Array.length_toList] at e
  omega
theorem Inv.tuple (I:Inv X pins σ H s) (h:SqT X.K H a xs):∃ its:List Value,Vals xs its∧IsTup s.heap a its.toArray∧xs.length≤sizeLine:=by
 rcases h with h | ⟨o,its,n,hk,hc,hs,hz,r⟩
 ·obtain ⟨z,its,r,p⟩:=h.ok I.hok
  exact ⟨its,r,p,z⟩
 ·refine ⟨its.toList,r,⟨o,I.kIn a o hk,hc,n,by simpa using hs⟩,?_⟩
  have e:=r.length
  simp only [Array.length_toList] at e
  omega
theorem Inv.list_inj (I:Inv X pins σ H s) (h:SqL X.K H a xs) (h':SqL X.K H a ys):xs=ys:=by
 obtain ⟨its,r,⟨o,n,e,_,_,d⟩,_⟩:=I.list h
 obtain ⟨its',r',⟨o',n',e',_,_,d'⟩,_⟩:=I.list h'
 rw [e] at e';cases e'
 rw [d] at d'
 injection d' with d1 _
 have:its=its':=by simpa using congrArg Array.toList d1
 subst this
 exact r.inj r'
end
abbrev Cx.wish (X:Cx) (E:Value→Shared→Prop):Cx:={ X with xe:=E }
abbrev Cx.nox (X:Cx):Cx:=X.wish fun _ _=>False
theorem Cx.Ok.wish {X:Cx}(ok:X.Ok) (E:Value→Shared→Prop):(X.wish E).Ok :=
 ⟨ok.mod,ok.kind,ok.glob,ok.blt,ok.above,ok.inj,ok.has,ok.cab,ok.hd,ok.frames,ok.stk,ok.exf,ok.bs,ok.bsz,ok.noex,ok.exfs,ok.funs,ok.frf⟩
theorem Cx.Ok.unwish {X:Cx}{E:Value→Shared→Prop}(ok:(X.wish E).Ok):X.Ok :=
 ⟨ok.mod,ok.kind,ok.glob,ok.blt,ok.above,ok.inj,ok.has,ok.cab,ok.hd,ok.frames,ok.stk,ok.exf,ok.bs,ok.bsz,ok.noex,ok.exfs,ok.funs,ok.frf⟩
section
variable {X:Cx}{pins:List (Addr × Obj)}{σ:St}{H:Hp}{s:Shared}{E:Value→Shared→Prop}
theorem Inv.wish (I:Inv X pins σ H s) (E:Value→Shared→Prop):Inv (X.wish E) pins σ H s:=⟨I.ok.wish E,I.os,I.bare,I.base,I.loc,I.cell,I.free,I.freeC,I.pin,I.hok,I.len,I.tr,I.fix⟩
theorem Inv.unwish (I:Inv (X.wish E) pins σ H s):Inv X pins σ H s:=⟨I.ok.unwish,I.os,I.bare,I.base,I.loc,I.cell,I.free,I.freeC,I.pin,I.hok,I.len,I.tr,I.fix⟩
theorem SP.unwish {D:Ends}{f:Flow}{s':Shared}(h:SP (X.wish E) pins D f s'):SP X pins D f s':=by
 cases f with
 | next=>obtain ⟨σ',H',I,q⟩:=h;exact ⟨σ',H',I.unwish,q⟩
 | brk=>obtain ⟨σ',H',I,q⟩:=h;exact ⟨σ',H',I.unwish,q⟩
 | cont=>obtain ⟨σ',H',I,q⟩:=h;exact ⟨σ',H',I.unwish,q⟩
 | ret u=>obtain ⟨v,σ',H',I,r,q⟩:=h;exact ⟨v,σ',H',I.unwish,r,q⟩
theorem PSs.nox {st:List Stmt}{t:TS}(h:PSs X.nox st t):PSs X st t:=fun pins s σ H D I hw =>
 wpAny_mono (h pins s σ H D (I.wish _) hw) (fun _ _ q=>q.unwish) fun _ _ z=>False.elim z
end
section
variable {X:Cx}{st:Stmt}{rest:List Stmt}{t u:TS}{e:Expr}{te:TE}{pos:Pos}
def zRg:TS:=fun D σ H=>D.nx σ H
def zOd (t u:TS):TS:=fun D σ H=>t { D with nx:=u D } σ H
theorem zU:PSs X [] zRg:=fun _ _ σ H _ I h=>wpAny_execs_nil ⟨σ,H,I,h⟩
theorem pss_cons (h1:PS X st t) (h2:PSs X rest u):PSs X (st :: rest) (zOd t u):=by
 intro pins s σ H D I h
 refine wpAny_execs_cons (thn (h1 pins s σ H { D with nx:=u D } I h) fun f s1 q=>?_)
 cases f with
 | next =>
  obtain ⟨σ',H',I',q⟩:=q
  exact h2 pins s1 σ' H' D I' q
 | ret v=>exact q
 | brk=>exact q
 | cont=>exact q
theorem zG (h1:PS X st t):PSs X [st] t:=by
 intro pins s σ H D I h
 refine wpAny_execs_cons (thn (h1 pins s σ H D I h) fun f s1 q=>?_)
 cases f with
 | next=>exact wpAny_execs_nil q
 | ret v=>exact q
 | brk=>exact q
 | cont=>exact q
theorem Inv.quiet {pins:List (Addr × Obj)}{σ:St}{H:Hp}{s:Shared}(I:Inv X pins σ H s):interactive X.env=false:=by simp [interactive,I.ok.kind]
def zRi (te:TE):TS:=fun D σ H=>te σ H fun _ H1=>D.nx σ H1
theorem zT (he:PE X e te) (hs:swapsWith e none pos.line X.env=pure false:=by rfl):PS X (.Expr e pos) (zRi te):=by
 intro pins s σ H D I h
 exact wpAny_Expr_any (thn (he pins s σ H _ I h) fun v s1 ⟨x,H1,I1,r1,q1⟩=>⟨σ,H1,I1,q1⟩) I.quiet hs
def zTn (te:TE):TS:=fun D σ H=>te σ H D.rt
theorem zV (he:PE X e te):PS X (.Return (some e) pos) (zTn te):=by
 intro pins s σ H D I h
 exact wpAny_Return_some (thn (he pins s σ H _ I h) fun v s1 ⟨x,H1,I1,r1,q1⟩=>⟨x,σ,H1,I1,r1,q1⟩)
def zS0:TS:=fun D _ H=>D.rt .non H
theorem zQa:PS X (.Return none pos) zS0:=fun _ _ σ H _ I h=>wpAny_Return_none ⟨.non,σ,H,I,rfl,h⟩
def zTp (c:TT) (t u:TS):TS:=fun D σ H=>c σ H fun b H1=>if b=true then t D σ H1 else u D σ H1
theorem zAp {c:Expr}{a b:List Stmt}{tc:TT}(hc:PT X c tc) (ha:PSs X a t) (hb:PSs X b u):PS X (.If c a b pos) (zTp tc t u):=by
 intro pins s σ H D I h
 refine wpAny_If (thn (hc pins s σ H _ I h) fun d s1 ⟨H1,I1,q1⟩=>?_)
 cases d with
 | true=>exact ha pins s1 σ H1 D I1 q1
 | false=>exact hb pins s1 σ H1 D I1 q1
end
abbrev TG:=V→St→Hp→(St→Hp→Prop)→Prop
abbrev TGs:=List V→St→Hp→(St→Hp→Prop)→Prop
def PG (X:Cx) (target:Expr) (t:TG):Prop :=
 ∀ (pins:List (Addr × Obj)) (s:Shared) (σ:St) (H:Hp) (v:V) (u:Value) (Q:St→Hp→Prop),Inv X pins σ H s→RelV v u→t v σ H Q →
  wpAny (model X.prog X.w) X.A (assign target X.env u) (fun _ s'=>∃ σ' H',Inv X pins σ' H' s'∧Q σ' H') X.xe s
def PGs (X:Cx) (ts:List Expr) (t:TGs):Prop :=
 ∀ (pins:List (Addr × Obj)) (s:Shared) (σ:St) (H:Hp) (vs:List V) (us:List Value) (Q:St→Hp→Prop),Inv X pins σ H s→Vals vs us→t vs σ H Q →
  wpAny (model X.prog X.w) X.A (assignInOrder ((assignEach ts X.env).map (·.2)) us) (fun _ s'=>∃ σ' H',Inv X pins σ' H' s'∧Q σ' H') X.xe s
abbrev zTl:=V→V→V→Hp→(Hp→Prop)→Prop
def zTz (X:Cx) (t:zTl):Prop :=
 ∀ (pins:List (Addr × Obj)) (s:Shared) (σ:St) (H:Hp) (o i v:V) (ov iv u:Value) (Q:Hp→Prop),Inv X pins σ H s→RelV o ov→RelV i iv→RelV v u→t o i v H Q →
  wpAny (model X.prog X.w) X.A (setItem ov iv u) (fun _ s'=>∃ H',Inv X pins σ H' s'∧Q H') X.xe s
section
variable {X:Cx}{pos:Pos}
def zLr (i:Nat):TG:=fun v σ H Q=>Q (σ.set i (some v)) H
theorem zx {i:Nat}{x:Str}(hN:X.N.Nodup) (hi:X.N[i]? = some x) (hx:Loc X.env.scope x) (hf:X.fn x=true∨X.env.scope.names.lookup x=some .local:=by first|exact .inl rfl|exact .inr rfl | assumption) (hfx:∀ p ∈ X.fx,p.1≠x:=by first|exact fun p h=>absurd (show p ∈ ([] : List (Str × Value)) from h) (by simp) | assumption):PG X (.Name x pos) (zLr i):=by
 intro pins s σ H v u Q I r h
 exact wpAny_assign_Name (zKa I hN hi hx r (fun s' I'=>⟨_,H,I',h⟩) hf hfx)
def zUb:TGs:=fun vs σ H Q=>vs=[]∧Q σ H
inductive gCons' (t:TG) (u:TGs) (vs:List V) (σ:St) (H:Hp) (Q:(St→Hp→Prop)):Prop
 | mk:∀ v r,(vs=v :: r)→(t v σ H fun σ' H'=>u r σ' H' Q)→gCons' t u vs σ H Q
def zTh (t:TG) (u:TGs):TGs:=fun vs σ H Q=>gCons' t u vs σ H Q
theorem zDl:PGs X [] zUb:=by
 intro pins s σ H vs us Q I r h
 obtain ⟨e,h⟩:=h
 subst e
 cases r
 exact assignInOrder_nil ⟨σ,H,I,h⟩
theorem zAq {e:Expr}{es:List Expr}{t:TG}{u:TGs}(h1:PG X e t) (h2:PGs X es u)
  (hs:(assignEach (e :: es) X.env).map (·.2)=assign e X.env :: (assignEach es X.env).map (·.2):=by rfl):PGs X (e :: es) (zTh t u):=by
 intro pins s σ H vs us Q I r h
 obtain ⟨v,vr,e1,h⟩:=h
 subst e1
 cases r with
 | cons r rr =>
  rw [hs]
  refine assignInOrder_cons (thn (h1 pins s σ H _ _ _ I r h) fun _ s1 ⟨σ1,H1,I1,q1⟩=>?_)
  exact h2 pins s1 σ1 H1 _ _ Q I1 rr q1
inductive gTup' (K:PySem.W.Frag) (n:Nat) (t:TGs) (v:V) (σ:St) (H:Hp) (Q:(St→Hp→Prop)):Prop
 | mk:∀ a xs,(v=.ref a)→(SqT K H a xs)→(xs.length=n)→(t xs σ H Q)→gTup' K n t v σ H Q
def zUa (K:PySem.W.Frag) (n:Nat) (t:TGs):TG:=fun v σ H Q=>gTup' K n t v σ H Q
theorem zFg {es:List Expr}{k:Nat}{t:TGs}{n:Nat}(hc:X.A.handled=none) (h:PGs X es t)
  (hn:(assignEach es X.env).length=n:=by rfl) (hst:(assignEach es X.env).findIdx? (·.1)=none:=by rfl):PG X (.Tuple es k pos) (zUa X.K n t):=by
 intro pins s σ H v u Q I r hw
 obtain ⟨a,xs,e1,hq,hl,hw⟩:=hw
 subst e1
 cases r
 obtain ⟨its,rv,ht,hz⟩:=I.tuple hq
 refine assign_Tuple_tuple hc ht (by simp [hn,← hl,rv.length]) hst fun h' hx=>?_
 have I1:Inv X pins σ H { s with heap:=h' }:=I.kept (t':=s.toks) fun b o e=>hx b o (Nat.ne_of_lt (Heap.lt_size e)) e
 exact h pins _ σ H xs _ Q I1 (by simpa using rv) hw
def zTx (to ti:TE) (t:zTl):TG:=fun v σ H Q=>to σ H fun o H1=>ti σ H1 fun i H2=>t o i v H2 fun H3=>Q σ H3
theorem zRw {o i:Expr}{to ti:TE}{t:zTl}(ho:PE X o to) (hi:PE X i ti) (hs:zTz X t)
  (ha:∀ v,assign (.Subscript o i pos) X.env v=(do
   let ov ← holding [v] (eval o X.env)
   let iv ← holding [v,ov] (eval i X.env)
   standAt pos
   holding [v,ov,iv] (setItem ov iv v)
   release [v,ov,iv] []):=by intro _;rfl):PG X (.Subscript o i pos) (zTx to ti t):=by
 intro pins s σ H v u Q I r h
 rw [ha]
 refine wpAny_bind (wpAny_holding (thn (ho pins s σ H _ I h) fun ov s1 ⟨x,H1,I1,r1,q1⟩=>?_))
 refine wpAny_bind (wpAny_holding (thn (hi pins s1 σ H1 _ I1 q1) fun iv s2 ⟨y,H2,I2,r2,q2⟩=>?_))
 refine wpAny_bind (wpAny_standAt (wpAny_bind (wpAny_holding (thn (hs pins s2 σ H2 x y v ov iv u _ I2 r1 r2 r q2) fun _ s3 ⟨H3,I3,q3⟩=>?_))))
 exact wpAny_release ⟨σ,H3,I3,q3⟩
def zRm (te:TE) (g:TG):TS:=fun D σ H=>te σ H fun x H1=>g x σ H1 D.nx
theorem zPo {tg e:Expr}{te:TE}{g:TG}(he:PE X e te) (hg:PG X tg g) (hs:swapsWithSole [tg] e pos.line X.env=pure false:=by rfl) (hw:swappedStores [tg] e X.env=pure none:=by rfl)
  (h1:(assignEach [tg] X.env).map (·.2)=[assign tg X.env]:=by rfl):PS X (.Assign [tg] e pos) (zRm te g):=by
 intro pins s σ H D I h
 refine wpAny_Assign_stores (thn (he pins s σ H _ I h) fun v s1 ⟨x,H1,I1,r1,q1⟩=>?_) hs hw
 rw [h1]
 exact thn (hg pins s1 σ H1 x v _ I1 r1 q1) fun _ s2 q=>q
theorem ps_set {i:Nat}{x:Str}{e:Expr}{te:TE}{pos':Pos}(hN:X.N.Nodup) (hi:X.N[i]? = some x) (hx:Loc X.env.scope x) (he:PE X e te) (hs:swapsWith e (some (.Name x pos')) pos.line X.env=pure false:=by rfl) (hf:X.fn x=true∨X.env.scope.names.lookup x=some .local:=by first|exact .inl rfl|exact .inr rfl | assumption) (hfx:∀ p ∈ X.fx,p.1≠x:=by first|exact fun p h=>absurd (show p ∈ ([] : List (Str × Value)) from h) (by simp) | assumption) :
  PS X (.Assign [.Name x pos'] e pos) (zRm te (zLr i)):=by
 intro pins s σ H D I h
 refine wpAny_Assign_Name (thn (he pins s σ H _ I h) fun v s1 ⟨y,H1,I1,r1,q1⟩=>?_) hs
 exact zKa I1 hN hi hx r1 (fun s2 I2=>⟨_,H1,I2,q1⟩) hf hfx
end
section
variable {X:Cx}{pos:Pos}
def zRf (c:TT) (tb:TS):TS:=fun D σ H=>∃ W:Nat→St→Hp→Prop,(∃ m,W m σ H)∧∀ m σ H,W m σ H →
 c σ H fun b H1=>if b=true then ∃ N:St→Hp→Prop,(∀ σ' H',N σ' H'→∃ m',m' < m∧W m' σ' H')∧tb { D with nx:=N,ct:=N,bk:=D.nx } σ H1 else D.nx σ H1
theorem zKl {c:Expr}{body:List Stmt}{tc:TT}{tb:TS}(hp:PassesOwn (model X.prog X.w) X.A X.env X.xe) (hc:PT X c tc) (hb:PSs X body tb):PS X (.While c body [] pos) (zRf tc tb):=by
 intro pins s σ H D I h
 obtain ⟨W,⟨m0,w0⟩,turn⟩:=h
 refine wpAny_While (codeAny_whileLoop (fun n s'=>∃ σ' H',Inv X pins σ' H' s'∧W n σ' H') ?_ m0 ⟨σ,H,I,w0⟩)
 rintro n s1 ⟨σ1,H1,I1,w1⟩
 refine wpAny_passesOwn hp (thn (hc pins s1 σ1 H1 _ I1 (turn n σ1 H1 w1)) fun b s2 ⟨H2,I2,q2⟩=>?_)
 cases b with
 | true =>
  obtain ⟨N,hN,q2⟩:=q2
  rw [if_pos rfl]
  refine wpAny_passesOwn hp (thn (hb pins s2 σ1 H2 _ I2 q2) fun f s3 q3=>?_)
  cases f with
  | next =>
   obtain ⟨σ3,H3,I3,n3⟩:=q3
   obtain ⟨m',hm,w3⟩:=hN σ3 H3 n3
   exact ⟨m',hm,σ3,H3,I3,w3⟩
  | cont =>
   obtain ⟨σ3,H3,I3,n3⟩:=q3
   obtain ⟨m',hm,w3⟩:=hN σ3 H3 n3
   exact ⟨m',hm,σ3,H3,I3,w3⟩
  | brk=>exact q3
  | ret v=>exact q3
 | false =>
  rw [if_neg Bool.false_ne_true]
  exact wpAny_execs_nil ⟨σ1,H2,I2,q2⟩
end
structure It where
 go:Nat→Hp→Prop
 yld:Nat→Hp→V→Hp→Prop
 stop:Nat→Hp→Prop
def zN8 (X:Cx) (pins:List (Addr × Obj)) (H:Hp) (b:Addr):Prop :=
 H b=none∧b≠X.env.locals∧b ∉ X.fs∧(b ∈ X.ex∨X.s₀.heap.objs.size≤b)∧(∀ x c,X.env.cells.lookup x=some c→c≠b)∧∀ p ∈ X.pn ++ pins,p.1≠b
theorem Inv.fpOk {X:Cx}{pins:List (Addr × Obj)}{σ:St}{H H':Hp}{s:Shared}{b:Addr}(I:Inv X pins σ H s) (hb:s.heap.objs.size≤b) (hn:H' b=none):zN8 X pins H' b:=by
 refine ⟨hn,Nat.ne_of_gt (Nat.lt_of_lt_of_le I.lt hb),I.nofs hb,.inr (Nat.le_trans I.sz hb),fun x c e z=>?_,fun p hp z=>?_⟩
 ·obtain ⟨v,q⟩:=I.cell x c e
  exact absurd (Nat.lt_of_lt_of_le q.lt (by rw [z];exact hb)) (Nat.lt_irrefl _)
 ·exact absurd (Nat.lt_of_lt_of_le (Heap.lt_size (I.pin p hp).1) (by rw [z];exact hb)) (Nat.lt_irrefl _)
structure Turn (P:Program) (w:World) (K:PySem.W.Frag) (tg:Expr) (J:It) (fp:List Addr) (it:Addr) (tn:Nat→Heap→Prop):Prop where
 mem:it ∈ fp
 obj:∀ i h,tn i h→∀ b ∈ fp,∃ o,h.get? b=some o∧∀ v,o.data≠.cell v
 keep:∀ i h h',tn i h→(∀ b ∈ fp,∀ o,h.get? b=some o→h'.get? b=some o)→tn i h'
 item:∀ (X:Cx),X.prog=P→X.w=w→X.K=K→X.calm=true→∀ (i:Nat) (pins:List (Addr × Obj)) (s:Shared) (σ:St) (H:Hp) (E:Value→Shared→Prop),Inv X pins σ H s→(∀ b ∈ fp,zN8 X pins H b)→tn i s.heap→J.go i H →
  wpAny (model P w) X.A (pyNext (.ref it)) (fun r s1=>∃ u,r=some u ∧
   wpAny (model P w) X.A (letOwnedTupleGo tg (.ref it) u) (fun _ s2=>∃ x H',Inv X pins σ H' s2∧RelV x u∧J.yld i H x H'∧tn (i + 1) s2.heap∧∀ b ∈ fp,H' b=none) E s1) E s
 done:∀ (X:Cx),X.prog=P→X.w=w→X.K=K→X.calm=true→∀ (i:Nat) (pins:List (Addr × Obj)) (s:Shared) (σ:St) (H:Hp) (E:Value→Shared→Prop),Inv X pins σ H s→(∀ b ∈ fp,zN8 X pins H b)→tn i s.heap→J.stop i H →
  wpAny (model P w) X.A (pyNext (.ref it)) (fun r s1=>r=none∧Inv X pins σ H s1) E s
 self:∀ (A:Around) (i:Nat) (s:Shared) (Q:Value→Shared→Prop) (E:Value→Shared→Prop),tn i s.heap→Q (.ref it) s→wpAny (model P w) A (pyIter (.ref it)) Q E s
abbrev TI:=St→Hp→(It→Hp→Prop)→Prop
def PIE (X:Cx) (pins:List (Addr × Obj)) (σ:St) (tg:Expr) (R:It→Hp→Prop) (itv:Value) (s2:Shared):Prop :=
 ∃ (it:Addr) (fp:List Addr) (tn:Nat→Heap→Prop) (J:It) (H':Hp),itv=.ref it∧Inv X pins σ H' s2∧Turn X.prog X.w X.K tg J fp it tn∧tn 0 s2.heap∧(∀ b ∈ fp,zN8 X pins H' b)∧R J H'
def PI (X:Cx) (tg iter:Expr) (wi:TI):Prop :=
 ∀ (pins:List (Addr × Obj)) (s:Shared) (σ:St) (H:Hp) (R:It→Hp→Prop),Inv X pins σ H s→wi σ H R →
  wpAny (model X.prog X.w) X.A (eval iter X.env) (fun v s1=>wpAny (model X.prog X.w) X.A (pyIter v) (PIE X pins σ tg R) X.xe s1) X.xe s
theorem zO4 {M:Model}{A:Around}{E:Value→Shared→Prop}{s:Shared}{tg:Expr}{it:Addr}{u:Value}{o:Obj}{n:String}{vs:Array Value}{Q:Unit→Shared→Prop}(ho:s.heap.get? it=some o) (hc:o.cls=.type n) (hd:o.data=.fields vs)
    (hn:["enumerate", "zip", "dict_itemiterator", "dict_reverseitemiterator", "odict_iterator", "itertools.zip_longest", "itertools.pairwise"].contains n=false) (hQ:Q () s):wpAny M A (letOwnedTupleGo tg (.ref it) u) Q E s:=by
  unfold letOwnedTupleGo
  cases tg <;> first
    | exact wpAny_pure hQ
    | (cases u <;> first
        | exact wpAny_pure hQ
        | (refine wpAny_bind (wpAny_load ho ?_)
           rw [hc,hd]
           show wpAny M A (if (["enumerate", "zip", "dict_itemiterator", "dict_reverseitemiterator", "odict_iterator", "itertools.zip_longest", "itertools.pairwise"].contains n && vs[0]? == some (rawInt _))=true then _ else _) Q E s
           rw [if_neg (by intro h;rw [hn,Bool.false_and] at h;cases h)]
           exact wpAny_pure hQ))
def Itl (K:PySem.W.Frag) (a:Addr):It :=
 ⟨fun i H=>∃ xs x,SqL K H a xs∧xs[i]? = some x,fun i H x H'=>H'=H∧∀ xs,SqL K H a xs→xs[i]? = some x,fun i H=>∃ xs,SqL K H a xs∧xs.length≤i⟩
def Itr (lo:Int) (n:Nat):It:=⟨fun i _=>i < n,fun i H x H'=>H'=H∧x=.int (lo + i),fun i _=>n≤i⟩
theorem zL4 {P:Program}{w:World}{K:PySem.W.Frag}{tg:Expr}(a it:Addr):Turn P w K tg (Itl K a) [it] it (fun i h=>h.IsListIter it a i) where
 mem:=by simp
 obj:=fun i h st b hb=>by
  have e:b=it:=by simpa using hb
  subst e
  obtain ⟨o,e,c,d⟩:=st
  exact ⟨o,e,fun v z=>by rw [d] at z;cases z⟩
 keep:=fun i h h' st k=>st.at fun o e=>k it (by simp) o e
 item:=by
  intro X hP hw hK hc i pins s σ H E I hf st hg
  subst hP hw hK
  obtain ⟨xs,x,hq,hx⟩:=hg
  obtain ⟨its,rv,p,hz⟩:=I.list hq
  obtain ⟨u,hu,ru⟩:=rv.get hx
  obtain ⟨f0,f1,f2,f3,f4,f5⟩:=hf it (by simp)
  refine wpAny_pyNext_list_item st p.isList (x:=u) (by simpa using hu) fun h' st' sb=>?_
  have I1:Inv X pins σ H { s with heap:=h' }:=I.turned (t':=s.toks) (fun b o hb e=>(sb.2 b hb).trans e) f0 f1 f3 f4 f5
  obtain ⟨o,e,c,d⟩:=id st'
  exact ⟨u,rfl,zO4 (s:={ s with heap:=h' }) e c d (by decide) ⟨x,H,I1,ru,⟨rfl,fun ys hy=>by rw [I.list_inj hy hq];exact hx⟩,st',fun b hb=>(hf b hb).1⟩⟩
 done:=by
  intro X hP hw hK hc i pins s σ H E I hf st hg
  subst hP hw hK
  obtain ⟨xs,hq,hx⟩:=hg
  obtain ⟨its,rv,p,hz⟩:=I.list hq
  obtain ⟨f0,f1,f2,f3,f4,f5⟩:=hf it (by simp)
  have hl:=rv.length
  exact zIp I.hd st p.isList (by simp;omega) fun h' eb=>⟨rfl,I.turned (t':=s.toks) (fun b o hb e=>eb b o hb e) f0 f1 f3 f4 f5⟩
 self:=fun _ _ _ _ _ st h=>wpAny_pyIter_listiter st h
theorem zK6 {P:Program}{w:World}{K:PySem.W.Frag}{tg:Expr}(it:Addr) (lo:Int) (n:Nat):Turn P w K tg (Itr lo n) [it] it (fun i h=>IsRangeIter h it (lo + (i:Nat) * 1) ((n:Int) - (i:Nat)) 1) where
 mem:=by simp
 obj:=fun i h st b hb=>by
  have e:b=it:=by simpa using hb
  subst e
  exact ⟨_,st,fun v z=>by
   have z':Data.fields _=Data.cell v:=z
   cases z'⟩
 keep:=fun i h h' st k=>k it (by simp) _ st
 item:=by
  intro X hP hw hK hc i pins s σ H E I hf st hg
  subst hP hw hK
  obtain ⟨f0,f1,f2,f3,f4,f5⟩:=hf it (by simp)
  have hlt:i < n:=hg
  refine wpAny_pyNext_range_item st (by omega) fun h' st' sb=>?_
  have I1:Inv X pins σ H { s with heap:=h',toks:=s.toks + 1 }:=I.turned (fun b o hb e=>(sb.2 b hb).trans e) f0 f1 f3 f4 f5
  have e1:lo + (i:Int) * 1 + 1=lo + ((i + 1:Nat):Int) * 1:=by omega
  have e2:(n:Int) - (i:Int) - 1=(n:Int) - ((i + 1:Nat):Int):=by omega
  rw [e1,e2] at st'
  refine ⟨_,rfl,zO4 (s:={ s with heap:=h',toks:=s.toks + 1 }) (n := "range_iterator") st' rfl rfl (by decide) ⟨.int (lo + i),H,I1,⟨s.toks,?_⟩,⟨rfl,rfl⟩,st',fun b hb=>(hf b hb).1⟩⟩
  rw [Int.mul_one]
 done:=by
  intro X hP hw hK hc i pins s σ H E I hf st hg
  subst hP hw hK
  obtain ⟨f0,f1,f2,f3,f4,f5⟩:=hf it (by simp)
  exact zGi I.hd st (by have:n≤i:=hg;omega) fun h' eb=>⟨rfl,I.turned (t':=s.toks) (fun b o hb e=>eb b o hb e) f0 f1 f3 f4 f5⟩
 self:=fun _ _ _ _ _ st h=>wpAny_pyIter_rangeiter st h
end L2
namespace L2
open PySem PySem.Spec PyProof.Rows
section
variable {X:Cx}{tg:Expr}
inductive iList' (K:PySem.W.Frag) (R:(It→Hp→Prop)) (x:V) (H1:Hp):Prop
 | mk:∀ a,(x=.ref a)→((∃ xs,SqL K H1 a xs))→(R (Itl K a) H1)→iList' K R x H1
def zSg (K:PySem.W.Frag) (tl:TE):TI:=fun σ H R=>tl σ H fun x H1=>iList' K R x H1
theorem zQc {l:Expr}{tl:TE}(hl:PE X l tl):PI X tg l (zSg X.K tl):=by
 intro pins s σ H R I h
 refine thn (hl pins s σ H _ I h) fun v s1 ⟨x,H1,I1,r1,q1⟩=>?_
 obtain ⟨a,e,⟨xs,hq⟩,q⟩:=q1
 subst e
 cases r1
 obtain ⟨its,rv,p,hz⟩:=I1.list hq
 refine wpAny_pyIter_list p.isList ?_
 refine ⟨s1.heap.objs.size,[s1.heap.objs.size],_,_,H1,rfl,I1.kept (t':=s1.toks) fun b o e=>Heap.get?_push_of_some _ e,zL4 a _,⟨_,Heap.get?_push_size _ rfl,rfl,rfl⟩,fun b hb=>?_,q⟩
 have e:b=s1.heap.objs.size:=by simpa using hb
 subst e
 exact I1.fpOk (Nat.le_refl _) (I1.hok.fresh (Nat.le_refl _))
theorem zKi {pins:List (Addr × Obj)}{σ:St}{H:Hp}{s:Shared}{R:It→Hp→Prop}{E:Value→Shared→Prop}{lo hi:Int}{t u v:Tok}{tk:Nat}(I:Inv X pins σ H s) (h1:-(2 ^ 62)≤lo) (h2:lo < 2 ^ 62) (h3:-(2 ^ 62)≤hi) (h4:hi < 2 ^ 62)
  (q:R (Itr lo (hi - lo).toNat) H):wpAny (model X.prog X.w) X.A (pyIter (.ref s.heap.objs.size)) (PIE X pins σ tg R) E { s with heap:=s.heap.push { cls:=.type "range", data:=.fields #[.int lo t,.int hi u,.int 1 v] },toks:=tk }:=by
 refine wpAny_pyIter_range (IsRange.new ..) (small_one h1 h2 h3 h4) ?_
 have I1:Inv X pins σ H { s with heap:=s.heap.push { cls:=.type "range", data:=.fields #[.int lo t,.int hi u,.int 1 v] },toks:=tk }:=I.kept fun b o e=>Heap.get?_push_of_some _ e
 refine ⟨(s.heap.push { cls:=.type "range", data:=.fields #[.int lo t,.int hi u,.int 1 v] }).objs.size,[(s.heap.push { cls:=.type "range", data:=.fields #[.int lo t,.int hi u,.int 1 v] }).objs.size],_,_,H,rfl,
  I1.kept (t':=tk) fun b o e=>Heap.get?_push_of_some _ e,zK6 _ lo (hi - lo).toNat,?_,fun b hb=>?_,q⟩
 ·have e1:lo + ((0:Nat):Int) * 1=lo:=by simp
  have e2:(((hi - lo).toNat:Nat):Int) - ((0:Nat):Int)=Builtin.Range.rangeSize lo hi 1:=by rw [rangeSize_one];split <;> omega
  show IsRangeIter _ _ (lo + ((0:Nat):Int) * 1) ((((hi - lo).toNat:Nat):Int) - ((0:Nat):Int)) 1
  rw [e1,e2]
  exact Heap.get?_push_size _ rfl
 ·have e:b=(s.heap.push { cls:=.type "range", data:=.fields #[.int lo t,.int hi u,.int 1 v] }).objs.size:=by simpa using hb
  subst e
  exact I1.fpOk (Nat.le_refl _) (I1.hok.fresh (Nat.le_refl _))
inductive iRng1' (R:(It→Hp→Prop)) (vs:List V) (H1:Hp):Prop
 | mk:∀ j:Int,(vs=[.int j])→(-(2 ^ 62)≤j)→(j < 2 ^ 62)→(R (Itr 0 j.toNat) H1)→iRng1' R vs H1
def zTe (ta:TA):TI:=fun σ H R=>ta σ H fun vs H1=>iRng1' R vs H1
inductive iRng2' (R:(It→Hp→Prop)) (vs:List V) (H1:Hp):Prop
 | mk:∀ i j:Int,(vs=[.int i,.int j])→((-(2 ^ 62)≤i∧i < 2 ^ 62∧-(2 ^ 62)≤j∧j < 2 ^ 62))→(R (Itr i (j - i).toNat) H1)→iRng2' R vs H1
def zTd (ta:TA):TI:=fun σ H R=>ta σ H fun vs H1=>iRng2' R vs H1
theorem zDw {a:Expr}{ta:TA}{p pos:Pos}(hg:Gl X "range") (hm:X.mg "range" = none) (ha:PA X [a] ta) (hs:starEach [a] X.env=[(false,eval a X.env)]:=by rfl):PI X tg (.Call (.Name "range" p) [a] [] pos) (zTe ta):=by
 intro pins s σ H R I h
 refine Call_ (zD6 I hg hm boot_range (PyProof.Rows.callWith_type1 (thn (ha pos pins s σ H _ I h) fun us s1 ⟨vs,H1,I1,r1,q1⟩=>?_) hs rfl))
 obtain ⟨j,e,q1,q2,q⟩:=q1
 subst e
 cases r1 with
 | cons r rr =>
  cases rr
  obtain ⟨t,rfl⟩:=r
  exact call_range_1 (zKi I1 (by omega) (by omega) q1 q2 (by simpa using q))
theorem zFf {a b:Expr}{ta:TA}{p pos:Pos}(hg:Gl X "range") (hm:X.mg "range" = none) (ha:PA X [a,b] ta) (hs:starEach [a,b] X.env=[(false,eval a X.env),(false,eval b X.env)]:=by rfl) (hs2:starEach [b] X.env=[(false,eval b X.env)]:=by rfl) :
  PI X tg (.Call (.Name "range" p) [a,b] [] pos) (zTd ta):=by
 intro pins s σ H R I h
 refine Call_ (zD6 I hg hm boot_range (PyProof.Rows.callWith_type1 (thn (ha pos pins s σ H _ I h) fun us s1 ⟨vs,H1,I1,r1,q1⟩=>?_) (by rw [hs,hs2]) (by rw [hs2];rfl)))
 obtain ⟨i,j,e,⟨q1,q2,q3,q4⟩,q⟩:=q1
 subst e
 cases r1 with
 | cons r rr =>
  cases rr with
  | cons r' rr =>
   cases rr
   obtain ⟨t,rfl⟩:=r
   obtain ⟨t',rfl⟩:=r'
   exact call_range_2 (zKi I1 q1 q2 q3 q4 q)
def zT3 (wi:TI) (g:TG) (tb:TS):TS:=fun D σ H=>wi σ H fun J H1=>∃ W:Nat→Nat→St→Hp→Prop,(∃ m,W 0 m σ H1)∧∀ i m σ H,W i m σ H →
 (J.stop i H∧D.nx σ H)∨(J.go i H∧∃ N:St→Hp→Prop,(∀ σ' H',N σ' H'→∃ m',m' < m∧W (i + 1) m' σ' H')∧∀ x H',J.yld i H x H'→g x σ H' fun σ2 H2=>tb { D with nx:=N,ct:=N,bk:=D.nx } σ2 H2)
def zH9 (fp:List Addr) (h:Heap):List (Addr × Obj):=fp.filterMap fun b=>(h.get? b).map fun o=>(b,o)
theorem zDg {fp:List Addr}{h:Heap}{b:Addr}{o:Obj}(hb:b ∈ fp) (e:h.get? b=some o):(b,o) ∈ zH9 fp h:=List.mem_filterMap.mpr ⟨b,hb,by rw [e];rfl⟩
theorem zMz {fp:List Addr}{h:Heap}{p:Addr × Obj}(hp:p ∈ zH9 fp h):p.1 ∈ fp∧h.get? p.1=some p.2:=by
 obtain ⟨b,hb,e⟩:=List.mem_filterMap.mp hp
 cases q:h.get? b with
 | none=>rw [q] at e;cases e
 | some o =>
  rw [q] at e
  have e':(b,o)=p:=Option.some.inj e
  subst e'
  exact ⟨hb,q⟩
theorem Inv.pinned {pins:List (Addr × Obj)}{σ:St}{H:Hp}{s:Shared}{fp:List Addr}(I:Inv X pins σ H s) (hf:∀ b ∈ fp,zN8 X pins H b) (ho:∀ b ∈ fp,∃ o,s.heap.get? b=some o∧∀ v,o.data≠.cell v):Inv X (pins ++ zH9 fp s.heap) σ H s :=
 I.pins_of fun p hp=>(List.mem_append.mp hp).elim (fun z=>I.pin p (List.mem_append_right _ z)) fun z=>by
  obtain ⟨hb,e⟩:=zMz z
  obtain ⟨f0,f1,f2,_⟩:=hf p.1 hb
  obtain ⟨o,e',d⟩:=ho p.1 hb
  rw [e] at e';cases e'
  exact ⟨e,f0,f1,f2,d⟩
theorem Inv.unpinned {pins pl:List (Addr × Obj)}{σ:St}{H:Hp}{s:Shared}(I:Inv X (pins ++ pl) σ H s):Inv X pins σ H s:=I.pins_of fun p hp=>I.pin p (List.mem_append_right _ (List.mem_append_left _ hp))
theorem zCk {iter:Expr}{body:List Stmt}{wi:TI}{g:TG}{tb:TS}{pos:Pos}(hp:PassesOwn (model X.prog X.w) X.A X.env X.xe) (hc:X.calm=true) (hi:PI X tg iter wi) (hg:PG X tg g) (hb:PSs X body tb)
  (hs:∀ x,foldedSetIterable iter X.env x=pure x:=by intro _;rfl):PS X (.For tg iter body [] pos) (zT3 wi g tb):=by
 intro pins s σ H D I h
 refine wpAny_For (thn (hi pins s σ H _ I h) fun v s1 h1=>thn h1 fun itv s2 h2=>?_) hs
 obtain ⟨it,fp,tn,J,H2,e,I2,T,st2,f2,W,⟨m0,w0⟩,turn⟩:=h2
 subst e
 have stat:∀ {H':Hp},(∀ b ∈ fp,H' b=none)→∀ b ∈ fp,zN8 X pins H' b:=fun hn b hb=>⟨hn b hb,(f2 b hb).2⟩
 refine codeAny_forLoop_any (fun n s'=>∃ i σ' H',Inv X pins σ' H' s'∧tn i s'.heap∧(∀ b ∈ fp,H' b=none)∧W i n σ' H') ?_ m0 ⟨0,σ,H2,I2,st2,fun b hb=>(f2 b hb).1,w0⟩
 rintro n s3 ⟨i,σ3,H3,I3,st3,fr3,w3⟩
 rcases turn i n σ3 H3 w3 with ⟨stop,qn⟩ | ⟨go,N,hN,step⟩
 ·refine wpAny_passesOwn hp (thn (T.done X rfl rfl rfl hc i pins s3 σ3 H3 X.xe I3 (stat fr3) st3 stop) fun r s4 ⟨hr,I4⟩=>?_)
  subst hr
  exact wpAny_execs_nil ⟨σ3,H3,I4,qn⟩
 ·refine wpAny_passesOwn hp (thn (T.item X rfl rfl rfl hc i pins s3 σ3 H3 X.xe I3 (stat fr3) st3 go) fun r s4 ⟨u,hr,h4⟩=>?_)
  subst hr
  refine wpAny_passesOwn hp (thn h4 fun _ s5 ⟨x,H5,I5,r5,y5,st5,fr5⟩=>?_)
  have I5':=I5.pinned (stat fr5) (T.obj _ _ st5)
  refine wpAny_passesOwn hp (thn (hg _ s5 σ3 H5 x u _ I5' r5 (step x H5 y5)) fun _ s6 ⟨σ6,H6,I6,q6⟩=>?_)
  refine wpAny_passesOwn hp (thn (hb _ s6 σ6 H6 _ I6 q6) fun f s7 q7=>?_)
  have again:∀ {σ7:St}{H7:Hp},Inv X (pins ++ zH9 fp s5.heap) σ7 H7 s7→N σ7 H7→∃ m,m < n∧∃ i σ' H',Inv X pins σ' H' s7∧tn i s7.heap∧(∀ b ∈ fp,H' b=none)∧W i m σ' H':=fun {σ7 H7} I7 n7=>by
   obtain ⟨m',hm,w7⟩:=hN σ7 H7 n7
   refine ⟨m',hm,i + 1,σ7,H7,I7.unpinned,T.keep _ _ _ st5 fun b hb o e=>(I7.pin (b,o) (List.mem_append_right _ (List.mem_append_right _ (zDg hb e)))).1,fun b hb=>?_,w7⟩
   obtain ⟨o,e,d⟩:=T.obj _ _ st5 b hb
   exact (I7.pin (b,o) (List.mem_append_right _ (List.mem_append_right _ (zDg hb e)))).2.1
  cases f with
  | next=>obtain ⟨σ7,H7,I7,n7⟩:=q7;exact again I7 n7
  | cont=>obtain ⟨σ7,H7,I7,n7⟩:=q7;exact again I7 n7
  | brk=>obtain ⟨σ7,H7,I7,q7⟩:=q7;exact ⟨σ7,H7,I7.unpinned,q7⟩
  | ret v=>obtain ⟨x7,σ7,H7,I7,r7,q7⟩:=q7;exact ⟨x7,σ7,H7,I7.unpinned,r7,q7⟩
end
theorem zCy {K:PySem.W.Frag}{a:Addr}{xs:List V}{g:TG}{tb:TS}{D:Ends}{σ:St}{H:Hp}(Pv:Nat→St→Hp→Prop) (h0:Pv 0 σ H) (hl:∀ i σ H,i≤xs.length→Pv i σ H→SqL K H a xs)
  (hs:∀ i x σ H,xs[i]? = some x→Pv i σ H→g x σ H fun σ2 H2=>tb { D with nx:=Pv (i + 1),ct:=Pv (i + 1),bk:=D.nx } σ2 H2) (hd:∀ σ H,Pv xs.length σ H→D.nx σ H) :
  ∃ W:Nat→Nat→St→Hp→Prop,(∃ m,W 0 m σ H)∧∀ i m σ H,W i m σ H →
   ((Itl K a).stop i H∧D.nx σ H)∨((Itl K a).go i H∧∃ N:St→Hp→Prop,(∀ σ' H',N σ' H'→∃ m',m' < m∧W (i + 1) m' σ' H')∧∀ x H',(Itl K a).yld i H x H'→g x σ H' fun σ2 H2=>tb { D with nx:=N,ct:=N,bk:=D.nx } σ2 H2):=by
 refine ⟨fun i m σ H=>m=xs.length - i∧i≤xs.length∧Pv i σ H,⟨xs.length,by simp,Nat.zero_le _,h0⟩,?_⟩
 rintro i m σ H ⟨rfl,hi,p⟩
 have q:=hl i σ H hi p
 by_cases hlt:i < xs.length
 ·refine .inr ⟨⟨xs,xs[i],q,by simp [hlt]⟩,Pv (i + 1),fun σ' H' p'=>⟨xs.length - (i + 1),by omega,rfl,hlt,p'⟩,fun x H' y=>?_⟩
  obtain ⟨e,y⟩:=y
  subst e
  exact hs i x σ _ (y xs q) p
 ·have e:i=xs.length:=by omega
  subst e
  exact .inl ⟨⟨xs,q,Nat.le_refl _⟩,hd σ H p⟩
theorem zD7 {lo:Int}{n:Nat}{g:TG}{tb:TS}{D:Ends}{σ:St}{H:Hp}(Pv:Nat→St→Hp→Prop) (h0:Pv 0 σ H)
  (hs:∀ i σ H,i < n→Pv i σ H→g (.int (lo + i)) σ H fun σ2 H2=>tb { D with nx:=Pv (i + 1),ct:=Pv (i + 1),bk:=D.nx } σ2 H2) (hd:∀ σ H,Pv n σ H→D.nx σ H) :
  ∃ W:Nat→Nat→St→Hp→Prop,(∃ m,W 0 m σ H)∧∀ i m σ H,W i m σ H →
   ((Itr lo n).stop i H∧D.nx σ H)∨((Itr lo n).go i H∧∃ N:St→Hp→Prop,(∀ σ' H',N σ' H'→∃ m',m' < m∧W (i + 1) m' σ' H')∧∀ x H',(Itr lo n).yld i H x H'→g x σ H' fun σ2 H2=>tb { D with nx:=N,ct:=N,bk:=D.nx } σ2 H2):=by
 refine ⟨fun i m σ H=>m=n - i∧i≤n∧Pv i σ H,⟨n,by simp,Nat.zero_le _,h0⟩,?_⟩
 rintro i m σ H ⟨rfl,hi,p⟩
 by_cases hlt:i < n
 ·refine .inr ⟨hlt,Pv (i + 1),fun σ' H' p'=>⟨n - (i + 1),by omega,rfl,hlt,p'⟩,fun x H' y=>?_⟩
  obtain ⟨e,y⟩:=y
  subst e y
  exact hs i σ _ hlt p
 ·have e:i=n:=by omega
  subst e
  exact .inl ⟨Nat.le_refl _,hd σ H p⟩
end L2
namespace L2
open PySem PySem.Spec PyProof.Rows
abbrev R2:=V→V→Hp→VK→Prop
def OpR (X:Cx) (f:Value→Value→Sem Value) (r:R2):Prop :=
 ∀ (pins:List (Addr × Obj)) (s:Shared) (σ:St) (H:Hp) (x y:V) (v u:Value) (Q:VK),Inv X pins σ H s→RelV x v→RelV y u→r x y H Q →
  wpAny (model X.prog X.w) X.A (f v u) (EP X pins σ Q) X.xe s
def zDj (X:Cx) (f:Value) (r:List V→Hp→VK→Prop):Prop :=
 ∀ (pins:List (Addr × Obj)) (s:Shared) (σ:St) (H:Hp) (xs:List V) (us:List Value) (Q:VK),Inv X pins σ H s→Vals xs us→r xs H Q →
  wpAny (model X.prog X.w) X.A (call f us) (EP X pins σ Q) X.xe s
def tOp (r:R2) (ta tb:TE):TE:=fun σ H Q=>ta σ H fun x H1=>tb σ H1 fun y H2=>r x y H2 Q
inductive rI' (C:Int→Int→Prop) (g:Int→Int→V) (x:V) (y:V) (H:Hp) (Q:VK):Prop
 | mk:∀ i j,(x=.int i)→(y=.int j)→(C i j)→(Q (g i j) H)→rI' C g x y H Q
def rI (C:Int→Int→Prop) (g:Int→Int→V):R2:=fun x y H Q=>rI' C g x y H Q
inductive rI0' (g:Int→Int→V) (x:V) (y:V) (H:Hp) (Q:VK):Prop
 | mk:∀ i j,(x=.int i)→(y=.int j)→(Q (g i j) H)→rI0' g x y H Q
def rI0 (g:Int→Int→V):R2:=fun x y H Q=>rI0' g x y H Q
section
variable {X:Cx}{a b c:Expr}{ta tb tc:TE}{pos:Pos}
theorem zTk (ha:PE X a ta) (hb:PE X b tb) {pins:List (Addr × Obj)}{s:Shared}{σ:St}{H:Hp}{R:V→V→Hp→Prop}(I:Inv X pins σ H s)
  (h:ta σ H fun x H1=>tb σ H1 fun y H2=>R x y H2) {Q:Value→Shared→Prop}{f:Value→Value→Sem Value}
  (hf:∀ v u s2 x y H2,Inv X pins σ H2 s2→RelV x v→RelV y u→R x y H2→wpAny (model X.prog X.w) X.A (f v u) Q X.xe s2) :
  wpAny (model X.prog X.w) X.A (eval a X.env) (fun v s₁=>wpAny (model X.prog X.w) X.A (eval b X.env) (fun u s₂=>wpAny (model X.prog X.w) X.A (f v u) Q X.xe s₂) X.xe s₁) X.xe s:=by
 refine thn (ha pins s σ H _ I h) fun v s1 ⟨x,H1,I1,r1,q1⟩=>?_
 refine thn (hb pins s1 σ H1 _ I1 q1) fun u s2 ⟨y,H2,I2,r2,q2⟩=>?_
 exact hf v u s2 x y H2 I2 r1 r2 q2
theorem zO {op:Operator}{r:R2}(ho:OpR X (binaryOp op) r) (ha:PE X a ta) (hb:PE X b tb):PE X (.BinOp a op b pos) (tOp r ta tb):=by
 intro pins s σ H Q I h
 exact wpAny_BinOp (zTk ha hb I h fun v u s2 x y H2 I2 rx ry q=>ho pins s2 σ H2 x y v u Q I2 rx ry q)
theorem opI {f:Value→Value→Sem Value}{C:Int→Int→Prop}{g:Int→Int→Int}
  (rule:∀ (i j:Int) (t u:Tok) (s:Shared) (Q:Value→Shared→Prop) (E:Value→Shared→Prop),C i j→Q (.int (g i j) s.toks) { s with toks:=s.toks + 1 }→wpAny (model X.prog X.w) X.A (f (.int i t) (.int j u)) Q E s) :
  OpR X f (rI C fun i j=>.int (g i j)):=by
 intro pins s σ H x y v u Q I rx ry h
 obtain ⟨i,j,rfl,rfl,hc,q⟩:=h
 obtain ⟨t,rfl⟩:=rx
 obtain ⟨t',rfl⟩:=ry
 exact rule i j t t' s _ _ hc ⟨.int (g i j),H,I.tok _,⟨_,rfl⟩,q⟩
theorem zTw {f:Value→Value→Sem Value}{g:Int→Int→Int}
  (rule:∀ (i j:Int) (t u:Tok) (s:Shared) (Q:Value→Shared→Prop) (E:Value→Shared→Prop),Q (.int (g i j) s.toks) { s with toks:=s.toks + 1 }→wpAny (model X.prog X.w) X.A (f (.int i t) (.int j u)) Q E s) :
  OpR X f (rI0 fun i j=>.int (g i j)):=by
 intro pins s σ H x y v u Q I rx ry h
 obtain ⟨i,j,rfl,rfl,q⟩:=h
 obtain ⟨t,rfl⟩:=rx
 obtain ⟨t',rfl⟩:=ry
 exact rule i j t t' s _ _ ⟨.int (g i j),H,I.tok _,⟨_,rfl⟩,q⟩
theorem zSs {f:Value→Value→Sem Value}{g:Int→Int→Bool}
  (rule:∀ (i j:Int) (t u:Tok) (s:Shared) (Q:Value→Shared→Prop) (E:Value→Shared→Prop),Q (.bool (g i j)) s→wpAny (model X.prog X.w) X.A (f (.int i t) (.int j u)) Q E s) :
  OpR X f (rI0 fun i j=>.bl (g i j)):=by
 intro pins s σ H x y v u Q I rx ry h
 obtain ⟨i,j,rfl,rfl,q⟩:=h
 obtain ⟨t,rfl⟩:=rx
 obtain ⟨t',rfl⟩:=ry
 exact rule i j t t' s _ _ ⟨.bl (g i j),H,I,rfl,q⟩
def zUh (i j:Int):Prop:=0 < j∧j < 1073741824
def zUg (i j:Int):Prop:=0≤j∧j≤1000000∧i.natAbs < 2 ^ 64
def CMul (i j:Int):Prop:=(-(2 ^ 64) < i∧i < 2 ^ 64)∨(-(2 ^ 64) < j∧j < 2 ^ 64)
theorem CMul.ok {i j:Int}(h:CMul i j):IntMulOk i j:=by
 rcases h with ⟨h1,h2⟩ | ⟨h1,h2⟩
 ·exact .of_left (intBits_le_64 h1 h2)
 ·exact .of_right (intBits_le_64 h1 h2)
theorem zm:OpR X (binaryOp .Add) (rI0 fun i j=>.int (i + j)):=zTw fun _ _ _ _ _ _ _ q=>add_int q
theorem zAg:OpR X (binaryOp .Sub) (rI0 fun i j=>.int (i - j)):=zTw fun _ _ _ _ _ _ _ q=>sub_int q
theorem zFi:OpR X (binaryOp .Mult) (rI CMul fun i j=>.int (i * j)):=opI fun _ _ _ _ _ _ _ hc q=>mul_int q hc.ok
theorem zBg:OpR X (binaryOp .FloorDiv) (rI zUh fun i j=>.int (i / j)):=opI fun i j _ _ _ _ _ hc q=>by
 have h1:(0:Int) < j:=hc.1
 have h2:j < 1073741824:=hc.2
 exact floordiv_int (by omega) (by rw [Int.fdiv_eq_ediv_of_nonneg i (by omega)];exact q) (.inl (PyProof.noPylong_small (by omega)))
theorem zB7:OpR X (binaryOp .Mod) (rI (fun _ j=>0 < j) fun i j=>.int (i % j)):=opI fun i j _ _ _ _ _ hc q=>by
 have h1:(0:Int) < j:=hc
 exact mod_int' (by omega) (by rw [Int.fmod_eq_emod_of_nonneg i (by omega)];exact q)
theorem zR2:OpR X (binaryOp .Pow) (rI zUg fun i j=>.int (i ^ j.toNat)):=opI fun _ _ _ _ _ _ _ hc q=>pow_int_small hc.1 hc.2.1 hc.2.2 q
end
def zTr:V→V→Bool
 | .non,.non=>true | .non,.int _=>true | .int _,.non=>true | .non,.bl _=>true | .bl _,.non=>true | .non,.str _=>true | .str _,.non=>true
 | .int _,.int _=>true | .bl _,.bl _=>true | .str _,.str _=>true | .byt _,.byt _=>true
 | .int _,.str _=>true | .str _,.int _=>true | .bl _,.str _=>true | .str _,.bl _=>true
 | _,_=>false
def rEq:R2:=fun x y H Q=>zTr x y=true∧Q (.bl (decide (x=y))) H
def rNe:R2:=fun x y H Q=>zTr x y=true∧Q (.bl (!decide (x=y))) H
theorem zNu {i j:Int}:decide (V.int i=V.int j)=(i == j):=by
 rw [Bool.eq_iff_iff]
 simp
theorem zPq {i j:Bool}:decide (V.bl i=V.bl j)=(i == j):=by
 rw [Bool.eq_iff_iff]
 simp
theorem zNt {i j:Str}:decide (V.str i=V.str j)=(i == j):=by
 rw [Bool.eq_iff_iff]
 simp
theorem zNv {i j:Array UInt8}:decide (V.byt i=V.byt j)=(i.toList == j.toList):=by
 rw [Bool.eq_iff_iff]
 cases i
 cases j
 simp
section
variable {X:Cx}{a b c:Expr}{ta tb tc:TE}{pos:Pos}
theorem zl {pins:List (Addr × Obj)}{σ:St}{H:Hp}{s:Shared}{Q:VK}{k k':Bool}(I:Inv X pins σ H s) (q:Q (.bl k) H) (e:k=k'):EP X pins σ Q (.bool k') s:=by
 subst e
 exact ⟨.bl k,H,I,rfl,q⟩
theorem zOt:OpR X (compareOp .Eq) rEq:=by
 intro pins s σ H x y v u Q I rx ry h
 obtain ⟨hs,q⟩:=h
 cases x with
 | non =>
  cases rx
  cases y with
  | non=>cases ry;exact PySem.EqNone.eq_none_none (zl I q (by simp))
  | bl j=>cases ry;exact PySem.EqNone.eq_none_bool (zl I q (by simp))
  | int j=>obtain ⟨t',rfl⟩:=ry;exact PySem.EqNone.eq_none_int (zl I q (by simp))
  | str j=>obtain ⟨t',rfl⟩:=ry;exact PySem.EqNone.eq_none_str (zl I q (by simp))
  | _=>exact absurd (show false=true from hs) Bool.false_ne_true
 | bl i =>
  cases rx
  cases y with
  | non=>cases ry;exact PySem.EqNone.eq_bool_none (zl I q (by simp))
  | bl j=>cases ry;exact eq_bool (zl I q zPq)
  | str j=>obtain ⟨t',rfl⟩:=ry;exact PySem.EqMixed.eq_bool_str (zl I q (by simp))
  | _=>exact absurd (show false=true from hs) Bool.false_ne_true
 | int i =>
  obtain ⟨t,rfl⟩:=rx
  cases y with
  | non=>cases ry;exact PySem.EqNone.eq_int_none (zl I q (by simp))
  | int j=>obtain ⟨t',rfl⟩:=ry;exact eq_int (zl I q zNu)
  | str j=>obtain ⟨t',rfl⟩:=ry;exact PySem.EqMixed.eq_int_str (zl I q (by simp))
  | _=>exact absurd (show false=true from hs) Bool.false_ne_true
 | str i =>
  obtain ⟨t,rfl⟩:=rx
  cases y with
  | non=>cases ry;exact PySem.EqNone.eq_str_none (zl I q (by simp))
  | bl j=>cases ry;exact PySem.EqMixed.eq_str_bool (zl I q (by simp))
  | int j=>obtain ⟨t',rfl⟩:=ry;exact PySem.EqMixed.eq_str_int (zl I q (by simp))
  | str j=>obtain ⟨t',rfl⟩:=ry;exact eq_str (zl I q zNt)
  | _=>exact absurd (show false=true from hs) Bool.false_ne_true
 | byt i =>
  obtain ⟨t,rfl⟩:=rx
  cases y with
  | byt j=>obtain ⟨t',rfl⟩:=ry;exact PySem.W.eq_bytes (zl I q zNv)
  | _=>exact absurd (show false=true from hs) Bool.false_ne_true
 | _=>cases y <;> exact absurd (show false=true from hs) Bool.false_ne_true
theorem zTa:OpR X (compareOp .NotEq) rNe:=by
 intro pins s σ H x y v u Q I rx ry h
 obtain ⟨hs,q⟩:=h
 cases x with
 | non =>
  cases rx
  cases y with
  | non=>cases ry;exact PySem.EqNone.ne_none_none (zl I q (by simp))
  | bl j=>cases ry;exact PySem.EqNone.ne_none_bool (zl I q (by simp))
  | int j=>obtain ⟨t',rfl⟩:=ry;exact PySem.EqNone.ne_none_int (zl I q (by simp))
  | str j=>obtain ⟨t',rfl⟩:=ry;exact PySem.EqNone.ne_none_str (zl I q (by simp))
  | _=>exact absurd (show false=true from hs) Bool.false_ne_true
 | bl i =>
  cases rx
  cases y with
  | non=>cases ry;exact PySem.EqNone.ne_bool_none (zl I q (by simp))
  | bl j=>cases ry;exact ne_bool (zl I q (congrArg not zPq))
  | str j=>obtain ⟨t',rfl⟩:=ry;exact PySem.EqMixed.ne_bool_str (zl I q (by simp))
  | _=>exact absurd (show false=true from hs) Bool.false_ne_true
 | int i =>
  obtain ⟨t,rfl⟩:=rx
  cases y with
  | non=>cases ry;exact PySem.EqNone.ne_int_none (zl I q (by simp))
  | int j=>obtain ⟨t',rfl⟩:=ry;exact ne_int (zl I q (congrArg not zNu))
  | str j=>obtain ⟨t',rfl⟩:=ry;exact PySem.EqMixed.ne_int_str (zl I q (by simp))
  | _=>exact absurd (show false=true from hs) Bool.false_ne_true
 | str i =>
  obtain ⟨t,rfl⟩:=rx
  cases y with
  | non=>cases ry;exact PySem.EqNone.ne_str_none (zl I q (by simp))
  | bl j=>cases ry;exact PySem.EqMixed.ne_str_bool (zl I q (by simp))
  | int j=>obtain ⟨t',rfl⟩:=ry;exact PySem.EqMixed.ne_str_int (zl I q (by simp))
  | str j=>obtain ⟨t',rfl⟩:=ry;exact ne_str (zl I q (congrArg not zNt))
  | _=>exact absurd (show false=true from hs) Bool.false_ne_true
 | byt i =>
  obtain ⟨t,rfl⟩:=rx
  cases y with
  | byt j=>obtain ⟨t',rfl⟩:=ry;exact PySem.W.ne_bytes (zl I q (congrArg not zNv))
  | _=>exact absurd (show false=true from hs) Bool.false_ne_true
 | _=>cases y <;> exact absurd (show false=true from hs) Bool.false_ne_true
theorem zId:OpR X (compareOp .Lt) (rI0 fun i j=>.bl (decide (i < j))):=zSs fun _ _ _ _ _ _ _ q=>lt_int q
theorem zLd:OpR X (compareOp .LtE) (rI0 fun i j=>.bl (decide (i≤j))):=zSs fun _ _ _ _ _ _ _ q=>le_int q
theorem zIe:OpR X (compareOp .Gt) (rI0 fun i j=>.bl (decide (j < i))):=zSs fun _ _ _ _ _ _ _ q=>gt_int q
theorem zTb:OpR X (compareOp .GtE) (rI0 fun i j=>.bl (decide (j≤i))):=zSs fun _ _ _ _ _ _ _ q=>ge_int q
theorem zR4:OpR X (compareOp .Is) (fun x y H Q=>y=.non∧Q (.bl (decide (x=.non))) H):=by
 intro pins s σ H x y v u Q I rx ry h
 obtain ⟨rfl,q⟩:=h
 cases ry
 refine is_none_gen (zl I q ?_)
 cases x <;> first
  | (cases rx;rfl)
  | (obtain ⟨t,rfl⟩:=rx;rfl)
theorem zQh:OpR X (compareOp .IsNot) (fun x y H Q=>y=.non∧Q (.bl (!decide (x=.non))) H):=by
 intro pins s σ H x y v u Q I rx ry h
 obtain ⟨rfl,q⟩:=h
 cases ry
 refine isnot_none_gen (zl I q ?_)
 cases x <;> first
  | (cases rx;rfl)
  | (obtain ⟨t,rfl⟩:=rx;rfl)
theorem zu (b:Expr) {op:CmpOp}(h:op≠.In:=by decide) (h2:op≠.NotIn:=by decide):behindInMarks op b=false:=by
 have e1:(op == CmpOp.In)=false:=by cases op <;> first | rfl|exact absurd rfl h
 have e2:(op == CmpOp.NotIn)=false:=by cases op <;> first | rfl|exact absurd rfl h2
 cases b <;> simp [behindInMarks,e1,e2]
theorem zHg {op:CmpOp}{r:R2}(ho:OpR X (compareOp op) r) (ha:PE X a ta) (hb:PE X b tb) (hm:behindInMarks op b=false):PE X (.Compare a [op] [b] pos) (tOp r ta tb):=by
 intro pins s σ H Q I h
 exact wpAny_Compare1 (zTk ha hb I h fun v u s2 x y H2 I2 rx ry q=>ho pins s2 σ H2 x y v u Q I2 rx ry q) hm
inductive tTest' (Q:(Bool→Hp→Prop)) (x:V) (H':Hp):Prop
 | mk:∀ k,(x=.bl k)→(Q k H')→tTest' Q x H'
def zSy (t:TE):TT:=fun σ H Q=>t σ H fun x H'=>tTest' Q x H'
theorem zf {op:CmpOp}{r:R2}(ho:OpR X (compareOp op) r) (ha:PE X a ta) (hb:PE X b tb) (hm:behindInMarks op b=false):PT X (.Compare a [op] [b] pos) (zSy (tOp r ta tb)):=by
 intro pins s σ H Q I h
 refine wpAny_isTrue_Compare1 (thn (ha pins s σ H _ I h) fun v s1 ⟨x,H1,I1,r1,q1⟩=>thn (hb pins s1 σ H1 _ I1 q1) fun u s2 ⟨y,H2,I2,r2,q2⟩ =>
  thn (ho pins s2 σ H2 x y v u _ I2 r1 r2 q2) fun c s3 ⟨z,H3,I3,r3,k,e,q3⟩=>?_) hm
 subst e
 cases r3
 exact wpAny_truthy_bool ⟨H3,I3,q3⟩
def zRl (r r':R2) (ta tb tc:TE):TE:=fun σ H Q=>ta σ H fun x H1=>tb σ H1 fun y H2=>r x y H2 fun z H3=>∃ k,z=.bl k ∧
 (if k=true then tc σ H3 fun w' H4=>r' y w' H4 Q else Q (.bl false) H3)
theorem zOq {op op':CmpOp}{r r':R2}(ho:OpR X (compareOp op) r) (ho':OpR X (compareOp op') r') (ha:PE X a ta) (hb:PE X b tb) (hc:PE X c tc)
  (hm:lastMarks [op,op'] [b,c]=false:=by with_unfolding_all rfl):PE X (.Compare a [op,op'] [b,c] pos) (zRl r r' ta tb tc):=by
 intro pins s σ H Q I h
 refine Compare_chain (thn (ha pins s σ H _ I h) fun v s1 ⟨x,H1,I1,r1,q1⟩=>chain_link (thn (hb pins s1 σ H1 _ I1 q1) fun u s2 ⟨y,H2,I2,r2,q2⟩ =>
  thn (ho pins s2 σ H2 x y v u _ I2 r1 r2 q2) fun d s3 ⟨z,H3,I3,r3,k,e,q3⟩=>?_)) hm
 subst e
 cases r3
 refine wpAny_truthy_bool ?_
 cases k with
 | false=>exact ite_ff ⟨.bl false,H3,I3,rfl,q3⟩
 | true=>exact ite_tt (chain_last (thn (hc pins s3 σ H3 _ I3 q3) fun w' s4 ⟨z',H4,I4,r4,q4⟩=>ho' pins s4 σ H4 y z' u w' Q I4 r2 r4 q4))
theorem zM7:(sizeLine:Nat) < 2 ^ 63:=by rw [sizeLine_eq];decide
theorem zGz {x:V}{us:List Value}(r:Vals [x] us):∃ u,us=[u]∧RelV x u:=by
 cases r with
 | cons r1 r2=>cases r2;exact ⟨_,rfl,r1⟩
theorem zPx {x y:V}{us:List Value}(r:Vals [x,y] us):∃ u w',us=[u,w']∧RelV x u∧RelV y w':=by
 cases r with
 | cons r1 r2 =>
  cases r2 with
  | cons r3 r4=>cases r4;exact ⟨_,_,rfl,r1,r3⟩
theorem zIw (hc:X.A.handled=none):zDj X (.builtin "max") (fun xs H Q=>∃ i j,xs=[.int i,.int j]∧Q (.int (if j > i then j else i)) H):=by
 intro pins s σ H xs us Q I r h
 obtain ⟨i,j,rfl,q⟩:=h
 obtain ⟨u,w',rfl,⟨t,rfl⟩,⟨t',rfl⟩⟩:=zPx r
 refine max_two_ints hc fun h' tk k=>⟨_,H,I.kept k,?_,q⟩
 by_cases hj:j > i
 ·rw [if_pos hj,if_pos hj];exact ⟨_,rfl⟩
 ·rw [if_neg hj,if_neg hj];exact ⟨_,rfl⟩
theorem zEb (hc:X.A.handled=none):zDj X (.builtin "min") (fun xs H Q=>∃ i j,xs=[.int i,.int j]∧Q (.int (if j < i then j else i)) H):=by
 intro pins s σ H xs us Q I r h
 obtain ⟨i,j,rfl,q⟩:=h
 obtain ⟨u,w',rfl,⟨t,rfl⟩,⟨t',rfl⟩⟩:=zPx r
 refine min_two_ints hc fun h' tk k=>⟨_,H,I.kept k,?_,q⟩
 by_cases hj:j < i
 ·rw [if_pos hj,if_pos hj];exact ⟨_,rfl⟩
 ·rw [if_neg hj,if_neg hj];exact ⟨_,rfl⟩
theorem zN0:zDj X (.type "int") (fun xs H Q=>(∃ i,xs=[.int i]∧Q (.int i) H)∨∃ k,xs=[.bl k]∧Q (.int (if k then 1 else 0)) H):=by
 intro pins s σ H xs us Q I r h
 rcases h with ⟨i,rfl,q⟩ | ⟨k,rfl,q⟩
 ·obtain ⟨u,rfl,t,rfl⟩:=zGz r
  exact call_int_int ⟨.int i,H,I,⟨_,rfl⟩,q⟩
 ·obtain ⟨u,rfl,r1⟩:=zGz r
  cases r1
  exact call_int_bool ⟨.int (if k then 1 else 0),H,I.tok _,⟨_,rfl⟩,q⟩
end
end L2
namespace L2
open PySem PySem.Spec PyProof.Rows
structure ObjM (h:Heap) (x dx C:Addr) (mA:Str→Option Value):Prop where
 obj:h.get? x=some (PySem.W.instObj C dx)
 ns:h.Ns1 dx mA
 ne:dx≠x
theorem zM6 {h:Heap}{dx:Addr}{mA:Str→Option Value}(n:h.Ns1 dx mA):∃ od,h.get? dx=some od∧∀ name,PySem.W.lookIn name od=some (mA name):=by
 obtain ⟨o,es,ep,ho,hd,hk,_,hm⟩:=n
 refine ⟨o,ho,fun name=>?_⟩
 have e:=hm name
 unfold nsFind findBy at e
 rw [← Array.find?_toList] at e
 unfold PySem.W.lookIn
 rw [hd]
 dsimp only
 split
 ·rename_i y q
  rw [q] at e
  exact congrArg some e
 ·rename_i q
  rw [q] at e
  have a:es.toList.any (·.refKey)=false:=by
   rw [List.any_eq_false]
   intro y hy
   obtain ⟨z,t,hkey⟩:=hk y (Array.mem_toList_iff.mp hy)
   simp [DictEntry.refKey,hkey]
  have a':¬ es.toList.any (·.refKey)=true:=by rw [a];exact Bool.false_ne_true
  rw [if_neg a']
  exact congrArg some e
theorem ObjM.look {h:Heap}{x dx C:Addr}{mA:Str→Option Value}(I:ObjM h x dx C mA):∃ od,PySem.W.InstAt h x (PySem.W.instObj C dx) C (some od)∧∀ name,PySem.W.lookIn name od=some (mA name) :=
 let ⟨od,ho,hl⟩:=zM6 I.ns
 ⟨od,⟨I.obj,rfl,rfl,ho⟩,hl⟩
section
variable {prog:Program}{w:World}{A:Around}{E:Value→Shared→Prop}{s:Shared}{K:PySem.W.Frag}{x dx C f:Addr}{mA:Str→Option Value}{name:Str}{v:Value}
theorem zQy {expr:Bool}{Q:Value→Shared→Prop}(X:K.In s.heap) (I:ObjM s.heap x dx C mA) (hg:PySem.W.plainGet K C name=true) (hh:PySem.W.hasDictIn K C=true)
  (ha:PySem.W.findIn K (.ref C) name=some none) (hv:mA name=some v) (hv':PySem.W.handedIn v=true) (h:Q v { s with toks:=s.toks + 1 }) :
  wpAny (model prog w) A (getAttr (.ref x) name expr) Q E s:=by
 obtain ⟨od,J,hl⟩:=I.look
 exact PySem.W.get_value X J (PySem.W.plainGet_of hg).1 (PySem.W.findObj_own hh ha rfl (by rw [hl,hv])) hv' h
theorem zO5 {pl:Sem Bool}{Q:Value × List Value→Shared→Prop}(X:K.In s.heap) (I:ObjM s.heap x dx C mA) (hg:PySem.W.plainGet K C name=true)
  (hf:PySem.W.findIn K (.ref C) name=some (some (.ref f))) (ht:PySem.W.isFn K (.ref f)=true) (hv:mA name=none) (h:Q (.ref f,[.ref x]) s) :
  wpAny (model prog w) A (getMethod (.ref x) name pl) Q E s:=by
 obtain ⟨od,J,hl⟩:=I.look
 exact PySem.W.method_fn X J (PySem.W.plainGet_of hg).1 (PySem.W.plainGet_of hg).2 hf (beq_iff_eq.mp ht) (by show (PySem.W.lookIn name od).map (·.isSome)=some false;rw [hl,hv];rfl) h
theorem zP2 {ns:List Str}{Q:Unit→Shared→Prop}(X:K.In s.heap) (I:ObjM s.heap x dx C mA)
  (hs:PySem.W.findIn K (.ref C) "__setattr__" = some (some (.builtin "object.__setattr__"))) (hp:PySem.W.plainOver K C=true) (ht:PySem.W.takerIn K C name=some none) (hh:PySem.W.hasDictIn K C=true)
  (hw:PySem.Within mA ns) (hsz:ns.length≤sizeLine)
  (h:∀ h',ObjM h' x dx C (fun y=>if y=name then some v else mA y)→Heap.SameBut dx s.heap h'→Q () { s with heap:=h',toks:=s.toks + 2 }) :
  wpAny (model prog w) A (setAttr (.ref x) name v) Q E s:=by
 obtain ⟨od,J,hl⟩:=I.look
 refine PySem.W.set_plain X J hs (PySem.W.osa_open (s:={ s with toks:=s.toks + 1 }) (r:=none) X J hp ht fun b=>?_)
 obtain ⟨cd,hc,hd'⟩:=PySem.W.any_some hh
 have hx:s.heap.get? x=some ⟨.ref C,some dx,.plain,#[]⟩:=I.obj
 refine wpAny_bind (wpAny_pure (wpAny_bind (wpAny_bind (wpAny_loadPart hx (wpAny_bind (PySem.W.Looks.here (s:={ s with toks:=s.toks + 1 }) (PySem.W.looks_clsIn X hc) ?_))))))
 rw [hd']
 refine wpAny_pure (a:=some dx) (wpAny_bind (wpAny_pure (wpAny_bind ?_)))
 refine wpAny_nsSet1 (s:={ s with toks:=s.toks + 1 }) I.ns fun h' hn2 hs2=>?_
 obtain ⟨oD,esD,epD,hoD,hdD,hcD⟩:=hn2.count (PySem.Within.cons name v hw)
 refine wpAny_bind (wpAny_lookBehind hoD (by rw [hdD];exact pastItsLine_dict (Nat.le_trans hcD (by rw [List.length_cons];omega))) ?_)
 exact wpAny_pure (h _ ⟨(hs2.2 _ (Ne.symm I.ne)).trans I.obj,hn2,I.ne⟩ hs2)
theorem zOx {R:Result→Shared→Prop}{vs:List Value}{kw:List (Str × Value)}(X:K.In s.heap) (hm:PySem.W.makesIn K C=true)
  (hi:PySem.W.findIn K (.ref C) "__init__" = some (some (.ref f))) (hf:PySem.W.typeIn K (.ref f)=some (.type "function"))
  (h:codeAny (model prog w) (A.under (.builtin "type.__call__" ⟨.ref C :: vs,kw⟩)) (.call (.ref f) ⟨.ref (s.heap.objs.size + 1) :: vs,kw⟩) (PySem.W.InitBack (s.heap.objs.size + 1) R)
   { s with heap:=(s.heap.push PySem.W.emptyDict).push (PySem.W.instObj C s.heap.objs.size) }) :
  codeAny (model prog w) A (.call (.ref C) ⟨vs,kw⟩) R s:=by
 obtain ⟨hh,g,d,t,os⟩:=s
 exact PySem.W.make_core (PySem.W.makes_of X hm) (PySem.W.looks_findIn X hi) (fun self=>PySem.W.bind_fn X self hf) (.inl rfl) h
end
def zI5 (f:Str) (v:V):List (Str × V)→List (Str × V)
 | []=>[(f,v)]
 | (g,x) :: r=>if g=f then (g,v) :: r else (g,x) :: zI5 f v r
theorem zFn (f g:Str) (v:V):∀ fs:List (Str × V),(zI5 f v fs).lookup g=if g=f then some v else fs.lookup g
 | []=>by
  show List.lookup g [(f,v)]=_
  by_cases h:g=f
  ·have hb:(g == f)=true:=beq_iff_eq.mpr h
   simp only [List.lookup,hb,if_pos h]
  ·have hb:(g == f)=false:=beq_eq_false_iff_ne.mpr h
   simp only [List.lookup,hb,if_neg h]
 | (k,x) :: r=>by
  have ih:=zFn f g v r
  rw [show zI5 f v ((k,x) :: r)=(if k=f then (k,v) :: r else (k,x) :: zI5 f v r) from rfl]
  by_cases hk:k=f
  ·rw [if_pos hk]
   by_cases h:g=k
   ·have hb:(g == k)=true:=beq_iff_eq.mpr h
    simp only [List.lookup,hb,if_pos (h.trans hk)]
   ·have hb:(g == k)=false:=beq_eq_false_iff_ne.mpr h
    simp only [List.lookup,hb,if_neg (fun e:g=f=>h (e.trans hk.symm))]
  ·rw [if_neg hk]
   by_cases h:g=k
   ·have hb:(g == k)=true:=beq_iff_eq.mpr h
    simp only [List.lookup,hb,if_neg (fun e:g=f=>hk (h.symm.trans e))]
   ·have hb:(g == k)=false:=beq_eq_false_iff_ne.mpr h
    simp only [List.lookup,hb]
    exact ih
theorem zFp (f:Str) (v:V):∀ fs:List (Str × V),f ∈ (zI5 f v fs).map (·.1)∧∀ g,g ∈ fs.map (·.1)→g ∈ (zI5 f v fs).map (·.1)
 | []=>⟨by simp [zI5],fun g h=>by simp at h⟩
 | (k,x) :: r=>by
  obtain ⟨i1,i2⟩:=zFp f v r
  rw [show zI5 f v ((k,x) :: r)=(if k=f then (k,v) :: r else (k,x) :: zI5 f v r) from rfl]
  by_cases hk:k=f
  ·rw [if_pos hk]
   subst hk
   exact ⟨by simp,fun g h=>by simpa using h⟩
  ·rw [if_neg hk]
   refine ⟨?_,fun g h=>?_⟩
   ·rw [List.map_cons]
    exact List.mem_cons_of_mem _ i1
   ·rw [List.map_cons] at h ⊢
    rcases List.mem_cons.mp h with e | e
    ·exact List.mem_cons.mpr (.inl e)
    ·exact List.mem_cons_of_mem _ (i2 g e)
theorem zFo (f:Str) (v:V):∀ fs:List (Str × V),(zI5 f v fs).length≤fs.length + 1
 | []=>by simp [zI5]
 | (k,x) :: r=>by
  have ih:=zFo f v r
  rw [show zI5 f v ((k,x) :: r)=(if k=f then (k,v) :: r else (k,x) :: zI5 f v r) from rfl]
  by_cases hk:k=f
  ·rw [if_pos hk,List.length_cons,List.length_cons];omega
  ·rw [if_neg hk,List.length_cons,List.length_cons];omega
theorem RelO.some_of {v:V}{o:Option Value}(r:RelO (some v) o):∃ u,o=some u∧RelV v u:=by
 cases o with
 | none=>exact (show False from r).elim
 | some u=>exact ⟨u,rfl,r⟩
theorem RelO.none_of {o:Option Value}(r:RelO none o):o=none:=by
 cases o with
 | none=>rfl
 | some u=>exact (show False from r).elim
theorem zNi {v:V}{u:Value}(r:RelV v u):PySem.W.handedIn u=true:=by
 cases v with
 | non=>cases (show u=Value.none from r);rfl
 | bl b=>cases (show u=Value.bool b from r);rfl
 | int i=>obtain ⟨t,e⟩:=(show ∃ t,u=Value.int i t from r);cases e;rfl
 | str x=>obtain ⟨t,e⟩:=(show ∃ t,u=Value.str x t from r);cases e;rfl
 | byt b=>obtain ⟨t,e⟩:=(show ∃ t,u=Value.bytes b t from r);cases e;rfl
 | flt b=>obtain ⟨t,e⟩:=(show ∃ t,u=Value.float b t from r);cases e;rfl
 | ref a=>cases (show u=Value.ref a from r);rfl
 | ty n=>cases (show u=Value.type n from r);rfl
section
variable {P:Program}{w:World}{H H':Hp}{h h':Heap}{a C dx:Addr}{fs fs':List (Str × V)}
theorem zHq (hok:HOk P w H h) (e:H a=some (.ins C dx fs)):∃ mA,ObjM h a dx C mA∧(∀ f,RelO (fs.lookup f) (mA f))∧PySem.Within mA (fs.map (·.1))∧fs.length≤1000∧H dx=some (.own a):=by
 obtain ⟨d,z,ne,ob,mA,n,r,q⟩:=(show ObjOk P w H h a (.ins C dx fs) from hok a _ e)
 exact ⟨mA,⟨ob,n,ne⟩,r,q,z,d⟩
end
structure Cls (K:PySem.W.Frag) (C:Addr):Prop where
 pg:PySem.W.plainGet K C Str.empty=true
 hd:PySem.W.hasDictIn K C=true
 po:PySem.W.plainOver K C=true
 sa:PySem.W.findIn K (.ref C) "__setattr__" = some (some (.builtin "object.__setattr__"))
theorem Cls.get {K:PySem.W.Frag}{C:Addr}(c:Cls K C) (f:Str):PySem.W.plainGet K C f=true:=c.pg
def NoAttr (K:PySem.W.Frag) (C:Addr) (f:Str):Prop:=PySem.W.findIn K (.ref C) f=some none
theorem NoAttr.taker {K:PySem.W.Frag}{C:Addr}{f:Str}(n:NoAttr K C f):PySem.W.takerIn K C f=some none:=by
 unfold PySem.W.takerIn
 rw [show PySem.W.findIn K (.ref C) f=some none from n]
 rfl
structure Meth (K:PySem.W.Frag) (C:Addr) (m:Str) (f:Addr):Prop where
 at_:PySem.W.findIn K (.ref C) m=some (some (.ref f))
 fn:PySem.W.isFn K (.ref f)=true
 kp:PySem.W.keepIn K (.ref f)=true
section
variable {X:Cx}{pins:List (Addr × Obj)}{σ:St}{H:Hp}{s:Shared}{a C dx:Addr}{fs:List (Str × V)}{f:Str}{v:V}{A:Around}{E:Value→Shared→Prop}
theorem zLq {b:Bool}{Q:Value→Shared→Prop}(I:Inv X pins σ H s) (e:H a=some (.ins C dx fs)) (c:Cls X.K C) (n:NoAttr X.K C f) (l:fs.lookup f=some v)
  (h:∀ u s',Inv X pins σ H s'→RelV v u→Q u s'):wpAny (model X.prog X.w) A (getAttr (.ref a) f b) Q E s:=by
 obtain ⟨mA,O,r,_,_,_⟩:=zHq I.hok e
 obtain ⟨u,hu,ru⟩:=RelO.some_of (v:=v) (o:=mA f) (by rw [← l];exact r f)
 exact zQy I.kIn O (c.get f) c.hd n hu (zNi ru) (h u _ (I.tok _) ru)
theorem zGr {m:Str}{g:Addr}{pl:Sem Bool}{Q:Value × List Value→Shared→Prop}(I:Inv X pins σ H s) (e:H a=some (.ins C dx fs)) (c:Cls X.K C) (k:Meth X.K C m g) (l:fs.lookup m=none)
  (h:Q (.ref g,[.ref a]) s):wpAny (model X.prog X.w) A (getMethod (.ref a) m pl) Q E s:=by
 obtain ⟨mA,O,r,_,_,_⟩:=zHq I.hok e
 have hn:mA m=none:=RelO.none_of (by rw [← l];exact r m)
 exact zO5 I.kIn O (c.get m) k.at_ k.fn hn h
theorem zLa {y:V}{u:Value}{Q:Unit→Shared→Prop}(I:Inv X pins σ H s) (e:H a=some (.ins C dx fs)) (c:Cls X.K C) (n:NoAttr X.K C f) (hl:fs.length < 1000) (ry:RelV y u)
  (h:∀ s',Inv X pins σ (upd H a (.ins C dx (zI5 f y fs))) s'→Q () s'):wpAny (model X.prog X.w) A (setAttr (.ref a) f u) Q E s:=by
 obtain ⟨mA,O,r,wi,_,ho⟩:=zHq I.hok e
 have hz:(fs.map (·.1)).length≤sizeLine:=by rw [List.length_map,sizeLine_eq];omega
 refine zP2 I.kIn O c.sa c.po n.taker c.hd wi hz fun h' O' sb=>h _ ?_
 have hd:∃ o,h'.get? dx=some o:=let ⟨o,_,_,e',_⟩:=O'.ns;⟨o,e'⟩
 refine I.write (x:=a) (e:=dx) (by rw [e];exact True.intro) (.inr ho) (fun b q hb z=>(sb.2 b hb).trans z) hd ?_
 refine ⟨by rw [upd_ne O.ne];exact ho,?_,O.ne,O'.obj,_,O'.ns,fun g=>?_,fun g hg=>?_⟩
 ·have:=zFo f y fs;omega
 ·show RelO ((zI5 f y fs).lookup g) (if g=f then some u else mA g)
  rw [zFn]
  by_cases q:g=f
  ·rw [if_pos q,if_pos q];exact ry
  ·rw [if_neg q,if_neg q];exact r g
 ·by_cases q:g=f
  ·rw [q];exact (zFp f y fs).1
  ·refine (zFp f y fs).2 g (wi g fun z=>hg ?_)
   show (if g=f then some u else mA g)=none
   rw [if_neg q];exact z
theorem Inv.made (I:Inv X pins σ H s):Inv X pins σ (upd (upd H s.heap.objs.size (.own (s.heap.objs.size + 1))) (s.heap.objs.size + 1) (.ins C s.heap.objs.size []))
  { s with heap:=(s.heap.push PySem.W.emptyDict).push (PySem.W.instObj C s.heap.objs.size) }:=by
 have e1:(s.heap.push PySem.W.emptyDict).get? s.heap.objs.size=some PySem.W.emptyDict:=Heap.get?_push_size s.heap rfl
 have e2:((s.heap.push PySem.W.emptyDict).push (PySem.W.instObj C s.heap.objs.size)).get? (s.heap.objs.size + 1)=some (PySem.W.instObj C s.heap.objs.size):=by
  have:=Heap.get?_push_size (s.heap.push PySem.W.emptyDict) (o:=PySem.W.instObj C s.heap.objs.size) rfl
  rwa [Heap.size_push] at this
 have e3:(s.heap.push PySem.W.emptyDict).Ns s.heap.objs.size (fun _=>none):=⟨PySem.W.emptyDict,#[],_,e1,rfl,(fun e he=>absurd he (by simp)),fun _=>rfl⟩
 have I1:=I.laid (a:=s.heap.objs.size) (o:=.own (s.heap.objs.size + 1)) (h':=s.heap.push PySem.W.emptyDict) (t':=s.toks) (fun b u q=>Heap.get?_push_of_some _ q) (Nat.le_refl _) ⟨_,e1⟩
 refine I1.laid (a:=s.heap.objs.size + 1) (o:=.ins C s.heap.objs.size []) (t':=s.toks) (fun b u q=>Heap.get?_push_of_some _ q) (Nat.le_of_eq (Heap.size_push _ _)) ?_
 have ne:s.heap.objs.size≠s.heap.objs.size + 1:=Nat.ne_of_lt (Nat.lt_succ_self _)
 refine ⟨by rw [upd_ne ne,zB],Nat.zero_le _,ne,e2,fun _=>none,(Heap.Ns1.of_empty e3).at fun o q=>Heap.get?_push_of_some _ q,fun _=>True.intro,fun y hy=>absurd rfl hy⟩
theorem attr_of {prog:Program}{w:World}{env:Env}{e:Expr}{f:Str}{pos:Pos}{s:Shared}{Q:Value→Shared→Prop}(hb:attributeBase e f env (eval e env)=eval e env)
  (h:wpAny (model prog w) A (eval e env) (fun o s₁=>wpAny (model prog w) A (getAttr o f true) Q E s₁) E s):wpAny (model prog w) A (eval (.Attribute e f pos) env) Q E s :=
 Attribute_any_ h (by rw [arm_eval_Attribute,hb])
end
inductive tFld' (K:PySem.W.Frag) (f:Str) (Q:VK) (x:V) (H1:Hp):Prop
 | mk:∀ a C dx fs v,(x=.ref a)→(H1 a=some (.ins C dx fs))→(Cls K C)→(NoAttr K C f)→(fs.lookup f=some v)→(Q v H1)→tFld' K f Q x H1
def zRh (K:PySem.W.Frag) (ta:TE) (f:Str):TE:=fun σ H Q=>ta σ H fun x H1=>tFld' K f Q x H1
inductive sFld' (K:PySem.W.Frag) (f:Str) (D:Ends) (σ:St) (y:V) (x:V) (H2:Hp):Prop
 | mk:∀ a C dx fs,(x=.ref a)→(H2 a=some (.ins C dx fs))→(Cls K C)→(NoAttr K C f)→(fs.length < 1000)→(D.nx σ (upd H2 a (.ins C dx (zI5 f y fs))))→sFld' K f D σ y x H2
def zTs (K:PySem.W.Frag) (ta tv:TE) (f:Str):TS:=fun D σ H=>tv σ H fun y H1=>ta σ H1 fun x H2=>sFld' K f D σ y x H2
section
variable {X:Cx}{o e value:Expr}{f:Str}{pos pos' tpos:Pos}{ta tv:TE}
theorem zR0 (he:PE X e ta) (hb:attributeBase e f X.env (eval e X.env)=eval e X.env):PE X (.Attribute e f pos) (zRh X.K ta f):=by
 intro pins s σ H Q I h
 refine attr_of hb (thn (he pins s σ H _ I h) fun u s1 ⟨x,H1,I1,rx,a,C,dx,fs,v,ex,ea,c,n,l,q⟩=>?_)
 subst ex
 obtain rfl:u=Value.ref a:=rx
 exact zLq I1 ea c n l fun u' s2 I2 ru=>⟨v,H1,I2,ru,q⟩
theorem zCl (ha:PE X o ta) (hv:PE X value tv) (hs:swapsWith value (some (.Attribute o f pos')) pos.line X.env=pure false):PS X (.Assign [.Attribute o f pos'] value pos) (zTs X.K ta tv f):=by
 intro pins s σ H D I h
 refine plainObj_wpAny_Assign_Attribute (thn (hv pins s σ H _ I h) fun u s1 ⟨y,H1,I1,ry,q⟩=>thn (ha pins s1 σ H1 _ I1 q) fun ov s2 ⟨x,H2,I2,rx,a,C,dx,fs,ex,ea,c,n,l,q2⟩=>?_) hs
 subst ex
 obtain rfl:ov=Value.ref a:=rx
 exact zLa I2 ea c n l ry fun s3 I3=>⟨σ,_,I3,q2⟩
end
section
variable {X:Cx}{pins:List (Addr × Obj)}{σ:St}{H:Hp}{s:Shared}{A:Around}{E:Value→Shared→Prop}{Q:Value→Shared→Prop}{c:Value}{b:Bool}
inductive TyOf (K:PySem.W.Frag) (H:Hp):V→Value→Prop where
 | non:TyOf K H .non (.type "NoneType")
 | bl (x:Bool):TyOf K H (.bl x) (.type "bool")
 | int (i:Int):TyOf K H (.int i) (.type "int")
 | str (x:Str):TyOf K H (.str x) (.type "str")
 | flt (x:UInt64):TyOf K H (.flt x) (.type "float")
 | lst {a:Addr}{xs:List V} (e:H a=some (.lst xs)):TyOf K H (.ref a) (.type "list")
 | frz {a:Addr}{o:Obj}{xs:List V} (e:H a=some (.frz o (.lst xs))):TyOf K H (.ref a) (.type "list")
 | tup {a:Addr}{xs:List V} (e:H a=some (.tup xs)):TyOf K H (.ref a) (.type "tuple")
 | dK {a:Addr}{kvs:List (Key × V)} (e:H a=some (.dK kvs)):TyOf K H (.ref a) (.type "dict")
 | dT {a:Addr}{kvs:List (List Key × V)} (e:H a=some (.dT kvs)):TyOf K H (.ref a) (.type "dict")
 | ins {a C dx:Addr}{fs:List (Str × V)} (e:H a=some (.ins C dx fs)) (cl:Cls K C) (ha:PySem.W.findIn K (.ref C) "__class__" = some (some (.builtin "object.__class__")))
   (hn:PySem.W.specialIn K (.builtin "object.__class__") "__get__" = some (some (.builtin "getset_descriptor.__get__"))) (htk:PySem.W.takesIn K (.builtin "object.__class__")=some true)
   (hm:PySem.W.mroIn K C (.type "object")=some true):TyOf K H (.ref a) (.ref C)
 | exc {a C:Addr} (e:H a=some (.exc (.ref C))) (F:ExcK K C):TyOf K H (.ref a) (.ref C)
theorem zNe {x:V}{u t:Value}(I:Inv X pins σ H s) (rx:RelV x u) (ty:TyOf X.K H x t) (e:PySem.W.kitOne X.K t c=some b) (h:∀ tk,Q (.bool b) { s with toks:=tk }) :
  wpAny (model X.prog X.w) A (call (.builtin "isinstance") [u,c]) Q E s:=by
 cases ty with
 | non=>cases (show u=Value.none from rx);exact PySem.W.kia_one PySem.W.kitx_none I.kIn True.intro e (fun z=>nomatch z) h
 | bl y=>cases (show u=Value.bool y from rx);exact PySem.W.kia_one PySem.W.kitx_bool I.kIn True.intro e (fun z=>nomatch z) h
 | int i=>obtain ⟨t,q⟩:=(show ∃ t,u=Value.int i t from rx);cases q;exact PySem.W.kia_one PySem.W.kitx_int I.kIn True.intro e (fun z=>nomatch z) h
 | str y=>obtain ⟨t,q⟩:=(show ∃ t,u=Value.str y t from rx);cases q;exact PySem.W.kia_one PySem.W.kitx_str I.kIn True.intro e (fun z=>nomatch z) h
 | flt y=>obtain ⟨t,q⟩:=(show ∃ t,u=Value.float y t from rx);cases q;exact PySem.W.kia_one PySem.W.kitx_float I.kIn True.intro e (fun z=>nomatch z) h
 | @lst a xs ea =>
  cases (show u=Value.ref a from rx)
  obtain ⟨_,_,n,_,h1⟩:=(show ObjOk X.prog X.w H s.heap a (.lst xs) from I.hok a _ ea)
  exact PySem.W.kia_one PySem.W.kitx_list I.kIn ⟨_,h1,rfl⟩ e (fun z=>nomatch z) h
 | @frz a ob xs ea =>
  cases (show u=Value.ref a from rx)
  obtain ⟨_,_,_,n,_,h1⟩:=(show ObjOk X.prog X.w H s.heap a (.frz ob (.lst xs)) from I.hok a _ ea)
  exact PySem.W.kia_one PySem.W.kitx_list I.kIn ⟨_,h1,rfl⟩ e (fun z=>nomatch z) h
 | @tup a xs ea =>
  cases (show u=Value.ref a from rx)
  obtain ⟨_,_,_,p⟩:=(show ObjOk X.prog X.w H s.heap a (.tup xs) from I.hok a _ ea)
  obtain ⟨o,h1,h2,_⟩:=p
  exact PySem.W.kia_one PySem.W.kitx_tuple I.kIn ⟨o,h1,h2⟩ e (fun z=>nomatch z) h
 | @dK a kvs ea =>
  cases (show u=Value.ref a from rx)
  obtain ⟨_,_,vs,_,p⟩:=(show ObjOk X.prog X.w H s.heap a (.dK kvs) from I.hok a _ ea)
  obtain ⟨o,es,ep,h1,h2,_⟩:=p
  exact PySem.W.kia_one PySem.W.kitx_dict I.kIn ⟨o,h1,h2.1⟩ e (fun z=>nomatch z) h
 | @dT a kvs ea =>
  cases (show u=Value.ref a from rx)
  obtain ⟨_,_,xs,_,o,es,ep,h1,h2,_⟩:=(show ObjOk X.prog X.w H s.heap a (.dT kvs) from I.hok a _ ea)
  exact PySem.W.kia_one PySem.W.kitx_dict I.kIn ⟨o,h1,h2.1⟩ e (fun z=>nomatch z) h
 | @exc a C ea F =>
  cases (show u=Value.ref a from rx)
  obtain ⟨oe,vs,h1,h2,h3,h4,_⟩:=(show ObjOk X.prog X.w H s.heap a (.exc (.ref C)) from I.hok a _ ea)
  refine PySem.W.kia_one (zO1 F) I.kIn ⟨oe,h1,h2,?_,?_⟩ e (fun z=>nomatch z) h
  ·unfold PySem.W.notCls;rw [h4]
  ·rw [h3];trivial
 | @ins a C dx fs ea cl ha hn htk hm =>
  cases (show u=Value.ref a from rx)
  obtain ⟨mA,O,_⟩:=zHq I.hok ea
  obtain ⟨od,J,_⟩:=O.look
  exact PySem.W.kia_one (PySem.W.kitx_own (cl.get _) cl.hd ha hn htk hm) I.kIn J e (fun z=>nomatch z) h
end
end L2
namespace L2
open PySem PySem.Spec PyProof.Rows
structure Room (k:Nat) (A:Around):Prop where
 dp:A.depth + 3 * k + 5 < recursionLimit
 un:A.units + 16 * k + 200 < cLine
theorem Room.mono {j k:Nat}{A:Around}(r:Room k A) (h:j≤k):Room j A:=⟨by have:=r.dp;omega,by have:=r.un;omega⟩
theorem Room.deeper {k:Nat}{A:Around}(r:Room (k + 1) A) (env:Env):Room k (A.deeper env) :=
 ⟨by have:=r.dp;show A.depth + 1 + 3 * k + 5 < _;omega,by have:=r.un;show A.units + 3 + 16 * k + 200 < _;omega⟩
theorem zLn {A:Around}{C:Addr}{us:List Value}{kw:List (Str × Value)}:(A.under (.builtin "type.__call__" ⟨.ref C :: us,kw⟩)).depth=A.depth + 1:=by
 first | rfl | simp [Around.under,Code.weight,Code.isCreation,Code.isGuard,Code.isCaller,Code.frames,Code.isFrame,guardIds]
theorem zLm {A:Around}{C:Addr}{us:List Value}{kw:List (Str × Value)}:(A.under (.builtin "type.__call__" ⟨.ref C :: us,kw⟩)).units=A.units + 1:=by
 first | rfl | simp [Around.under,Code.cUnits,Code.frames,Code.isFrame]
theorem Room.make {k:Nat}{A:Around}(r:Room (k + 1) A) (C:Addr) (us:List Value) (kw:List (Str × Value)):Room k (A.under (.builtin "type.__call__" ⟨.ref C :: us,kw⟩)) :=
 ⟨by have:=r.dp;rw [zLn];omega,by have:=r.un;rw [zLm];omega⟩
theorem Room.depth {k:Nat}{A:Around}(r:Room k A):A.depth < recursionLimit:=by have:=r.dp;omega
theorem Room.units {k:Nat}{A:Around}(r:Room k A):A.units + 64 < cLine:=by have:=r.un;omega
def zPm:TA:=fun _ H Q=>Q [] H
def zK7 (ta:TE) (tr:TA):TA:=fun σ H Q=>ta σ H fun x H1=>tr σ H1 fun xs H2=>Q (x :: xs) H2
section
variable {X:Cx}{e:Expr}{es:List Expr}{te:TE}{t:TA}{pos:Pos}
theorem zC:PA X [] zPm:=fun _ _ _ _ H Q I h=>Calls.spliced_nil ⟨[],H,I,.nil,h⟩
theorem zA (ha:PE X e te) (hr:PA X es t) (hs:starEach (e :: es) X.env=(false,eval e X.env) :: starEach es X.env:=by rfl):PA X (e :: es) (zK7 te t):=by
 intro pos pins s σ H Q I h
 rw [hs]
 show wpAny _ _ (spliced ((false,eval e X.env) :: backTo pos (starEach es X.env))) _ _ s
 refine Calls.spliced_cons (thn (ha pins s σ H _ I h) fun u s1 ⟨x,H1,I1,r1,q1⟩=>?_)
 exact thn (hr pos pins s1 σ H1 _ I1 q1) fun us s2 ⟨xs,H2,I2,r2,q2⟩=>⟨x :: xs,H2,I2,.cons r1 r2,q2⟩
def zT1 (t:TA):TE:=fun σ H Q=>t σ H fun xs H1=>xs.length≤sizeLine∧∀ p,H1 p=none→Q (.ref p) (upd H1 p (.tup xs))
def zT2 (t:TA):TE:=fun σ H Q=>t σ H fun xs H1=>xs.length≤sizeLine∧∀ p,H1 p=none→Q (.ref p) (upd H1 p (.lst xs))
theorem zMt {x1}(h:PA X es t):PE X (.Tuple es x1 pos) (zT1 t):=by
 intro pins s σ H Q I hq
 refine wpAny_Tuple_spliced (thn (h pos pins s σ H _ I hq) fun us s1 ⟨xs,H1,I1,r,z,q⟩=>⟨by rw [← r.length];exact z,?_⟩)
 have hf:H1 s1.heap.objs.size=none:=I1.hok.fresh (Nat.le_refl _)
 refine ⟨.ref s1.heap.objs.size,upd H1 s1.heap.objs.size (.tup xs),I1.laid (t':=s1.toks) (fun b u e=>Heap.get?_push_of_some _ e) (Nat.le_refl _) ?_,rfl,q _ hf⟩
 exact ⟨z,us,r,⟨_,Heap.get?_push_size _ rfl,rfl,_,rfl⟩⟩
theorem zBb (h:PA X es t):PE X (.List es pos) (zT2 t):=by
 intro pins s σ H Q I hq
 refine wpAny_List_spliced (thn (h pos pins s σ H _ I hq) fun us s1 ⟨xs,H1,I1,r,z,q⟩=>⟨by rw [← r.length];exact z,?_⟩)
 have hf:H1 s1.heap.objs.size=none:=I1.hok.fresh (Nat.le_refl _)
 refine ⟨.ref s1.heap.objs.size,upd H1 s1.heap.objs.size (.lst xs),I1.laid (t':=s1.toks) (fun b u e=>Heap.get?_push_of_some _ e) (Nat.le_refl _) ?_,rfl,q _ hf⟩
 exact ⟨z,us,0,r,Heap.get?_push_size _ rfl⟩
end
abbrev Sp:=List V→Hp→VK→XK→Prop
abbrev CXT:=List Env→Hp→Shared→XK→Value→Shared→Prop
structure Env0 (P:Program) (w:World) (K:PySem.W.Frag) (mg:Str→Option Value) (base:Heap) (A:Around) (outer:List Env) (s:Shared) (H:Hp):Prop where
 frames:A.frames=some outer
 mod:Mod K mg base
 bs:∀ b o,base.get? b=some o→s.heap.get? b=some o∧H b=none
 bsz:base.objs.size≤s.heap.objs.size
 funs:s.heap.FunFrames base outer
 frf:∀ b ∈ frs outer,H b=none
 hok:HOk P w H s.heap
 bare:AllBare s.gens
 hd:HdE A H
def CE (outer:List Env) (P:Program) (w:World) (H:Hp) (s:Shared) (Q:VK) (u:Value) (s':Shared):Prop :=
 ∃ v H',s'.os=s.os∧AllBare s'.gens∧Un (frs outer) [] H H' s.heap s'.heap∧HOk P w H' s'.heap∧RelV v u∧Q v H'
def CR (CX:CXT) (outer:List Env) (P:Program) (w:World) (H:Hp) (s:Shared) (Q:VK) (E:XK) (r:Result) (s':Shared):Prop :=
 match r with
 | .ok (.ret u)=>CE outer P w H s Q u s'
 | .ok _=>False
 | .error e=>CX outer H s E e s'
abbrev CX0:CXT:=fun _ _ _ _ _ _=>False
def zN7 (CX:CXT) (A:Around):Prop:=CX=CX0∨A.handled=none
structure FnOk (P:Program) (w:World) (K:PySem.W.Frag) (mg:Str→Option Value) (base:Heap) (CX:CXT) (k:Nat) (f:Addr) (fd:FuncData) (ps:List Str) (sp:Sp):Prop where
 len:∀ vs H Q E,sp vs H Q E→vs.length=ps.length
 run:∀ (A:Around) (outer:List Env) (s:Shared) (H:Hp) (args:Args) (us:List Value) (vs:List V) (Q:VK) (E:XK),Room k A→zN7 CX A→Env0 P w K mg base A outer s H→BindsTo s fd args (ps.zip us)→Vals vs us→sp vs H Q E →
  codeAny (model P w) A (.call (.ref f) args) (CR CX outer P w H s Q E) s
theorem Env0.make {P:Program}{w:World}{K:PySem.W.Frag}{mg:Str→Option Value}{base:Heap}{A:Around}{outer:List Env}{s:Shared}{H:Hp}(e:Env0 P w K mg base A outer s H) (C:Addr) (us:List Value) (kw:List (Str × Value)) :
  Env0 P w K mg base (A.under (.builtin "type.__call__" ⟨.ref C :: us,kw⟩)) outer s H:=⟨by first|exact e.frames | (simpa [Around.under,Code.envs,Code.isFrame,pushEnvs] using e.frames),e.mod,e.bs,e.bsz,e.funs,e.frf,e.hok,e.bare,e.hd⟩
section
variable {X:Cx}{pins:List (Addr × Obj)}{σ:St}{H:Hp}{s s':Shared}
theorem Inv.env0 (I:Inv X pins σ H s):Env0 X.prog X.w X.K X.mg X.base X.A X.stack s H :=
 ⟨I.ok.frames,I.ok.mod,I.bs,Nat.le_trans I.ok.bsz I.sz,I.stack,I.stkFree,I.hok,I.bare,I.hdE⟩
theorem Inv.after {Q:VK}{u:Value}(I:Inv X pins σ H s) (h:CE X.stack X.prog X.w H s Q u s'):EP X pins σ Q u s':=by
 obtain ⟨v,H',os,bare,un,hok,r,q⟩:=h
 obtain ⟨hh,g,d,t,os'⟩:=s'
 obtain rfl:os'=s.os:=os
 exact ⟨v,H',I.call (h':=hh) (g':=g) (d':=d) (t':=t) (ch:=[]) un hok bare (fun b z=>absurd z (by simp)),r,q⟩
end
def zL8 (sp:Sp) (dvs:List V) (E:XK) (t:TA):TE:=fun σ H Q=>t σ H fun vs H1=>sp (vs ++ dvs) H1 Q E
inductive tMeth' (C:Addr) (m:Str) (sp:Sp) (dvs:List V) (E:XK) (t:TA) (σ:St) (Q:VK) (x:V) (H1:Hp):Prop
 | mk:∀ a dx fs,(x=.ref a)→(H1 a=some (.ins C dx fs))→(fs.lookup m=none)→(t σ H1 fun vs H2=>sp (x :: (vs ++ dvs)) H2 Q E)→tMeth' C m sp dvs E t σ Q x H1
def zPz (C:Addr) (m:Str) (sp:Sp) (dvs:List V) (E:XK) (ta:TE) (t:TA):TE:=fun σ H Q=>ta σ H fun x H1=>tMeth' C m sp dvs E t σ Q x H1
def zS3 (C:Addr) (sp:Sp) (dvs:List V) (E:XK) (t:TA):TE:=fun σ H Q=>t σ H fun vs H1=>∀ x dx,H1 x=none→H1 dx=none→dx≠x →
 sp (.ref x :: (vs ++ dvs)) (upd (upd H1 dx (.own x)) x (.ins C dx [])) (fun v H2=>v=.non∧Q (.ref x) H2) E
def Binds (K:PySem.W.Frag) (fd:FuncData) (ps:List Str) (ds:List Value):Prop :=
 ∀ (s:Shared) (us:List Value),K.In s.heap→(us ++ ds).length=ps.length→BindsTo s fd ⟨us,[]⟩ (ps.zip (us ++ ds))
theorem Binds.all {K:PySem.W.Frag}{fd:FuncData}{ps:List Str}(h:∀ us:List Value,us.length=ps.length→bindArgs fd ⟨us,[]⟩=pure (ps.zip us)):Binds K fd ps []:=fun s us _ hl=>by
 rw [List.append_nil] at hl ⊢
 exact .of_eq (h us hl)
def zC9 (CX:CXT) (X:Cx) (E:XK):Prop:=∀ (pins:List (Addr × Obj)) (σ:St) (H:Hp) (s:Shared) (e:Value) (s':Shared),Inv X pins σ H s→CX X.stack H s E e s'→X.xe e s'
section
variable {X:Cx}{CX:CXT}{k:Nat}{f C:Addr}{fd:FuncData}{ps:List Str}{sp:Sp}{dvs:List V}{ds:List Value}{E:XK}{x m:Str}{p pos apos:Pos}{e o:Expr}{es:List Expr}{ta:TE}{t:TA}
theorem zKg {pins:List (Addr × Obj)}{σ:St}{H:Hp}{s:Shared}{Q:VK}{us:List Value}{vs:List V}(F:FnOk X.prog X.w X.K X.mg X.base CX k f fd ps sp) (hr:Room k X.A) (hb:Binds X.K fd ps ds) (hd:Vals dvs ds) (hx:zC9 CX X E)
  (I:Inv X pins σ H s) (r:Vals vs us) (h:sp (vs ++ dvs) H Q E) (hcm:zN7 CX X.A:=by first | assumption|exact Or.inl rfl|exact Or.inr (by assumption)):wpAny (model X.prog X.w) X.A (call (.ref f) us) (EP X pins σ Q) X.xe s:=by
 have r2:Vals (vs ++ dvs) (us ++ ds):=r.append hd
 have hl:(us ++ ds).length=ps.length:=by rw [← r2.length];exact F.len _ _ _ _ h
 refine wpAny_call (codeAny_mono (F.run X.A X.stack s H ⟨us,[]⟩ (us ++ ds) (vs ++ dvs) Q E hr hcm I.env0 (hb s us I.kIn hl) r2 h) fun r s' hq=>?_)
 cases r with
 | error e=>exact hx pins σ H s e s' I hq
 | ok fl =>
  cases fl with
  | ret u=>exact I.after hq
  | next=>exact False.elim hq
  | brk=>exact False.elim hq
  | cont=>exact False.elim hq
theorem zH (F:FnOk X.prog X.w X.K X.mg X.base CX k f fd ps sp) (hr:Room k X.A) (hg:Gl X x) (hm:X.mg x=some (.ref f)) (hk:PySem.W.keepIn X.K (.ref f)=true) (hb:Binds X.K fd ps ds) (hd:Vals dvs ds) (hx:zC9 CX X E)
  (ha:PA X (e :: es) t) (hdb:(x == ("__debug__" : Str))=false:=by decide) (he:starEach (e :: es) X.env=(false,eval e X.env) :: starEach es X.env:=by rfl) (hpl:(backTo pos (starEach es X.env)).any (·.1)=false:=by rfl) (hcm:zN7 CX X.A:=by first | assumption|exact Or.inl rfl|exact Or.inr (by assumption)) :
  PE X (.Call (.Name x p) (e :: es) [] pos) (zL8 sp dvs E t):=by
 intro pins s σ H Q I h
 refine wpAny_Call_Name_kw (zEo I hg hm ?_ hdb)
 refine PySem.W.callWith_K (h₀:=X.base) I.ok.mod.kin hk (thn (ha pos pins s σ H _ I h) fun us s1 ⟨vs,H1,I1,r,q⟩=>⟨I1.kIn,?_⟩) he hpl
 exact zKg F hr hb hd hx I1 r q
theorem zDx (F:FnOk X.prog X.w X.K X.mg X.base CX k f fd ps sp) (hr:Room k X.A) (hg:Gl X x) (hm:X.mg x=some (.ref f)) (hk:PySem.W.keepIn X.K (.ref f)=true) (hb:Binds X.K fd ps ds) (hd:Vals dvs ds) (hx:zC9 CX X E)
  (hdb:(x == ("__debug__" : Str))=false:=by decide) (hcm:zN7 CX X.A:=by first | assumption|exact Or.inl rfl|exact Or.inr (by assumption)):PE X (.Call (.Name x p) [] [] pos) (zL8 sp dvs E zPm):=by
 intro pins s σ H Q I h
 refine wpAny_Call_Name_kw (zEo I hg hm ?_ hdb)
 exact PySem.W.callWith_K0 I.kIn hk (zKg (us:=[]) F hr hb hd hx I .nil h)
theorem zy {pl:Sem Bool}(he:PE X o ta) (c:Cls X.K C) (hm:Meth X.K C m f) (F:FnOk X.prog X.w X.K X.mg X.base CX k f fd ps sp) (hr:Room k X.A) (hb:Binds X.K fd ps ds) (hd:Vals dvs ds) (hx:zC9 CX X E) (ha:PA X (e :: es) t)
  (hst:starEach (e :: es) X.env=(false,eval e X.env) :: starEach es X.env:=by rfl) (hpl:(backTo pos (starEach es X.env)).any (·.1)=false:=by rfl)
  (ht:eval (.Call (.Attribute o m apos) (e :: es) [] pos) X.env=(do
   let ov ← eval o X.env
   standAt apos.atName
   let (f,first) ← holding [ov] (getMethod ov m pl)
   callWith pos f first (backTo pos (starEach (e :: es) X.env)) (backToKw pos (keywordEach [] X.env))):=by rfl) (hcm:zN7 CX X.A:=by first | assumption|exact Or.inl rfl|exact Or.inr (by assumption)) :
  PE X (.Call (.Attribute o m apos) (e :: es) [] pos) (zPz C m sp dvs E ta t):=by
 intro pins s σ H Q I h
 refine PySem.W.methodCall_KW (pl:=pl) (thn (he pins s σ H _ I h) fun u s1 ⟨x,H1,I1,rx,a,dx,fs,ex,ea,l,q⟩=>?_) ht
 subst ex
 obtain rfl:u=Value.ref a:=rx
 refine zGr I1 ea c hm l ?_
 refine PySem.W.callWith_K (first:=[.ref a]) (h₀:=X.base) I.ok.mod.kin hm.kp (thn (ha pos pins s1 σ H1 _ I1 q) fun us s2 ⟨vs,H2,I2,r,q2⟩=>⟨I2.kIn,?_⟩) hst hpl
 exact zKg (us:=.ref a :: us) (vs:=.ref a :: vs) F hr hb hd hx I2 (.cons rfl r) q2
theorem zBq {pl:Sem Bool}(he:PE X o ta) (c:Cls X.K C) (hm:Meth X.K C m f) (F:FnOk X.prog X.w X.K X.mg X.base CX k f fd ps sp) (hr:Room k X.A) (hb:Binds X.K fd ps ds) (hd:Vals dvs ds) (hx:zC9 CX X E)
  (ht:eval (.Call (.Attribute o m apos) [] [] pos) X.env=(do
   let ov ← eval o X.env
   standAt apos.atName
   let (f,first) ← holding [ov] (getMethod ov m pl)
   callWith pos f first (backTo pos (starEach [] X.env)) (backToKw pos (keywordEach [] X.env))):=by rfl) (hcm:zN7 CX X.A:=by first | assumption|exact Or.inl rfl|exact Or.inr (by assumption)) :
  PE X (.Call (.Attribute o m apos) [] [] pos) (zPz C m sp dvs E ta zPm):=by
 intro pins s σ H Q I h
 refine PySem.W.methodCall_KW (pl:=pl) (thn (he pins s σ H _ I h) fun u s1 ⟨x,H1,I1,rx,a,dx,fs,ex,ea,l,q⟩=>?_) ht
 subst ex
 obtain rfl:u=Value.ref a:=rx
 refine zGr I1 ea c hm l ?_
 exact PySem.W.callWith_K0 (first:=[.ref a]) I1.kIn hm.kp (zKg (us:=[.ref a]) (vs:=[.ref a]) F hr hb hd hx I1 (.cons rfl .nil) q)
structure Mk (K:PySem.W.Frag) (C f:Addr):Prop where
 makes:PySem.W.makesIn K C=true
 init:PySem.W.findIn K (.ref C) "__init__" = some (some (.ref f))
 fn:PySem.W.isFn K (.ref f)=true
 kp:PySem.W.keepIn K (.ref C)=true
theorem zOl {pins:List (Addr × Obj)}{σ:St}{H:Hp}{s:Shared}{Q:VK}{us:List Value}{vs:List V}(M:Mk X.K C f) (F:FnOk X.prog X.w X.K X.mg X.base CX k f fd ps sp) (hr:Room (k + 1) X.A) (hb:Binds X.K fd ps ds) (hd:Vals dvs ds)
  (hx:zC9 CX X E) (I:Inv X pins σ H s) (r:Vals vs us)
  (h:∀ x dx,H x=none→H dx=none→dx≠x→sp (.ref x :: (vs ++ dvs)) (upd (upd H dx (.own x)) x (.ins C dx [])) (fun v H2=>v=.non∧Q (.ref x) H2) E) (hcm:zN7 CX X.A:=by first | assumption|exact Or.inl rfl|exact Or.inr (by assumption)) :
  wpAny (model X.prog X.w) X.A (call (.ref C) us) (EP X pins σ Q) X.xe s:=by
 have hq:=h (s.heap.objs.size + 1) s.heap.objs.size (I.hok.fresh (Nat.le_succ _)) (I.hok.fresh (Nat.le_refl _)) (Nat.ne_of_lt (Nat.lt_succ_self _))
 have I2:=Inv.made (C:=C) I
 have r2:Vals (V.ref (s.heap.objs.size + 1) :: (vs ++ dvs)) (Value.ref (s.heap.objs.size + 1) :: (us ++ ds)):=.cons rfl (r.append hd)
 have hl:(Value.ref (s.heap.objs.size + 1) :: us ++ ds).length=ps.length:=by
  have e:=r2.length
  rw [F.len _ _ _ _ hq] at e
  exact e.symm
 refine wpAny_call (zOx (f:=f) I.kIn M.makes M.init (beq_iff_eq.mp M.fn) (codeAny_mono (F.run _ X.stack _ _ ⟨Value.ref (s.heap.objs.size + 1) :: us,[]⟩ (Value.ref (s.heap.objs.size + 1) :: (us ++ ds)) _ _ E (hr.make C us []) (show zN7 CX _ from hcm)
  (I2.env0.make C us []) (hb _ (Value.ref (s.heap.objs.size + 1) :: us) I2.kIn hl) r2 hq) fun r s' hq'=>?_))
 cases r with
 | error e=>exact hx pins σ _ _ e s' I2 hq'
 | ok fl =>
  cases fl with
  | ret u =>
   obtain ⟨v,H',I3,rv,ev,q3⟩:=I2.after hq'
   subst ev
   exact ⟨rv,⟨V.ref (s.heap.objs.size + 1),H',I3,rfl,q3⟩⟩
  | next=>exact False.elim hq'
  | brk=>exact False.elim hq'
  | cont=>exact False.elim hq'
theorem zFh (M:Mk X.K C f) (F:FnOk X.prog X.w X.K X.mg X.base CX k f fd ps sp) (hr:Room (k + 1) X.A) (hg:Gl X x) (hm:X.mg x=some (.ref C)) (hb:Binds X.K fd ps ds) (hd:Vals dvs ds) (hx:zC9 CX X E)
  (ha:PA X (e :: es) t) (hdb:(x == ("__debug__" : Str))=false:=by decide) (he:starEach (e :: es) X.env=(false,eval e X.env) :: starEach es X.env:=by rfl) (hpl:(backTo pos (starEach es X.env)).any (·.1)=false:=by rfl) (hcm:zN7 CX X.A:=by first | assumption|exact Or.inl rfl|exact Or.inr (by assumption)) :
  PE X (.Call (.Name x p) (e :: es) [] pos) (zS3 C sp dvs E t):=by
 intro pins s σ H Q I h
 refine wpAny_Call_Name_kw (zEo I hg hm ?_ hdb)
 refine PySem.W.callWith_K (h₀:=X.base) I.ok.mod.kin M.kp (thn (ha pos pins s σ H _ I h) fun us s1 ⟨vs,H1,I1,r,q⟩=>⟨I1.kIn,?_⟩) he hpl
 exact zOl M F hr hb hd hx I1 r q
end
section
variable {X:Cx}{CX:CXT}{k:Nat}{f C:Addr}{fd:FuncData}{ps ks:List Str}{sp:Sp}{E:XK}{x m:Str}{p pos apos kpos:Pos}{e o:Expr}{es:List Expr}{kws:List Keyword}{te ta:TE}{t tk:TA}{nm:Option Str}
variable {g:List Value→List Value→List Value}{gV:List V→List V→List V}
end
structure FnScope (N P:List Str) (sc:Scope):Prop where
 kind:sc.kind=.function
 co:sc.isCoroutine=false
 gen:sc.isGenerator=false
 nd:N.Nodup
 pre:N.take P.length=P
 par:∀ x ∈ P,sc.names.lookup x=some .local∨sc.names.lookup x=some .cell
 nofree:∀ y ∈ sc.names,y.2≠.free
theorem zI0 {kindOf:Str→Option NameKind}{x:Str}:∀ {binds:List (Str × Value)}{m:Str→Option Value},(∀ v,(x,v) ∉ binds)→bindL kindOf binds m x=m x
 | [],_,_=>rfl
 | (n,v) :: r,m,h=>by
  unfold bindL
  rw [zI0 fun w hw=>h w (List.mem_cons_of_mem _ hw)]
  split
  ·have:x≠n:=by rintro rfl;exact h v List.mem_cons_self
   simp [this]
  ·rfl
theorem zI2 {kindOf:Str→Option NameKind}{x:Str}:∀ {binds:List (Str × Value)}{m:Str→Option Value},(∀ v,(x,v) ∉ binds)→bindC kindOf binds m x=m x
 | [],_,_=>rfl
 | (n,v) :: r,m,h=>by
  unfold bindC
  rw [zI2 fun w hw=>h w (List.mem_cons_of_mem _ hw)]
  split
  ·rfl
  ·have:x≠n:=by rintro rfl;exact h v List.mem_cons_self
   simp [this]
theorem zI1 {kindOf:Str→Option NameKind}{x:Str}{v:Value}:∀ {P:List Str}{vs:List Value}{i:Nat}{m:Str→Option Value},P.Nodup→P[i]? = some x→vs[i]? = some v→kindOf x=some .local →
  bindL kindOf (P.zip vs) m x=some v
 | [],_,_,_,_,h,_,_=>by simp at h
 | _ :: _,[],_,_,_,_,h,_=>by simp at h
 | p :: P,w :: vs,0,m,nd,h1,h2,hk=>by
  simp at h1 h2;subst h1;subst h2
  show bindL kindOf ((p,w) :: P.zip vs) m p=_
  unfold bindL
  rw [zI0 fun v hv=>(List.nodup_cons.mp nd).1 (List.of_mem_zip hv).1,if_pos hk]
  simp
 | p :: P,w :: vs,i + 1,m,nd,h1,h2,hk=>by
  show bindL kindOf ((p,w) :: P.zip vs) m x=_
  unfold bindL
  exact zI1 (i:=i) (List.nodup_cons.mp nd).2 (by simpa using h1) (by simpa using h2) hk
theorem zI3 {kindOf:Str→Option NameKind}{x:Str}{v:Value}:∀ {P:List Str}{vs:List Value}{i:Nat}{m:Str→Option Value},P.Nodup→P[i]? = some x→vs[i]? = some v→kindOf x≠some .local →
  bindC kindOf (P.zip vs) m x=some v
 | [],_,_,_,_,h,_,_=>by simp at h
 | _ :: _,[],_,_,_,_,h,_=>by simp at h
 | p :: P,w :: vs,0,m,nd,h1,h2,hk=>by
  simp at h1 h2;subst h1;subst h2
  show bindC kindOf ((p,w) :: P.zip vs) m p=_
  unfold bindC
  rw [zI2 fun v hv=>(List.nodup_cons.mp nd).1 (List.of_mem_zip hv).1,if_neg hk]
  simp
 | p :: P,w :: vs,i + 1,m,nd,h1,h2,hk=>by
  show bindC kindOf ((p,w) :: P.zip vs) m x=_
  unfold bindC
  exact zI3 (i:=i) (List.nodup_cons.mp nd).2 (by simpa using h1) (by simpa using h2) hk
def zE7 (N:List Str) (vs:List V):St:=vs.map some ++ List.replicate (N.length - vs.length) none
def zNy (CX:CXT) (P:Program) (w:World) (K:PySem.W.Frag) (mg:Str→Option Value) (base:Heap) (N:List Str) (qual:Str) (scope:Scope) (f:Addr) (cd:Value) (A:Around) (outer:List Env) (s:Shared) (H:Hp) (E:XK):Cx where
 prog:=P
 w:=w
 K:=K
 mg:=mg
 base:=base
 A:=A.deeper (envOfC qual scope s.heap.objs.size f cd)
 N:=N
 s₀:=s
 H₀:=H
 env:=envOfC qual scope s.heap.objs.size f cd
 outer:=outer
 stack:=envOfC qual scope s.heap.objs.size f cd :: outer
 ex:=[]
 calm:=true
 fn:=fun _=>true
 pn:=[]
 tr:=[]
 fx:=[]
 xe:=fun e s'=>wpAny (model P w) (A.deeper (envOfC qual scope s.heap.objs.size f cd)) (leaving (envOfC qual scope s.heap.objs.size f cd) e) (fun _ s''=>CX outer H s E e s'') (fun e' s''=>CX outer H s E e' s'') s'
theorem zK1 {sc:Scope}{n:Nat}{x:Str}(h:sc.names.lookup x=some .cell):∃ c,(cellsFrom n sc.names []).lookup x=some c:=by
 have q:=PySem.W.cellsFrom_some sc.names n [] (.inl h)
 exact Option.isSome_iff_exists.mp q
theorem zNf {CX:CXT}{P:Program}{w:World}{K:PySem.W.Frag}{mg:Str→Option Value}{base:Heap}{N ps:List Str}{qual:Str}{scope:Scope}{f:Addr}{cd:Value}{A:Around}{outer:List Env}{s s1:Shared}{H:Hp}{E:XK}{us:List Value}{vs:List V}
  (S:FnScope N ps scope) (e0:Env0 P w K mg base A outer s H) (hl:vs.length=ps.length) (r:Vals vs us)
  (x:InCallC s s.heap.objs.size (bindL (envOfC qual scope s.heap.objs.size f cd).kindOf (ps.zip us) fun _=>none) (cellsFrom (s.heap.objs.size + 1) scope.names []) (bindC (envOfC qual scope s.heap.objs.size f cd).kindOf (ps.zip us) fun _=>none) s1) :
  Inv (zNy CX P w K mg base N qual scope f cd A outer s H E) [] (zE7 N vs) H s1:=by
 have hpl:ps.length≤N.length:=by have:=congrArg List.length S.pre;rw [List.length_take] at this;omega
 obtain ⟨h1,tk,rfl,hk⟩:=x.done
 have noA:∀ b:Addr,b ∉ (zNy CX P w K mg base N qual scope f cd A outer s H E).ex:=fun b z=>absurd (show b ∈ ([] : List Addr) from z) (by simp)
 have hdX:A.handled=none∨∃ (e:Addr) (c:Value),A.handled=some (.ref e)∧(H e=some (.exc c)∨(e,c) ∈ (zNy CX P w K mg base N qual scope f cd A outer s H E).tr):=by
  rcases e0.hd with z | ⟨e,c,z1,z2⟩
  ·exact .inl z
  ·exact .inr ⟨e,c,z1,.inl z2⟩
 refine ⟨⟨e0.mod,S.kind,rfl,rfl,Nat.le_refl _,fun y z c h1 h2=>?_,fun y hy=>?_,fun y c _ h=>?_,hdX,Around.frames_deeper e0.frames,.inr ⟨rfl,rfl⟩,fun b z=>absurd z (noA b),e0.bs,e0.bsz,fun b _ _=>noA b,fun b z=>absurd z (noA b),e0.funs,e0.frf⟩,
  rfl,e0.bare,Un.kept hk,⟨_,x.toInCall.ns,fun i y v h1 h2 h3=>?_⟩,fun y c h=>⟨_,x.cell y c h⟩,e0.hok.fresh (Nat.le_refl _),fun y c h=>?_,fun p hp=>absurd (show p ∈ ([] : List (Addr × Obj)) from hp) (by simp),e0.hok.kept hk,?_,fun p hp=>absurd (show p ∈ ([] : List (Addr × Value)) from hp) (by simp),fun p hp=>absurd (show p ∈ ([] : List (Str × Value)) from hp) (by simp)⟩
 ·exact name_of_addr x.apart (PySem.mem_of_lookup h1) (PySem.mem_of_lookup h2)
 ·have hy:scope.names.lookup y=some .cell∨scope.names.lookup y=some .free:=hy
  rcases hy with hy | hy
  ·exact zK1 hy
  ·exact absurd rfl (S.nofree _ (PySem.mem_of_lookup hy))
 ·exact Nat.le_of_lt (x.above y c (PySem.mem_of_lookup h))
 ·have hi:i < vs.length:=by
   unfold zE7 at h2
   by_cases hi:i < vs.length
   ·exact hi
   ·rw [List.getElem?_append_right (by simpa using hi)] at h2
    rw [List.getElem?_replicate] at h2
    split at h2 <;> cases h2
  have ha:vs[i]? = some v:=by
   unfold zE7 at h2
   rw [List.getElem?_append_left (by simpa using hi),List.getElem?_map] at h2
   cases e:vs[i]? with
   | none=>rw [e] at h2;cases h2
   | some a=>rw [e] at h2;cases h2;rfl
  obtain ⟨u,hu,rv⟩:=r.get ha
  have hp:ps[i]? = some y:=by
   rw [← S.pre,List.getElem?_take_of_lt (by omega)];exact h1
  have ndP:ps.Nodup:=by rw [← S.pre];exact S.nd.sublist (List.take_sublist _ _)
  refine ⟨u,rv,?_⟩
  rcases S.par y (List.mem_of_getElem? hp) with k | k
  ·exact .inl ⟨k,zI1 ndP hp hu k⟩
  ·obtain ⟨c,e⟩:=zK1 (n:=s.heap.objs.size + 1) k
   refine .inr ⟨.inl k,c,e,?_⟩
   have q:=x.cell y c e
   rw [zI3 ndP hp hu (by show scope.names.lookup y≠_;rw [k];decide)] at q
   exact q
 ·exact e0.hok.fresh (Nat.le_of_lt (x.above y c (PySem.mem_of_lookup h)))
 ·unfold zE7
  show _=N.length
  rw [List.length_append,List.length_map,List.length_replicate]
  omega
theorem zSh {CX:CXT}{P:Program}{w:World}{K:PySem.W.Frag}{mg:Str→Option Value}{base:Heap}{k:Nat}{f:Addr}{name qual:Str}{params:Arguments}{body:List Stmt}{scope:Scope}{dV kV doc pm cdv ct oc:Value}{an od:Option Addr}
  {osl:Array (Option Value)}{N ps:List Str}{sp:Sp} (lk:K.lookup f=some ⟨oc,od,.func (PySem.W.fnOf name qual params body scope dV kV doc pm an cdv ct),osl⟩) (hcd:PySem.W.codeIn K cdv qual=true) (S:FnScope N ps scope)
  (len:∀ vs H Q E,sp vs H Q E→vs.length=ps.length)
  (hbody:∀ (A:Around) (outer:List Env) (s:Shared) (H:Hp) (vs:List V) (Q:VK) (E:XK),Room k (A.deeper (envOfC qual scope s.heap.objs.size f cdv))→zN7 CX A→sp vs H Q E →
   ∃ t,PSs (zNy CX P w K mg base N qual scope f cdv A outer s H E) body t∧t { nx:=fun _ H'=>Q .non H',rt:=Q } (zE7 N vs) H) :
  FnOk P w K mg base CX (k + 1) f (PySem.W.fnOf name qual params body scope dV kV doc pm an cdv ct) ps sp:=by
 refine ⟨len,fun A outer s H args us vs Q E hr hcm e0 hb r hsp=>?_⟩
 have hl:=len _ _ _ _ hsp
 have KX:K.In s.heap:=e0.mod.kin.keeps fun b o e=>(e0.bs b o e).1
 have lim:s.heap.NoLimit:=e0.mod.nolimit.keeps fun b o e=>(e0.bs b o e).1
 have hkind:∀ y ∈ ps.zip us,scope.names.lookup y.1=some .local∨(scope.names.lookup y.1=some .cell∧((cellsFrom (s.heap.objs.size + 1) scope.names []).lookup y.1).isSome=true):=fun ⟨n,v⟩ hy=>by
  rcases S.par n (List.of_mem_zip hy).1 with q | q
  ·exact .inl q
  ·exact .inr ⟨q,PySem.W.cellsFrom_some _ _ _ (.inl q)⟩
 refine codeAny_call_function hr.depth (KX _ _ lk) rfl S.co S.gen rfl (PySem.W.codeRec_of KX hcd) (hb _ _ _ _ ?_)
 refine wpAny_newFunctionEnv_cells S.kind hkind fun env he s1 x=>?_
 subst he
 refine ⟨lim.keeps x.toInCall.keep,codeAny_func ?_⟩
 obtain ⟨t,ht,hq⟩:=hbody A outer s H vs Q E (hr.deeper _) hcm hsp
 have I:Inv (zNy CX P w K mg base N qual scope f cdv A outer s H E) [] (zE7 N vs) H s1:=zNf S e0 hl r x
 refine wpAny_mono (ht [] s1 (zE7 N vs) H _ I hq) (fun fl s' hs=>?_) fun e s' hs=>hs
 have fin:∀ {σ':St}{H':Hp}{v:V}{u:Value},Inv (zNy CX P w K mg base N qual scope f cdv A outer s H E) [] σ' H' s'→RelV v u→Q v H'→CE outer P w H s Q u s' :=
  fun {σ' H' v u} J rv q=>⟨v,H',J.os,J.bare,J.base,J.hok,rv,q⟩
 cases fl with
 | ret u =>
  obtain ⟨v,σ',H',J,rv,q⟩:=hs
  exact fin J rv q
 | next =>
  obtain ⟨σ',H',J,q⟩:=hs
  exact fin (v:=V.non) (u:=Value.none) J rfl q
 | brk =>
  obtain ⟨_,_,_,q⟩:=hs
  exact False.elim q
 | cont =>
  obtain ⟨_,_,_,q⟩:=hs
  exact False.elim q
end L2
namespace L2
open PySem PySem.Spec PyProof.Rows
section
variable {X:Cx}{x:Str}{p pos:Pos}{e:Expr}{es:List Expr}{t:TA}{id T:String}{r:List V→Hp→VK→Prop}
def tCB (r:List V→Hp→VK→Prop) (t:TA):TE:=fun σ H Q=>t σ H fun vs H1=>r vs H1 Q
theorem zQ (hc:zDj X (.builtin id) r) (hg:Gl X x) (hm:X.mg x=none) (hv:bootBuiltins x=some (.builtin id)) (ha:PA X (e :: es) t) (hn:x ≠ "__name__" := by decide) (hdb:(x == ("__debug__" : Str))=false:=by decide)
  (he:starEach (e :: es) X.env=(false,eval e X.env) :: starEach es X.env:=by rfl) (hpl:(backTo pos (starEach es X.env)).any (·.1)=false:=by rfl):PE X (.Call (.Name x p) (e :: es) [] pos) (tCB r t):=by
 intro pins s σ H Q I h
 refine wpAny_Call_Name_kw (zD6 I hg hm hv ?_ hn hdb)
 exact PyProof.Rows.callWith_builtin1 (thn (ha pos pins s σ H _ I h) fun us s1 ⟨vs,H1,I1,r1,q1⟩=>hc pins s1 σ H1 vs us Q I1 r1 q1) he hpl
theorem zCm (hc:zDj X (.type T) r) (hg:Gl X x) (hm:X.mg x=none) (hv:bootBuiltins x=some (.type T)) (ha:PA X (e :: es) t) (hn:x ≠ "__name__" := by decide) (hdb:(x == ("__debug__" : Str))=false:=by decide)
  (he:starEach (e :: es) X.env=(false,eval e X.env) :: starEach es X.env:=by rfl) (hpl:(backTo pos (starEach es X.env)).any (·.1)=false:=by rfl):PE X (.Call (.Name x p) (e :: es) [] pos) (tCB r t):=by
 intro pins s σ H Q I h
 refine wpAny_Call_Name_kw (zD6 I hg hm hv ?_ hn hdb)
 exact PyProof.Rows.callWith_type1 (thn (ha pos pins s σ H _ I h) fun us s1 ⟨vs,H1,I1,r1,q1⟩=>hc pins s1 σ H1 vs us Q I1 r1 q1) he hpl
end
end L2
namespace HT
open PySem PyProof.Rows
section
open PySem.SeqAt
open PySem.AutoSeq1 (wpAny_loadPart')
open PySem.MeetsSeq PySem.MeetsSeq2 PySem.MeetsSeq3
end
section
variable {prog:Program}{w:World}{A:Around}{E:Value→Shared→Prop}{s:Shared}
def sIx (n d:Nat):Option Int→Nat
 | none=>d
 | some v=>if v < 0 then (v + (n:Int)).toNat else min v.toNat n
theorem sIx_none (n d:Nat):sIx n d none=d:=rfl
theorem sIx_nat (n d k:Nat):sIx n d (some (k:Int))=min k n:=by
 show (if (k:Int) < 0 then ((k:Int) + (n:Int)).toNat else min (k:Int).toNat n)=min k n
 rw [if_neg (by omega),Int.toNat_natCast]
end
end HT
namespace L2
open PySem PySem.Spec PyProof.Rows
abbrev TO:=St→Hp→(Option Int→Hp→Prop)→Prop
def PO (X:Cx) (e:Option Expr) (t:TO):Prop :=
 ∀ (pins:List (Addr × Obj)) (s:Shared) (σ:St) (H:Hp) (Q:Option Int→Hp→Prop),Inv X pins σ H s→t σ H Q →
  wpAny (model X.prog X.w) X.A (evalPart e X.env) (fun u s'=>∃ o H',Inv X pins σ H' s'∧IsPart u o∧Q o H') X.xe s
def zPy:TO:=fun _ H Q=>Q none H
inductive tPart' (Q:(Option Int→Hp→Prop)) (x:V) (H1:Hp):Prop
 | mk:∀ i,(x=.int i)→(Q (some i) H1)→tPart' Q x H1
def zS1 (t:TE):TO:=fun σ H Q=>t σ H fun x H1=>tPart' Q x H1
theorem zGq {ns:List Int}:∀ {us:List Value},Vals (ns.map V.int) us→IntsAre us ns:=by
 induction ns with
 | nil=>intro us r;rw [List.map_nil] at r;cases r;exact .nil
 | cons n ns ih =>
  intro us r
  rw [List.map_cons] at r
  cases r with
  | cons r1 r2 =>
   obtain ⟨t,e⟩:=r1
   subst e
   exact .cons n t (ih r2)
section
variable {X:Cx}{e:Expr}{te:TE}{lo hi:Option Expr}{tl th:TO}{pos p2:Pos}
theorem zBf:PO X none zPy:=by
 intro pins s σ H Q I h
 rw [evalPart_none]
 exact wpAny_pure ⟨none,H,I,.none,h⟩
theorem zh (h:PE X e te):PO X (some e) (zS1 te):=by
 intro pins s σ H Q I hw
 rw [evalPart_some]
 refine thn (h pins s σ H _ I hw) fun u s1 ⟨x,H1,I1,r1,q1⟩=>?_
 obtain ⟨i,rfl,q⟩:=q1
 obtain ⟨t,rfl⟩:=r1
 exact ⟨some i,H1,I1,.int i t,q⟩
def SlR (X:Cx) (r:V→Option Int→Option Int→Hp→VK→Prop):Prop :=
 ∀ (pins:List (Addr × Obj)) (s:Shared) (σ:St) (H:Hp) (x:V) (v vl vu:Value) (lo hi:Option Int) (sl:Addr) (Q:VK),Inv X pins σ H s→RelV x v→s.heap.IsSliceOf sl vl vu .none→IsPart vl lo→IsPart vu hi→r x lo hi H Q →
  ∃ T id,typeLookup (.type T) "__getitem__" = pure (some (.builtin id))∧s.TypeIs v T∧wpAny (model X.prog X.w) X.A (getItem v (.ref sl)) (EP X pins σ Q) X.xe s
def tSl (r:V→Option Int→Option Int→Hp→VK→Prop) (te:TE) (tl th:TO):TE:=fun σ H Q=>te σ H fun x H1=>tl σ H1 fun l H2=>th σ H2 fun u H3=>r x l u H3 Q
theorem zk {r:V→Option Int→Option Int→Hp→VK→Prop}(hr:SlR X r) (he:PE X e te) (hl:PO X lo tl) (hu:PO X hi th):PE X (.Subscript e (.Slice lo hi none p2) pos) (tSl r te tl th):=by
 intro pins s σ H Q I h
 refine Subscript_ (thn (he pins s σ H _ I h) fun v s1 ⟨x,H1,I1,r1,q1⟩=>?_)
 refine wpAny_Slice (thn (hl pins s1 σ H1 _ I1 q1) fun vl s2 ⟨l,H2,I2,pl,q2⟩=>thn (hu pins s2 σ H2 _ I2 q2) fun vu s3 ⟨u,H3,I3,pu,q3⟩=>?_)
 rw [evalPart_none]
 refine wpAny_pure ?_
 have I4:Inv X pins σ H3 { s3 with heap:=s3.heap.push { cls:=.type "slice", data:=.fields #[vl,vu,.none] } }:=I3.kept (t':=s3.toks) fun b ob q=>Heap.get?_push_of_some _ q
 obtain ⟨T,id,hT,ht,hg⟩:=hr pins { s3 with heap:=s3.heap.push { cls:=.type "slice", data:=.fields #[vl,vu,.none] } } σ H3 x v vl vu l u s3.heap.objs.size Q I4 r1 (Heap.IsSliceOf.new ..) pl pu q3
 show wpAny (model X.prog X.w) X.A (subscriptTail e (.Slice lo hi none p2) v (.ref s3.heap.objs.size)) (EP X pins σ Q) X.xe { s3 with heap:=s3.heap.push { cls:=.type "slice", data:=.fields #[vl,vu,.none] } }
 exact tail_any (ops:=[.ref s3.heap.objs.size,v]) ht hT hg (by with_unfolding_all rfl)
def zHx (xs:List V) (lo hi:Option Int):List V:=(xs.drop (HT.sIx xs.length 0 lo)).take (HT.sIx xs.length xs.length hi - HT.sIx xs.length 0 lo)
theorem zJ2 (xs:List V) (lo hi:Option Int):(zHx xs lo hi).length≤xs.length:=by
 unfold zHx
 rw [List.length_take,List.length_drop]
 omega
end
end L2
namespace L2
open PySem PySem.Spec PyProof.Rows
def ixN (n:Nat) (i:Int):Option Nat:=if 0≤i then (if i < n then some i.toNat else none) else if -(n:Int)≤i then some (i + n).toNat else none
def atI {α:Type}(xs:List α) (i:Int):Option α:=(ixN xs.length i).bind fun j=>xs[j]?
theorem zNd {n:Nat}{i:Int}{j:Nat}(h:ixN n i=some j):seqIndex? i n=some j∧j < n∧-(n:Int)≤i∧i < n:=by
 unfold ixN at h
 by_cases h0:0≤i
 ·rw [if_pos h0] at h
  by_cases h1:i < n
  ·rw [if_pos h1] at h
   have e:i.toNat=j:=Option.some.inj h
   exact ⟨by rw [seqIndex_of h0 h1,e],by omega,by omega,h1⟩
  ·rw [if_neg h1] at h;cases h
 ·rw [if_neg h0] at h
  by_cases h1:-(n:Int)≤i
  ·rw [if_pos h1] at h
   have e:(i + n).toNat=j:=Option.some.inj h
   exact ⟨by rw [seqIndex_neg (by omega) h1,e],by omega,h1,by omega⟩
  ·rw [if_neg h1] at h;cases h
theorem atI_get {α:Type}{xs:List α}{i:Int}{v:α}(h:atI xs i=some v):∃ j,seqIndex? i xs.length=some j∧xs[j]? = some v∧j < xs.length∧-(xs.length:Int)≤i∧i < xs.length:=by
 unfold atI at h
 cases e:ixN xs.length i with
 | none=>rw [e] at h;cases h
 | some j =>
  rw [e] at h
  obtain ⟨h1,h2,h3,h4⟩:=zNd e
  exact ⟨j,h1,h,h2,h3,h4⟩
theorem zC0 {α:Type}{xs:List α}{j:Nat}{v:α}(h:xs[j]? = some v):atI xs (j:Int)=some v:=by
 have hj:j < xs.length:=(List.getElem?_eq_some_iff.mp h).1
 have e:ixN xs.length (j:Int)=some j:=by
  unfold ixN
  rw [if_pos (by omega),if_pos (by omega)];simp
 unfold atI;rw [e];exact h
def zRb (b:Expr):Prop:=∀ o i,subscripted b false o i=operate [o,i] (getItem o i)
def IxR (X:Cx) (r:R2):Prop :=
 ∀ (value slice:Expr) (pins:List (Addr × Obj)) (s:Shared) (σ:St) (H:Hp) (x y:V) (v u:Value) (Q:VK),Inv X pins σ H s→RelV x v→RelV y u→r x y H Q →
  subscripted slice false v u=operate [v,u] (getItem v u)→wpAny (model X.prog X.w) X.A (subscriptTail value slice v u) (EP X pins σ Q) X.xe s
def MtR (X:Cx) (id:String) (r:V→List V→Hp→VK→Prop):Prop :=
 ∀ (pins:List (Addr × Obj)) (s:Shared) (σ:St) (H:Hp) (x:V) (xs:List V) (v:Value) (us:List Value) (Q:VK),Inv X pins σ H s→RelV x v→Vals xs us→r x xs H Q →
  wpAny (model X.prog X.w) X.A (call (.builtin id) (v :: us)) (EP X pins σ Q) X.xe s
section
variable {X:Cx}{a b:Expr}{ta tb:TE}{pos:Pos}
theorem zC7 {r:R2}(hr:IxR X r) (ha:PE X a ta) (hb:PE X b tb) (hs:zRb b):PE X (.Subscript a b pos) (tOp r ta tb):=by
 intro pins s σ H Q I h
 exact Subscript_ (zTk ha hb I h fun v u s2 x y H2 I2 rx ry q=>hr a b pins s2 σ H2 x y v u Q I2 rx ry q (hs _ _))
inductive rIxL' (K:PySem.W.Frag) (x:V) (y:V) (H:Hp) (Q:VK):Prop
 | mk:∀ p xs i v,(x=.ref p)→(y=.int i)→(SqL K H p xs)→(atI xs i=some v)→(Q v H)→rIxL' K x y H Q
def zTu (K:PySem.W.Frag):R2:=fun x y H Q=>rIxL' K x y H Q
theorem zQv:IxR X (zTu X.K):=by
 intro value slice pins s σ H x y v u Q I rx ry h hs
 obtain ⟨p,xs,i,z,rfl,rfl,hq,he,q⟩:=h
 cases rx
 obtain ⟨t,rfl⟩:=ry
 obtain ⟨its,r,pl,hz⟩:=I.list hq
 obtain ⟨j,h1,h2,h3,h4,h5⟩:=atI_get he
 obtain ⟨w,ew,rw'⟩:=r.get h2
 have hl:=r.length
 have hn:=zM7
 have fin:EP X pins σ Q w s:=⟨z,H,I,rw',q⟩
 by_cases h0:0≤i
 ·have hj:i.toNat=j:=by
   rw [seqIndex_of h0 h5] at h1
   exact Option.some.inj h1
  exact item_listR pl.isList h0 (by omega) (by rw [hj];simpa using ew) fin hs
 ·have hj:(i + (its.toArray.size:Int)).toNat=j:=by
   rw [seqIndex_neg (by omega) h4] at h1
   rw [List.size_toArray,← hl]
   exact Option.some.inj h1
  exact subscriptTail_builtinR (x:=w) pl.isList.typeIs slot_list_getitem.lookup
   (wpAny_getItem_list_neg (Q:=fun r s'=>r=w∧EP X pins σ Q r s') pl.isList (by omega) (by rw [List.size_toArray] <;> omega) (by omega) (by rw [hj];simpa using ew) ⟨rfl,fin⟩) hs
theorem zLl (its:List Value) (n j:Nat) (u:Value):Obj.mapSeq (·.setIfInBounds j u) { cls:=.type "list", data:=.seq its.toArray n } = { cls:=.type "list", data:=.seq (its.set j u).toArray n }:=by
 simp [Obj.mapSeq]
theorem Inv.lst {pins:List (Addr × Obj)}{σ:St}{H:Hp}{s:Shared}{p:Addr}{xs:List V}(I:Inv X pins σ H s) (h:H p=some (.lst xs)) :
  ∃ (its:List Value) (n:Nat),Vals xs its∧s.heap.get? p=some { cls:=.type "list", data:=.seq its.toArray n }∧xs.length≤sizeLine:=by
 obtain ⟨z,its,n,r,e⟩:=I.hok p _ h
 exact ⟨its,n,r,e,z⟩
theorem Inv.lstUpd {pins:List (Addr × Obj)}{σ:St}{H:Hp}{s:Shared}{p:Addr}{xs ys:List V}{its its':List Value}{n n':Nat}{f:Obj→Obj}(I:Inv X pins σ H s) (h:H p=some (.lst xs))
  (ho:s.heap.get? p=some { cls:=.type "list", data:=.seq its.toArray n }) (hf:f { cls:=.type "list", data:=.seq its.toArray n } = { cls:=.type "list", data:=.seq its'.toArray n' }) (r:Vals ys its') (hz:ys.length≤sizeLine) (t:Nat) :
  Inv X pins σ (upd H p (.lst ys)) { s with heap:=s.heap.update p f,toks:=t }:=by
 have e:(s.heap.update p f).get? p=some { cls:=.type "list", data:=.seq its'.toArray n' }:=by
  rw [Heap.get?_update_self f ho (by rw [hf] <;> rfl),hf]
 refine I.write (x:=p) (e:=p) (by rw [h];trivial) (.inl rfl) (fun b u hb q=>(Heap.get?_update_other _ _ (Ne.symm hb)).trans q) ⟨_,e⟩ ?_
 exact ⟨hz,its',n',r,e⟩
inductive rSetL' (o:V) (i:V) (v:V) (H:Hp) (Q:(Hp→Prop)):Prop
 | mk:∀ p xs k j,(o=.ref p)→(i=.int k)→(H p=some (.lst xs))→(ixN xs.length k=some j)→(Q (upd H p (.lst (xs.set j v))))→rSetL' o i v H Q
def zRr:V→V→V→Hp→(Hp→Prop)→Prop:=fun o i v H Q=>rSetL' o i v H Q
theorem zOi:zTz X zRr:=by
 intro pins s σ H o i v ov iv u Q I ro ri rv h
 obtain ⟨p,xs,k,j,rfl,rfl,hp,hj,q⟩:=h
 cases ro
 obtain ⟨t,rfl⟩:=ri
 obtain ⟨its,n,r,ho,hz⟩:=I.lst hp
 obtain ⟨h1,h2,h3,h4⟩:=zNd hj
 have hl:=r.length
 have hn:=zM7
 have I':Inv X pins σ (upd H p (.lst (xs.set j v))) { s with heap:=s.heap.update p (Obj.mapSeq (·.setIfInBounds j u)) } :=
  I.lstUpd hp ho (zLl its n j u) (r.set rv j) (by rw [List.length_set];exact hz) s.toks
 by_cases h0:0≤k
 ·have hk:k.toNat=j:=by
   rw [seqIndex_of h0 h4] at h1
   exact Option.some.inj h1
  exact PySem.W.ki_setAt ho h0 (by omega) (by rw [List.size_toArray,← hl];exact h4) (by rw [hk];exact ⟨_,I',q⟩)
 ·have hk:(k + (its.toArray.size:Int)).toNat=j:=by
   rw [seqIndex_neg (by omega) h3] at h1
   rw [List.size_toArray,← hl]
   exact Option.some.inj h1
  exact PySem.W.ki_setBack ho (by omega) (by rw [List.size_toArray,← hl];exact h3) (by omega) (by rw [hk];exact ⟨_,I',q⟩)
theorem zH6 (lo hi:Option Int) (n:Nat):(sliceBounds lo hi none n).1=((HT.sIx n 0 lo:Nat):Int)∧(sliceBounds lo hi none n).2.1=((HT.sIx n n hi:Nat):Int)∧(sliceBounds lo hi none n).2.2=1:=by
 refine ⟨?_,?_,rfl⟩
 ·cases lo with
  | none=>simp [sliceBounds,HT.sIx]
  | some i =>
   simp only [sliceBounds,HT.sIx,Option.getD_none,show (1:Int) > 0 by decide,if_true]
   by_cases h:i < 0
   ·simp only [h,if_true] <;> omega
   ·simp only [h,if_false] <;> omega
 ·cases hi with
  | none=>simp [sliceBounds,HT.sIx]
  | some i =>
   simp only [sliceBounds,HT.sIx,Option.getD_none,show (1:Int) > 0 by decide,if_true]
   by_cases h:i < 0
   ·simp only [h,if_true] <;> omega
   ·simp only [h,if_false] <;> omega
theorem zHc (its:List Value) (lo hi:Option Int):slicePick its.toArray lo hi none=((its.drop (HT.sIx its.length 0 lo)).take (HT.sIx its.length its.length hi - HT.sIx its.length 0 lo)).toArray:=by
 obtain ⟨h1,h2,h3⟩:=zH6 lo hi its.toArray.size
 unfold slicePick
 rw [h1,h2,h3]
 simp only [sliceRange_one,pick_run,List.size_toArray] <;> rfl
inductive rSlL' (K:PySem.W.Frag) (x:V) (lo:Option Int) (hi:Option Int) (H:Hp) (Q:VK):Prop
 | mk:∀ a xs,(x=.ref a)→(SqL K H a xs)→(∀ p,H p=none→Q (.ref p) (upd H p (.lst (zHx xs lo hi))))→rSlL' K x lo hi H Q
def zTt (K:PySem.W.Frag):V→Option Int→Option Int→Hp→VK→Prop:=fun x lo hi H Q=>rSlL' K x lo hi H Q
theorem zP1:SlR X (zTt X.K):=by
 intro pins s σ H x v vl vu lo hi sl Q I rx hs pl pu h
 obtain ⟨a,xs,rfl,hx,q⟩:=h
 cases rx
 obtain ⟨its,r,ht,hz⟩:=I.list hx
 have hlen:=r.length
 refine ⟨"list", _,slot_list_getitem.lookup,ht.isList.typeIs,?_⟩
 refine wpAny_getItem_list_slice ht.isList hs pl pu .none (by simp) ?_ (by rw [List.size_toArray] <;> omega)
 rw [zHc,← hlen]
 refine ⟨.ref s.heap.objs.size,_,I.laid (t':=s.toks) (o:=.lst (zHx xs lo hi)) (fun b ob q=>Heap.get?_push_of_some _ q) (Nat.le_refl _) ?_,rfl,q _ (I.hok.fresh (Nat.le_refl _))⟩
 exact ⟨Nat.le_trans (zJ2 xs lo hi) hz,_,0,(r.drop (HT.sIx xs.length 0 lo)).take (HT.sIx xs.length xs.length hi - HT.sIx xs.length 0 lo),Heap.get?_push_size _ rfl⟩
theorem zIy:zDj X (.builtin "len") (fun xs H Q=>∃ p ys,xs=[.ref p]∧(SqL X.K H p ys∨SqT X.K H p ys)∧Q (.int ys.length) H):=by
 intro pins s σ H xs us Q I r h
 obtain ⟨p,ys,rfl,hq,q⟩:=h
 obtain ⟨u,rfl,rx⟩:=zGz r
 cases rx
 have hn:=zM7
 rcases hq with hq | hq
 ·obtain ⟨its,r',pl,hz⟩:=I.list hq
  have hlen:=r'.length
  exact Calls.call_len_list pl.isList (by simp only [List.size_toArray] <;> omega) ⟨.int ys.length,H,I.tok _,⟨s.toks + 1,by rw [List.size_toArray,hlen]⟩,q⟩
 ·obtain ⟨its,r',pl,hz⟩:=I.tuple hq
  have hlen:=r'.length
  exact len_tuple pl (by simp only [List.size_toArray] <;> omega) ⟨.int ys.length,H,I.tok _,⟨s.toks + 1,by rw [List.size_toArray,hlen]⟩,q⟩
theorem zIx:zDj X (.type "list") (fun xs H Q=>∃ p ys,xs=[.ref p]∧(SqL X.K H p ys∨SqT X.K H p ys)∧∀ l,H l=none→Q (.ref l) (upd H l (.lst ys))):=by
 intro pins s σ H xs us Q I r h
 obtain ⟨p,ys,rfl,hq,q⟩:=h
 obtain ⟨u,rfl,rx⟩:=zGz r
 cases rx
 have fin:∀ (its:List Value),Vals ys its→ys.length≤sizeLine→∀ (h':Heap) (c':Nat),(∀ b o',s.heap.get? b=some o'→h'.get? b=some o') →
   h'.get? s.heap.objs.size=some { cls:=.type "list", dict:=none,data:=.seq its.toArray c',slots:=#[] }→EP X pins σ Q (.ref s.heap.objs.size) { s with heap:=h' }:=fun its r' hz h' c' kp e =>
  ⟨.ref s.heap.objs.size,_,I.laid (t':=s.toks) kp (Nat.le_refl _) (show ObjOk X.prog X.w _ h' _ (.lst ys) from ⟨hz,its,c',r',e⟩),rfl,q _ (I.hok.fresh (Nat.le_refl _))⟩
 rcases hq with hq | hq
 ·obtain ⟨its,r',pl,hz⟩:=I.list hq
  have hlen:=r'.length
  obtain ⟨o,ho,hc,n,hd⟩:=pl.isList
  exact call_list_seq p (.inl rfl) ho hc hd (fun h' c' kp e=>fin its r' hz h' c' kp e) (by simp only [List.size_toArray] <;> omega)
 ·obtain ⟨its,r',pl,hz⟩:=I.tuple hq
  have hlen:=r'.length
  obtain ⟨o,ho,hc,n,hd⟩:=pl
  exact call_list_seq p (.inr rfl) ho hc hd (fun h' c' kp e=>fin its r' hz h' c' kp e) (by simp only [List.size_toArray] <;> omega)
def tyV (K:PySem.W.Frag) (T:String) (x:V) (H:Hp):Prop:=match x with
 | .str _=>T = "str"
 | .int _=>T = "int"
 | .ref p=>(T = "list" ∧ ∃ xs,SqL K H p xs)∨(T = "tuple" ∧ ∃ o,K.lookup p=some o∧o.cls=.type "tuple" ∧ o.dict=none) ∨
   (T = "dict" ∧ ((∃ kvs,H p=some (.dK kvs))∨∃ kvs,H p=some (.dT kvs)))∨(T = "set" ∧ ∃ S n,H p=some (.set S n))
 | _=>False
theorem zRe {pins:List (Addr × Obj)}{σ:St}{H:Hp}{s:Shared}{T:String}{x:V}{v:Value}(I:Inv X pins σ H s) (r:RelV x v) (ty:tyV X.K T x H) :
  s.TypeIs v T∧∀ a,v=.ref a→∃ ob,s.heap.get? a=some ob∧ob.dict=none:=by
 cases x with
 | str z =>
  obtain ⟨t,rfl⟩:=r
  cases (show T = "str" from ty)
  exact ⟨typeIs_str s z t,fun _ e=>nomatch e⟩
 | int i =>
  obtain ⟨t,rfl⟩:=r
  cases (show T = "int" from ty)
  exact ⟨typeIs_int s i t,fun _ e=>nomatch e⟩
 | ref p =>
  cases r
  rcases ty with ⟨rfl,xs,hq⟩ | ⟨rfl,o,hk,hc,hd⟩ | ⟨rfl,hk⟩ | ⟨rfl,S,n,hk⟩
  ·obtain ⟨its,_,pl,_⟩:=I.list hq
   refine ⟨pl.isList.typeIs,fun a e=>?_⟩
   cases e
   obtain ⟨o,n,e,c,hd,_⟩:=pl
   exact ⟨o,e,hd⟩
  ·refine ⟨⟨o,I.kIn p o hk,hc⟩,fun a e=>?_⟩
   cases e
   exact ⟨o,I.kIn _ o hk,hd⟩
  ·have z:∃ o,s.heap.get? p=some o∧o.ExactDict:=by
    rcases hk with ⟨kvs,hk⟩ | ⟨kvs,hk⟩
    ·obtain ⟨_,_,_,_,o,_,_,e,ex,_⟩:=I.hok p _ hk
     exact ⟨o,e,ex⟩
    ·obtain ⟨_,_,_,_,o,_,_,e,ex,_⟩:=I.hok p _ hk
     exact ⟨o,e,ex⟩
   obtain ⟨o,e,ex⟩:=z
   refine ⟨⟨o,e,ex.1⟩,fun a e2=>?_⟩
   cases e2
   exact ⟨o,e,ex.2.1⟩
  ·obtain ⟨o,_,_,_,e,ex,_⟩:=I.hok p _ hk
   refine ⟨⟨o,e,ex.1⟩,fun a e2=>?_⟩
   cases e2
   exact ⟨o,e,ex.2.1⟩
 | _=>exact False.elim ty
def tBM (K:PySem.W.Frag) (T:String) (r:V→List V→Hp→VK→Prop) (to:TE) (t:TA):TE:=fun σ H Q=>to σ H fun x H1=>tyV K T x H1∧t σ H1 fun xs H2=>r x xs H2 Q
variable {o e:Expr}{es:List Expr}{to:TE}{t:TA}{name:Str}{apos cpos:Pos}{T id:String}{r:V→List V→Hp→VK→Prop}
theorem zS9 (pa:PlainAttrs T) (slot:Slot T name id) (hty:typeOf (.builtin id)=pure (.type "method_descriptor")) (hm:MtR X id r) (ho:PE X o to) (ha:PA X (e :: es) t)
  (hbase:attributeBase o name X.env (eval o X.env)=eval o X.env:=by rfl)
  (hfew:((backTo cpos (starEach (e :: es) X.env)).all (fun x=>!x.1) && (backToKw cpos (keywordEach [] X.env)).all (fun x=>x.1.isSome)
   && decide ((e :: es).length + ([] : List Keyword).length + (if ([] : List Keyword).isEmpty then 0 else 1) < 30))=true:=by rfl)
  (hline:(apos.endLine == cpos.line)=true:=by rfl) (hs:starEach (e :: es) X.env=(false,eval e X.env) :: starEach es X.env:=by rfl) (hplain:(backTo cpos (starEach es X.env)).any (·.1)=false:=by rfl) :
  PE X (.Call (.Attribute o name apos) (e :: es) [] cpos) (tBM X.K T r to t):=by
 intro pins s σ H Q I h
 refine wpAny_Call_method_late hbase hfew hline rfl (thn (ho pins s σ H _ I h) fun v s1 ⟨x,H1,I1,r1,ty,q1⟩=>?_)
 obtain ⟨h1,h2⟩:=zRe I1 r1 ty
 refine ⟨T,id,pa,slot,hty,h1,h2,?_⟩
 have hA:=ha cpos pins s1 σ H1 _ I1 q1
 rw [hs] at hA ⊢
 refine Calls.callWith_builtin (by show (false || (backTo cpos (starEach es X.env)).any (·.1))=false;rw [hplain] <;> rfl) (Calls.evalArgs_plain ?_)
 exact thn hA fun us s2 ⟨vs,H2,I2,r2,q2⟩=>hm pins s2 σ H2 x vs v us Q I2 r1 r2 q2
end
end L2
namespace L2
open PySem PySem.Spec PyProof.Rows
def MtM (X:Cx) (id:String) (r:V→List V→Hp→VK→Prop):Prop :=
 ∀ (pins:List (Addr × Obj)) (s:Shared) (σ:St) (H:Hp) (x:V) (xs:List V) (v:Value) (us:List Value) (Q:VK),Inv X pins σ H s→RelV x v→Vals xs us→r x xs H Q →
  wpAny (model X.prog X.w) X.A (call (.builtin id) (v :: us)) (EP X pins σ Q) X.xe s
theorem Vals.one:∀ {x:V}{us:List Value},Vals [x] us→∃ u,us=[u]∧RelV x u
 | _,_,.cons r .nil=>⟨_,rfl,r⟩
theorem Vals.rep {xs:List V}{us:List Value}(h:Vals xs us):∀ k:Nat,Vals (List.replicate k xs).flatten (List.replicate k us).flatten
 | 0=>.nil
 | k + 1=>by
  rw [List.replicate_succ,List.replicate_succ,List.flatten_cons,List.flatten_cons]
  exact Vals.append h (Vals.rep h k)
theorem zIu (its:List Value):∀ (k:Nat) (acc:List Value),
  List.foldl (fun x1 x2=>x1 ++ x2) acc.toArray (List.replicate k its.toArray)=(acc ++ (List.replicate k its).flatten).toArray
 | 0,acc=>by simp
 | k + 1,acc=>by
  have e:acc.toArray ++ its.toArray=(acc ++ its).toArray:=by simp
  have e2:(acc ++ its) ++ (List.replicate k its).flatten=acc ++ (List.replicate (k + 1) its).flatten:=by
   rw [List.replicate_succ,List.flatten_cons,List.append_assoc]
  rw [← e2,← zIu its k (acc ++ its),← e,List.replicate_succ,List.foldl_cons]
section
variable {X:Cx}{pins:List (Addr × Obj)}{σ:St}{H:Hp}{s:Shared}{l b:Addr}{xs ys zs:List V}
theorem Inv.lset {its its':List Value}{n:Nat}{f:Array Value→Array Value}{t':Nat}(I:Inv X pins σ H s) (hH:H l=some (.lst xs))
  (e:s.heap.get? l=some { cls:=.type "list", data:=.seq its.toArray n }) (hf:f its.toArray=its'.toArray) (hv:Vals ys its') (hz:ys.length≤sizeLine) :
  Inv X pins σ (upd H l (.lst ys)) { s with heap:=s.heap.update l (Obj.mapSeq f),toks:=t' }:=by
 have q:=PySem.IsL.update e f
 rw [hf] at q
 refine I.write (x:=l) (e:=l) (by rw [hH];exact trivial) (.inl rfl) (fun b' u hb hu=>(Heap.get?_update_other s.heap (Obj.mapSeq f) (Ne.symm hb)).trans hu) ⟨_,q⟩ ?_
 exact ⟨hz,its',_,hv,q⟩
theorem Inv.lnew {its:List Value}{t':Nat}(I:Inv X pins σ H s) (hv:Vals ys its) (hz:ys.length≤sizeLine) :
  Inv X pins σ (upd H s.heap.objs.size (.lst ys)) { s with heap:=s.heap.push { cls:=.type "list", data:=.seq its.toArray },toks:=t' } :=
 I.laid (fun _ _ q=>Heap.get?_push_of_some _ q) (Nat.le_refl _) ⟨hz,its,0,hv,Heap.get?_push_size _ rfl⟩
theorem Inv.fresh (I:Inv X pins σ H s):H s.heap.objs.size=none:=I.hok.fresh (Nat.le_refl _)
theorem Inv.lstM (I:Inv X pins σ H s) (hH:H l=some (.lst xs)):xs.length≤sizeLine∧∃ (its:List Value) (n:Nat),Vals xs its∧xs.length=its.length∧s.heap.get? l=some { cls:=.type "list", data:=.seq its.toArray n }:=by
 obtain ⟨z,its,n,r,e⟩:=I.hok l _ hH
 exact ⟨z,its,n,r,r.length,e⟩
theorem zKq {n:Nat}(h:n≤sizeLine):Builtin.List.listTooLong n=false:=by
 unfold Builtin.List.listTooLong
 exact decide_eq_false (by omega)
end
section
variable {X:Cx}
inductive rAppend' (x:V) (vs:List V) (H:Hp) (Q:VK):Prop
 | mk:∀ l xs y,(x=.ref l)→(vs=[y])→(H l=some (.lst xs))→(xs.length < sizeLine)→(Q .non (upd H l (.lst (xs ++ [y]))))→rAppend' x vs H Q
def zP6:V→List V→Hp→VK→Prop:=fun x vs H Q=>rAppend' x vs H Q
theorem zD3:MtM X "list.append" zP6:=by
 intro pins s σ H x vs v us Q I rx rv h
 obtain ⟨l,xs,y,rfl,rfl,hH,hz,q⟩:=h
 cases rx
 obtain ⟨u,rfl,ru⟩:=rv.one
 obtain ⟨z,its,n,r,hl,e⟩:=I.lstM hH
 refine call_meets F.slot_list_append ⟨_,e,rfl⟩ F.entry_list_append (F.args_list_append_2 _ _) (PySem.list_append l its.toArray n u (by rw [List.size_toArray];omega)) ⟨e,?_⟩
 refine ⟨.non,_,I.lset (its':=its ++ [u]) hH e (by simp) (r.append (.cons ru .nil)) ?_,rfl,q⟩
 rw [List.length_append,List.length_singleton]
 omega
inductive rExtend' (x:V) (vs:List V) (H:Hp) (Q:VK):Prop
 | mk:∀ l b xs zs,(x=.ref l)→(vs=[.ref b])→(H l=some (.lst xs))→(H b=some (.lst zs))→(xs.length + zs.length≤sizeLine)→(Q .non (upd H l (.lst (xs ++ zs))))→rExtend' x vs H Q
def zP5:V→List V→Hp→VK→Prop:=fun x vs H Q=>rExtend' x vs H Q
theorem zIn:MtM X "list.extend" zP5:=by
 intro pins s σ H x vs v us Q I rx rv h
 obtain ⟨l,b,xs,zs,rfl,rfl,hH,hB,hz,q⟩:=h
 cases rx
 obtain ⟨u,rfl,ru⟩:=rv.one
 cases ru
 obtain ⟨z,its,n,r,hl,e⟩:=I.lstM hH
 obtain ⟨z2,its2,n2,r2,hl2,e2⟩:=I.lstM hB
 have hsz:its.toArray.size + its2.toArray.size≤sizeLine:=by rw [List.size_toArray,List.size_toArray];omega
 have hlong:¬ (!its.toArray.isEmpty && Builtin.List.listTooLong (its.toArray.size + its2.toArray.size))=true:=by
  rw [zKq hsz,Bool.and_false]
  exact Bool.false_ne_true
 refine call_meets F.slot_list_extend ⟨_,e,rfl⟩ F.entry_list_extend (F.args_list_extend_2 _ _)
  (AutoSeq1.list_extend_list_list_0 l its.toArray n b its2.toArray n2 hlong (by rw [List.size_toArray];omega) (by omega)) ⟨e,e2,?_⟩
 refine ⟨.non,_,I.lset (its':=its ++ its2) hH e (by simp) (r.append r2) ?_,rfl,q⟩
 rw [List.length_append]
 omega
inductive rCat' (x:V) (y:V) (H:Hp) (Q:VK):Prop
 | mk:∀ l b xs zs,(x=.ref l)→(y=.ref b)→(H l=some (.lst xs))→(H b=some (.lst zs))→(xs.length + zs.length≤sizeLine)→(∀ p,H p=none→Q (.ref p) (upd H p (.lst (xs ++ zs))))→rCat' x y H Q
def zT8:R2:=fun x y H Q=>rCat' x y H Q
theorem zCn:OpR X (binaryOp .Add) zT8:=by
 intro pins s σ H x y v u Q I rx ry h
 obtain ⟨l,b,xs,zs,rfl,rfl,hH,hB,hz,q⟩:=h
 cases rx
 cases ry
 obtain ⟨z,its,n,r,hl,e⟩:=I.lstM hH
 obtain ⟨z2,its2,n2,r2,hl2,e2⟩:=I.lstM hB
 refine PySem.P.add_list e e2 ?_ (by rw [List.size_toArray,List.size_toArray];omega)
 have ea:its.toArray ++ its2.toArray=(its ++ its2).toArray:=by simp
 rw [ea]
 exact ⟨.ref _,_,I.lnew (t':=s.toks) (r.append r2) (by rw [List.length_append];omega),rfl,q _ I.fresh⟩
inductive rRep' (x:V) (y:V) (H:Hp) (Q:VK):Prop
 | mk:∀ l k xs,(x=.ref l)→(y=.int k)→(H l=some (.lst xs))→(-(2 ^ 63)≤k)→(k < 2 ^ 63)→(xs.length * k.toNat≤sizeLine)→(∀ p,H p=none→Q (.ref p) (upd H p (.lst (List.replicate k.toNat xs).flatten)))→rRep' x y H Q
def zT7:R2:=fun x y H Q=>rRep' x y H Q
theorem zQo {α:Type}(xs:List α) (k:Nat):(List.replicate k xs).flatten.length=k * xs.length:=by
 induction k with
 | zero=>simp
 | succ k ih=>rw [List.replicate_succ,List.flatten_cons,List.length_append,ih,Nat.succ_mul,Nat.add_comm]
theorem zEt:OpR X (binaryOp .Mult) zT7:=by
 intro pins s σ H x y v u Q I rx ry h
 obtain ⟨l,k,xs,rfl,rfl,hH,h1,h2,hz,q⟩:=h
 cases rx
 obtain ⟨t,rfl⟩:=ry
 obtain ⟨z,its,n,r,hl,e⟩:=I.lstM hH
 have hlen:its.toArray.size * k.toNat≤sizeLine:=by rw [List.size_toArray,← hl];exact hz
 have hcap:¬ its.toArray.size * k.toNat > (2 ^ 63 - 1) / 8:=by
  have:(sizeLine:Nat)≤(2 ^ 63 - 1) / 8:=by decide
  omega
 have hfit:¬ (!Builtin.List.listFitsIndex k)=true:=by
  rw [fitsIndex_both h1 h2]
  exact Bool.false_ne_true
 have hlong:¬ Builtin.List.listTooLong (its.toArray.size * k.toNat)=true:=by
  rw [zKq hlen]
  exact Bool.false_ne_true
 have hnew:List.foldl (fun x1 x2=>x1 ++ x2) #[] (List.replicate (if its.toArray.isEmpty=true then 0 else k.toNat) its.toArray)=(List.replicate k.toNat its).flatten.toArray:=by
  have f0:∀ m:Nat,List.foldl (fun x1 x2=>x1 ++ x2) #[] (List.replicate m its.toArray)=(List.replicate m its).flatten.toArray:=fun m=>by
   have:=zIu its m []
   rw [List.nil_append] at this
   exact this
  rw [f0]
  cases its with
  | nil=>simp
  | cons a r'=>rw [if_neg (by simp)]
 refine wpAny_binaryOp_repeat_ref (T := "list") (U := "int") (by decide) ⟨_,e,rfl⟩ (fun s'=>typeIs_int s' k t) noFill_list_mul F.fills_int_mul F.slot_int_rmul repeat_list F.slot_int_index.lookup
  (call_meets F.slot_int_rmul (typeIs_int s k t) F.entry_int_rmul (F.args_int_rmul_2 _ _) (int___rmul___int_list k t l its.toArray n)
   ⟨e,rfl,⟨_,e,rfl⟩,call_meets F.slot_list_mul ⟨_,e,rfl⟩ F.entry_list_mul (F.args_list_mul_2 _ _) (AutoListH.list___mul___list_int_3 l its.toArray n k t hfit hcap hlong) ⟨e,?_⟩⟩)
 rw [hnew]
 exact ⟨.ref _,_,I.lnew (t':=s.toks) (r.rep k.toNat) (by rw [zQo,Nat.mul_comm];exact hz),rfl,q _ I.fresh⟩
end
section
variable {prog:Program}{w:World}{A:Around}{E:Value→Shared→Prop}{s:Shared}
end
section
variable {X:Cx}
end
end L2
namespace Att
open PySem PySem.W PySem.Calls PyProof.Rows
theorem zFr {P:Params}{h:Heap}:∀ (ns:List Int) (vs:List Value),WellAll P h vs (ns.map WData.int)→IntsAre vs ns:=by
 intro ns
 induction ns with
 | nil =>
  intro vs w
  rw [List.map_nil] at w
  cases w
  exact .nil
 | cons n ns ih =>
  intro vs w
  rw [List.map_cons] at w
  cases w with
  | cons a b =>
   cases a
   exact .cons _ _ (ih _ b)
theorem zMj {l:OpenLaw}{n:Nat}(hn:l.most=some n) {P:Params}{h:Heap}{args:List WData}{vals:List Value}
  (hpre:l.row.toRowW.claim.pre args=true) (hwl:WellAll P h vals args) :
  ∃ a vs ns,vals=[Value.ref a]∧args=[WData.list (ns.map WData.int)]∧h.get? a=some { cls:=.type "list", data:=.seq vs.toArray }∧IntsAre vs ns∧ns.length≤n:=by
 have hsh:WShape.hasAll [] args [.list .int]=true:=(pre_splitW hpre).1
 have hc:l.pre.holds [] { args:=args }=true:=(pre_splitW hpre).2
 obtain ⟨d,r,rfl,h1,h2⟩:=hasAllW_cons hsh
 obtain rfl:=hasAllW_nil h2
 obtain ⟨xs,rfl,h3⟩:=hasW_list h1
 obtain ⟨ns,rfl⟩:=items_int h3
 have hlen:ns.length≤n:=by
  unfold OpenLaw.pre at hc
  have h4:(WTm.not (.lt (.lit (.int (n:Int))) (.len (.arg 0)))).holds [] { args:=[.list (ns.map .int)] }=true:=by
   have h4:=(holds_andW hc).1
   rw [hn] at h4
   exact h4
  have h5:=condW_of h4 (w_not (w_lt w_lit (w_len_list (w_arg rfl))))
  rw [List.length_map] at h5
  refine Nat.le_of_not_lt fun q=>?_
  have q':(n:Int) < ((ns.length:Nat):Int):=by omega
  first
   | (rw [decide_eq_true q'] at h5;exact absurd h5 (by decide))
   | (simp at h5;omega)
 cases hwl with
 | cons w1 w2 =>
  cases w2
  cases w1 with
  | list ho hall=>exact ⟨_,_,ns,rfl,rfl,ho,zFr ns _ hall,hlen⟩
theorem zMr (l:OpenLaw) (args:List WData):l.row.toRowW.claim.post args (.bool true) args=true :=
 postW_of (r:=l.row.toRowW) (X:=(true == true))
  (show WShape.has [] (.bool true) .bool=true by first | rfl | decide | simp [WShape.has,WShape.arms,WShape.armsAll])
  (show (WTm.eq .res (.lit (.bool true))).value [] { args:=args,res:=some (.bool true),after:=args }=some (.bool (true == true)) from w_eq_bool (w_res rfl) w_lit) rfl
theorem attach_call {l:OpenLaw}{n:Nat}{q:Program}{loose:List Str}{XP:(Str→Option Value)→Heap→Prop}{YP:World→Heap→Prop}{d:DefRec}
  (hn:l.most=some n) (hdf:d.params.defaults=[])
  (call:∀ (w:World) (s₀ s₁:Shared) (mg mb:Str→Option Value) (fa:Addr) (o:Obj) (pm cd doc:Value) (a:Addr) (vs:List Value) (ns:List Int),
   Ground q loose [] XP w s₀ mg mb s₁.heap→YP w s₁.heap →
   s₁.heap.get? fa=some o→o.data=.func (docDef d.name d.params d.body d.scope pm cd doc)→s₁.heap.CodeRec cd d.name→mg d.name=some (.ref fa) →
   s₁.heap.get? a=some { cls:=.type "list", data:=.seq vs.toArray }→IntsAre vs ns→ns.length≤n→s₁.gens = #[] →
   codeAny (model l.prog w) callerA (.call (.ref fa) ⟨[.ref a],[]⟩) (fun r s'=>r=.ok (.ret (.bool true))∧OldK s₁.heap s'.heap∧s'.os=s₁.os∧AllBare s'.gens) s₁) :
  WalkO q loose XP YP l.row.toRowW d [] (fun f vs=>PySem.call f vs):=by
 intro w s₀ s₁ mg mb G Y fa o pm cd doc dV kV ho hd hcd hD hmg hg args vals as hpre hlay hrd hwl hlo
 obtain rfl:dV=.none:=Dflts.none hD hdf
 obtain rfl:kV=.none:=Dflts.noKw hD
 obtain ⟨a,vs,ns,rfl,rfl,hobj,hints,hlen⟩:=zMj hn hpre hwl
 refine enter_call (codeAny_mono (call w s₀ s₁ mg mb fa o pm cd doc a vs ns G Y ho (fd_plain hd) hcd hmg hobj hints hlen hg) fun r s' hq=>?_)
 obtain ⟨rfl,h2,h3,h4⟩:=hq
 exact ⟨.inl ⟨.bool true,.bool true,[],rfl,fun _=>rfl,.bool true,zMr l _,fun _=>⟨List.Pairwise.nil,fun _ hm=>(nomatch hm)⟩⟩,h2,h3,h4⟩
section
variable {prog:Program}{w:World}{A:Around}{E:Value→Shared→Prop}{s:Shared}{K:Frag}
end
end Att
namespace L2
open PySem PySem.Spec PyProof.Rows
theorem zH1:∀ {vs:List Value}{ns:List Int},IntsAre vs ns→Vals (ns.map V.int) vs
 | _,_,.nil=>.nil
 | _,_,.cons n t h=>.cons ⟨t,rfl⟩ (zH1 h)
def zTm (H:Hp):Prop:=∀ b,H b=none∨∃ o xs,H b=some (.frz o (.lst xs))
theorem zO0 {P:Program}{w:World}{K:PySem.W.Frag}{mg mb:Str→Option Value}{CX:CXT}{k:Nat}{fa a:Addr}{fd:FuncData}{x:Str}{sp:Sp}{s₁:Shared}{vs:List Value}{ns:List Int}
  (KX:K.In s₁.heap) (hns:s₁.heap.Ns mainGlobals mg) (hb:s₁.heap.Ns builtinsNs mb) (hbb:∀ x:Str,x ≠ "__name__" → mb x=bootBuiltins x) (hlim:s₁.heap.NoLimit) (hg:s₁.gens = #[])
  (ha:s₁.heap.get? a=some { cls:=.type "list", data:=.seq vs.toArray }) (hi:IntsAre vs ns) (hl:ns.length≤sizeLine) (hr:Room k callerA)
  (F:∀ base:Heap,K.In base→base.Ns mainGlobals mg→FnOk P w K mg base CX k fa fd [x] sp) (hbind:∀ (s:Shared) (u:Value),BindsTo s fd ⟨[u],[]⟩ [(x,u)])
  (hsp:∀ H:Hp,zTm H→SqL K H a (ns.map V.int)→sp [.ref a] H (fun v _=>v=.bl true) fun _ _ _=>False)
  (hCX:∀ H e s',CX [] H s₁ (fun _ _ _=>False) e s'→False) :
  codeAny (model P w) callerA (.call (.ref fa) ⟨[.ref a],[]⟩) (fun r s'=>r=.ok (.ret (.bool true))∧OldK s₁.heap s'.heap∧s'.os=s₁.os∧AllBare s'.gens) s₁:=by
 have rv:=zH1 hi
 have lenV:=hi.length
 have core:∀ H:Hp,zTm H→SqL K H a (ns.map V.int)→HOk P w H s₁.heap→(∀ b,H b≠none→b=a)→(H a≠none→K.lookup a=none) →
   codeAny (model P w) callerA (.call (.ref fa) ⟨[.ref a],[]⟩) (fun r s'=>r=.ok (.ret (.bool true))∧OldK s₁.heap s'.heap∧s'.os=s₁.os∧AllBare s'.gens) s₁:=by
  intro H hO hS hok hA hK
  have base_of:∀ {b:Addr}{o:Obj},s₁.heap.get? b=some o→H b=none→(zO3 s₁.heap H).get? b=some o:=fun e n=>zO2 e n
  have noA:∀ {b:Addr}{o:Obj}{es:Array DictEntry}{ep:Nat},s₁.heap.get? b=some o→o.data=.dict es ep→H b=none:=fun {b o es ep} e d=>by
   cases q:H b with
   | none=>rfl
   | some u =>
    have e':b=a:=hA b (by rw [q];simp)
    subst e'
    rw [ha] at e;cases e
    have d':Data.seq vs.toArray _=Data.dict es ep:=d
    cases d'
  have nsK:∀ {b:Addr}{m:Str→Option Value},s₁.heap.Ns b m→(zO3 s₁.heap H).Ns b m:=fun {b m} ⟨o,es,ep,e,d,r⟩=>⟨o,es,ep,base_of e (noA e d),d,r⟩
  have hKb:K.In (zO3 s₁.heap H):=fun b o e=>base_of (KX b o e) (by
   cases q:H b with
   | none=>rfl
   | some u =>
    have e':b=a:=hA b (by rw [q];simp)
    subst e'
    rw [hK (by rw [q];simp)] at e;cases e)
  have hM:Mod K mg (zO3 s₁.heap H):=⟨hKb,nsK hns,⟨mb,nsK hb,hbb⟩,let ⟨mc,h1,h2⟩:=hlim;⟨mc,nsK h1,h2⟩⟩
  have e0:Env0 P w K mg (zO3 s₁.heap H) callerA [] s₁ H:=⟨rfl,hM,fun b o e=>of_hidT e,Nat.le_of_eq (zNg _ _),trivial,fun b hb=>absurd (show b ∈ ([] : List Addr) from hb) (by simp),hok,.of_eq hg,.inl rfl⟩
  refine codeAny_mono ((F _ hKb (nsK hns)).run callerA [] s₁ H ⟨[.ref a],[]⟩ [.ref a] [.ref a] _ _ hr (.inr rfl) e0 (hbind s₁ (.ref a)) (.cons rfl .nil) (hsp H hO hS)) fun r s' h=>?_
  cases r with
  | error e=>exact (hCX H e s' h).elim
  | ok fl =>
   cases fl with
   | next=>exact False.elim h
   | brk=>exact False.elim h
   | cont=>exact False.elim h
   | ret u =>
    obtain ⟨v,H',os,bare,un,hok',r',q⟩:=h
    have q':v=.bl true:=q
    subst q'
    obtain rfl:u=Value.bool true:=r'
    refine ⟨rfl,OldK.of_keep fun b o e=>?_,os,bare⟩
    cases q:H b with
    | none=>exact un.keep b o e q (by intro z;exact absurd (show b ∈ ([] : List Addr) from z) (by simp)) (by simp)
    | some u =>
     rcases hO b with z | ⟨ob,xs,z⟩
     ·rw [q] at z;cases z
     ·have z2:=un.frzs b ob _ z
      obtain ⟨e1,_⟩:=hok b _ z
      obtain ⟨e2,_⟩:=hok' b _ z2
      rw [e] at e1;cases e1
      exact e2
 cases hk:K.lookup a with
 | some o =>
  have e:=KX a o hk
  rw [ha] at e
  cases e
  refine core (fun _=>none) (fun _=>.inl rfl) (.inr ⟨_,vs.toArray,_,hk,rfl,rfl,rfl,by rw [List.size_toArray,lenV];exact hl,by simpa using rv⟩) (fun b u z=>by have z':(none:Option HO)=some u:=z;cases z') (fun b z=>absurd rfl z) fun z=>absurd rfl z
 | none =>
  refine core (fun b=>if b=a then some (.frz { cls:=.type "list", data:=.seq vs.toArray } (.lst (ns.map V.int))) else none) (fun b=>?_) (.inl (.inr ⟨{ cls:=.type "list", data:=.seq vs.toArray },if_pos rfl⟩)) (fun b u z=>?_) (fun b z=>?_) fun _=>hk
  ·by_cases hb:b=a
   ·exact .inr ⟨_,_,if_pos hb⟩
   ·exact .inl (if_neg hb)
  ·by_cases hb:b=a
   ·have z':=(if_pos hb).symm.trans z
    cases z'
    subst hb
    exact ⟨ha,by rw [List.length_map];exact hl,vs,_,rv,ha⟩
   ·have z':=(if_neg hb).symm.trans z
    cases z'
  ·by_cases hb:b=a
   ·exact hb
   ·exact absurd (if_neg hb) z
end L2
namespace L2
open PySem PySem.Spec PyProof.Rows
theorem walk_of {l:PySem.W.OpenLaw}{n k:Nat}{q:Program}{loose:List Str}{XP:(Str→Option Value)→Heap→Prop}{YP:World→Heap→Prop}{d:DefRec}{K:Params→PySem.W.Frag}{CX:World→CXT}{sp:World→Sp}{x:Str}
  (hn:l.most=some n) (hn2:n≤sizeLine) (hdf:d.params.defaults=[]) (hr:Room k callerA)
  (hY:∀ (w:World) (h:Heap),YP w h→(K w.params).In h)
  (F:∀ (w:World) (mg:Str→Option Value) (fa:Addr) (h:Heap),(K w.params).In h→h.Ns mainGlobals mg→mg d.name=some (.ref fa) →
   ∃ fd:FuncData,(∀ (s:Shared) (u:Value),BindsTo s fd ⟨[u],[]⟩ [(x,u)]) ∧
    ∀ base:Heap,(K w.params).In base→base.Ns mainGlobals mg→FnOk l.prog w (K w.params) mg base (CX w) k fa fd [x] (sp w))
  (hsp:∀ (w:World) (H:Hp) (a:Addr) (ns:List Int),ns.length≤n→zTm H→SqL (K w.params) H a (ns.map V.int)→sp w [.ref a] H (fun v _=>v=.bl true) fun _ _ _=>False)
  (hCX:∀ (w:World) (H:Hp) (s:Shared) (e:Value) (s':Shared),CX w [] H s (fun _ _ _=>False) e s'→False) :
  PySem.W.WalkO q loose XP YP l.row.toRowW d [] (fun f vs=>PySem.call f vs):=by
 refine Att.attach_call hn hdf fun w s₀ s₁ mg mb fa o pm cd doc a vs ns G Y ho hd hcd hmg hobj hints hlen hg=>?_
 have KX:=hY w _ Y
 obtain ⟨fd,hb,hF⟩:=F w mg fa _ KX G.T.g hmg
 exact zO0 KX G.T.g G.T.b G.T.builtins G.T.nolimit hg hobj hints (Nat.le_trans hlen hn2) hr hF hb (fun H hO hS=>hsp w H a ns hlen hO hS) fun H e s'=>hCX w H s₁ e s'
end L2
namespace L2
open PySem PySem.Spec PyProof.Rows
def zBh (s:Stmt) (j:Nat):Stmt:=match s with
 | .ClassDef _ _ _ body _ _ _ _ _ _ _=>body.getD j (.Pass ⟨0,0,0,0⟩)
 | _=>.Pass ⟨0,0,0,0⟩
def zN (s:Stmt):Arguments:=match s with
 | .FunctionDef _ a _ _ _ _ _ _ _ _=>a
 | _=>{ posonlyargs:=[],args:=[],vararg:=none,kwonlyargs:=[],kw_defaults:=[],kwarg:=none,defaults:=[] }
def zL (s:Stmt):List Stmt:=match s with
 | .FunctionDef _ _ b _ _ _ _ _ _ _=>b
 | _=>[]
def zD (s:Stmt):Scope:=match s with
 | .FunctionDef _ _ _ _ _ _ sc _ _ _=>sc
 | _=>{ kind:=.function,names:=[],isGenerator:=false,isCoroutine:=false }
abbrev E0:XK:=fun _ _ _=>False
theorem zw {X:Cx}:zC9 CX0 X E0:=fun _ _ _ _ _ _ _ h=>h.elim
structure Fun (K:PySem.W.Frag) (x qual:Str) (st:Stmt) (f:Addr) (fd:FuncData):Prop where
 ex:∃ (oc:Value) (od:Option Addr) (kV doc pm:Value) (an:Option Addr) (cdv ct:Value) (osl:Array (Option Value)),
  fd=PySem.W.fnOf x qual (zN st) (zL st) (zD st) .none kV doc pm an cdv ct∧K.lookup f=some ⟨oc,od,.func fd,osl⟩∧PySem.W.codeIn K cdv qual=true
 kp:PySem.W.keepIn K (.ref f)=true
section
variable {P:Program}{w:World}{K:PySem.W.Frag}{mg:Str→Option Value}{base:Heap}
theorem Fun.ok {x qual:Str}{st:Stmt}{f:Addr}{fd:FuncData}{N ps:List Str}{k:Nat}{sp:Sp}(F:Fun K x qual st f fd) (S:FnScope N ps (zD st)) (len:∀ vs H Q E,sp vs H Q E→vs.length=ps.length)
  (hbody:∀ (cdv:Value) (A:Around) (outer:List Env) (s:Shared) (H:Hp) (vs:List V) (Q:VK) (E:XK),Room k (A.deeper (envOfC qual (zD st) s.heap.objs.size f cdv))→sp vs H Q E →
   ∃ t,PSs (zNy CX0 P w K mg base N qual (zD st) f cdv A outer s H E).nox (zL st) t∧t { nx:=fun _ H'=>Q .non H',rt:=Q } (zE7 N vs) H):FnOk P w K mg base CX0 (k + 1) f fd ps sp:=by
 obtain ⟨oc,od,kV,doc,pm,an,cdv,ct,osl,rfl,lk,hcd⟩:=F.ex
 refine zSh lk hcd S len fun A outer s H vs Q E hr _ hsp=>?_
 obtain ⟨t,h,q⟩:=hbody cdv A outer s H vs Q E hr hsp
 exact ⟨t,h.nox,q⟩
theorem Fun.binds {x qual:Str}{st:Stmt}{f:Addr}{fd:FuncData}{ps:List Str}(F:Fun K x qual st f fd)
  (h:∀ (kV doc pm:Value) (an:Option Addr) (cdv ct:Value) (us:List Value),us.length=ps.length→bindArgs (PySem.W.fnOf x qual (zN st) (zL st) (zD st) .none kV doc pm an cdv ct) ⟨us,[]⟩=pure (ps.zip us)):Binds K fd ps []:=by
 obtain ⟨oc,od,kV,doc,pm,an,cdv,ct,osl,rfl,lk,hcd⟩:=F.ex
 exact .all (h kV doc pm an cdv ct)
theorem zR {x qual:Str}{st:Stmt}{f:Addr}{oc:Value}{od an:Option Addr}{osl:Array (Option Value)}{kV doc pm cdv ct:Value}(l:K.lookup f=some ⟨oc,od,.func (PySem.W.fnOf x qual (zN st) (zL st) (zD st) .none kV doc pm an cdv ct),osl⟩)
  (c:PySem.W.codeIn K cdv qual=true) (k:PySem.W.keepIn K (.ref f)=true):Fun K x qual st f (PySem.W.fnOf x qual (zN st) (zL st) (zD st) .none kV doc pm an cdv ct):=⟨⟨oc,od,kV,doc,pm,an,cdv,ct,osl,rfl,l,c⟩,k⟩
end
theorem zHr {A:Around}{k:Nat}(hr:Room k A):A.units + 1 < cLine:=Nat.lt_of_le_of_lt (Nat.add_le_add_left (by decide:1≤64) _) hr.units
theorem small1000 {n:Nat}(h:n≤1000):n < sizeLine:=Nat.lt_of_le_of_lt h (by decide)
section
variable {X:Cx}
theorem pv (i:Nat) {x:Str}{pos:Pos}(hN:X.N[i]? = some x:=by rfl) (hv:Vis X.env.scope x:=by first|exact Or.inl rfl|exact Or.inr (Or.inl rfl)|exact Or.inr (Or.inr rfl)) (hd:(x == ("__debug__" : Str))=false:=by decide)
  (hcd:(x == ("__classdict__" : Str))=false:=by decide):PE X (.Name x pos) (zLw i):=zRy hN hv hd hcd
end
theorem iteF {A B:Prop}(h:B):if false=true then A else B:=by
 rw [if_neg Bool.false_ne_true]
 exact h
theorem iteT {A B:Prop}(h:A):if true=true then A else B:=by
 rw [if_pos rfl]
 exact h
theorem zSt {c A B:Prop} [Decidable c] (h1:c→A) (h2:¬ c→B):if c then A else B:=by
 by_cases h:c
 ·rw [if_pos h]
  exact h1 h
 ·rw [if_neg h]
  exact h2 h
def Same (H H':Hp):Prop:=∀ b o,H b=some o→H' b=some o
theorem Same.refl (H:Hp):Same H H:=fun _ _ h=>h
theorem Same.trans {H H1 H2:Hp}(a:Same H H1) (b:Same H1 H2):Same H H2:=fun c o h=>b c o (a c o h)
theorem Same.free {H H':Hp}(e:Same H H') {l:Addr}(h:H' l=Option.none):H l=Option.none:=by
 cases q:H l with
 | none=>rfl
 | some o =>
  rw [e l o q] at h
  cases h
theorem Same.seq {K:PySem.W.Frag}{H H':Hp}{a:Addr}{xs:List V}(e:Same H H') (h:SqL K H a xs):SqL K H' a xs:=by
 rcases h with (h | ⟨o,h⟩) | h
 ·exact .inl (.inl (e _ _ h))
 ·exact .inl (.inr ⟨o,e _ _ h⟩)
 ·exact .inr h
end L2
end
section
namespace L2
open PySem PySem.Spec PyProof.Rows
def PF (X:Cx) (ifs:List Expr) (t:TT):Prop :=
 ∀ (pins:List (Addr × Obj)) (s:Shared) (σ:St) (H:Hp) (Q:Bool→Hp→Prop),Inv X pins σ H s→t σ H Q →
  wpAny (model X.prog X.w) X.A (forIn ifs true fun c r=>if r=true then do let ok ← isTrue c X.env (eval c X.env);pure (ForInStep.yield ok) else pure (ForInStep.yield r)) (TP X pins σ Q) X.xe s
def zOc:TT:=fun _ H Q=>Q true H
theorem zGj {X:Cx}:PF X [] zOc:=fun pins s σ H Q I h=>wpAny_tests_nil ⟨H,I,h⟩
theorem zRx {X:Cx}{c:Expr}{t:TT}(hc:PT X c t):PF X [c] t:=fun pins s σ H Q I h=>wpAny_tests_one (hc pins s σ H Q I h)
section
variable {prog:Program}{w:World}{A:Around}{R:Result→Shared→Prop}{s:Shared}
theorem zJ3 {elt target iter:Expr}{ifs:List Expr}{scope:Scope}{pos:Pos}{it acc:Value}{env:Env}(I:Nat→Shared→Prop)
  (turn:∀ n s,I n s→wpAny (model prog w) A (pyNext it) (fun r s₁=>match r with
   | none=>R (.ok .next) s₁
   | some v=>wpAny (model prog w) A (letOwnedTupleGo target it v) (fun _ s₁'=>wpAny (model prog w) A (assign target env v) (fun _ s₂ =>
     wpAny (model prog w) A (forIn ifs true fun c r=>if r=true then do let ok ← isTrue c env (eval c env);pure (ForInStep.yield ok) else pure (ForInStep.yield r)) (fun ok s₃ =>
      if ok=true then wpAny (model prog w) A (eval elt env) (fun x s₄ =>
       wpAny (model prog w) A (call (.builtin "list.append") [acc,x]) (fun _ s₅=>∃ m,m < n∧I m s₅) (fun _ _=>False) s₄) (fun _ _=>False) s₃
      else ∃ m,m < n∧I m s₃) (fun _ _=>False) s₂) (fun _ _=>False) s₁') (fun _ _=>False) s₁) (fun _ _=>False) s)
  (n:Nat) (h:I n s):codeAny (model prog w) A (.compLoop (.ListComp elt [⟨target,iter,ifs,0⟩] scope pos) 0 it acc env) R s:=by
 refine codeAny_loop rfl I (fun n s hI=>?_) n h
 show wpAny _ A ((compTurn (.ListComp elt [⟨target,iter,ifs,0⟩] scope pos) 0 it acc env).onRaise (fun x=>do noteFrame x env;theTreesLotGoes x)) _ _ s
 refine wpAny_noted ?_
 rw [compTurn_list]
 refine wpAny_bind (wpAny_standAt (wpAny_bind (wpAny_mono (turn n s hI) (fun r s₁ h₁=>?_) fun _ _ f=>f.elim)))
 cases r with
 | none=>exact wpAny_pure h₁
 | some v =>
  refine wpAny_bind (wpAny_mono h₁ (fun _ s₁' h₁'=>wpAny_bind (wpAny_mono h₁' (fun _ s₂ h₂=>wpAny_bind (wpAny_mono h₂ (fun ok s₃ h₃=>?_) fun _ _ f=>f.elim)) fun _ _ f=>f.elim)) fun _ _ f=>f.elim)
  cases ok with
  | false=>exact wpAny_pure ⟨rfl,h₃⟩
  | true =>
   exact wpAny_bind (wpAny_bind (wpAny_mono h₃ (fun x s₄ h₄=>wpAny_bind (wpAny_mono h₄ (fun _ s₅ h₅=>wpAny_pure (wpAny_pure ⟨rfl,h₅⟩)) fun _ _ f=>f.elim)) fun _ _ f=>f.elim))
end
theorem zGh {env:Env}:∀ {names:List (Str × NameKind)}{y:Str}{k:NameKind},
  (names.map fun (n,k)=>if (k == NameKind.free && env.scope.kind == .function && env.kindOf n == some .cell) then (n,NameKind.cell) else (n,k)).lookup y=some k→(k=.cell∨k=.free)→∃ k0,(y,k0) ∈ names∧(k0=.cell∨k0=.free)
 | [],_,_,h,_=>by simp at h
 | (n,k0) :: r,y,k,h,hk=>by
  have ih:=@zGh env r y k
  rw [List.map_cons] at h
  by_cases hc:(k0 == NameKind.free && env.scope.kind == .function && env.kindOf n == some .cell)=true
  ·simp only [hc,if_true] at h
   cases hy:y == n with
   | true =>
    have e:y=n:=eq_of_beq hy
    subst e
    rw [Bool.and_eq_true,Bool.and_eq_true] at hc
    exact ⟨k0,List.mem_cons_self ..,.inr (eq_of_beq hc.1.1)⟩
   | false =>
    rw [List.lookup_cons,hy] at h
    obtain ⟨k1,h1,h2⟩:=ih h hk
    exact ⟨k1,List.mem_cons_of_mem _ h1,h2⟩
  ·simp only [hc] at h
   cases hy:y == n with
   | true =>
    have e:y=n:=eq_of_beq hy
    subst e
    simp only [List.lookup_cons,hy,Bool.false_eq_true,if_false] at h
    cases h
    exact ⟨k0,List.mem_cons_self ..,hk⟩
   | false =>
    simp only [List.lookup_cons,hy,Bool.false_eq_true,if_false] at h
    obtain ⟨k1,h1,h2⟩:=ih h hk
    exact ⟨k1,List.mem_cons_of_mem _ h1,h2⟩
theorem zEs {env:Env}:∀ {names:List (Str × NameKind)}{y:Str},names.lookup y=some .free →
  (names.map fun (n,k)=>if (k == NameKind.free && env.scope.kind == .function && env.kindOf n == some .cell) then (n,NameKind.cell) else (n,k)).lookup y=some .cell ∨
  (names.map fun (n,k)=>if (k == NameKind.free && env.scope.kind == .function && env.kindOf n == some .cell) then (n,NameKind.cell) else (n,k)).lookup y=some .free
 | [],_,h=>by simp at h
 | (n,k0) :: r,y,h=>by
  have ih:=@zEs env r y
  rw [List.map_cons]
  cases hy:y == n with
  | true =>
   simp only [List.lookup_cons,hy] at h
   cases h
   by_cases hc:(NameKind.free == NameKind.free && env.scope.kind == .function && env.kindOf n == some .cell)=true
   ·left;simp only [hc,if_true,List.lookup_cons,hy]
   ·right;simp only [hc,Bool.false_eq_true,if_false,List.lookup_cons,hy]
  | false =>
   simp only [List.lookup_cons,hy] at h
   by_cases hc:(k0 == NameKind.free && env.scope.kind == .function && env.kindOf n == some .cell)=true
   ·simp only [hc,if_true,List.lookup_cons,hy];exact ih h
   ·simp only [hc,Bool.false_eq_true,if_false,List.lookup_cons,hy];exact ih h
theorem mem_of_lookup {κ β:Type} [BEq κ] [LawfulBEq κ] : ∀ {l:List (κ × β)}{y:κ}{b:β},l.lookup y=some b→(y,b) ∈ l
 | [],_,_,h=>by simp at h
 | (n,k) :: r,y,b,h=>by
  cases hy:y == n with
  | true =>
   have e:y=n:=eq_of_beq hy
   subst e
   simp only [List.lookup_cons,hy] at h
   cases h
   exact List.mem_cons_self ..
  | false =>
   simp only [List.lookup_cons,hy] at h
   exact List.mem_cons_of_mem _ (mem_of_lookup h)
def blk (X:Cx) (sc:Scope) (cl:List (Str × Addr)) (fj:List (Str × Nat)) (x:Str) (s₃:Shared) (H₃:Hp) (ex:List Addr):Cx where
 prog:=X.prog
 w:=X.w
 K:=X.K
 mg:=X.mg
 base:=X.base
 A:=X.A
 N:=x :: fj.map (·.1)
 s₀:=s₃
 H₀:=H₃
 env:=compEnvC sc cl s₃.heap.objs.size X.env
 outer:=X.stack
 stack:=X.stack
 ex:=ex
 fn:=fun _=>false
 calm:=X.calm
 pn:=[]
 tr:=[]
 fx:=[]
 xe:=fun _ _=>False
def zAj (σ:St) (fj:List (Str × Nat)):St:=fj.map fun p=>(σ[p.2]?).join
structure LcOk (X:Cx) (sc:Scope) (cl:List (Str × Addr)) (fj:List (Str × Nat)) (x:Str):Prop where
 clos:closureFor sc X.env=pure cl
 cell:∀ y ∈ sc.names,y.2≠.cell
 kind:sc.kind=.function
 names:∀ y ∈ sc.names,y.2=.local→sc.names.lookup y.1=some .local
 hx:sc.names.lookup x=some .local
 sub:∀ p ∈ cl,X.env.cells.lookup p.1=some p.2
 has:∀ y ∈ sc.names,y.2=.free→(cl.lookup y.1).isSome=true
 fr:∀ p ∈ fj,X.N[p.2]? = some p.1∧sc.names.lookup p.1=some .free∧(X.env.scope.names.lookup p.1=some .cell∨X.env.scope.names.lookup p.1=some .free)
 nd:(x :: fj.map (·.1)).Nodup
section
variable {X:Cx}{sc:Scope}{cl:List (Str × Addr)}{fj:List (Str × Nat)}{x:Str}{pins:List (Addr × Obj)}{σ:St}{H:Hp}{s₃:Shared}{ex:List Addr}
theorem LcOk.sub' (O:LcOk X sc cl fj x) {n:Str}{c:Addr}(h:cl.lookup n=some c):X.env.cells.lookup n=some c:=O.sub (n,c) (mem_of_lookup h)
theorem zD4 {κ β:Type} [BEq κ] [LawfulBEq κ] : ∀ {l:List (κ × β)}{y:κ},y ∈ l.map (·.1)→(l.lookup y).isSome=true
 | [],_,h=>by cases h
 | (n,k) :: r,y,h=>by
  cases hy:y == n with
  | true=>simp only [List.lookup_cons,hy,Option.isSome_some]
  | false =>
   simp only [List.lookup_cons,hy]
   rcases List.mem_cons.mp h with e | h
   ·exact absurd (beq_iff_eq.mpr (show y=n from e)) (by rw [hy];exact Bool.false_ne_true)
   ·exact zD4 h
theorem LcOk.of (cn:List Str) (clos:closureFor sc X.env=pure cl) (cell:∀ y ∈ sc.names,y.2≠.cell) (kind:sc.kind=.function) (names:∀ y ∈ sc.names,y.2=.local→sc.names.lookup y.1=some .local) (hx:sc.names.lookup x=some .local)
  (sub:∀ p ∈ cl,X.env.cells.lookup p.1=some p.2) (hcn:cl.map (·.1)=cn) (has:∀ y ∈ sc.names,y.2=.free→y.1 ∈ cn)
  (fr:∀ p ∈ fj,X.N[p.2]? = some p.1∧sc.names.lookup p.1=some .free∧(X.env.scope.names.lookup p.1=some .cell∨X.env.scope.names.lookup p.1=some .free)) (nd:(x :: fj.map (·.1)).Nodup):LcOk X sc cl fj x :=
 ⟨clos,cell,kind,names,hx,sub,fun y hy hf=>zD4 (by rw [hcn];exact has y hy hf),fr,nd⟩
theorem zSl (O:LcOk X sc cl fj x) (I:Inv X pins σ H s₃) (hx:∀ b ∈ ex,zN8 X pins H b) (hb:∀ b ∈ ex,∃ o,s₃.heap.get? b=some o):(blk X sc cl fj x s₃ H ex).Ok where
 mod:=I.ok.mod
 kind:=O.kind
 glob:=I.ok.glob
 blt:=I.ok.blt
 above:=Nat.le_refl _
 inj:=fun a b c h1 h2=>I.ok.inj a b c (O.sub' h1) (O.sub' h2)
 has:=fun y h=>by
  have h':∃ k,((relabel sc X.env).names).lookup y=some k∧(k=.cell∨k=.free):=by
   rcases h with h | h
   ·exact ⟨_,h,.inl rfl⟩
   ·exact ⟨_,h,.inr rfl⟩
  obtain ⟨k,h1,h2⟩:=h'
  obtain ⟨k0,m,z⟩:=zGh h1 h2
  have z':k0=.free:=z.resolve_left (O.cell _ m)
  subst z'
  have q:=O.has _ m rfl
  cases e:cl.lookup y with
  | none=>rw [show cl.lookup (y,NameKind.free).1=cl.lookup y from rfl,e] at q;cases q
  | some c=>exact ⟨c,e⟩
 cab:=fun _ _ h=>by cases h
 hd:=by
  rcases I.hdE with z | ⟨e,c,z1,z2⟩
  ·exact .inl z
  ·exact .inr ⟨e,c,z1,.inl z2⟩
 frames:=I.ok.frames
 stk:=.inl rfl
 exf:=fun b h=>by
  obtain ⟨o,e⟩:=hb b h
  obtain ⟨_,_,_,_,h4,_⟩:=hx b h
  exact ⟨Nat.ne_of_lt (Heap.lt_size e),fun y c hc=>h4 y c (O.sub' hc)⟩
 bs:=fun b o e=>I.bs b o e
 bsz:=Nat.le_trans I.ok.bsz I.sz
 noex:=fun b o e h=>by
  obtain ⟨_,_,_,h3,_,_⟩:=hx b h
  rcases h3 with z | z
  ·exact I.ok.noex b o e z
  ·exact absurd (Nat.lt_of_lt_of_le (Heap.lt_size (I.ok.bs b o e).1) z) (Nat.lt_irrefl _)
 exfs:=fun b h z=>by
  obtain ⟨_,h1,h2,_,_,_⟩:=hx b h
  exact (List.mem_cons.mp (I.stkSub b z)).elim h1 h2
 funs:=I.stack
 frf:=I.stkFree
theorem zQ7 (O:LcOk X sc cl fj x) (I:Inv X pins σ H s₃) (hx:∀ b ∈ ex,zN8 X pins H b) (hb:∀ b ∈ ex,∃ o,s₃.heap.get? b=some o) {h₁:Heap}{m₀:Str→Option Value}{t:Nat}
  (hns:h₁.Ns s₃.heap.objs.size m₀) (hk:∀ b o,s₃.heap.get? b=some o→h₁.get? b=some o):Inv (blk X sc cl fj x s₃ H ex) [] (none :: zAj σ fj) H { s₃ with heap:=h₁,toks:=t } where
 ok:=zSl O I hx hb
 os:=rfl
 bare:=I.bare
 base:=Un.kept hk
 loc:=by
  refine ⟨m₀,hns,fun i y v e1 e2 _=>?_⟩
  cases i with
  | zero=>simp at e2
  | succ i =>
   have e1':(fj.map (·.1))[i]? = some y:=by
    have e:(x :: fj.map (·.1))[i + 1]? = some y:=e1
    rw [List.getElem?_cons_succ] at e
    exact e
   have e2':(zAj σ fj)[i]? = some (some v):=by simpa using e2
   rw [List.getElem?_map] at e1'
   cases hp:fj[i]? with
   | none=>rw [hp] at e1';cases e1'
   | some p =>
    rw [hp] at e1'
    have ey:p.1=y:=Option.some.inj e1'
    subst ey
    unfold zAj at e2'
    rw [List.getElem?_map,hp] at e2'
    have e3:(σ[p.2]?).join=some v:=Option.some.inj e2'
    have e4:σ[p.2]? = some (some v):=by
     cases q:σ[p.2]? with
     | none=>rw [q] at e3;cases e3
     | some w=>rw [q] at e3;cases w with
      | none=>cases e3
      | some w=>cases e3;rfl
    obtain ⟨f1,f2,f3⟩:=O.fr p (List.mem_of_getElem? hp)
    obtain ⟨m,hn,hl⟩:=I.loc
    obtain ⟨u,r,l⟩:=hl p.2 p.1 v f1 e4 (.inr f3)
    refine ⟨u,r,?_⟩
    rcases l with ⟨k,_⟩ | ⟨k,c,e,z⟩
    ·exfalso
     have k':X.env.scope.names.lookup p.1=some .local:=k
     rcases f3 with f3 | f3 <;> rw [f3] at k' <;> cases k'
    ·have q:=O.has _ (mem_of_lookup f2) rfl
     cases ec:cl.lookup p.1 with
     | none=>rw [show cl.lookup (p.1,NameKind.free).1=cl.lookup p.1 from rfl,ec] at q;cases q
     | some c' =>
      have e':=O.sub' ec
      rw [e] at e'
      cases e'
      exact .inr ⟨zEs f2,c,ec,z.keeps hk⟩
 cell:=fun y c e=>let ⟨v,z⟩:=I.cell y c (O.sub' e);⟨v,z.keeps hk⟩
 free:=I.hok.fresh (Nat.le_refl _)
 freeC:=fun y c e=>I.freeC y c (O.sub' e)
 pin:=fun p hp=>by cases hp
 hok:=I.hok.kept hk
 len:=by
  show (none :: zAj σ fj).length=(x :: fj.map (·.1)).length
  simp [zAj]
 tr:=fun p hp=>by cases hp
 fix:=fun p hp=>by cases hp
end
def tLc (wi:TI) (fj:List (Str × Nat)) (tc:TT) (te:TE):TE:=fun σ H Q=>wi σ H fun J H1=>∀ acc,H1 acc=none →
 ∃ W:Nat→Nat→List V→Hp→Prop,(∃ m,W 0 m [] (upd H1 acc (.lst [])))∧∀ i m ys H,W i m ys H →
  (J.stop i H∧Q (.ref acc) H)∨(J.go i H∧∀ x H',J.yld i H x H'→tc (some x :: zAj σ fj) H' fun b H2 =>
   if b=true then te (some x :: zAj σ fj) H2 fun v H3=>H3 acc=some (.lst ys)∧ys.length < sizeLine∧∃ m',m' < m∧W (i + 1) m' (ys ++ [v]) (upd H3 acc (.lst (ys ++ [v])))
   else ∃ m',m' < m∧W (i + 1) m' ys H2)
section
variable {X:Cx}{sc:Scope}{cl:List (Str × Addr)}{fj:List (Str × Nat)}{x:Str}{px pos:Pos}{elt iter:Expr}{ifs:List Expr}{wi:TI}{tc:TT}{te:TE}
theorem zQt (O:LcOk X sc cl fj x) (hc:X.calm=true) (hi:PI X (.Name x px) iter wi)
  (hf:∀ s₃ H₃ ex,PF (blk X sc cl fj x s₃ H₃ ex) ifs tc) (he:∀ s₃ H₃ ex,PE (blk X sc cl fj x s₃ H₃ ex) elt te)
  {pins:List (Addr × Obj)}{s:Shared}{σ:St}{H:Hp}{Q:VK} (I:Inv X pins σ H s) (h:tLc wi fj tc te σ H Q) {RR:Value→Addr→Result→Shared→Prop}
  (hRR:∀ a C s' H' m,Inv X pins σ H' s'→Q (.ref a) H'→s'.heap.Ns C m→H' C=none→C≠X.env.locals→X.s₀.heap.objs.size≤C →
   (∀ y c,X.env.cells.lookup y=some c→c≠C)→(∀ p ∈ X.pn ++ pins,p.1≠C)→RR (.ref a) C (.ok .next) s') :
  wpAny (model X.prog X.w) X.A (eval iter X.env) (fun xv s₁=>wpAny (model X.prog X.w) X.A (pyIter xv) (fun it s₂=>wpAny (model X.prog X.w) X.A (newList []) (fun acc s₃ =>
   wpAny (model X.prog X.w) X.A (newFunctionEnv sc X.env.globals cl [] X.env.qual none .none (some X.env)) (fun cenv s₄ =>
    codeAny (model X.prog X.w) X.A (.compStart (.ListComp elt [⟨.Name x px,iter,ifs,0⟩] sc pos) 0 it acc { cenv with scope:=relabel sc X.env }) (RR acc cenv.locals) s₄) X.xe s₃) X.xe s₂) X.xe s₁) X.xe s:=by
 refine thn (hi pins s σ H _ I h) fun v s1 h1=>thn h1 fun itv s2 h2=>?_
 obtain ⟨it,fp,tn,J,H2,e,I2,T,st2,f2,hW⟩:=h2
 subst e
 have hacc:H2 s2.heap.objs.size=none:=I2.hok.fresh (Nat.le_refl _)
 obtain ⟨W,⟨m0,w0⟩,turn⟩:=hW _ hacc
 have I3:Inv X pins σ (upd H2 s2.heap.objs.size (.lst [])) { s2 with heap:=s2.heap.push { cls:=.type "list", data:=.seq ([] : List Value).toArray } }:=I2.lnew (t':=s2.toks) (ys:=[]) (its:=[]) .nil (Nat.zero_le _)
 have old3:∀ b o,s2.heap.get? b=some o→(s2.heap.push { cls:=.type "list", data:=.seq ([] : List Value).toArray }).get? b=some o:=fun b o q=>Heap.get?_push_of_some _ q
 have st3:=T.keep _ _ _ st2 fun b _ o q=>old3 b o q
 have ob3:=T.obj _ _ st3
 have ob2:=T.obj _ _ st2
 have f3:∀ b ∈ fp,zN8 X pins (upd H2 s2.heap.objs.size (.lst [])) b:=fun b hb=>by
  obtain ⟨o,q,_⟩:=ob2 b hb
  obtain ⟨g0,g⟩:=f2 b hb
  exact ⟨by rw [upd_ne (Nat.ne_of_lt (Heap.lt_size q))];exact g0,g⟩
 refine wpAny_newObj_type ?_
 generalize hS3:({ s2 with heap:=s2.heap.push { cls:=.type "list", data:=.seq ([] : List Value).toArray } }:Shared)=s3 at I3 ⊢
 have st3':tn 0 s3.heap:=by rw [← hS3];exact st3
 have ob3':∀ b ∈ fp,∃ o,s3.heap.get? b=some o∧∀ v,o.data≠.cell v:=by rw [← hS3];exact ob3
 generalize hH3:upd H2 s2.heap.objs.size (.lst [])=H3 at I3 w0 f3
 generalize hac:s2.heap.objs.size=ac at turn ⊢
 clear hS3 st3 ob3 old3
 refine wpAny_newFunctionEnv O.cell (by intro y hy;cases hy) (fun h₁ hns₁ hsb₁=>?_) O.kind
 have hk1:∀ b o,s3.heap.get? b=some o→h₁.get? b=some o:=fun b o q=>(hsb₁.2 b (Nat.ne_of_lt (Heap.lt_size q))).trans (Heap.get?_push_of_some _ q)
 have B:=zQ7 (t:=s3.toks + ([] : List (Str × Value)).length) O I3 f3 (fun b hb=>let ⟨o,q,_⟩:=ob3' b hb;⟨o,q⟩) hns₁ hk1
 generalize hX:blk X sc cl fj x s3 H3 fp=X' at B
 have hPF:=hf s3 H3 fp
 have hPE:=he s3 H3 fp
 rw [hX] at hPF hPE
 have eA:X'.A=X.A:=by rw [← hX];rfl
 have eP:X'.prog=X.prog:=by rw [← hX];rfl
 have eW:X'.w=X.w:=by rw [← hX];rfl
 have eK:X'.K=X.K:=by rw [← hX];rfl
 have eC:X'.calm=true:=by rw [← hX];exact hc
 have eE:X'.env=compEnvC sc cl s3.heap.objs.size X.env:=by rw [← hX];rfl
 have eX:X'.xe=fun _ _=>False:=by rw [← hX];rfl
 have eex:X'.ex=fp:=by rw [← hX];rfl
 have epn:X'.pn=[]:=by rw [← hX];rfl
 have eO:X'.outer=X.stack:=by rw [← hX];rfl
 have eS:X'.s₀=s3:=by rw [← hX];rfl
 have eH:X'.H₀=H3:=by rw [← hX];rfl
 have eN:X'.N=x :: fj.map (·.1):=by rw [← hX];rfl
 have eF:X'.fx=[]:=by rw [← hX];rfl
 have stat:∀ {H':Hp},(∀ b ∈ fp,H' b=none)→∀ b ∈ fp,zN8 X' [] H' b:=fun {H'} hn b hb=>by
  obtain ⟨o,q,_⟩:=ob3' b hb
  obtain ⟨_,g1,g2,g3,g4,g5⟩:=f3 b hb
  refine ⟨hn b hb,?_,?_,.inl (by rw [eex];exact hb),?_,?_⟩
  ·rw [eE];exact Nat.ne_of_lt (Heap.lt_size q)
  ·show b ∉ frs X'.outer
   rw [eO]
   exact fun z=>(List.mem_cons.mp (I3.stkSub b z)).elim g1 g2
  ·rw [eE];exact fun y c hc'=>g4 y c (O.sub' hc')
  ·rw [epn];intro p hp;cases hp
 have loop:codeAny (model X.prog X.w) X.A (.compLoop (.ListComp elt [⟨.Name x px,iter,ifs,0⟩] sc pos) 0 (.ref it) (.ref ac) (compEnvC sc cl s3.heap.objs.size X.env)) (RR (.ref ac) s3.heap.objs.size)
   { s3 with heap:=h₁,toks:=s3.toks + ([] : List (Str × Value)).length }:=by
  refine zJ3 (fun n s'=>∃ i o ys H',Inv X' [] (o :: zAj σ fj) H' s'∧tn i s'.heap∧(∀ b ∈ fp,H' b=none)∧W i n ys H') ?_ m0
   ⟨0,none,[],H3,B,T.keep _ _ _ st3' fun b _ o q=>hk1 b o q,fun b hb=>(f3 b hb).1,w0⟩
  rintro n s4 ⟨i,o4,ys,H4,J4,st4,fr4,w4⟩
  rw [← eE,← eP,← eW,← eA]
  rcases turn i n ys H4 w4 with ⟨stop,q⟩ | ⟨go,step⟩
  ·have T':Turn X'.prog X'.w X'.K (.Name x px) J fp it tn:=by rw [eP,eW,eK];exact T
   refine thn (T'.done X' rfl rfl rfl eC i [] s4 _ H4 _ J4 (stat fr4) st4 stop) fun r s5 ⟨hr,J5⟩=>?_
   subst hr
   have hb5:=J5.base
   rw [eS,eH,eex,show X'.fs=frs X.stack by show frs X'.outer=_;rw [eO]] at hb5
   have ho5:=J5.os
   rw [eS] at ho5
   have hk5:=J5.hok
   rw [eP,eW] at hk5
   have I5:Inv X pins σ H4 s5:=I3.call' (ch:=fp) ho5 hb5 hk5 J5.bare fun b hb=>by
    obtain ⟨_,g1,g2,g3,g4,g5⟩:=f3 b hb
    exact ⟨g3,g1,g4,g5⟩
   obtain ⟨m5,n5,_⟩:=J5.loc
   have fr5:=J5.free
   rw [eE] at n5 fr5
   refine hRR ac s3.heap.objs.size s5 H4 m5 I5 q n5 fr5 (Ne.symm (Nat.ne_of_lt I3.lt)) I3.sz (fun y c hc'=>?_) fun p hp=>?_
   ·obtain ⟨_,oc,q',_⟩:=I3.cell y c hc'
    exact Nat.ne_of_lt (Heap.lt_size q')
   ·exact Nat.ne_of_lt (Heap.lt_size (I3.pin p hp).1)
  ·have T':Turn X'.prog X'.w X'.K (.Name x px) J fp it tn:=by rw [eP,eW,eK];exact T
   refine thn (T'.item X' rfl rfl rfl eC i [] s4 _ H4 _ J4 (stat fr4) st4 go) fun r s5 ⟨u,hr,h5⟩=>?_
   subst hr
   refine thn h5 fun _ s6 ⟨xv,H6,J6,r6,y6,st6,fr6⟩=>?_
   have J6':=J6.pinned (stat fr6) (T.obj _ _ st6)
   have lx:X'.env.scope.names.lookup x=some .local:=by rw [eE];exact lookup_relabel_local O.hx
   have pg:PG X' (.Name x px) (zLr 0):=zx (by rw [eN];exact O.nd) (by rw [eN];rfl) (.inl lx) (.inr lx) (by rw [eF];intro p hp;cases hp)
   have q6:=step xv H6 y6
   refine wpAny_mono (pg _ s6 _ H6 xv u (fun σ' H'=>σ'=some xv :: zAj σ fj∧H'=H6) J6' r6 ⟨rfl,rfl⟩) (fun _ s7 ⟨σ7,H7,J7,e7,e7'⟩=>?_) (by rw [eX];exact fun _ _ f=>f)
   subst e7 e7'
   refine wpAny_mono (hPF _ s7 _ H7 _ J7 q6) (fun b s8 ⟨H8,J8,q8⟩=>?_) (by rw [eX];exact fun _ _ f=>f)
   have back:∀ {H9:Hp}{s9:Shared}{o9:Option V},Inv X' ([] ++ zH9 fp s6.heap) (o9 :: zAj σ fj) H9 s9→Inv X' [] (o9 :: zAj σ fj) H9 s9∧tn (i + 1) s9.heap∧∀ b ∈ fp,H9 b=none:=fun {H9 s9 o9} J9=>by
    refine ⟨J9.unpinned,T.keep _ _ _ st6 fun b hb o q=>(J9.pin (b,o) (List.mem_append_right _ (List.mem_append_right _ (zDg hb q)))).1,fun b hb=>?_⟩
    obtain ⟨o,q,d⟩:=T.obj _ _ st6 b hb
    exact (J9.pin (b,o) (List.mem_append_right _ (List.mem_append_right _ (zDg hb q)))).2.1
   cases b with
   | false =>
    obtain ⟨m',hm,w8⟩ : ∃ m',m' < n∧W (i + 1) m' ys H8:=q8
    obtain ⟨b1,b2,b3⟩:=back J8
    exact ⟨m',hm,i + 1,some xv,ys,H8,b1,b2,b3,w8⟩
   | true =>
    refine wpAny_mono (hPE _ s8 _ H8 _ J8 q8) (fun uv s9 ⟨v9,H9,J9,r9,ha9,hl9,m',hm,w9⟩=>?_) (by rw [eX];exact fun _ _ f=>f)
    refine wpAny_mono (zD3 (X:=X') _ s9 _ H9 (.ref ac) [v9] (.ref ac) [uv] (fun _ H'=>H'=upd H9 ac (.lst (ys ++ [v9]))) J9 rfl (.cons r9 .nil) ⟨ac,ys,v9,rfl,rfl,ha9,hl9,rfl⟩)
     (fun _ s10 ⟨_,H10,J10,_,e10⟩=>?_) (by rw [eX];exact fun _ _ f=>f)
    subst e10
    obtain ⟨b1,b2,b3⟩:=back J10
    exact ⟨m',hm,i + 1,some xv,ys ++ [v9],_,b1,b2,b3,w9⟩
 exact codeAny_compStart_list loop (T.self _ 0 _ _ _ (T.keep _ _ _ st3' fun b _ o q=>hk1 b o q) loop)
theorem zJk (O:LcOk X sc cl fj x) (hc:X.calm=true) (hi:PI X (.Name x px) iter wi)
  (hf:∀ s₃ H₃ ex,PF (blk X sc cl fj x s₃ H₃ ex) ifs tc) (he:∀ s₃ H₃ ex,PE (blk X sc cl fj x s₃ H₃ ex) elt te)
  (hs:∀ x,foldedSetIterable iter X.env x=pure x:=by intro _;rfl):PE X (.ListComp elt [⟨.Name x px,iter,ifs,0⟩] sc pos) (tLc wi fj tc te):=by
 intro pins s σ H Q I h
 rw [eval_ListComp]
 refine wpAny_comprehension_free (use:=none) rfl hs O.clos O.kind O.names (zQt O hc hi hf he I h (RR:=fun acc C=>compPost (model X.prog X.w) X.A X.xe none (EP X pins σ Q) acc C) ?_)
 intro a C s' H' m I' q hn hC hL hz h2 h3
 exact ⟨m,hn,fun h' hs'=>⟨.ref a,H',I'.turned (t':=s'.toks) (fun b o hb e=>(hs'.2 b hb).trans e) hC hL (.inr hz) h2 h3,rfl,q⟩⟩
end
theorem zKw {fj:List (Str × Nat)}{te:TE}{σ:St}{H1:Hp}{Q:Addr→Hp→Prop}{lo:Int}{n:Nat}(hn:n≤1000)
  (Pv:Addr→Nat→List V→Hp→Prop) (h0:∀ acc,H1 acc=none→Pv acc 0 [] (upd H1 acc (.lst [])))
  (hl:∀ acc i ys H,i≤n→Pv acc i ys H→ys.length=i)
  (hs:∀ acc i ys H (Qf:VK),i < n→Pv acc i ys H→(∀ v H3,H3 acc=some (.lst ys)→Pv acc (i + 1) (ys ++ [v]) (upd H3 acc (.lst (ys ++ [v])))→Qf v H3)→te (some (.int (lo + i)) :: zAj σ fj) H Qf)
  (hd:∀ acc ys H,H1 acc=none→Pv acc n ys H→Q acc H) :
  ∀ acc,H1 acc=none→∃ W:Nat→Nat→List V→Hp→Prop,(∃ m,W 0 m [] (upd H1 acc (.lst [])))∧∀ i m ys H,W i m ys H →
   ((Itr lo n).stop i H∧Q acc H)∨((Itr lo n).go i H∧∀ x H',(Itr lo n).yld i H x H'→zOc (some x :: zAj σ fj) H' fun b H2 =>
    if b=true then te (some x :: zAj σ fj) H2 fun v H3=>H3 acc=some (.lst ys)∧ys.length < sizeLine∧∃ m',m' < m∧W (i + 1) m' (ys ++ [v]) (upd H3 acc (.lst (ys ++ [v])))
    else ∃ m',m' < m∧W (i + 1) m' ys H2):=by
 intro acc hacc
 refine ⟨fun i m ys H=>m=n - i∧i≤n∧Pv acc i ys H,⟨n,rfl,Nat.zero_le _,h0 acc hacc⟩,?_⟩
 rintro i m ys H ⟨rfl,hi,hp⟩
 by_cases e:i=n
 ·subst e;exact .inl ⟨Nat.le_refl _,hd acc ys H hacc hp⟩
 ·have hlt:i < n:=by omega
  refine .inr ⟨hlt,?_⟩
  rintro x H' ⟨rfl,rfl⟩
  refine (hs acc i ys _ (fun v H3=>H3 acc=some (.lst ys)∧ys.length < sizeLine∧∃ m',m' < n - i∧(m'=n - (i + 1)∧i + 1≤n∧Pv acc (i + 1) (ys ++ [v]) (upd H3 acc (.lst (ys ++ [v]))))) hlt hp fun v H3 q1 q2=>⟨q1,?_,n - (i + 1),by omega,rfl,by omega,q2⟩)
  have:=hl acc i ys _ hi hp
  exact small1000 (by omega)
theorem zM9 {K:PySem.W.Frag}{a:Addr}{xs:List V}{fj:List (Str × Nat)}{te:TE}{σ:St}{H1:Hp}{Q:Addr→Hp→Prop}(hn:xs.length≤1000)
  (Pv:Addr→Nat→List V→Hp→Prop) (h0:∀ acc,H1 acc=none→Pv acc 0 [] (upd H1 acc (.lst [])))
  (hl:∀ acc i ys H,i≤xs.length→Pv acc i ys H→ys.length=i∧SqL K H a xs)
  (hs:∀ acc i x ys H (Qf:VK),xs[i]? = some x→Pv acc i ys H→(∀ v H3,H3 acc=some (.lst ys)→Pv acc (i + 1) (ys ++ [v]) (upd H3 acc (.lst (ys ++ [v])))→Qf v H3)→te (some x :: zAj σ fj) H Qf)
  (hd:∀ acc ys H,H1 acc=none→Pv acc xs.length ys H→Q acc H) :
  ∀ acc,H1 acc=none→∃ W:Nat→Nat→List V→Hp→Prop,(∃ m,W 0 m [] (upd H1 acc (.lst [])))∧∀ i m ys H,W i m ys H →
   ((Itl K a).stop i H∧Q acc H)∨((Itl K a).go i H∧∀ x H',(Itl K a).yld i H x H'→zOc (some x :: zAj σ fj) H' fun b H2 =>
    if b=true then te (some x :: zAj σ fj) H2 fun v H3=>H3 acc=some (.lst ys)∧ys.length < sizeLine∧∃ m',m' < m∧W (i + 1) m' (ys ++ [v]) (upd H3 acc (.lst (ys ++ [v])))
    else ∃ m',m' < m∧W (i + 1) m' ys H2):=by
 intro acc hacc
 refine ⟨fun i m ys H=>m=xs.length - i∧i≤xs.length∧Pv acc i ys H,⟨_,rfl,Nat.zero_le _,h0 acc hacc⟩,?_⟩
 rintro i m ys H ⟨rfl,hi,hp⟩
 obtain ⟨l1,l2⟩:=hl acc i ys H hi hp
 by_cases e:i=xs.length
 ·subst e;exact .inl ⟨⟨xs,l2,Nat.le_refl _⟩,hd acc ys H hacc hp⟩
 ·have hlt:i < xs.length:=by omega
  refine .inr ⟨⟨xs,xs[i],l2,List.getElem?_eq_getElem hlt⟩,?_⟩
  rintro x H' ⟨rfl,hy⟩
  refine (hs acc i x ys _ (fun v H3=>H3 acc=some (.lst ys)∧ys.length < sizeLine∧∃ m',m' < xs.length - i∧(m'=xs.length - (i + 1)∧i + 1≤xs.length∧Pv acc (i + 1) (ys ++ [v]) (upd H3 acc (.lst (ys ++ [v]))))) (hy xs l2) hp fun v H3 q1 q2=>⟨q1,?_,xs.length - (i + 1),by omega,rfl,by omega,q2⟩)
  exact small1000 (by omega)
mutual
inductive DV (K:PySem.W.Frag) (H:Hp):V→PyData→Prop
 | non:DV K H .non .none
 | bl (b:Bool):DV K H (.bl b) (.bool b)
 | int (i:Int):DV K H (.int i) (.int i)
 | str (x:Str):DV K H (.str x) (.str x)
 | lst {a:Addr}{xs:List V}{ds:List PyData}:SqL K H a xs→DVs K H xs ds→DV K H (.ref a) (.list ds)
 | tup {a:Addr}{xs:List V}{ds:List PyData}:SqT K H a xs→DVs K H xs ds→DV K H (.ref a) (.tuple ds)
inductive DVs (K:PySem.W.Frag) (H:Hp):List V→List PyData→Prop
 | nil:DVs K H [] []
 | cons {x:V}{xs:List V}{d:PyData}{ds:List PyData}:DV K H x d→DVs K H xs ds→DVs K H (x :: xs) (d :: ds)
end
section
variable {X:Cx}{pins:List (Addr × Obj)}{σ:St}{H:Hp}{s:Shared}
mutual
theorem DV.reads (I:Inv X pins σ H s):∀ {v:V}{d:PyData}{u:Value},DV X.K H v d→RelV v u→∃ as,Reads s.heap u d as
 | _,_,_,.non,r=>by cases (show _=Value.none from r);exact ⟨_,.none⟩
 | _,_,_,.bl b,r=>by cases (show _=Value.bool b from r);exact ⟨_,.bool b⟩
 | _,_,_,.int i,r=>by obtain ⟨t,e⟩:=(show ∃ t,_=Value.int i t from r);subst e;exact ⟨_,.int i t⟩
 | _,_,_,.str x,r=>by obtain ⟨t,e⟩:=(show ∃ t,_=Value.str x t from r);subst e;exact ⟨_,.str x t⟩
 | _,_,_,.lst (a:=a) hq hd,r=>by
  cases (show _=Value.ref a from r)
  obtain ⟨its,rv,⟨o,n,e,c,_,dt⟩,_⟩:=I.list hq
  obtain ⟨as,q⟩:=DVs.reads I hd rv
  exact ⟨_,.list e c dt (by simpa using q)⟩
 | _,_,_,.tup (a:=a) hq hd,r=>by
  cases (show _=Value.ref a from r)
  obtain ⟨its,rv,p,_⟩:=I.tuple hq
  obtain ⟨o,e,c,n,dt⟩:=p
  obtain ⟨as,q⟩:=DVs.reads I hd rv
  exact ⟨_,.tuple e c dt (by simpa using q)⟩
theorem DVs.reads (I:Inv X pins σ H s):∀ {vs:List V}{ds:List PyData}{us:List Value},DVs X.K H vs ds→Vals vs us→∃ as,ReadsAll s.heap us ds as
 | _,_,_,.nil,r=>by cases r;exact ⟨_,.nil⟩
 | _,_,_,.cons hd ht,r=>by
  cases r with
  | cons r1 r2 =>
   obtain ⟨as,q⟩:=DV.reads I hd r1
   obtain ⟨bs,p⟩:=DVs.reads I ht r2
   exact ⟨_,.cons q p⟩
end
end
section
variable {X:Cx}
inductive rEqD' (K:PySem.W.Frag) (neg:Bool) (x:V) (y:V) (H:Hp) (Q:VK):Prop
 | mk:∀ d e,(DV K H x d)→(DV K H y e)→(SeqAt.shaped d=true)→(SeqAt.shaped e=true)→(Q (.bl (if neg then !PyData.eqv d e else PyData.eqv d e)) H)→rEqD' K neg x y H Q
def zSr (K:PySem.W.Frag) (neg:Bool):R2:=fun x y H Q=>rEqD' K neg x y H Q
theorem zR5 (hu:X.A.units + 64 < cLine):OpR X (compareOp .Eq) (zSr X.K false):=by
 intro pins s σ H x y v u Q I rx ry ⟨d,e,hd,he,sd,se,q⟩
 obtain ⟨as,ra⟩:=hd.reads I rx
 obtain ⟨bs,rb⟩:=he.reads I ry
 exact SeqAt.compareEq_shaped ra rb sd se hu (zl I q rfl)
theorem zR3 (hu:X.A.units + 64 < cLine):OpR X (compareOp .NotEq) (zSr X.K true):=by
 intro pins s σ H x y v u Q I rx ry ⟨d,e,hd,he,sd,se,q⟩
 obtain ⟨as,ra⟩:=hd.reads I rx
 obtain ⟨bs,rb⟩:=he.reads I ry
 exact SeqAt.compareNe_shaped ra rb sd se hu (zl I q rfl)
inductive rIsin' (K:PySem.W.Frag) (T:String) (xs:List V) (H:Hp) (Q:VK):Prop
 | mk:∀ x t b,(xs=[x,.ty T])→(TyOf K H x t)→(PySem.W.kitOne K t (.type T)=some b)→(Q (.bl b) H)→rIsin' K T xs H Q
def zRt (K:PySem.W.Frag) (T:String):List V→Hp→VK→Prop:=fun xs H Q=>rIsin' K T xs H Q
theorem zJ4 {T:String}:zDj X (.builtin "isinstance") (zRt X.K T):=by
 intro pins s σ H xs us Q I r ⟨x,t,b,e,ty,ek,q⟩
 subst e
 obtain ⟨u,w',rfl,ru,rw'⟩:=zPx r
 cases (show w'=Value.type T from rw')
 exact zNe I ru ty ek fun tk=>⟨.bl b,H,I.tok tk,rfl,q⟩
theorem zI4:∀ bs:List Bool,(List.range bs.length).all (fun i=>bs.getD i true)=bs.all id
 | []=>rfl
 | b :: r=>by
  rw [List.length_cons,List.range_succ_eq_map,List.all_cons,List.all_map,List.all_cons]
  have:=zI4 r
  simp only [List.getD_cons_zero,Function.comp_def,List.getD_cons_succ] at this ⊢
  rw [this]
  rfl
def HdIn (A:Around) (L:List Addr) (h:Heap):Prop:=A.handled=none∨∃ (e:Addr) (oe:Obj) (vs:Array Value),A.handled=some (.ref e)∧e ∈ L∧h.get? e=some oe∧oe.data=.fields vs ∧
 (vs[2]? = some .none∨∃ (b:Addr) (ob:Obj) (vb:Array Value),vs[2]? = some (.ref b)∧b≠e∧b ∈ L∧h.get? b=some ob∧ob.data=.fields vb∧vb[2]? = some .none)
theorem HdIn.at {A:Around}{L:List Addr}{h:Heap}(x:HdIn A L h):HdAt A h:=by
 rcases x with x | ⟨e,oe,vs,a,_,b,c,d⟩
 ·exact .inl x
 ·refine .inr ⟨e,oe,vs,a,b,c,?_⟩
  rcases d with d | ⟨b,ob,vb,d1,d2,_,d3⟩
  ·exact .inl d
  ·exact .inr ⟨b,ob,vb,d1,d2,d3⟩
theorem HdAt.in {A:Around}{h:Heap}(x:HdAt A h):∃ L,HdIn A L h:=by
 rcases x with x | ⟨e,oe,vs,a,b,c,d⟩
 ·exact ⟨[],.inl x⟩
 ·rcases d with d | ⟨b',ob,vb,d1,d2,d3⟩
  ·exact ⟨[e],.inr ⟨e,oe,vs,a,by simp,b,c,.inl d⟩⟩
  ·exact ⟨[e,b'],.inr ⟨e,oe,vs,a,by simp,b,c,.inr ⟨b',ob,vb,d1,d2,by simp,d3⟩⟩⟩
theorem HdIn.keepF {A:Around}{L:List Addr}{h h':Heap}(x:HdIn A L h) (k:∀ b ∈ L,∀ o,h.get? b=some o→h'.get? b=some o):HdIn A L h':=by
 rcases x with x | ⟨e,oe,vs,a,m,b,c,d⟩
 ·exact .inl x
 ·refine .inr ⟨e,oe,vs,a,m,k e m oe b,c,?_⟩
  rcases d with d | ⟨b,ob,vb,d1,d2,d3,d4,d5⟩
  ·exact .inl d
  ·exact .inr ⟨b,ob,vb,d1,d2,d3,k b d3 ob d4,d5⟩
theorem zI8 {prog:Program}{w:World}{A:Around}(I ax:Addr) (hne:ax≠I) (items:Array Value) (L:List Addr) :
  Walks prog w A I (I :: ax :: L) [I] items.size (fun i v=>items[i]? = some v) (fun i h=>h.IsListIter I ax i∧h.IsList ax items∧HdIn A L h) where
 sub:=fun b hb=>by rw [List.mem_singleton.mp hb];exact List.mem_cons_self ..
 frame:=fun _ _ _ st hk=>⟨st.1.at fun o e=>hk I (List.mem_cons_self ..) o e,st.2.1.at fun o e=>hk ax (List.mem_cons_of_mem _ (List.mem_cons_self ..)) o e,st.2.2.keepF fun b hb o e=>hk b (List.mem_cons_of_mem _ (List.mem_cons_of_mem _ hb)) o e⟩
 item:=fun i s Q E hi st hQ=>by
  refine wpAny_pyNext_list_item st.1 st.2.1 (x:=items[i]) (by simp [hi]) fun h' hit' hs'=>?_
  refine hQ _ h' s.toks (by simp [hi]) ⟨hit',st.2.1.extBut hs'.extBut hne,?_⟩ fun b o hb e=>hs'.extBut b o (fun h=>hb (by simp [h])) e
  have nit:∀ (c:Addr) (o:Obj) (vs:Array Value),s.heap.get? c=some o→o.data=.fields vs→(vs[2]? = some .none∨∃ b,vs[2]? = some (.ref b))→c≠I:=fun c o vs b c' d z=>by
   subst z
   obtain ⟨o',ho,_,hd⟩:=st.1
   rw [b] at ho;cases ho;rw [hd] at c';cases c'
   rcases d with d | ⟨_,d⟩ <;> simp at d
  rcases st.2.2 with x | ⟨e,oe,vs,a,m,b,c,d⟩
  ·exact .inl x
  ·refine .inr ⟨e,oe,vs,a,m,hs'.extBut e oe (nit e oe vs b c ?_) b,c,?_⟩
   ·rcases d with d | ⟨b,_,_,d,_⟩
    ·exact .inl d
    ·exact .inr ⟨b,d⟩
   ·rcases d with d | ⟨b,ob,vb,d1,d2,d3,d4,d5,d6⟩
    ·exact .inl d
    ·exact .inr ⟨b,ob,vb,d1,d2,d3,hs'.extBut b ob (nit b ob vb d4 d5 (.inl d6)) d4,d5,d6⟩
 done:=fun s Q E st hQ=>zIp st.2.2.at st.1 st.2.1 (by simp) fun h' he=>hQ h' s.toks fun b o hb e=>he b o (fun h=>hb (by simp [h])) e
 self:=fun _ _ _ _ st h=>wpAny_pyIter_listiter st.1 h
inductive rAll' (K:PySem.W.Frag) (xs:List V) (H:Hp) (Q:VK):Prop
 | mk:∀ (p:Addr) (bs:List Bool),(xs=[.ref p])→(SqL K H p (bs.map V.bl))→(Q (.bl (bs.all id)) H)→rAll' K xs H Q
def zTv (K:PySem.W.Frag):List V→Hp→VK→Prop:=fun xs H Q=>rAll' K xs H Q
theorem zPg (hc:X.calm=true):zDj X (.builtin "all") (zTv X.K):=by
 intro pins s σ H xs us Q I r ⟨p,bs,e,hq,q⟩
 subst e
 obtain ⟨u,rfl,ru⟩:=zGz r
 cases (show u=Value.ref p from ru)
 obtain ⟨its,rv,pl,hz⟩:=I.list hq
 have hp:p < s.heap.objs.size:=by obtain ⟨o,n,e,_⟩:=pl;exact Heap.lt_size e
 have hlen:its.length=bs.length:=by rw [← rv.length,List.length_map]
 refine call_all_walk (wpAny_pyIter_list pl.isList ?_)
 obtain ⟨HL,hHL⟩:=I.hd.in
 refine ⟨s.heap.objs.size,_,[s.heap.objs.size],its.toArray.size,_,_,(fun i=>bs.getD i true),rfl,zI8 s.heap.objs.size p (Nat.ne_of_lt hp) its.toArray HL,
  ⟨⟨_,Heap.get?_push_size _ rfl,rfl,rfl⟩,pl.isList.push _,hHL.keepF fun _ _ _ e=>Heap.get?_push_of_some _ e⟩,?_,fun h' tk hk=>?_⟩
 ·intro i v s' Q' E' hv hQ
  have hv':its[i]? = some v:=by simpa using hv
  have hi:i < bs.length:=by rw [← hlen];exact (List.getElem?_eq_some_iff.mp hv').1
  obtain ⟨w',e1,r1⟩:=rv.get (i:=i) (x:=.bl bs[i]) (by rw [List.getElem?_map,List.getElem?_eq_getElem hi];rfl)
  rw [hv'] at e1
  cases e1
  cases (show v=Value.bool bs[i] from r1)
  refine wpAny_truthy_bool ?_
  rw [show bs[i]=bs.getD i true by rw [List.getD_eq_getElem?_getD,List.getElem?_eq_getElem hi];rfl]
  exact hQ
 ·have ks:∀ b o,s.heap.get? b=some o→h'.get? b=some o:=fun b o e=>hk b o (by
   intro z
   rcases List.mem_cons.mp z with z | z
   ·exact absurd (Heap.lt_size e) (by rw [z];exact Nat.lt_irrefl _)
   ·cases z) (Heap.get?_push_of_some _ e)
  refine ⟨.bl _,H,I.kept (t':=tk) ks,rfl,?_⟩
  rw [List.size_toArray,hlen,zI4]
  exact q
theorem Inv.bigX {pins:List (Addr × Obj)}{σ:St}{H:Hp}{s:Shared}(I:Inv X pins σ H s):sysModules < s.heap.objs.size:=by
 have h:mainGlobals < s.heap.objs.size:=(I.mod.glob.keeps I.bk).lt
 exact Nat.lt_trans (by decide) h
def zRk:TE:=fun _ H Q=>∀ p,H p=none→Q (.ref p) (upd H p (.dK []))
theorem zKo {pos:Pos}:PE X (.Dict [] [] pos) zRk:=fun pins s σ H Q I h =>
 wpAny_Dict_empty ⟨.ref s.heap.objs.size,_,I.laid (a:=s.heap.objs.size) (o:=.dK []) (t':=s.toks) (fun _ _ q=>Heap.get?_push_of_some _ q) (Nat.le_refl _)
  ⟨Nat.zero_le _,beq_eq_false_iff_ne.mpr (Ne.symm (Nat.ne_of_lt I.bigX)),[],.nil,Heap.DictOf.new _⟩,rfl,h _ (I.hok.fresh (Nat.le_refl _))⟩
end
section
variable {prog:Program}{w:World}{A:Around}{E:Value→Shared→Prop}{s:Shared}
end
section
variable {X:Cx}
end
end L2
end
section
namespace L2
open PySem PySem.Spec PyProof.Rows
structure Mvd (fs ex:List Addr) (h h':Heap):Prop where
 keep:∀ b o,b ∉ ex→b ∉ fs→h.get? b=some o→h'.get? b=some o
 slot:∀ b o,b ∉ ex→h.get? b=some o→∃ sl,h'.get? b=some { o with slots:=sl }
 there:∀ b o,h.get? b=some o→∃ o',h'.get? b=some o'
theorem Mvd.trans {fs ex:List Addr}{h h1 h2:Heap}(a:Mvd fs ex h h1) (b:Mvd fs ex h1 h2):Mvd fs ex h h2 where
 keep:=fun c o hx hf e=>b.keep c o hx hf (a.keep c o hx hf e)
 slot:=fun c o hx e=>by
  obtain ⟨sl,e1⟩:=a.slot c o hx e
  obtain ⟨sl',e2⟩:=b.slot c _ hx e1
  exact ⟨sl',e2⟩
 there:=fun c o e=>by
  obtain ⟨o',e1⟩:=a.there c o e
  exact b.there c o' e1
theorem Mvd.mono {fs fs' ex ex':List Addr}{h h':Heap}(a:Mvd fs ex h h') (hf:∀ b ∈ fs,b ∈ fs') (hx:∀ b ∈ ex,b ∈ ex'):Mvd fs' ex' h h' :=
 ⟨fun c o nx nf e=>a.keep c o (fun z=>nx (hx c z)) (fun z=>nf (hf c z)) e,fun c o nx e=>a.slot c o (fun z=>nx (hx c z)) e,a.there⟩
def Fly (e T:Addr) (cls fl cx:Value) (h:Heap):Prop :=
 ∃ oe vs oT ts,h.get? e=some oe∧oe.cls=cls∧oe.dict=none∧oe.data=.fields vs∧vs[1]? = some (.ref T)∧vs[2]? = some cx∧T≠e∧h.get? T=some oT∧oT.data=.fields ts∧ts[3]? = some fl
section
variable {M:Model}{A:Around}{E:Value→Shared→Prop}{s:Shared}
theorem zC4 {a:Addr}{o:Obj}{vs:Array Value}{i:Nat}{x:Value}(h:Heap) (ho:h.get? a=some o) (hd:o.data=.fields vs) :
  Mvd [] [a] h (h.update a (Obj.mapFields (·.setIfInBounds i x)))∧(h.update a (Obj.mapFields (·.setIfInBounds i x))).get? a=some (Obj.mapFields (·.setIfInBounds i x) o):=by
 have self:=Heap.get?_update_self (Obj.mapFields (·.setIfInBounds i x)) ho (Obj.isFreed_of_fields (Obj.data_mapFields hd _))
 have oth:∀ b,b ∉ [a]→(h.update a (Obj.mapFields (·.setIfInBounds i x))).get? b=h.get? b:=fun b hb=>Heap.get?_update_other _ _ (fun z=>hb (by simp [z]))
 refine ⟨⟨fun b ob hb _ e=>(oth b hb).trans e,fun b ob hb e=>⟨ob.slots,(oth b hb).trans e⟩,fun b ob e=>?_⟩,self⟩
 by_cases hb:b ∈ [a]
 ·rw [List.mem_singleton.mp hb];exact ⟨_,self⟩
 ·exact ⟨ob,(oth b hb).trans e⟩
theorem zF5 (f:Array Value→Array Value) (o:Obj):(Obj.mapFields f o).dict=o.dict:=by
 unfold Obj.mapFields;split <;> rfl
theorem zIv {cx:Value}{base:Heap}{env:Env}{outer:List Env}{L e:Addr}{oe:Obj}{vs:Array Value}{head:Value}{hadNext:Bool}{Q:Unit→Shared→Prop}
  (hfr:A.frames=some (env :: outer)) (hl:s.heap.FunFrames base (env :: outer)) (hf:env.frame=some L)
  (he:s.heap.get? e=some oe) (hdn:oe.dict=none) (hd:oe.data=.fields vs) (hsz:1 < vs.size) (h2:vs[2]? = some cx)
  (h:∀ h' T,Mvd (frs (env :: outer)) [e] s.heap h'→Fly e T oe.cls (rawInt L) cx h'→s.heap.get? T=none→Q () { s with heap:=h' }) :
  wpAny M A (do let a ← frameOf env;let pl ← entryPlaceOf L hadNext;let b ← EntryCells.newEntry head a .none (rawInt L) .none pl;setField (.ref e) 1 b) Q E s:=by
 have hene:e ∉ (env :: outer).filterMap (·.frame):=fun hm=>by
  obtain ⟨_,o,ho,hnf⟩:=hl.mem hm
  rw [he] at ho;injection ho with ho;subst ho;exact hnf vs hd
 refine wpAny_bind (wpAny_frameOf_fun hfr hl hf fun h₁ hs₁=>?_)
 refine wpAny_bind (wpAny_entryPlaceOf fun pl hpl=>?_)
 unfold EntryCells.newEntry newFields
 refine wpAny_bind (wpAny_newObj_type ?_ (hpl.sizeOk5 _ _ _ _ _))
 have he₁:h₁.get? e=some oe:=(hs₁.2.1 e hene).trans he
 have he₂:=Heap.get?_push_of_some (h:=h₁) { cls:=.type "traceback", dict:=none,data:=.fields ([head,.ref L,.none,rawInt L,.none] ++ (if pl.isEmpty then List.replicate 6 Value.none else pl)).toArray } he₁
 obtain ⟨mv,self⟩:=zC4 (i:=1) (x:=.ref h₁.objs.size) _ he₂ hd
 have hTe:h₁.objs.size≠e:=Nat.ne_of_gt (Heap.lt_size he₁)
 have hT:=(Heap.get?_update_other (h₁.push { cls:=.type "traceback", dict:=none,data:=.fields ([head,.ref L,.none,rawInt L,.none] ++ (if pl.isEmpty then List.replicate 6 Value.none else pl)).toArray })
  (Obj.mapFields (·.setIfInBounds 1 (Value.ref h₁.objs.size))) (Ne.symm hTe)).trans (Heap.get?_push_size h₁ rfl)
 refine wpAny_setField he₂ hd hsz (h _ h₁.objs.size ⟨fun b o hx hb eo=>?_,fun b o hx eo=>?_,fun b o eo=>?_⟩ ⟨_,_,_,_,self,Obj.cls_mapFields _ _,(zF5 _ _).trans hdn,Obj.data_mapFields hd _,by simp [hsz],by rw [Array.getElem?_setIfInBounds_ne (by decide)];exact h2,hTe,hT,rfl,by simp⟩ ?_)
 ·exact mv.keep b o hx (by simp) (Heap.get?_push_of_some _ ((hs₁.2.1 b hb).trans eo))
 ·obtain ⟨sl,es⟩:=hs₁.2.2 b o eo
  obtain ⟨sl',es'⟩:=mv.slot b _ hx (Heap.get?_push_of_some _ es)
  exact ⟨sl',es'⟩
 ·obtain ⟨sl,es⟩:=hs₁.2.2 b o eo
  exact mv.there b _ (Heap.get?_push_of_some _ es)
 ·cases q:s.heap.get? h₁.objs.size with
  | none=>rfl
  | some o =>
   obtain ⟨sl,es⟩:=hs₁.2.2 _ o q
   exact absurd (Heap.lt_size es) (Nat.lt_irrefl _)
theorem zLk {cx:Value}{base:Heap}{env:Env}{outer:List Env}{L e:Addr}{oe:Obj}{vs:Array Value}{Q:Unit→Shared→Prop}
  (hfr:A.frames=some (env :: outer)) (hl:s.heap.FunFrames base (env :: outer)) (hf:env.frame=some L)
  (he:s.heap.get? e=some oe) (hdn:oe.dict=none) (hd:oe.data=.fields vs) (h1:vs[1]? = some .none) (h2:vs[2]? = some cx)
  (h:∀ h' T,Mvd (frs (env :: outer)) [e] s.heap h'→Fly e T oe.cls (rawInt L) cx h'→s.heap.get? T=none→Q () { s with heap:=h' }):wpAny M A (noteFrame (.ref e) env) Q E s:=by
 unfold noteFrame
 simp only [hf]
 refine wpAny_bind (wpAny_field he hd h1 ?_)
 rw [if_neg (by decide)]
 exact zIv hfr hl hf he hdn hd (Array.getElem?_eq_some_iff.mp h1).1 h2 h
theorem zM1 {cx:Value}{base:Heap}{env:Env}{outer:List Env}{L e T:Addr}{cls:Value}{Q:Unit→Shared→Prop}
  (hfr:A.frames=some (env :: outer)) (hl:s.heap.FunFrames base (env :: outer)) (hf:env.frame=some L) (ht:Fly e T cls .none cx s.heap)
  (h:∀ h' T',Mvd (frs (env :: outer)) [e,T] s.heap h'→Fly e T' cls (rawInt L) cx h'→s.heap.get? T'=none→Q () { s with heap:=h' }):wpAny M A (noteFrame (.ref e) env) Q E s:=by
 obtain ⟨oe,vs,oT,ts,he,hcls,hdn,hd,h1,h2,hTe,hT,hdT,h3⟩:=ht
 subst hcls
 unfold noteFrame
 simp only [hf]
 refine wpAny_bind (wpAny_field he hd h1 ?_)
 rw [if_pos (show (Value.ref T != Value.none)=true from by simp)]
 refine wpAny_bind (wpAny_field hT hdT h3 ?_)
 rw [if_neg (show ¬ ((Value.none == rawInt L)=true) from by simp [rawInt])]
 refine wpAny_bind (wpAny_setField hT hdT (Array.getElem?_eq_some_iff.mp h3).1 ?_)
 obtain ⟨mv,self⟩:=zC4 (i:=3) (x:=Value.none) _ hT hdT
 have hl':(s.heap.update T (Obj.mapFields (·.setIfInBounds 3 Value.none))).FunFrames base (env :: outer):=hl.of_keeps fun b o hb hnf=>by
  have hbT:b ∉ [T]:=fun z=>by rw [List.mem_singleton.mp z,hT] at hb;cases hb;exact hnf ts hdT
  exact ⟨o,mv.keep b o hbT (by simp) hb,rfl⟩
 refine zIv (s:={ s with heap:=s.heap.update T (Obj.mapFields (·.setIfInBounds 3 Value.none)) }) hfr hl' hf (mv.keep e oe (by simp [Ne.symm hTe]) (by simp) he) hdn hd (Array.getElem?_eq_some_iff.mp h1).1 h2 fun h' T' mv' fl' fr'=>?_
 refine h h' T' ((mv.mono (by simp) (by simp)).trans (mv'.mono (fun _ z=>z) (by simp))) fl' ?_
 cases q:s.heap.get? T' with
 | none=>rfl
 | some o =>
  obtain ⟨o',q'⟩:=mv.there T' o q
  rw [show (({ s with heap:=s.heap.update T (Obj.mapFields (·.setIfInBounds 3 Value.none)) }:Shared).heap.get? T')=none from fr'] at q'
  cases q'
theorem flight_none {e T:Addr}{cls fl cx:Value}{Q:Unit→Shared→Prop}(ht:Fly e T cls fl cx s.heap)
  (h:∀ h',Mvd [] [T] s.heap h'→Fly e T cls .none cx h'→Q () { s with heap:=h' }):wpAny M A (setFlight (.ref e) none) Q E s:=by
 obtain ⟨oe,vs,oT,ts,he,hcls,hdn,hd,h1,h2,hTe,hT,hdT,h3⟩:=ht
 unfold setFlight
 refine wpAny_bind (wpAny_field he hd h1 ?_)
 rw [if_pos (show (Value.ref T != Value.none)=true from by simp)]
 obtain ⟨mv,self⟩:=zC4 (i:=3) (x:=(none:Option Addr).elim Value.none fun f=>rawInt f) _ hT hdT
 have hsz:=(Array.getElem?_eq_some_iff.mp h3).1
 refine wpAny_setField hT hdT hsz (h _ mv ⟨oe,vs,_,_,mv.keep e oe (by simp [Ne.symm hTe]) (by simp) he,hcls,hdn,hd,h1,h2,hTe,self,Obj.data_mapFields hdT _,by simp [hsz]⟩)
theorem zM2 {env:Env}{L e T:Addr}{cls cx:Value}{Q:Unit→Shared→Prop}(hf:env.frame=some L) (ht:Fly e T cls (rawInt L) cx s.heap) (h:Q () s):wpAny M A (noteFrame (.ref e) env) Q E s:=by
 obtain ⟨oe,vs,oT,ts,he,hcls,hdn,hd,h1,h2,hTe,hT,hdT,h3⟩:=ht
 unfold noteFrame
 simp only [hf]
 refine wpAny_bind (wpAny_field he hd h1 ?_)
 rw [if_pos (show (Value.ref T != Value.none)=true from by simp)]
 refine wpAny_bind (wpAny_field hT hdT h3 ?_)
 rw [if_pos (show ((rawInt L == rawInt L)=true) from by simp)]
 exact wpAny_pure h
end
end L2
end
section
namespace L2
open PySem PySem.Spec PyProof.Rows
theorem ObjOk.is {P:Program}{w:World}{H:Hp}{h:Heap}{a:Addr}{o:HO}(x:ObjOk P w H h a o):∃ ob,h.get? a=some ob:=by
 cases o with
 | lst xs=>obtain ⟨_,_,_,_,e⟩:=x;exact ⟨_,e⟩
 | tup xs=>obtain ⟨_,_,_,o,e,_⟩:=x;exact ⟨_,e⟩
 | dK kvs=>obtain ⟨_,_,_,_,o,_,_,e,_⟩:=x;exact ⟨_,e⟩
 | dT kvs=>obtain ⟨_,_,_,_,o,_,_,e,_⟩:=x;exact ⟨_,e⟩
 | set S n=>obtain ⟨o,_,_,_,e,_⟩:=x;exact ⟨_,e⟩
 | ins C dx fs=>obtain ⟨_,_,_,e,_⟩:=x;exact ⟨_,e⟩
 | own y=>obtain ⟨_,e⟩:=x;exact ⟨_,e⟩
 | xd fs=>obtain ⟨_,⟨_,_,_,e,_⟩,_⟩:=x;exact ⟨_,e⟩
 | rng lo hi=>obtain ⟨_,_,_,e⟩:=x;exact ⟨_,e⟩
 | frz ob u=>obtain ⟨e,_⟩:=x;exact ⟨_,e⟩
 | tbl ps=>exact ⟨_,(show h.get? a=some _ from x)⟩
 | met f y=>exact ⟨_,(show h.get? a=some _ from x)⟩
 | ext φ=>obtain ⟨_,⟨_,e⟩,_⟩:=x;exact ⟨_,e⟩
 | exc c=>obtain ⟨_,_,e,_⟩:=x;exact ⟨_,e⟩
theorem HOk.none_of {P:Program}{w:World}{H:Hp}{h:Heap}(x:HOk P w H h) {a:Addr}(n:h.get? a=none):H a=none:=by
 cases q:H a with
 | none=>rfl
 | some u=>obtain ⟨o,e⟩:=(x a u q).is;rw [n] at e;cases e
theorem HOk.put {P:Program}{w:World}{H:Hp}{h:Heap}{a:Addr}{o:HO}(x:HOk P w H h) (hn:H a=none) (new:ObjOk P w (upd H a o) h a o):HOk P w (upd H a o) h:=fun b u e=>by
 by_cases hb:b=a
 ·subst hb;rw [zB] at e;cases e;exact new
 ·rw [upd_ne hb] at e
  exact (x b u e).stay (fun c v _ q=>q) (fun c q=>by rw [upd_ne (zJ q hn)];exact q) fun c xs q=>by rw [upd_ne (zJ q hn)];exact q
section
variable {X:Cx}{pins:List (Addr × Obj)}{σ σ':St}{H H':Hp}{s:Shared}{h':Heap}
theorem Inv.stepN {g':Array GenState}{t':Nat}{d':Drawn}{ch:List Addr}(I:Inv X pins σ H s)
  (hch:∀ b ∈ ch,X.s₀.heap.get? b=none∧b≠X.env.locals∧(∀ x c,X.env.cells.lookup x=some c→c≠b)∧∀ p ∈ X.pn ++ pins,p.1≠b)
  (keep:∀ b o,b≠X.env.locals→b ∉ X.fs→b ∉ ch→s.heap.get? b=some o→H b=none→h'.get? b=some o)
  (slot:∀ b o,b≠X.env.locals→b ∈ X.fs→b ∉ ch→s.heap.get? b=some o→H b=none→∃ sl,h'.get? b=some { o with slots:=sl }) (free:∀ b o,b ∉ ch→s.heap.get? b=some o→H b=none→H' b=none)
  (there:∀ b o,b ∉ ch→s.heap.get? b=some o→∃ o',h'.get? b=some o')
  (tups:∀ b xs,H b=some (.tup xs)→H' b=some (.tup xs)) (frzs:∀ b o u,H b=some (.frz o u)→H' b=some (.frz o u)) (tbls:∀ b ps,H b=some (.tbl ps)→∃ more,H' b=some (.tbl (ps ++ more))) (excs:∀ b c,H b=some (.exc c)→H' b=some (.exc c))
  (loc:(∀ x c,X.env.cells.lookup x=some c→∀ v,s.heap.IsCell c v→h'.IsCell c v)→∃ m,h'.Ns X.env.locals m∧∀ (i:Nat) (x:Str) (v:V),X.N[i]? = some x→σ'[i]? = some (some v)→Vis X.env.scope x→∃ u,RelV v u∧zRc X.env h' m x u)
  (fix:(∀ x c,X.env.cells.lookup x=some c→∀ v,s.heap.IsCell c v→h'.IsCell c v)→∀ p ∈ X.fx,∃ m,h'.Ns X.env.locals m∧zRc X.env h' m p.1 p.2)
  (len:σ'.length=σ.length) (hok:HOk X.prog X.w H' h') (hg:AllBare g') :
  Inv X pins σ' H' { s with heap:=h',gens:=g',drawn:=d',toks:=t' }:=by
 have neL:∀ b o,X.s₀.heap.get? b=some o→b≠X.env.locals:=fun b o e=>Nat.ne_of_lt (Nat.lt_of_lt_of_le (Heap.lt_size e) I.ok.above)
 have neC:∀ b o,X.s₀.heap.get? b=some o→b ∉ ch:=fun b o e hb=>by
  rw [(hch b hb).1] at e;cases e
 have cellK:∀ x c,X.env.cells.lookup x=some c→∀ v,s.heap.IsCell c v→h'.IsCell c v:=fun x c e v ⟨o,ho,hd⟩=>by
  have nch:c ∉ ch:=fun z=>(hch c z).2.2.1 x c e rfl
  by_cases hc:c ∈ X.fs
  ·obtain ⟨sl,q⟩:=slot c o (I.cne x c e) hc nch ho (I.freeC x c e)
   exact ⟨_,q,hd⟩
  ·exact ⟨o,keep c o (I.cne x c e) hc nch ho (I.freeC x c e),hd⟩
 refine ⟨I.ok,I.os,hg,⟨fun b o e n hb hx=>?_,fun b o e n hb hx=>?_,fun b o e n hx=>?_,fun b o e hx=>?_,fun b xs e=>tups b xs (I.base.tups b xs e),fun b o xs e=>frzs b o xs (I.base.frzs b o xs e),fun b ps e=>?_,fun b c e=>excs b c (I.base.excs b c e)⟩,loc cellK,fun x c e=>?_,?_,fun x c e=>?_,fun p hp=>?_,hok,len.trans I.len,fun p hp=>excs _ _ (I.tr p hp),fix cellK⟩
 ·exact keep b o (neL b o e) hb (neC b o e) (I.base.keep b o e n hb hx) (I.base.free b o e n hx)
 ·obtain ⟨sl,e1⟩:=I.base.slot b o e n hb hx
  obtain ⟨sl',e2⟩:=slot b _ (neL b o e) hb (neC b o e) e1 (I.base.free b o e n hx)
  exact ⟨sl',e2⟩
 ·obtain ⟨o',e1⟩:=I.base.there b o e hx
  exact free b o' (neC b o e) e1 (I.base.free b o e n hx)
 ·obtain ⟨o',e1⟩:=I.base.there b o e hx
  exact there b o' (neC b o e) e1
 ·obtain ⟨m1,e1⟩:=I.base.tbls b ps e
  obtain ⟨m2,e2⟩:=tbls b _ e1
  exact ⟨m1 ++ m2,by rw [e2,Array.append_assoc]⟩
 ·obtain ⟨v,z⟩:=I.cell x c e
  exact ⟨v,cellK x c e v z⟩
 ·obtain ⟨m,⟨o,_,_,ho,_⟩,_⟩:=I.loc
  exact free _ o (fun z=>(hch _ z).2.1 rfl) ho I.free
 ·obtain ⟨v,o,ho,hd⟩:=I.cell x c e
  exact free c o (fun z=>(hch c z).2.2.1 x c e rfl) ho (I.freeC x c e)
 ·obtain ⟨e,n,ne,nf,d⟩:=I.pin p hp
  have nch:p.1 ∉ ch:=fun z=>(hch p.1 z).2.2.2 p hp rfl
  exact ⟨keep p.1 p.2 ne nf nch e n,free p.1 p.2 nch e n,ne,nf,d⟩
structure Nw (X:Cx) (pins:List (Addr × Obj)) (H:Hp) (b:Addr):Prop where
 free:H b=none
 new:X.s₀.heap.get? b=none
 loc:b≠X.env.locals
 cel:∀ x c,X.env.cells.lookup x=some c→c≠b
 pin:∀ p ∈ X.pn ++ pins,p.1≠b
theorem Nw.of (I:Inv X pins σ H s) (hex:X.ex=[]) {b:Addr}(n:s.heap.get? b=none) (f:H' b=none):Nw X pins H' b where
 free:=f
 new:=by
  cases q:X.s₀.heap.get? b with
  | none=>rfl
  | some o=>obtain ⟨o',e⟩:=I.base.there b o q (by rw [hex];simp);rw [n] at e;cases e
 loc:=fun z=>by obtain ⟨m,⟨o,_,_,ho,_⟩,_⟩:=I.loc;rw [← z,n] at ho;cases ho
 cel:=fun x c e z=>by obtain ⟨v,o,ho,_⟩:=I.cell x c e;rw [z,n] at ho;cases ho
 pin:=fun p hp z=>by obtain ⟨e,_⟩:=I.pin p hp;rw [z,n] at e;cases e
theorem Inv.mvd {ex:List Addr}(I:Inv X pins σ H s) (mv:Mvd (frs X.stack) ex s.heap h') (hex:∀ b ∈ ex,Nw X pins H b):Inv X pins σ H { s with heap:=h' }:=by
 have nx:∀ b u,H b=some u→b ∉ ex:=fun b u e z=>by rw [(hex b z).free] at e;cases e
 have nf:∀ b u,H b=some u→b ∉ frs X.stack:=fun b u e z=>by rw [I.stkFree b z] at e;cases e
 refine I.stepN (g':=s.gens) (d':=s.drawn) (t':=s.toks) (ch:=ex) (fun b hb=>⟨(hex b hb).new,(hex b hb).loc,(hex b hb).cel,(hex b hb).pin⟩) (fun b o hL hf hc e _=>mv.keep b o hc (fun z=>(List.mem_cons.mp (I.stkSub b z)).elim hL hf) e) (fun b o _ _ hc e _=>mv.slot b o hc e)
  (fun _ _ _ _ n=>n) (fun b o _ e=>mv.there b o e) (fun _ _ e=>e) (fun _ _ _ e=>e) (fun b ps e=>⟨#[],by rw [e];simp⟩) (fun _ _ e=>e) (fun cellK=>?_) (fun cellK p hp=>?_) rfl (fun a o e=>(I.hok a o e).stay (fun b u hb q=>?_) (fun _ q=>q) fun _ _ q=>q) I.bare
 ·obtain ⟨m,⟨o,es,ep,ho,r⟩,hl⟩:=I.loc
  obtain ⟨sl,hL⟩:=mv.slot _ o (fun z=>(hex _ z).loc rfl) ho
  refine ⟨m,⟨_,es,ep,hL,r⟩,fun i x v e1 e2 e3=>?_⟩
  obtain ⟨u,r,l⟩:=hl i x v e1 e2 e3
  refine ⟨u,r,?_⟩
  rcases l with l | ⟨k,c,e,z⟩
  ·exact .inl l
  ·exact .inr ⟨k,c,e,cellK x c e _ z⟩
 ·obtain ⟨m,⟨o,es,ep,ho,r⟩,lk⟩:=I.fix p hp
  obtain ⟨sl,hL⟩:=mv.slot _ o (fun z=>(hex _ z).loc rfl) ho
  exact ⟨m,⟨_,es,ep,hL,r⟩,lk.elim .inl fun ⟨k,c,e,z⟩=>.inr ⟨k,c,e,cellK p.1 c e _ z⟩⟩
 ·rcases hb with rfl | hb
  ·exact mv.keep b u (nx b _ e) (nf b _ e) q
  ·exact mv.keep b u (nx b _ hb) (nf b _ hb) q
end
def Raw (e:Addr) (cls cx:Value) (h:Heap):Prop:=∃ oe vs,h.get? e=some oe∧oe.cls=cls∧oe.dict=none∧oe.data=.fields vs∧vs[1]? = some .none∧vs[2]? = some cx
def Chn (H:Hp) (h:Heap) (e:Addr) (cx:Value) (d:Option Addr):Prop:=(d=none∧cx=.none)∨∃ (b:Addr) (ob:Obj) (vb:Array Value),d=some b∧cx=.ref b∧b≠e∧H b=some (.own e)∧h.get? b=some ob∧ob.data=.fields vb∧vb[2]? = some .none
theorem Chn.keep {H H':Hp}{h h':Heap}{e:Addr}{cx:Value}{d:Option Addr}(x:Chn H h e cx d) (k:∀ b ob,H b=some (.own e)→h.get? b=some ob→H' b=some (.own e)∧h'.get? b=some ob):Chn H' h' e cx d:=by
 rcases x with x | ⟨b,ob,vb,x1,x2,x3,x4,x5,x6⟩
 ·exact .inl x
 ·obtain ⟨y1,y2⟩:=k b ob x4 x5
  exact .inr ⟨b,ob,vb,x1,x2,x3,y1,y2,x6⟩
def Air (X:Cx) (pins:List (Addr × Obj)) (H:Hp) (e:Addr) (cls:Value) (d:Option Addr) (h:Heap):Prop:=Nw X pins H e∧∃ cx,Chn H h e cx d∧(Raw e cls cx h∨∃ T fl,Fly e T cls fl cx h∧(fl=.none∨fl=rawInt X.env.locals)∧Nw X pins H T)
def Out (X:Cx) (E:XK):Prop:=∀ (pins:List (Addr × Obj)) (σ:St) (H:Hp) (s:Shared) (e:Addr) (cls:Value) (d:Option Addr),Inv X pins σ H s→Air X pins H e cls d s.heap→E cls d H→X.xe (.ref e) s
def CXE (P:Program) (w:World):CXT:=fun outer H s E e s'=>(outer=[]∧E=fun _ _ _=>True)∨∃ (a T:Addr) (cls cx:Value) (d:Option Addr) (H':Hp),e=.ref a∧s'.os=s.os∧AllBare s'.gens∧Un (frs outer) [] H H' s.heap s'.heap∧HOk P w H' s'.heap ∧
 H' a=none∧s.heap.get? a=none∧Fly a T cls .none cx s'.heap∧Chn H' s'.heap a cx d∧H' T=none∧s.heap.get? T=none∧E cls d H'
theorem zQ5 {P:Program}{w:World}{A:Around}(s:Shared) (h:zN7 (CXE P w) A):A.handled=none:=by
 rcases h with h | h
 ·have q:CXE P w [] (fun _=>none) s (fun _ _ _=>True) .none s:=.inl ⟨rfl,rfl⟩
  rw [h] at q
  exact q.elim
 ·exact h
section
variable {X:Cx}{pins:List (Addr × Obj)}{σ:St}{H:Hp}{s:Shared}{E:XK}{M:Model}{e:Addr}{cls:Value}
theorem zGk (O:Out X E) (hst:X.stack=X.env :: X.outer) (hex:X.ex=[]):zC9 (CXE X.prog X.w) X E:=by
 intro pins σ H s e s' I h
 rcases h with ⟨h,_⟩ | ⟨a,T,cls,cx,d,H',rfl,os,bare,un,hok,f1,n1,fl,ch,f2,n2,q⟩
 ·rw [hst] at h;cases h
 ·have I':Inv X pins σ H' s':=I.call' (ch:=[]) os un hok bare (fun b z=>absurd z (by simp))
  exact O pins σ H' s' a cls d I' ⟨Nw.of I hex n1 f1,cx,ch,.inr ⟨T,_,fl,.inl rfl,Nw.of I hex n2 f2⟩⟩ q
theorem Inv.own_kept {ex:List Addr}{h':Heap}(I:Inv X pins σ H s) (mv:Mvd (frs X.stack) ex s.heap h') (hex:∀ b ∈ ex,Nw X pins H b):∀ b ob,H b=some (.own e)→s.heap.get? b=some ob→H b=some (.own e)∧h'.get? b=some ob:=fun b ob hb q =>
 ⟨hb,mv.keep b ob (fun z=>by rw [(hex b z).free] at hb;cases hb) (fun z=>by rw [I.stkFree b z] at hb;cases hb) q⟩
theorem zM5 {A:Around}{Ex:Value→Shared→Prop}{d:Option Addr}{Q:Unit→Shared→Prop}(I:Inv X pins σ H s) (hA:A.frames=X.A.frames) (hst:X.stack=X.env :: X.outer) (hfr:X.env.frame=some X.env.locals) (hex:X.ex=[]) (a:Air X pins H e cls d s.heap)
  (h:∀ h' T cx,Inv X pins σ H { s with heap:=h' }→Fly e T cls (rawInt X.env.locals) cx h'→Chn H h' e cx d→Nw X pins H T→Nw X pins H e→Q () { s with heap:=h' }) :
  wpAny M A (noteFrame (.ref e) X.env) Q Ex s:=by
 have hl:=I.stack
 have hf:=I.ok.frames
 rw [hst] at hl hf
 rw [← hA] at hf
 obtain ⟨ne,cx,ch,a⟩:=a
 have fin:∀ (h1:Heap) (T:Addr) (ex:List Addr),Mvd (frs (X.env :: X.outer)) ex s.heap h1→(∀ b ∈ ex,Nw X pins H b)→Fly e T cls (rawInt X.env.locals) cx h1→s.heap.get? T=none →
   Q () { s with heap:=h1 }:=fun h1 T ex mv hx fl nT=>by
  have mv':Mvd (frs X.stack) ex s.heap h1:=by rw [hst];exact mv
  exact h h1 T cx (I.mvd mv' hx) fl (ch.keep (I.own_kept mv' hx)) (Nw.of I hex nT (I.hok.none_of nT)) ne
 rcases a with ⟨oe,vs,he,hc,hdn,hd,h1,h2⟩ | ⟨T0,fl0,fl,hfl,nT0⟩
 ·subst hc
  refine zLk hf hl hfr he hdn hd h1 h2 fun h' T mv fl nT=>fin h' T [e] mv (fun b hb=>by rw [List.mem_singleton.mp hb];exact ne) fl nT
 ·rcases hfl with rfl | rfl
  ·refine zM1 hf hl hfr fl fun h' T mv fl nT=>fin h' T [e,T0] mv (fun b hb=>?_) fl nT
   rcases List.mem_cons.mp hb with rfl | hb
   ·exact ne
   ·rw [List.mem_singleton.mp hb];exact nT0
  ·exact zM2 hfr fl (h s.heap T0 cx I fl ch nT0 ne)
theorem zIo {A:Around}{Ex:Value→Shared→Prop}{d:Option Addr}{Q:Unit→Shared→Prop}(I:Inv X pins σ H s) (hA:A.frames=X.A.frames) (hst:X.stack=X.env :: X.outer) (hfr:X.env.frame=some X.env.locals) (hex:X.ex=[]) (a:Air X pins H e cls d s.heap)
  (h:∀ h' T cx,Inv X pins σ H { s with heap:=h' }→Fly e T cls .none cx h'→Chn H h' e cx d→Nw X pins H T→Nw X pins H e→Q () { s with heap:=h' }) :
  wpAny M A (noteFrame (.ref e) X.env) (fun _ s2=>wpAny M A (setFlight (.ref e) none) Q Ex s2) Ex s:=by
 refine zM5 I hA hst hfr hex a fun h1 T cx I1 fl ch nT ne=>?_
 refine flight_none (s:={ s with heap:=h1 }) fl fun h2 mv2 fl2=>?_
 have mv':Mvd (frs X.stack) [T] h1 h2:=mv2.mono (fun b z=>nomatch z) fun b z=>z
 have hx:∀ b ∈ [T],Nw X pins H b:=fun b hb=>by rw [List.mem_singleton.mp hb];exact nT
 exact h h2 T cx (I1.mvd mv' hx) fl2 (ch.keep (I1.own_kept mv' hx)) nT ne
end
theorem zAl {P:Program}{w:World}{K:PySem.W.Frag}{mg:Str→Option Value}{base:Heap}{N:List Str}{qual:Str}{scope:Scope}{f:Addr}{cd:Value}{A:Around}{outer:List Env}{s:Shared}{H:Hp}{E E':XK}(hE:∀ c d H,E' c d H→E c d H) :
  Out (zNy (CXE P w) P w K mg base N qual scope f cd A outer s H E) E':=by
 intro pins σ H' s' e cls d I a q
 show wpAny _ _ (leaving _ (.ref e)) _ _ _
 unfold leaving
 refine wpAny_bind (zIo I rfl rfl rfl rfl a fun h' T cx I' fl ch nT ne=>?_)
 exact .inr ⟨e,T,cls,cx,d,H',rfl,I'.os,I'.bare,I'.base,I'.hok,ne.free,ne.new,fl,ch,nT.free,nT.new,hE _ _ _ q⟩
theorem zE {P:Program}{w:World}{K:PySem.W.Frag}{mg:Str→Option Value}{base:Heap}{N:List Str}{qual:Str}{scope:Scope}{f:Addr}{cd:Value}{A:Around}{outer:List Env}{s:Shared}{H:Hp}{E E':XK}(hE:∀ c d H,E' c d H→E c d H) :
  zC9 (CXE P w) (zNy (CXE P w) P w K mg base N qual scope f cd A outer s H E) E':=zGk (X:=zNy (CXE P w) P w K mg base N qual scope f cd A outer s H E) (zAl hE) rfl rfl
theorem zTy {P:Program}{w:World}{l:List Env}{H:Hp}{s:Shared}{e:Value}{s':Shared}(h:CXE P w l H s (fun _ _ _=>False) e s'):False:=by
 rcases h with ⟨_,h⟩ | ⟨a,T,cls,cx,d,H',_,_,_,_,_,_,_,_,_,_,_,q⟩
 ·have:=congrFun (congrFun (congrFun h .none) none) H
  rw [this];trivial
 ·exact q
theorem zOr {X:Cx}:zC9 (CXE X.prog X.w) X E0:=fun _ _ _ _ _ _ _ h=>(zTy h).elim
theorem zQg {K:PySem.W.Frag}{h:Heap}{C:Addr}{bmB:List Value}{newId:String}(X:K.In h) (q:PySem.W.excIn K C bmB newId=true) :
  ∃ bm N nm qn bs hdct sn sub ab col dd k0 k1 k2 k3 k5 mN,h.get? C=some (excClassObj nm qn C N bs bm hdct sn sub ab col dd k0 k1 k2 k3 k5 newId)∧h.Ns N mN∧mN "__init__" = none∧OwnTail h bmB bm:=by
 unfold PySem.W.excIn at q
 split at q
 ·rename_i dd cd sl ho
  split at q
  ·rename_i C' bm k0 k1 k2 k3 n k5 hm hs
   simp only [Bool.and_eq_true,beq_iff_eq,Bool.not_eq_true'] at q
   obtain ⟨⟨⟨⟨⟨rfl,rfl⟩,hdel⟩,ht⟩,hok⟩,hni⟩:=q
   obtain ⟨nm,bs,mro,ns,qn,hd,sn,sub,ab,col,del⟩:=cd
   dsimp only at hm hdel hok hni
   subst hm hdel
   have hsl:sl = #[k0,k1,k2,k3,some (.builtin n),k5]:=by
    obtain ⟨l⟩:=sl
    simp only at hs
    rw [hs]
   subst hsl
   exact ⟨bm,ns,nm,qn,bs,hd,sn,sub,ab,col,dd,k0,k1,k2,k3,k5,_,X _ _ ho,.of_isNs (PySem.W.isNs_of_in X hok),PySem.W.nsMap_none_of_in X hok hni,PySem.W.tail_of_in X ht⟩
  ·cases q
 ·cases q
abbrev veMro:List Value:=[.type "ValueError", .type "Exception", .type "BaseException", .type "object"]
def zPl (E:XK) (C:Addr) (t:TA):TS:=fun _ σ H=>t σ H fun vs H1=>vs.length≤1000∧E (.ref C) none H1
theorem za {X:Cx}{E:XK}{C:Addr}{x:Str}{np cpos pos:Pos}{e:Expr}{es:List Expr}{t:TA}(O:Out X E) (hex:X.ex=[]) (hh:X.A.handled=none) (hg:Gl X x) (hm:X.mg x=some (.ref C)) (hc:PySem.W.excIn X.K C veMro "ValueError.__new__" = true)
  (ha:PA X (e :: es) t) (hdb:(x == ("__debug__" : Str))=false:=by decide) (he:starEach (e :: es) X.env=(false,eval e X.env) :: starEach es X.env:=by rfl) (hpl:(backTo cpos (starEach es X.env)).any (·.1)=false:=by rfl) :
  PS X (.Raise (some (.Call (.Name x np) (e :: es) [] cpos)) none pos) (zPl E C t):=by
 intro pins s σ H D I h
 obtain ⟨bm,N,nm,q,bs,hdct,sn,sub,ab,col,dd,k0,k1,k2,k3,k5,mN,hC,hN,hni,T⟩:=zQg I.ok.mod.kin hc
 refine wpAny_Raise_call_subT (C:=C) (nm:=nm) (q:=q) (N:=N) (bs:=bs) (bm:=bm) (hdct:=hdct) (sn:=sn) (sub:=sub) (ab:=ab) (col:=col) (dd:=dd) (k0:=k0) (k1:=k1) (k2:=k2) (k3:=k3) (k5:=k5)
  PySem.F.excBase_ValueError (mN:=mN) (T.hasType PySem.F.excBase_ValueError.hasBase) hh (by rw [he];show (false || (backTo cpos (starEach es X.env)).any (·.1))=false;rw [hpl];rfl) hni (zEo I hg hm ⟨rfl,?_⟩ hdb)
 have h2:=ha cpos pins s σ H _ I h
 rw [he] at h2 ⊢
 refine Calls.evalArgs_plain (wpAny_mono h2 (fun us s2 ⟨vs,H1,I1,r,z,q⟩=>?_) fun _ _ y=>y)
 refine ⟨rfl,?_,I1.bk _ _ hC,hN.keeps I1.bk,T.keeps I1.bk,fun h' e hm=>?_⟩
 ·have e:=r.length
  show us.length≤_
  rw [← e]
  exact Nat.le_of_lt (small1000 z)
 ·have I2:Inv X pins σ H1 { s2 with heap:=h' }:=I1.kept (t':=s2.toks) hm.keeps
  obtain ⟨t,h1,h2,h3⟩:=hm.there
  exact O pins σ H1 { s2 with heap:=h' } e (.ref C) none I2 ⟨Nw.of I1 hex hm.new (I1.hok.none_of hm.new),.none,.inl ⟨rfl,rfl⟩,.inl ⟨_,_,h1,rfl,rfl,rfl,rfl,rfl⟩⟩ q
end L2
end
section
namespace L2
open PySem PySem.Spec PyProof.Rows
structure CatK (K:PySem.W.Frag) (C:Addr):Prop where
 cls:(match K.lookup C with | some ⟨.type "type", _,.cls _,_⟩=>true | _=>false)=true
 bx:PySem.W.mroIn K C (.type "BaseException")=some true
open PySem.W in
theorem zJy {M:Model}{A:Around}{E:Value→Shared→Prop}{s:Shared}{K:PySem.W.Frag}{C0 C e:Addr}{oe:Obj}{b:Bool}{Q:Bool→Shared→Prop}(X:K.In s.heap) (k:CatK K C0) (he:s.heap.get? e=some oe) (hcls:oe.cls=.ref C)
  (hm:mroIn K C (.ref C0)=some b) (h:Q b s):wpAny M A (excMatches (.ref e) (.ref C0)) Q E s:=by
 obtain ⟨hp,g,d,t,os⟩:=s
 have L1:=looks_mroIn (M:=M) X k.bx
 have L2:=looks_mroIn (M:=M) X hm
 have kc:=k.cls
 split at kc
 ·rename_i dd cd sl ho
  have hC:hp.get? C0=some ⟨.type "type", dd,.cls cd,sl⟩:=X _ _ ho
  have f:=tc_notTuple
  unfold excMatches
  repeat (first | (with_reducible refine wpAny_loadPart_at he ?_;rw [hcls]) | with_reducible refine wpAny_loadPart_at hC ?_ | (with_reducible refine L1.here ?_) | (with_reducible refine L2.here ?_) | wp_step)
  cases b <;> (wp_walk;exact h)
 ·cases kc
end L2
namespace L2
open PySem PySem.Spec PyProof.Rows
abbrev Cx.bod (X:Cx) (pn:List (Addr × Obj)) (fx:List (Str × Value)) (xe:Value→Shared→Prop):Cx:={ X with pn:=pn,fx:=fx,xe:=xe }
abbrev Cx.hnd (X:Cx) (e:Addr) (c:Value) (pn:List (Addr × Obj)):Cx:={ X with A:=X.A.mark (some (.ref e)),pn:=pn,tr:=(e,c) :: X.tr,xe:=fun _ _=>False }
theorem Cx.Ok.bod {X:Cx}(ok:X.Ok) (pn:List (Addr × Obj)) (fx:List (Str × Value)) (xe:Value→Shared→Prop):(X.bod pn fx xe).Ok :=
 ⟨ok.mod,ok.kind,ok.glob,ok.blt,ok.above,ok.inj,ok.has,ok.cab,ok.hd,ok.frames,ok.stk,ok.exf,ok.bs,ok.bsz,ok.noex,ok.exfs,ok.funs,ok.frf⟩
theorem Cx.Ok.hnd {X:Cx}(ok:X.Ok) (e:Addr) (c:Value) (pn:List (Addr × Obj)):(X.hnd e c pn).Ok :=
 ⟨ok.mod,ok.kind,ok.glob,ok.blt,ok.above,ok.inj,ok.has,ok.cab,.inr ⟨e,c,rfl,.inr (List.mem_cons_self ..)⟩,ok.frames,ok.stk,ok.exf,ok.bs,ok.bsz,ok.noex,ok.exfs,ok.funs,ok.frf⟩
def zM3 (W:List Str):List Str→St→St
 | n :: N,v :: σ=>(if W.contains n=true then none else v) :: zM3 W N σ
 | _,σ=>σ
theorem zKu (W:List Str):∀ (N:List Str) (σ:St),(zM3 W N σ).length=σ.length
 | [],_=>rfl
 | _ :: _,[]=>rfl
 | _ :: N,_ :: σ=>by simp [zM3,zKu W N σ]
theorem zKv {W:List Str}:∀ {N:List Str}{σ:St}{i:Nat}{x:Str}{v:V},N[i]? = some x→(zM3 W N σ)[i]? = some (some v)→σ[i]? = some (some v)∧x ∉ W
 | [],_,_,_,_,h,_=>by simp at h
 | _ :: _,[],_,_,_,_,h=>by simp [zM3] at h
 | n :: N,u :: σ,0,x,v,h1,h2=>by
  simp only [List.getElem?_cons_zero,Option.some.injEq] at h1
  subst h1
  simp only [zM3,List.getElem?_cons_zero,Option.some.injEq] at h2
  split at h2
  ·cases h2
  ·rename_i hc
   exact ⟨by simp [h2],fun z=>hc (by simpa using z)⟩
 | n :: N,u :: σ,i + 1,x,v,h1,h2=>by
  have:=zKv (N:=N) (σ:=σ) (i:=i) (x:=x) (v:=v) (by simpa using h1) (by simpa [zM3] using h2)
  simpa using this
section
variable {X:Cx}{pins:List (Addr × Obj)}{σ:St}{H:Hp}{s:Shared}{e:Addr}{c:Value}
theorem Inv.fixed (I:Inv X pins σ H s) (W:List Str):∃ fx:List (Str × Value),(∀ p ∈ fx,p.1 ∉ W)∧(∀ p ∈ fx,∃ m,s.heap.Ns X.env.locals m∧zRc X.env s.heap m p.1 p.2) ∧
  ∀ (i:Nat) (x:Str) (v:V),X.N[i]? = some x→σ[i]? = some (some v)→Vis X.env.scope x→x ∉ W→∃ u,RelV v u∧(x,u) ∈ fx:=by
 obtain ⟨m,hn,hl⟩:=I.loc
 have key:∀ n:Nat,∃ fx:List (Str × Value),(∀ p ∈ fx,p.1 ∉ W)∧(∀ p ∈ fx,∃ m,s.heap.Ns X.env.locals m∧zRc X.env s.heap m p.1 p.2) ∧
   ∀ (i:Nat) (x:Str) (v:V),i < n→X.N[i]? = some x→σ[i]? = some (some v)→Vis X.env.scope x→x ∉ W→∃ u,RelV v u∧(x,u) ∈ fx:=by
  intro n
  induction n with
  | zero=>exact ⟨[],fun p h=>(by cases h),fun p h=>(by cases h),fun i x v h=>absurd h (Nat.not_lt_zero _)⟩
  | succ n ih =>
   obtain ⟨fx,h1,h2,h3⟩:=ih
   by_cases hx:∃ x v,X.N[n]? = some x∧σ[n]? = some (some v)∧Vis X.env.scope x∧x ∉ W
   ·obtain ⟨x,v,a1,a2,a3,a4⟩:=hx
    obtain ⟨u,r,lk⟩:=hl n x v a1 a2 a3
    refine ⟨(x,u) :: fx,fun p hp=>?_,fun p hp=>?_,fun i y v' hi b1 b2 b3 b4=>?_⟩
    ·rcases List.mem_cons.mp hp with rfl | hp
     ·exact a4
     ·exact h1 p hp
    ·rcases List.mem_cons.mp hp with rfl | hp
     ·exact ⟨m,hn,lk⟩
     ·exact h2 p hp
    ·by_cases hin:i=n
     ·subst hin
      rw [a1] at b1;cases b1
      rw [a2] at b2;cases b2
      exact ⟨u,r,List.mem_cons_self ..⟩
     ·obtain ⟨u',r',z⟩:=h3 i y v' (by omega) b1 b2 b3 b4
      exact ⟨u',r',List.mem_cons_of_mem _ z⟩
   ·refine ⟨fx,h1,h2,fun i y v' hi b1 b2 b3 b4=>?_⟩
    by_cases hin:i=n
    ·subst hin
     exact absurd ⟨y,v',b1,b2,b3,b4⟩ hx
    ·exact h3 i y v' (by omega) b1 b2 b3 b4
 obtain ⟨fx,h1,h2,h3⟩:=key X.N.length
 exact ⟨fx,h1,h2,fun i x v a1 a2 a3 a4=>h3 i x v (List.getElem?_eq_some_iff.mp a1).1 a1 a2 a3 a4⟩
theorem Inv.bod (I:Inv X pins σ H s) (hfx0:X.fx=[]) {fx:List (Str × Value)}(hf:∀ p ∈ fx,∃ m,s.heap.Ns X.env.locals m∧zRc X.env s.heap m p.1 p.2) (xe:Value→Shared→Prop):Inv (X.bod (X.pn ++ pins) fx xe) [] σ H s :=
 ⟨I.ok.bod _ _ _,I.os,I.bare,I.base,I.loc,I.cell,I.free,I.freeC,fun p hp=>I.pin p (by simpa using hp),I.hok,I.len,I.tr,hf⟩
theorem Inv.unbod {fx:List (Str × Value)}{xe:Value→Shared→Prop}(J:Inv X pins σ H s) (hfx0:X.fx=[]) {ps:List (Addr × Obj)}{σ':St}{H':Hp}{s':Shared}(I:Inv (X.bod (X.pn ++ pins) fx xe) ps σ' H' s'):Inv X pins σ' H' s' :=
 ⟨J.ok,I.os,I.bare,I.base,I.loc,I.cell,I.free,I.freeC,fun p hp=>I.pin p (List.mem_append_left _ hp),I.hok,I.len,I.tr,fun p hp=>by rw [hfx0] at hp;cases hp⟩
theorem Nw.unbod {fx:List (Str × Value)}{xe:Value→Shared→Prop}{ps:List (Addr × Obj)}{b:Addr}(n:Nw (X.bod (X.pn ++ pins) fx xe) ps H b):Nw X pins H b:=⟨n.free,n.new,n.loc,n.cel,fun p hp=>n.pin p (List.mem_append_left _ hp)⟩
theorem Nw.hnd {e':Addr}{b:Addr}(n:Nw X pins H b) (hb:b≠e') (c:Value) (o:HO):Nw (X.hnd e' c (X.pn ++ pins)) [] (upd H e' o) b:=⟨by rw [upd_ne hb];exact n.free,n.new,n.loc,n.cel,fun p hp=>n.pin p (by simpa using hp)⟩
theorem Inv.hnd (I:Inv X pins σ H s) (hfx0:X.fx=[]) (n:Nw X pins H e) {T:Addr}{cx:Value}{dd:Option Addr}(fl:Fly e T c .none cx s.heap) (ch:Chn H s.heap e cx dd):Inv (X.hnd e c (X.pn ++ pins)) [] σ (upd H e (.exc c)) s:=by
 obtain ⟨oe,vs,oT,ts,h1,h2,h3,h4,_,h5,_⟩:=fl
 refine ⟨I.ok.hnd _ _ _,I.os,I.bare,⟨I.base.keep,I.base.slot,fun b o q nb hx=>?_,I.base.there,fun b xs q=>?_,fun b o u q=>?_,fun b ps q=>?_,fun b k q=>?_⟩,I.loc,I.cell,?_,fun x k q=>?_,fun p hp=>?_,I.hok.put n.free ⟨oe,vs,h1,h2,h3,h4,?_⟩,I.len,fun p hp=>?_,fun p hp=>?_⟩
 case refine_9 =>
  rcases ch with ⟨_,rfl⟩ | ⟨b,ob,vb,_,rfl,d2,d3,d4,d5⟩
  ·exact .inl h5
  ·exact .inr ⟨b,ob,vb,h5,d2,by rw [upd_ne d2];exact d3,d4,d5⟩
 ·have hb:b≠e:=fun z=>by rw [z] at q;rw [show X.s₀.heap.get? e=none from n.new] at q;cases q
  rw [upd_ne hb];exact I.base.free b o q nb hx
 ·have:=I.base.tups b xs q;rw [upd_ne (zJ this n.free)];exact this
 ·have:=I.base.frzs b o u q;rw [upd_ne (zJ this n.free)];exact this
 ·obtain ⟨more,z⟩:=I.base.tbls b ps q;exact ⟨more,by rw [upd_ne (zJ z n.free)];exact z⟩
 ·have:=I.base.excs b k q;rw [upd_ne (zJ this n.free)];exact this
 ·rw [upd_ne (Ne.symm n.loc)];exact I.free
 ·rw [upd_ne (n.cel x k q)];exact I.freeC x k q
 ·have hp':p ∈ X.pn ++ pins:=by simpa using hp
  obtain ⟨a1,a2,a3⟩:=I.pin p hp'
  exact ⟨a1,by rw [upd_ne (n.pin p hp')];exact a2,a3⟩
 ·rcases List.mem_cons.mp hp with rfl | hp
  ·exact zB
  ·have:=I.tr p hp;rw [upd_ne (zJ this n.free)];exact this
 ·have hp':p ∈ X.fx:=hp
  rw [hfx0] at hp';cases hp'
theorem Inv.offh (J:Inv X pins σ H s) (hfx0:X.fx=[]) {σ':St}{H':Hp}{s':Shared}(I:Inv (X.hnd e c (X.pn ++ pins)) [] σ' H' s'):Inv X pins σ' H' s' :=
 ⟨J.ok,I.os,I.bare,I.base,I.loc,I.cell,I.free,I.freeC,fun p hp=>I.pin p (List.mem_append_left _ hp),I.hok,I.len,fun p hp=>I.tr p (List.mem_cons_of_mem _ hp),fun p hp=>by rw [hfx0] at hp;cases hp⟩
theorem Inv.known {fx:List (Str × Value)}{xe:Value→Shared→Prop}{W:List Str}(J:Inv X pins σ H s) (hfx0:X.fx=[]) (hk:∀ (i:Nat) (x:Str) (v:V),X.N[i]? = some x→σ[i]? = some (some v)→Vis X.env.scope x→x ∉ W→∃ u,RelV v u∧(x,u) ∈ fx)
  {ps:List (Addr × Obj)}{σ':St}{H':Hp}{s':Shared} (I:Inv (X.bod (X.pn ++ pins) fx xe) ps σ' H' s'):Inv X pins (zM3 W X.N σ) H' s':=by
 have I':=J.unbod hfx0 I
 obtain ⟨m,hn,_⟩:=I'.loc
 refine ⟨I'.ok,I'.os,I'.bare,I'.base,⟨m,hn,fun i x v a1 a2 a3=>?_⟩,I'.cell,I'.free,I'.freeC,I'.pin,I'.hok,by rw [zKu];exact J.len,I'.tr,I'.fix⟩
 obtain ⟨b1,b2⟩:=zKv a1 a2
 obtain ⟨u,r,hm⟩:=hk i x v a1 b1 a3 b2
 obtain ⟨m1,hn1,lk⟩:=I.fix (x,u) hm
 have em:=zM0 hn1 hn
 subst em
 exact ⟨u,r,lk⟩
end
def zSu (X:Cx) (C0:Addr) (W:List Str) (th:TS) (D:Ends) (σ:St):XK:=fun c _ H=>(∃ C,c=.ref C∧PySem.W.mroIn X.K C (.ref C0)=some true)∧∀ e,H e=none→th D (zM3 W X.N σ) (upd H e (.exc c))
def zSw (X:Cx) (C0:Addr) (W:List Str) (tb:XK→TS) (th:TS):TS:=fun D σ H=>tb (zSu X C0 W th D σ) D σ H
section
variable {X:Cx}{C0:Addr}{x n:Str}{np hpos pos:Pos}{i:Nat}{W:List Str}{body suite:List Stmt}{b₀:Stmt}{tb:XK→TS}{th:TS}
def zUe (X:Cx) (pins:List (Addr × Obj)) (D:Ends) (hpos:Pos):Option Str→Flow→Shared→Prop
 | none,f,s=>SP X pins D f s
 | some n,f,s=>wpAny (model X.prog X.w) X.A (do bindName X.env n .none;unbindBehindTheSuite X.env n hpos) (fun _ s₃=>SP X pins D f s₃) X.xe s
theorem try_core {name:Option Str}{pins:List (Addr × Obj)}{s:Shared}{σ:St}{H:Hp}{D:Ends}{E:XK}(hst:X.stack=X.env :: X.outer) (hfr:X.env.frame=some X.env.locals) (hex:X.ex=[]) (hfx0:X.fx=[])
  (hg:Gl X x) (hm:X.mg x=some (.ref C0)) (hk:CatK X.K C0) (hE:∀ c d H,E c d H→∃ C,c=.ref C∧PySem.W.mroIn X.K C (.ref C0)=some true)
  (hb:∀ Ex pn fx xe,(∀ p ∈ fx,p.1 ∉ W)→Out (X.bod pn fx xe) Ex→PSs (X.bod pn fx xe) body (tb Ex)) (hdb:(x == ("__debug__" : Str))=false) (I:Inv X pins σ H s) (h:tb E D σ H)
  (hs:∀ (e T C:Addr) (cx:Value) (d:Option Addr) (H':Hp) (s3:Shared),Inv X pins (zM3 W X.N σ) H' s3→Nw X pins H' e→Nw X pins H' T→T≠e→E (.ref C) d H'→Fly e T (.ref C) .none cx s3.heap→Chn H' s3.heap e cx d →
   codeAny (model X.prog X.w) (X.A.mark (some (.ref e))) (.handlers (.ref e) [.ExceptHandler none name (b₀ :: suite) hpos] X.env) (fun r s₂=>match r with
     | .ok f=>zUe X pins D hpos name f s₂
     | .error x=>cameBackBy (model X.prog X.w) X.A X.env X.xe x s₂) s3) :
  wpAny (model X.prog X.w) X.A (exec (.Try body [.ExceptHandler (some (.Name x np)) name (b₀ :: suite) hpos] [] [] pos) X.env) (SP X pins D) X.xe s:=by
 obtain ⟨fx,fx1,fx2,fx3⟩:=I.fixed W
 have O:Out (X.bod (X.pn ++ pins) fx fun v s1=>∃ a cls d H',v=.ref a∧Inv X pins (zM3 W X.N σ) H' s1∧Air X pins H' a cls d s1.heap∧E cls d H') E:=by
  intro ps σ' H' s' a cls d J air q
  obtain ⟨air1,cx,ch,air2⟩:=air
  refine ⟨a,cls,d,H',rfl,I.known hfx0 fx3 J,⟨air1.unbod,cx,ch,?_⟩,q⟩
  rcases air2 with z | ⟨T,fl,z1,z3,z2⟩
  ·exact .inl z
  ·exact .inr ⟨T,fl,z1,z3,z2.unbod⟩
 refine wpAny_Try_except (wpAny_mono (hb _ _ _ _ fx1 O [] s σ H D (I.bod hfx0 fx2 _) h) (fun f s1 q=>?_) fun v s1 q=>?_)
 ·cases f with
  | next=>obtain ⟨σ',H',J,q⟩:=q;exact wpAny_execs_nil ⟨σ',H',I.unbod hfx0 J,q⟩
  | brk=>obtain ⟨σ',H',J,q⟩:=q;exact ⟨σ',H',I.unbod hfx0 J,q⟩
  | cont=>obtain ⟨σ',H',J,q⟩:=q;exact ⟨σ',H',I.unbod hfx0 J,q⟩
  | ret u=>obtain ⟨v,σ',H',J,r,q⟩:=q;exact ⟨v,σ',H',I.unbod hfx0 J,r,q⟩
 ·obtain ⟨e,c,d,H',rfl,J,air,qE⟩:=q
  obtain ⟨C,rfl,hmro⟩:=hE _ _ _ qE
  refine zIo J rfl hst hfr hex air fun h' T cx J1 fl ch nT ne=>?_
  have hTe:T≠e:=by obtain ⟨_,_,_,_,_,_,_,_,_,_,z,_⟩:=id fl;exact z
  have Ih:=J1.hnd hfx0 ne fl ch
  refine wpAny_handleBy_cons (codeAny_handlers_test (zEo (X:=X.hnd e (.ref C) (X.pn ++ pins)) Ih hg hm ?_ hdb)) (by intro q;cases q)
  obtain ⟨oe,_,_,_,h1,h2,_⟩:=id fl
  refine zJy Ih.kIn hk h1 h2 hmro ?_
  show codeAny _ _ (.handlers _ [.ExceptHandler none name (b₀ :: suite) hpos] _) _ _
  refine codeAny_mono (hs e T C cx d H' _ J1 ne nT hTe qE fl ch) fun r s2 hq=>?_
  cases r with
  | error x=>exact hq
  | ok f=>cases name <;> exact hq
theorem zP8 (W:List Str) (hst:X.stack=X.env :: X.outer) (hfr:X.env.frame=some X.env.locals) (hex:X.ex=[]) (hfx0:X.fx=[])
  (hg:Gl X x) (hm:X.mg x=some (.ref C0)) (hk:CatK X.K C0)
  (hb:∀ Ex pn fx xe,(∀ p ∈ fx,p.1 ∉ W)→Out (X.bod pn fx xe) Ex→PSs (X.bod pn fx xe) body (tb Ex)) (hh:∀ e c pn,PSs (X.hnd e c pn) (b₀ :: suite) th) (hdb:(x == ("__debug__" : Str))=false:=by decide) :
  PS X (.Try body [.ExceptHandler (some (.Name x np)) none (b₀ :: suite) hpos] [] [] pos) (zSw X C0 W tb th):=by
 intro pins s σ H D I h
 refine try_core hst hfr hex hfx0 hg hm hk (fun c d H z=>z.1) hb hdb I h fun e T C cx d H' s3 J1 ne nT hTe qE fl ch=>?_
 have Ih:=J1.hnd hfx0 ne fl ch
 refine codeAny_handlers_suite ?_
 refine flight_none fl fun h2 mv2 fl2=>?_
 have Ih2:=Ih.mvd (mv2.mono (fun b z=>nomatch z) fun b z=>z) fun b hb=>by rw [List.mem_singleton.mp hb];exact nT.hnd hTe _ _
 refine wpAny_mono (hh e (.ref C) (X.pn ++ pins) [] _ _ _ D Ih2 (qE.2 e ne.free)) (fun f s4 q=>?_) fun _ _ z=>z.elim
 cases f with
 | next=>obtain ⟨σ4,H4,I4,q⟩:=q;exact ⟨_,_,J1.offh hfx0 I4,q⟩
 | brk=>obtain ⟨σ4,H4,I4,q⟩:=q;exact ⟨_,_,J1.offh hfx0 I4,q⟩
 | cont=>obtain ⟨σ4,H4,I4,q⟩:=q;exact ⟨_,_,J1.offh hfx0 I4,q⟩
 | ret u=>obtain ⟨v,σ4,H4,I4,r,q⟩:=q;exact ⟨v,_,_,J1.offh hfx0 I4,r,q⟩
end
end L2
namespace L2
open PySem PySem.Spec PyProof.Rows
theorem Fun.okE {P:Program}{w:World}{K:PySem.W.Frag}{mg:Str→Option Value}{base:Heap}{x qual:Str}{st:Stmt}{f:Addr}{fd:FuncData}{N ps:List Str}{k:Nat}{sp:Sp}(F:Fun K x qual st f fd) (S:FnScope N ps (zD st)) (len:∀ vs H Q E,sp vs H Q E→vs.length=ps.length)
  (hbody:∀ (cdv:Value) (A:Around) (outer:List Env) (s:Shared) (H:Hp) (vs:List V) (Q:VK) (E:XK),Room k (A.deeper (envOfC qual (zD st) s.heap.objs.size f cdv))→A.handled=none→sp vs H Q E →
   ∃ t,PSs (zNy (CXE P w) P w K mg base N qual (zD st) f cdv A outer s H E) (zL st) t∧t { nx:=fun _ H'=>Q .non H',rt:=Q } (zE7 N vs) H):FnOk P w K mg base (CXE P w) (k + 1) f fd ps sp:=by
 obtain ⟨oc,od,kV,doc,pm,an,cdv,ct,osl,rfl,lk,hcd⟩:=F.ex
 exact zSh lk hcd S len fun A outer s H vs Q E hr hc hsp=>hbody cdv A outer s H vs Q E hr (zQ5 s hc) hsp
end L2
end
section
namespace L2
open PySem PySem.Spec PyProof.Rows
section
variable {M:Model}{A:Around}{E:Value→Shared→Prop}{s:Shared}
end
section
variable {prog:Program}{w:World}{A:Around}{E:Value→Shared→Prop}{s:Shared}{env:Env}
variable {nm q:Str}{C N:Addr}{bs bm bmB:List Value}{hdct:Bool}{sn:List Str}{sub:List Value}{ab:Bool}{col:Option Bool}{dd:Option Addr}{k0 k1 k2 k3 k5:Option Value}{B newId initId:String}
end
section
variable {X:Cx}{C0 C1:Addr}{x x1 z:Str}{np np1 hpos pos cpos pos1 cp zp:Pos}{j j2:Nat}{W:List Str}{body:List Stmt}{tb:XK→TS}{E:XK}
end
end L2
end
section
namespace L2
open PySem PySem.Spec PyProof.Rows
section
variable {κ:Type} [DecidableEq κ]
def valV (kvs:List (κ × V)) (k:κ):Option V:=(kvs.find? fun kv=>decide (kv.1=k)).map (·.2)
def zFx (kvs:List (κ × V)) (k:κ) (v:V):List (κ × V) :=
 if (kvs.any fun kv=>decide (kv.1=k))=true then kvs.map (fun kv=>if kv.1=k then (kv.1,v) else kv) else kvs ++ [(k,v)]
theorem zA1 {p:κ × V}{r:List (κ × V)}{k:κ}(e:p.1=k):valV (p :: r) k=some p.2:=by simp [valV,List.find?_cons,e]
theorem zA2 {p:κ × V}{r:List (κ × V)}{k:κ}(e:¬ p.1=k):valV (p :: r) k=valV r k:=by simp [valV,List.find?_cons,e]
theorem zDq (k:κ):∀ kvs:List (κ × V),(kvs.any fun kv=>decide (kv.1=k))=(valV kvs k).isSome
 | []=>rfl
 | p :: r=>by
  rw [List.any_cons]
  by_cases e:p.1=k
  ·simp only [zA1 e,decide_eq_true e,Bool.true_or,Option.isSome_some]
  ·rw [zA2 e,decide_eq_false e,Bool.false_or];exact zDq k r
theorem zJ8 (k j:κ) (y:V):∀ kvs:List (κ × V),valV (kvs.map fun kv=>if kv.1=k then (kv.1,y) else kv) j=(valV kvs j).map fun x=>if j=k then y else x
 | []=>rfl
 | p :: r=>by
  have ih:=zJ8 k j y r
  rw [List.map_cons]
  by_cases h:p.1=k
  ·rw [if_pos h]
   by_cases e:p.1=j
   ·rw [zA1 (p:=(p.1,y)) e,zA1 e,Option.map_some,if_pos (e.symm.trans h)]
   ·rw [zA2 (p:=(p.1,y)) e,zA2 e,ih]
  ·rw [if_neg h]
   by_cases e:p.1=j
   ·rw [zA1 (p:=p) e,zA1 e,Option.map_some,if_neg (fun z=>h (e.trans z))]
   ·rw [zA2 (p:=p) e,zA2 e,ih]
theorem zH2 (k j:κ) (y:V):∀ kvs:List (κ × V),valV kvs k=none→valV (kvs ++ [(k,y)]) j=if j=k then some y else valV kvs j
 | [],_=>by
  by_cases e:k=j
  ·rw [if_pos e.symm];exact zA1 (p:=(k,y)) e
  ·rw [if_neg (fun z=>e z.symm)];exact zA2 (p:=(k,y)) e
 | p :: r,hn=>by
  rw [List.cons_append]
  have hk:¬ p.1=k:=fun z=>by rw [zA1 z] at hn;cases hn
  rw [zA2 hk] at hn
  have ih:=zH2 k j y r hn
  by_cases e:p.1=j
  ·rw [zA1 e,zA1 e,if_neg (fun z=>hk (e.trans z))]
  ·rw [zA2 e,zA2 e,ih]
theorem zG1 (kvs:List (κ × V)) (k j:κ) (y:V):valV (zFx kvs k y) j=if j=k then some y else valV kvs j:=by
 unfold zFx
 by_cases a:(kvs.any fun kv=>decide (kv.1=k))=true
 ·rw [if_pos a,zJ8]
  rw [zDq] at a
  by_cases e:j=k
  ·obtain ⟨x,hx⟩:=Option.isSome_iff_exists.mp a
   rw [if_pos e,e,hx,Option.map_some,if_pos rfl]
  ·rw [if_neg e]
   cases valV kvs j with
   | none=>rfl
   | some x=>rw [Option.map_some,if_neg e]
 ·rw [if_neg a]
  refine zH2 k j y kvs ?_
  rw [zDq] at a
  cases q:valV kvs k with
  | none=>rfl
  | some x=>rw [q] at a;exact (a rfl).elim
theorem zDo (kvs:List (κ × V)) (k:κ) (v:V):(zFx kvs k v).length≤kvs.length + 1:=by
 unfold zFx
 split
 ·rw [List.length_map];omega
 ·rw [List.length_append,List.length_cons,List.length_nil];omega
theorem RelO.isSome_eq {o:Option V}{u:Option Value}(r:RelO o u):o.isSome=u.isSome:=by
 cases o with
 | none=>cases u with
  | none=>rfl
  | some _=>exact (show False from r).elim
 | some _=>cases u with
  | none=>exact (show False from r).elim
  | some _=>rfl
theorem KV.val {kvs:List (κ × V)}{vs:List (κ × Value)}(r:KV kvs vs) (k:κ):RelO (valV kvs k) (valueAt vs k):=by
 unfold KV at r
 induction r with
 | nil=>exact True.intro
 | @cons p q ps qs h t ih =>
  obtain ⟨h1,h2⟩:=h
  by_cases e:p.1=k
  ·have e':q.1=k:=h1.symm.trans e
   have b:valueAt (q :: qs) k=some q.2:=by simp [valueAt,List.find?_cons,e']
   rw [zA1 e,b];exact h2
  ·have e':¬ q.1=k:=fun z=>e (h1.trans z)
   have b:valueAt (q :: qs) k=valueAt qs k:=by simp [valueAt,List.find?_cons,e']
   rw [zA2 e,b];exact ih
theorem KV.any {kvs:List (κ × V)}{vs:List (κ × Value)}(r:KV kvs vs) (k:κ):(kvs.any fun kv=>decide (kv.1=k))=vs.any fun kv=>decide (kv.1=k):=by
 unfold KV at r
 induction r with
 | nil=>rfl
 | cons h t ih=>rw [List.any_cons,List.any_cons,ih,h.1]
theorem KV.repl {kvs:List (κ × V)}{vs:List (κ × Value)}(r:KV kvs vs) (k:κ) {y:V}{u:Value}(ry:RelV y u) :
  KV (kvs.map fun kv=>if kv.1=k then (kv.1,y) else kv) (vs.map fun kv=>if kv.1=k then (kv.1,u) else kv):=by
 unfold KV at r ⊢
 induction r with
 | nil=>exact .nil
 | @cons p q ps qs h t ih =>
  rw [List.map_cons,List.map_cons]
  refine .cons ?_ ih
  obtain ⟨h1,h2⟩:=h
  by_cases e:p.1=k
  ·rw [if_pos e,if_pos (h1.symm.trans e)];exact ⟨h1,ry⟩
  ·rw [if_neg e,if_neg (fun z=>e (h1.trans z))];exact ⟨h1,h2⟩
theorem KV.put {kvs:List (κ × V)}{vs:List (κ × Value)}(r:KV kvs vs) (k:κ) {y:V}{u:Value}(ry:RelV y u):KV (zFx kvs k y) (stored vs k u):=by
 unfold zFx stored
 rw [r.any k]
 by_cases e:(vs.any fun kv=>decide (kv.1=k))=true
 ·rw [if_pos e,if_pos e];exact r.repl k ry
 ·rw [if_neg e,if_neg e];exact Paired.snoc r ⟨rfl,ry⟩
theorem KV.keys {kvs:List (κ × V)}{vs:List (κ × Value)}(r:KV kvs vs):kvs.map (·.1)=vs.map (·.1):=by
 unfold KV at r
 induction r with
 | nil=>rfl
 | cons h t ih=>rw [List.map_cons,List.map_cons,ih,h.1]
theorem KV.length {kvs:List (κ × V)}{vs:List (κ × Value)}(r:KV kvs vs):kvs.length=vs.length:=Paired.length r
end
theorem zNc {P:Program}{w:World}{k:Key}{u:Value}(r:RelV (kV k) u):(zAh P w).is k u=true:=by
 cases k with
 | inl i=>obtain ⟨t,e⟩:=(show ∃ t,u=Value.int i t from r);subst e;exact zJu P w i t
 | inr x=>obtain ⟨t,e⟩:=(show ∃ t,u=Value.str x t from r);subst e;exact zJt P w x t
theorem zIs {P:Program}{w:World}:∀ {ks:List Key}{us:List Value},Vals (ks.map kV) us→ItemsAre (zAh P w) ks us
 | [],_,r=>by rw [List.map_nil] at r;cases r;exact .nil
 | k :: ks,_,r=>by
  rw [List.map_cons] at r
  cases r with
  | cons h t=>exact .cons (zNc h) (zIs t)
abbrev KT (H:Hp):List (List Key × V)→List (List Key × Addr × Value)→Prop:=Paired fun p q=>p.1=q.1∧H q.2.1=some (.tup (p.1.map kV))∧RelV p.2 q.2.2
theorem KT.val {H:Hp}{kvs:List (List Key × V)}{xs:List (List Key × Addr × Value)}(r:KT H kvs xs) (k:List Key):RelO (valV kvs k) ((atKey xs k).map (·.2)):=by
 induction r with
 | nil=>exact True.intro
 | @cons p q ps qs h t ih =>
  obtain ⟨h1,_,h2⟩:=h
  by_cases e:p.1=k
  ·have e':q.1=k:=h1.symm.trans e
   have b:atKey (q :: qs) k=some q.2:=by simp [atKey,List.find?_cons,e']
   rw [zA1 e,b];exact h2
  ·have e':¬ q.1=k:=fun z=>e (h1.trans z)
   have b:atKey (q :: qs) k=atKey qs k:=by simp [atKey,List.find?_cons,e']
   rw [zA2 e,b];exact ih
theorem KT.repl {H:Hp}{kvs:List (List Key × V)}{xs:List (List Key × Addr × Value)}(r:KT H kvs xs) (k:List Key) {y:V}{u:Value}(ry:RelV y u) :
  KT H (kvs.map fun kv=>if kv.1=k then (kv.1,y) else kv) (xs.map (putAt k u)):=by
 induction r with
 | nil=>exact .nil
 | @cons p q ps qs h t ih =>
  rw [List.map_cons,List.map_cons]
  refine .cons ?_ ih
  obtain ⟨h1,h2,h3⟩:=h
  unfold putAt
  by_cases e:p.1=k
  ·rw [if_pos e,if_pos (h1.symm.trans e)];exact ⟨h1,h2,ry⟩
  ·rw [if_neg e,if_neg (fun z=>e (h1.trans z))];exact ⟨h1,h2,h3⟩
theorem KT.put {H:Hp}{kvs:List (List Key × V)}{xs:List (List Key × Addr × Value)}(r:KT H kvs xs) (k:List Key) {b:Addr}{y:V}{u:Value}(hb:H b=some (.tup (k.map kV))) (ry:RelV y u) :
  KT H (zFx kvs k y) (storedH xs k b u):=by
 have e:(kvs.any fun kv=>decide (kv.1=k))=(atKey xs k).isSome:=by
  rw [zDq,(r.val k).isSome_eq,Option.isSome_map]
 unfold zFx storedH
 rw [e]
 by_cases q:(atKey xs k).isSome=true
 ·rw [if_pos q,if_pos q];exact r.repl k ry
 ·rw [if_neg q,if_neg q];exact Paired.snoc r ⟨rfl,hb,ry⟩
theorem KT.keeps {H H':Hp}{kvs:List (List Key × V)}{xs:List (List Key × Addr × Value)}(r:KT H kvs xs) (ht:∀ b ys,H b=some (.tup ys)→H' b=some (.tup ys)):KT H' kvs xs :=
 Paired.mapP r fun _ _ z=>⟨z.1,ht _ _ z.2.1,z.2.2⟩
section
variable {P:Program}{w:World}{H:Hp}{h:Heap}{a:Addr}
theorem zRp {u:HO}(ok:HOk P w H h) (e:Rd H a u):ObjOk P w H h a u:=e.ok ok
theorem zPd {kvs:List (Key × V)}(ok:HOk P w H h) (e:Rd H a (.dK kvs)):kvs.length≤sizeLine∧(a == sysModules)=false∧∃ vs,KV kvs vs∧h.DictOf (zAh P w) a vs :=
 show ObjOk P w H h a (.dK kvs) from zRp ok e
theorem zQ4 {kvs:List (Key × V)}(ok:HOk P w H h) (e:H a=some (.dK kvs)):kvs.length≤sizeLine∧(a == sysModules)=false∧∃ vs,KV kvs vs∧h.DictOf (zAh P w) a vs:=zPd ok (.inl e)
theorem zKx {ks:List Key}(ok:HOk P w H h) (e:H a=some (.tup (ks.map kV))):(tupleKind (zAh P w)).is h ks a:=by
 obtain ⟨_,its,r,o,h1,h2,n,h3⟩:=(show ObjOk P w H h a (.tup (ks.map kV)) from ok a _ e)
 exact ⟨o,its.toArray,n,h1,h2,h3,by simpa using zIs r⟩
theorem zPc {kvs:List (List Key × V)}(ok:HOk P w H h) (e:Rd H a (.dT kvs)):kvs.length≤sizeLine∧(a == sysModules)=false ∧
  ∃ xs,KT H kvs xs∧h.DictOfH (tupleKind (zAh P w)) a xs:=by
 obtain ⟨z,y,xs,r,o,es,ep,h1,h2,h3,h4,h5⟩:=(show ObjOk P w H h a (.dT kvs) from zRp ok e)
 refine ⟨z,y,xs,r,o,es,ep,h1,h2,h3,h4,fun x hx=>?_,h5⟩
 have all:∀ {l:List (List Key × V)}{m:List (List Key × Addr × Value)},KT H l m→∀ x ∈ m,(tupleKind (zAh P w)).is h x.1 x.2.1:=by
  intro l m q
  induction q with
  | nil=>intro x hx;exact nomatch hx
  | @cons p q ps qs hq t ih =>
   intro x hx
   rcases List.mem_cons.mp hx with e | hx
   ·subst e
    exact zKx ok (by rw [← hq.1];exact hq.2.1)
   ·exact ih x hx
 exact all r x hx
theorem zTj {kvs:List (List Key × V)}(ok:HOk P w H h) (e:H a=some (.dT kvs)):kvs.length≤sizeLine∧(a == sysModules)=false ∧
  ∃ xs,KT H kvs xs∧h.DictOfH (tupleKind (zAh P w)) a xs:=zPc ok (.inl e)
end
def DGet (H:Hp) (a:Addr) (y:V) (r:Option V):Prop :=
 (∃ kvs k,Rd H a (.dK kvs)∧y=kV k∧r=valV kvs k)∨∃ kvs k b,Rd H a (.dT kvs)∧y=.ref b∧H b=some (.tup (k.map kV))∧r=valV kvs k
def DPut (H:Hp) (a:Addr) (y v:V) (H':Hp):Prop :=
 (∃ kvs k,H a=some (.dK kvs)∧y=kV k∧kvs.length < sizeLine∧H'=upd H a (.dK (zFx kvs k v))) ∨
 ∃ kvs k b,H a=some (.dT kvs)∧y=.ref b∧H b=some (.tup (k.map kV))∧kvs.length < sizeLine∧H'=upd H a (.dT (zFx kvs k v))
theorem DGet.k {H:Hp}{a:Addr}{kvs:List (Key × V)}{k:Key}(e:H a=some (.dK kvs)):DGet H a (kV k) (valV kvs k):=.inl ⟨kvs,k,.inl e,rfl,rfl⟩
theorem DPut.k {H:Hp}{a:Addr}{kvs:List (Key × V)}{k:Key}{v:V}(e:H a=some (.dK kvs)) (hl:kvs.length < sizeLine):DPut H a (kV k) v (upd H a (.dK (zFx kvs k v))):=.inl ⟨kvs,k,e,rfl,hl,rfl⟩
section
variable {X:Cx}{pins:List (Addr × Obj)}{σ:St}{H:Hp}{s:Shared}{a:Addr}{y v:V}{u r:Value}{o:Option V}{A:Around}{E:Value→Shared→Prop}
theorem Inv.big (I:Inv X pins σ H s):sysModules < s.heap.objs.size:=by
 have h:mainGlobals < s.heap.objs.size:=(I.mod.glob.keeps I.bk).lt
 exact Nat.lt_trans (by decide) h
theorem zNx {Q:Value→Shared→Prop}(hu:A.units + 1 < cLine) (I:Inv X pins σ H s) (g:DGet H a y (some v)) (ry:RelV y u) (h:∀ w' s',Inv X pins σ H s'→RelV v w'→Q w' s') :
  wpAny (model X.prog X.w) A (getItem (.ref a) u) Q E s:=by
 rcases g with ⟨kvs,k,e,ey,l⟩ | ⟨kvs,k,b,e,ey,eb,l⟩
 ·subst ey
  obtain ⟨z,hd,vs,rel,dd⟩:=zPd I.hok e
  obtain ⟨w',hw,rw'⟩:=RelO.some_of (v:=v) (o:=valueAt vs k) (by rw [l];exact rel.val k)
  exact wpAny_getItem_of (zNc ry) dd.mapOf hw (h w' _ (I.tok _) rw')
 ·subst ey
  cases (show u=Value.ref b from ry)
  obtain ⟨z,hd,xs,rel,dd⟩:=zPc I.hok e
  obtain ⟨w',hw,rw'⟩:=RelO.some_of (v:=v) (o:=(atKey xs k).map (·.2)) (by rw [l];exact rel.val k)
  obtain ⟨p,hp,hp2⟩:=Option.map_eq_some_iff.mp hw
  refine wpAny_getItem_heap (tupleKind_room_in1 hu) (zKx I.hok eb) dd hp ?_
  rw [hp2]
  exact h w' _ (I.tok _) rw'
theorem zUc {Q:Value→Shared→Prop}(hu:A.units + 1 < cLine) (I:Inv X pins σ H s) (g:DGet H a y o) (ry:RelV y u) (h:∀ s',Inv X pins σ H s'→Q (.bool o.isSome) s') :
  wpAny (model X.prog X.w) A (compareOp .In u (.ref a)) Q E s:=by
 rcases g with ⟨kvs,k,e,ey,l⟩ | ⟨kvs,k,b,e,ey,eb,l⟩
 ·subst ey
  obtain ⟨z,hd,vs,rel,dd⟩:=zPd I.hok e
  refine wpAny_in_of (zNc ry) hd dd.mapOf ?_
  rw [← (rel.val k).isSome_eq,← l]
  exact h _ (I.tok _)
 ·subst ey
  cases (show u=Value.ref b from ry)
  obtain ⟨z,hd,xs,rel,dd⟩:=zPc I.hok e
  refine wpAny_in_heap (tupleKind_room_in1 hu) (zKx I.hok eb) hd dd ?_
  have q:=(rel.val k).isSome_eq
  rw [Option.isSome_map] at q
  rw [← q,← l]
  exact h _ (I.tok _)
theorem zJ0 {h':Heap}{t':Nat}{ob:HO}(I:Inv X pins σ H s) (mu:Mut (H a)) (hs:Heap.SameBut a s.heap h') (he:∃ q,h'.get? a=some q) (new:ObjOk X.prog X.w (upd H a ob) h' a ob) :
  Inv X pins σ (upd H a ob) { s with heap:=h',toks:=t' } :=
 I.write (x:=a) (e:=a) mu (.inl rfl) (fun b q hb z=>(hs.2 b hb).trans z) he new
theorem zPp {P:Program}{w:World}{H':Hp}{h':Heap}{kvs:List (Key × V)}{vs:List (Key × Value)}(z:kvs.length≤sizeLine) (hd:(a == sysModules)=false) (rel:KV kvs vs) (dd:h'.DictOf (zAh P w) a vs) :
  ObjOk P w H' h' a (.dK kvs):=⟨z,hd,vs,rel,dd⟩
theorem zNw {H':Hp}{Q:Unit→Shared→Prop}(hu:A.units + 1 < cLine) (I:Inv X pins σ H s) (g:DPut H a y v H') (ry:RelV y u) (rv:RelV v r) (h:∀ s',Inv X pins σ H' s'→Q () s') :
  wpAny (model X.prog X.w) A (setItem (.ref a) u r) Q E s:=by
 rcases g with ⟨kvs,k,e,ey,l,eH⟩ | ⟨kvs,k,b,e,ey,eb,l,eH⟩
 ·subst ey eH
  obtain ⟨z,hd,vs,rel,dd⟩:=zQ4 I.hok e
  have hz:vs.length≤sizeLine:=by rw [← rel.length];exact z
  have hl:(zFx kvs k v).length≤sizeLine:=by have:=zDo kvs k v;omega
  refine wpAny_setItem_pairs (hsz:=hz) (zNc ry) dd fun h' dd' hs=>h _ ?_
  have he:∃ q,h'.get? a=some q:=let ⟨q,_,_,hq,_⟩:=dd';⟨q,hq⟩
  exact zJ0 I (by rw [e];exact True.intro) hs he (zPp hl hd (rel.put k rv) dd')
 ·subst ey eH
  cases (show u=Value.ref b from ry)
  obtain ⟨z,hd,xs,rel,dd⟩:=zTj I.hok e
  have hz:xs.length≤sizeLine:=by rw [← Paired.length rel];exact z
  have hl:(zFx kvs k v).length≤sizeLine:=by have:=zDo kvs k v;omega
  refine wpAny_setItem_heap (hsz:=hz) (tupleKind_room_in1 hu) (zKx I.hok eb) dd fun h' dd' hs=>h _ ?_
  obtain ⟨q,es,ep,hq,h2,h3,h4,_,h5⟩:=dd'
  refine zJ0 I (by rw [e];exact True.intro) hs ⟨q,hq⟩ ⟨hl,hd,_,(rel.put k eb rv).keeps fun c ys ec=>?_,q,es,ep,hq,h2,h3,h4,h5⟩
  rw [upd_ne (ze ec e (fun z=>nomatch z))]
  exact ec
end
section
variable {X:Cx}{pins:List (Addr × Obj)}{σ:St}{H:Hp}{s:Shared}{a:Addr}{kvs:List (Key × V)}{k:Key}{u:Value}{A:Around}{E:Value→Shared→Prop}
end
def zT0 (i:Expr):Prop:=∀ ov iv,subscripted i false ov iv=operate [ov,iv] (getItem ov iv)
theorem subD_of {prog:Program}{w:World}{A:Around}{E:Value→Shared→Prop}{s:Shared}{env:Env}{value slice:Expr}{pos:Pos}{T id:String}{Q:Value→Shared→Prop}
  (hl:typeLookup (.type T) "__getitem__" = pure (some (.builtin id))) (hs:zT0 slice)
  (h:wpAny (model prog w) A (eval value env) (fun o s₁=>wpAny (model prog w) A (eval slice env) (fun i s₂=>s₂.TypeIs o T∧wpAny (model prog w) A (getItem o i) Q E s₂) E s₁) E s) :
  wpAny (model prog w) A (eval (.Subscript value slice pos) env) Q E s:=by
 refine Subscript_ (wpAny_mono h (fun o s₁ h₁=>wpAny_mono h₁ (fun i s₂ h₂=>?_) fun _ _ x=>x) fun _ _ x=>x)
 obtain ⟨hT,h₂⟩:=h₂
 unfold subscriptTail
 refine wpAny_bind ?_
 rw [getitemInPython_of_ne hT.not_modules]
 refine wpAny_bind (wpAny_specialOf hT hl ?_)
 have fin:wpAny (model prog w) A (subscripted slice false o i) (fun r s₃=>wpAny (model prog w) A (letTemporaryGo value o r >>= fun _=>pure r) Q E s₃) E s₂:=by
  rw [hs o i]
  exact wpAny_operating (wpAny_mono h₂ (fun r s₃ h₃=>wpAny_bind (wpAny_letTemporaryGo (wpAny_pure h₃))) fun _ _ x=>x)
 first
  | exact wpAny_pure (wpAny_bind fin)
  | exact wpAny_bind (wpAny_pure (wpAny_bind fin))
  | exact wpAny_bind fin
theorem zJz {X:Cx}{pins:List (Addr × Obj)}{σ:St}{H:Hp}{s:Shared}{a:Addr}{y:V}{o:Option V}(I:Inv X pins σ H s) (g:DGet H a y o):s.TypeIs (.ref a) "dict" := by
 rcases g with ⟨kvs,k,e,_,_⟩ | ⟨kvs,k,b,e,_,_,_⟩
 ·obtain ⟨_,_,vs,_,dd⟩:=zPd I.hok e
  exact dd.typeIs
 ·obtain ⟨_,_,xs,_,dd⟩:=zPc I.hok e
  exact dd.typeIs
inductive tDGet' (Q:VK) (x:V) (y:V) (H2:Hp):Prop
 | mk:∀ a v,(x=.ref a)→(DGet H2 a y (some v))→(Q v H2)→tDGet' Q x y H2
def zS4 (td ty:TE):TE:=fun σ H Q=>td σ H fun x H1=>ty σ H1 fun y H2=>tDGet' Q x y H2
inductive tDIn' (Q:VK) (y:V) (x:V) (H2:Hp):Prop
 | mk:∀ a o,(x=.ref a)→(DGet H2 a y o)→(Q (.bl o.isSome) H2)→tDIn' Q y x H2
def zT4 (ty td:TE):TE:=fun σ H Q=>ty σ H fun y H1=>td σ H1 fun x H2=>tDIn' Q y x H2
inductive sDPut' (D:Ends) (σ:St) (v:V) (x:V) (y:V) (H3:Hp):Prop
 | mk:∀ a H4,(x=.ref a)→(DPut H3 a y v H4)→(D.nx σ H4)→sDPut' D σ v x y H3
def zS7 (td ty tv:TE):TS:=fun D σ H=>tv σ H fun v H1=>td σ H1 fun x H2=>ty σ H2 fun y H3=>sDPut' D σ v x y H3
section
variable {X:Cx}{o i e value:Expr}{pos pos' tpos:Pos}{td ty tv:TE}
theorem zEl (hu:X.A.units + 1 < cLine) (ho:PE X o td) (hi:PE X i ty) (hs:zT0 i):PE X (.Subscript o i pos) (zS4 td ty):=by
 intro pins s σ H Q I h
 refine subD_of PySem.F.slot_dict_getitem.lookup hs (thn (ho pins s σ H _ I h) fun u s1 ⟨x,H1,I1,rx,q1⟩=>thn (hi pins s1 σ H1 _ I1 q1) fun iv s2 ⟨y,H2,I2,ry,a,v,ex,g,q2⟩=>?_)
 subst ex
 obtain rfl:u=Value.ref a:=rx
 exact ⟨zJz I2 g,zNx hu I2 g ry fun w' s3 I3 rw'=>⟨v,H2,I3,rw',q2⟩⟩
theorem zR1 (hu:X.A.units + 1 < cLine) (hi:PE X i ty) (ho:PE X o td):PC X .In i o (zT4 ty td):=by
 intro pins s σ H Q I h
 refine thn (hi pins s σ H _ I h) fun iv s1 ⟨y,H1,I1,ry,q1⟩=>thn (ho pins s1 σ H1 _ I1 q1) fun u s2 ⟨x,H2,I2,rx,a,ov,ex,g,q2⟩=>?_
 subst ex
 obtain rfl:u=Value.ref a:=rx
 exact zUc hu I2 g ry fun s3 I3=>⟨.bl ov.isSome,H2,I3,rfl,q2⟩
theorem zMq (hu:X.A.units + 1 < cLine) (ho:PE X o td) (hi:PE X i ty) (hv:PE X value tv) (hs:swapsWith value (some (.Subscript o i pos')) pos.line X.env=pure false) :
  PS X (.Assign [.Subscript o i pos'] value pos) (zS7 td ty tv):=by
 intro pins s σ H D I h
 refine wpAny_Assign_Subscript (thn (hv pins s σ H _ I h) fun r s1 ⟨v,H1,I1,rv,q1⟩=>thn (ho pins s1 σ H1 _ I1 q1) fun u s2 ⟨x,H2,I2,rx,q2⟩=>thn (hi pins s2 σ H2 _ I2 q2) fun iv s3 ⟨y,H3,I3,ry,a,H4,ex,g,q3⟩=>?_) hs
 subst ex
 obtain rfl:u=Value.ref a:=rx
 exact zNw hu I3 g ry rv fun s4 I4=>⟨σ,H4,I4,q3⟩
end
theorem zPe {P:Program}{w:World}{H:Hp}(h:Heap) (hb:sysModules < h.objs.size):ObjOk P w H (h.push { cls:=.type "dict", data:=.dict #[] }) h.objs.size (.dK []) :=
 ⟨Nat.zero_le _,beq_eq_false_iff_ne.mpr (Ne.symm (Nat.ne_of_lt hb)),[],.nil,Heap.DictOf.new h⟩
section
variable {X:Cx}{pos:Pos}
end
def zL7:List (TE × TE)→St→Hp→(List (V × V)→Hp→Prop)→Prop
 | [],_,H,Q=>Q [] H
 | (tk,tv) :: r,σ,H,Q=>tk σ H fun x H1=>tv σ H1 fun y H2=>zL7 r σ H2 fun ps H3=>Q ((x,y) :: ps) H3
abbrev VV:List (V × V)→List (Value × Value)→Prop:=Paired fun p q=>RelV p.1 q.1∧RelV p.2 q.2
def PPs (X:Cx) (pos:Pos) (keys:List (Option Expr)) (values:List Expr) (trs:List (TE × TE)):Prop :=
 ∀ (pins:List (Addr × Obj)) (s:Shared) (σ:St) (H:Hp) (Q:List (V × V)→Hp→Prop),Inv X pins σ H s→zL7 trs σ H Q →
  wpAny (model X.prog X.w) X.A (evalPairs (pairTrees keys values X.env pos)) (fun vs s'=>∃ ps H',Inv X pins σ H' s'∧VV ps vs∧Q ps H') X.xe s
theorem zQb {X:Cx}{pos:Pos}:PPs X pos [] [] []:=fun pins s σ H Q I h=>pairTrees_nil_walk ⟨[],H,I,.nil,h⟩
theorem zHe {X:Cx}{pos:Pos}{k v:Expr}{ks:List (Option Expr)}{vs:List Expr}{tk tv:TE}{trs:List (TE × TE)}(hk:PE X k tk) (hv:PE X v tv) (hr:PPs X pos ks vs trs) :
  PPs X pos (some k :: ks) (v :: vs) ((tk,tv) :: trs):=fun pins s σ H Q I h =>
 pairTrees_cons_walk (thn (hk pins s σ H _ I h) fun u s1 ⟨x,H1,I1,rx,q1⟩=>thn (hv pins s1 σ H1 _ I1 q1) fun w2 s2 ⟨y,H2,I2,ry,q2⟩ =>
  thn (hr pins s2 σ H2 _ I2 q2) fun ws s3 ⟨ps,H3,I3,rel,q3⟩=>⟨(x,y) :: ps,H3,I3,.cons ⟨rx,ry⟩ rel,q3⟩)
def zGn (kvs more:List (Key × V)):List (Key × V):=more.foldl (fun acc kv=>zFx acc kv.1 kv.2) kvs
theorem KV.merge:∀ {more:List (Key × V)}{rs:List (Key × Value)}{kvs:List (Key × V)}{vs:List (Key × Value)},KV more rs→KV kvs vs→KV (zGn kvs more) (merged vs rs):=by
 intro more rs kvs vs r
 unfold KV at r
 induction r generalizing kvs vs with
 | nil=>intro q;exact q
 | @cons p q ps qs h t ih =>
  intro r0
  have e:KV (zFx kvs p.1 p.2) (stored vs q.1 q.2):=by
   have:=r0.put p.1 h.2
   rw [← h.1];exact this
  exact ih e
theorem zD5:∀ (more kvs:List (Key × V)),(zGn kvs more).length≤kvs.length + more.length
 | [],kvs=>by show kvs.length≤kvs.length + 0;omega
 | p :: r,kvs=>by
  have h1:=zD5 r (zFx kvs p.1 p.2)
  have h2:=zDo kvs p.1 p.2
  show (zGn (zFx kvs p.1 p.2) r).length≤_
  rw [List.length_cons];omega
theorem zGu {P:Program}{w:World}:∀ {kvs:List (Key × V)}{ws:List (Value × Value)},VV (kvs.map fun kv=>(kV kv.1,kv.2)) ws→∃ rs,Carries (zAh P w) ws rs∧KV kvs rs
 | [],_,r=>by rw [List.map_nil] at r;cases r;exact ⟨[],True.intro,.nil⟩
 | p :: kvs,_,r=>by
  rw [List.map_cons] at r
  cases r with
  | @cons a b as bs h t =>
   obtain ⟨rs,c,q⟩:=zGu (P:=P) (w:=w) t
   obtain ⟨b1,b2⟩:=b
   exact ⟨(p.1,b2) :: rs,⟨zNc h.1,rfl,c⟩,.cons ⟨rfl,h.2⟩ q⟩
def zRj (trs:List (TE × TE)):TE:=fun σ H Q=>∀ p,H p=none→zL7 trs σ (upd H p (.dK [])) fun ps H2=>H2 p=some (.dK [])∧∃ kvs:List (Key × V),ps=kvs.map (fun kv=>(kV kv.1,kv.2))∧kvs.length≤15∧Q (.ref p) (upd H2 p (.dK (zGn [] kvs)))
theorem zQf {X:Cx}{pos:Pos}{keys:List (Option Expr)}{values:List Expr}{trs:List (TE × TE)}(h:PPs X pos keys values trs) (hall:keys.all (·.isSome)=true) (hl:keys.length=values.length) (h0:keys≠[])
  (h15:keys.length≤15):PE X (.Dict keys values pos) (zRj trs):=by
 intro pins s σ H Q I q
 have hn:=I.hok.fresh (Nat.le_refl s.heap.objs.size)
 have I1:=I.laid (a:=s.heap.objs.size) (o:=.dK []) (h':=s.heap.push { cls:=.type "dict", data:=.dict #[] }) (t':=s.toks) (fun _ _ q=>Heap.get?_push_of_some _ q) (Nat.le_refl _) (zPe s.heap I.big)
 refine wpAny_Dict_walk (knd:=zAh X.prog X.w) hall hl h0 h15 (thn (h pins _ σ _ _ I1 (q _ hn)) fun ws s2 ⟨ps,H2,I2,rel,e,kvs,ep,lk,q2⟩=>?_)
 subst ep
 obtain ⟨rs,c,rk⟩:=zGu (P:=X.prog) (w:=X.w) rel
 obtain ⟨z,hd,vs0,r0,dd⟩:=zQ4 I2.hok e
 cases r0
 refine ⟨rs,c,dd,fun h' dd' hs=>⟨.ref s.heap.objs.size,_,?_,rfl,q2⟩⟩
 have hz:(zGn [] kvs).length≤sizeLine:=by
  have h1:=zD5 kvs []
  rw [List.length_nil] at h1
  rw [sizeLine_eq];omega
 have he:∃ q,h'.get? s.heap.objs.size=some q:=let ⟨q,_,_,hq,_⟩:=dd';⟨q,hq⟩
 exact zJ0 I2 (by rw [e];exact True.intro) hs he (zPp hz hd (rk.merge .nil) dd')
section
variable {X:Cx}{pins:List (Addr × Obj)}{σ:St}{H:Hp}{s:Shared}{a:Addr}{y d:V}{u r:Value}{o:Option V}{A:Around}{E:Value→Shared→Prop}
end
section
variable {X:Cx}{o e f:Expr}{apos cpos:Pos}{td ty tx:TE}
end
section
variable {X:Cx}{pins:List (Addr × Obj)}{σ:St}{H:Hp}{s:Shared}{a:Addr}{kvs:List (Key × V)}{A:Around}{E:Value→Shared→Prop}
end
section
variable {X:Cx}{pins:List (Addr × Obj)}{σ:St}{H:Hp}{s:Shared}{a:Addr}{y:V}{u:Value}{A:Around}{E:Value→Shared→Prop}
end
end L2
namespace L2
open PySem PySem.Spec PyProof.Rows
section
variable {κ:Type} [DecidableEq κ]
theorem zL0 {kvs:List (κ × V)}{k:κ}{v:V}(h:valV kvs k=some v):k ∈ kvs.map (·.1):=by
 have q:(kvs.any fun kv=>decide (kv.1=k))=true:=by
  rw [zDq,h]
  all_goals rfl
 obtain ⟨p,hp,e⟩:=List.any_eq_true.mp q
 exact List.mem_map.mpr ⟨p,hp,of_decide_eq_true e⟩
end
end L2
end
section
namespace BK
open PySem L2
theorem zPs:bootBuiltins "int" = some (.type "int"):=by decide +kernel
theorem zQ6:bootBuiltins "bool" = some (.type "bool"):=by decide +kernel
theorem bt_list:bootBuiltins "list" = some (.type "list"):=by decide +kernel
theorem zBu:bootBuiltins "isinstance" = some (.builtin "isinstance"):=by decide +kernel
theorem zSk:bootBuiltins "all" = some (.builtin "all"):=by decide +kernel
theorem zK2:bootBuiltins "min" = some (.builtin "min"):=by decide +kernel
theorem zA0:bootBuiltins "len" = some (.builtin "len"):=by decide +kernel
theorem zPr:bootBuiltins "max" = some (.builtin "max"):=by decide +kernel
theorem zIz:bootBuiltins "sorted" = some (.builtin "sorted"):=by decide +kernel
theorem zSj:bootBuiltins "sum" = some (.builtin "sum"):=by decide +kernel
def isI:V→Bool
 | .int _=>true
 | .bl _=>true
 | _=>false
def isB:V→Bool
 | .bl _=>true
 | _=>false
def zGo:Option HO→Bool
 | some (.lst _)=>true
 | _=>false
def isL (H:Hp):V→Bool
 | .ref a=>zGo (H a)
 | _=>false
structure Kd (K:PySem.W.Frag) (H:Hp) (v:V):Prop where
 ex:∃ t,TyOf K H v t∧PySem.W.kitOne K t (.type "int")=some (isI v)∧PySem.W.kitOne K t (.type "bool")=some (isB v)∧PySem.W.kitOne K t (.type "list")=some (isL H v)
section
variable {K:PySem.W.Frag}{H H':Hp}
theorem Kd.int (i:Int):Kd K H (.int i):=⟨_,.int i,by kernel_rfl,by kernel_rfl,by kernel_rfl⟩
theorem Kd.lst {a:Addr}{xs:List V}(e:H a=some (.lst xs)):Kd K H (.ref a):=⟨_,.lst e,by kernel_rfl,by kernel_rfl,by rw [show isL H (.ref a)=true by show zGo (H a)=_;rw [e];rfl];kernel_rfl⟩
theorem zL2 {v:V}{t:Value}(e:Same H H') (h:TyOf K H v t):TyOf K H' v t:=by
 cases h with
 | non=>exact .non
 | bl b=>exact .bl b
 | int i=>exact .int i
 | str i=>exact .str i
 | flt i=>exact .flt i
 | lst q=>exact .lst (e _ _ q)
 | frz q=>exact .frz (e _ _ q)
 | tup q=>exact .tup (e _ _ q)
 | dK q=>exact .dK (e _ _ q)
 | dT q=>exact .dT (e _ _ q)
 | ins q c1 c2 c3 c4 c5=>exact .ins (e _ _ q) c1 c2 c3 c4 c5
 | exc q F=>exact .exc (e _ _ q) F
theorem zHp {v:V}{t:Value}(e:Same H H') (h:TyOf K H v t):isL H' v=isL H v:=by
 cases h with
 | lst q=>show zGo _=zGo _;rw [e _ _ q,q]
 | frz q=>show zGo _=zGo _;rw [e _ _ q,q]
 | tup q=>show zGo _=zGo _;rw [e _ _ q,q]
 | dK q=>show zGo _=zGo _;rw [e _ _ q,q]
 | dT q=>show zGo _=zGo _;rw [e _ _ q,q]
 | ins q c1 c2 c3 c4 c5=>show zGo _=zGo _;rw [e _ _ q,q]
 | exc q F=>show zGo _=zGo _;rw [e _ _ q,q]
 | _=>rfl
theorem Kd.same {v:V}(e:Same H H') (h:Kd K H v):Kd K H' v:=by
 obtain ⟨t,ty,e1,e2,e3⟩:=h
 exact ⟨t,zL2 e ty,e1,e2,by rw [zHp e ty];exact e3⟩
theorem zF {H:Hp}{p:Addr}(h:H p=none) (o:HO):Same H (upd H p o):=fun b u q=>by rw [upd_ne (zJ q h)];exact q
theorem zB6 {H H':Hp}{p:Addr}(h:H p=none) (s:Same H H') (o:HO):Same H (upd H' p o):=fun b u q=>by rw [upd_ne (zJ q h)];exact s b u q
theorem zOe {a:Addr}{xs:List V}(e:Same H H') (h:SqT K H a xs):SqT K H' a xs:=by
 rcases h with h | h
 ·rcases h with h | ⟨o,h⟩
  ·exact .inl (.inl (e _ _ h))
  ·exact .inl (.inr ⟨o,e _ _ h⟩)
 ·exact .inr h
end
def zg (v:V) (lo hi:Int):Bool:=match v with
 | .int i=>decide (lo≤i) && decide (i≤hi)
 | _=>false
def zEp (v:V):Bool:=zg v 0 999999999
section
variable {P:Program}{w:World}{K:PySem.W.Frag}{mg:Str→Option Value}{base:Heap}{f:Addr}{fd:FuncData}{H H':Hp}
theorem iteF' {c:Bool}{A B:Prop}(hc:c=false) (h:B):if c=true then A else B:=by subst hc;exact iteF h
theorem iteT' {c:Bool}{A B:Prop}(hc:c=true) (h:A):if c=true then A else B:=by subst hc;exact iteT h
theorem small {n:Nat}(h:n≤1000):n≤sizeLine:=Nat.le_of_lt (small1000 h)
theorem zPj (xs:List V):(xs.map zEp).all id=xs.all zEp:=by rw [List.all_map];rfl
theorem zLu {i j:Int}:decide (V.int i=V.int j)=decide (i=j):=by
 by_cases h:i=j
 ·subst h;simp
 ·rw [decide_eq_false h,decide_eq_false (fun q=>h (V.int.inj q))]
theorem zD9 (xs:List V) (k:Nat):zHx xs none (some (k:Int))=xs.take k:=by
 unfold zHx
 rw [HT.sIx_none,HT.sIx_nat]
 simp
theorem zEa (xs:List V) (k:Nat):zHx xs (some (k:Int)) none=xs.drop k:=by
 unfold zHx
 rw [HT.sIx_none,HT.sIx_nat]
 by_cases h:k≤xs.length
 ·rw [Nat.min_eq_left h]
  rw [List.take_of_length_le (by rw [List.length_drop];exact Nat.le_refl _)]
 ·rw [Nat.min_eq_right (by omega)]
  simp [List.drop_eq_nil_of_le (show xs.length≤k by omega)]
mutual
theorem zQ3 (e:Same H H'):∀ {v:V}{d:PyData},DV K H v d→DV K H' v d
 | _,_,.non=>.non
 | _,_,.bl b=>.bl b
 | _,_,.int i=>.int i
 | _,_,.str x=>.str x
 | _,_,.lst q r=>.lst (e.seq q) (dvs_same e r)
 | _,_,.tup q r=>.tup (zOe e q) (dvs_same e r)
theorem dvs_same (e:Same H H'):∀ {vs:List V}{ds:List PyData},DVs K H vs ds→DVs K H' vs ds
 | _,_,.nil=>.nil
 | _,_,.cons q r=>.cons (zQ3 e q) (dvs_same e r)
end
theorem zCz:∀ R:List Int,DVs K H (R.map V.int) (R.map PyData.int)
 | []=>.nil
 | i :: r=>.cons (.int i) (zCz r)
theorem zCo (R:List Int) (h:∀ r ∈ R,0≤r∧r≤999999999):(R.map V.int).all zEp=true:=by
 rw [List.all_eq_true]
 intro x hx
 obtain ⟨i,hi,rfl⟩:=List.mem_map.mp hx
 have:=h i hi
 show (decide ((0:Int)≤i) && decide (i≤999999999))=true
 simp [this]
theorem zQs {fj:List (Str × Nat)}{te:TE}{σ:St}{H:Hp}{Q:Addr→Hp→Prop}{n:Nat}(hn:n≤1000) (g:Nat→Int)
  (hs:∀ (i:Nat) (H':Hp) (Qf:VK),i < n→Same H H'→(∀ H3,Same H' H3→Qf (.int (g i)) H3)→te (some (.int (0 + (i:Int))) :: zAj σ fj) H' Qf)
  (hd:∀ acc H',H acc=none→Same H H'→H' acc=some (.lst (((List.range n).map g).map V.int))→Q acc H') :
  ∀ acc,H acc=none→∃ W:Nat→Nat→List V→Hp→Prop,(∃ m,W 0 m [] (upd H acc (.lst [])))∧∀ i m ys H,W i m ys H →
   ((Itr 0 n).stop i H∧Q acc H)∨((Itr 0 n).go i H∧∀ x H',(Itr 0 n).yld i H x H'→zOc (some x :: zAj σ fj) H' fun b H2 =>
    if b=true then te (some x :: zAj σ fj) H2 fun v H3=>H3 acc=some (.lst ys)∧ys.length < sizeLine∧∃ m',m' < m∧W (i + 1) m' (ys ++ [v]) (upd H3 acc (.lst (ys ++ [v])))
    else ∃ m',m' < m∧W (i + 1) m' ys H2):=by
 refine zKw hn (fun acc i ys H'=>ys=(((List.range i).map g).map V.int)∧H' acc=some (.lst ys)∧H acc=none∧Same H H') ?_ ?_ ?_ ?_
 ·exact fun acc h=>⟨rfl,zB,h,zF h _⟩
 ·rintro acc i ys H' hi ⟨rfl,h1,h2,h3⟩
  simp
 ·rintro acc i ys H' Qf hi ⟨rfl,h1,h2,h3⟩ k
  refine hs i H' Qf hi h3 fun H3 h4=>k _ _ (h4 _ _ h1) ⟨?_,zB,h2,zB6 h2 (h3.trans h4) _⟩
  rw [List.range_succ]
  simp
 ·rintro acc ys H' h ⟨rfl,h1,h2,h3⟩
  exact hd acc H' h2 h3 h1
def Chg (S:List Addr) (H H':Hp):Prop:=∀ b o,H b=some o→b ∉ S→H' b=some o
theorem Chg.of {S:List Addr}(s:Same H H'):Chg S H H':=fun b o q _=>s b o q
theorem Chg.trans {S:List Addr}{H1 H2:Hp}(a:Chg S H H1) (b:Chg S H1 H2):Chg S H H2:=fun c o q n=>b c o (a c o q n) n
theorem Chg.mono {S S':List Addr}(c:Chg S H H') (h:∀ b ∈ S,b ∈ S'):Chg S' H H':=fun b o q n=>c b o q fun z=>n (h b z)
theorem Chg.upd {S:List Addr}{a:Addr}(c:Chg S H H') (ha:a ∈ S) (o:HO):Chg S H (L2.upd H' a o):=fun b u q n=>by rw [L2.upd_ne (fun z=>n (by rw [z];exact ha))];exact c b u q n
theorem Chg.new {S:List Addr}{a:Addr}(c:Chg S H H') (n:H' a=none) (o:HO):Chg S H (L2.upd H' a o):=fun b u q m=>by rw [upd_ne (zJ (c b u q m) n)];exact c b u q m
theorem Chg.upd0 {S:List Addr}{a:Addr}(c:Chg S H H') (n:H a=none) (o:HO):Chg S H (L2.upd H' a o):=fun b u q m=>by rw [L2.upd_ne (zJ q n)];exact c b u q m
theorem zQp {fj:List (Str × Nat)}{te:TE}{σ:St}{H:Hp}{Q:Addr→Hp→Prop}{n:Nat}(hn:n≤1000) (G:Addr→Hp→Nat→V→Prop) (mono:∀ {acc:Addr}{H H':Hp}{i:Nat}{v:V},(∀ b o,b≠acc→H b=some o→H' b=some o)→G acc H i v→G acc H' i v)
  (hs:∀ (acc:Addr) (i:Nat) (H':Hp) (Qf:VK),i < n→H acc=none→Same H H'→H' acc≠none→(∀ v H3,Same H' H3→G acc H3 i v→Qf v H3)→te (some (.int (0 + (i:Int))) :: zAj σ fj) H' Qf)
  (hd:∀ acc vs H',H acc=none→Same H H'→H' acc=some (.lst vs)→vs.length=n→(∀ i v,vs[i]? = some v→G acc H' i v)→Q acc H') :
  ∀ acc,H acc=none→∃ W:Nat→Nat→List V→Hp→Prop,(∃ m,W 0 m [] (upd H acc (.lst [])))∧∀ i m ys H,W i m ys H →
   ((Itr 0 n).stop i H∧Q acc H)∨((Itr 0 n).go i H∧∀ x H',(Itr 0 n).yld i H x H'→zOc (some x :: zAj σ fj) H' fun b H2 =>
    if b=true then te (some x :: zAj σ fj) H2 fun v H3=>H3 acc=some (.lst ys)∧ys.length < sizeLine∧∃ m',m' < m∧W (i + 1) m' (ys ++ [v]) (upd H3 acc (.lst (ys ++ [v])))
    else ∃ m',m' < m∧W (i + 1) m' ys H2):=by
 refine zKw hn (fun acc i ys H'=>ys.length=i∧H' acc=some (.lst ys)∧H acc=none∧Same H H'∧∀ j v,ys[j]? = some v→G acc H' j v) ?_ ?_ ?_ ?_
 ·exact fun acc h=>⟨rfl,zB,h,zF h _,fun j v z=>by simp at z⟩
 ·rintro acc i ys H' hi ⟨h0,h1,h2,h3,_⟩
  exact h0
 ·rintro acc i ys H' Qf hi ⟨h0,h1,h2,h3,h4⟩ k
  refine hs acc i H' Qf hi h2 h3 (by rw [h1];simp) fun v H3 s3 g=>k v H3 (s3 _ _ h1) ⟨by simp [h0],zB,h2,zB6 h2 (h3.trans s3) _,fun j u hj=>?_⟩
  have up:∀ b o,b≠acc→H3 b=some o→upd H3 acc (.lst (ys ++ [v])) b=some o:=fun b o hb q=>by rw [upd_ne hb];exact q
  by_cases hji:j < ys.length
  ·rw [List.getElem?_append_left hji] at hj
   exact mono up (mono (fun b o _ q=>s3 b o q) (h4 j u hj))
  ·rw [List.getElem?_append_right (by omega)] at hj
   have e:j=i:=by
    rcases Nat.lt_or_ge (j - ys.length) 1 with z | z
    ·omega
    ·rw [List.getElem?_eq_none (by simpa using z)] at hj;cases hj
   subst e
   rw [show j - ys.length=0 by omega] at hj
   cases hj
   exact mono up g
 ·rintro acc ys H' h ⟨h0,h1,h2,h3,h4⟩
  exact hd acc ys H' h2 h3 h1 h0 h4
theorem zOy {fj:List (Str × Nat)}{te:TE}{σ:St}{H:Hp}{Q:Addr→Hp→Prop}{a:Addr}{xs:List V}(hn:xs.length≤1000) (ha:H a=some (.lst xs)) (G:Addr→Hp→Nat→V→Prop) (mono:∀ {acc:Addr}{H H':Hp}{i:Nat}{v:V},(∀ b o,b≠acc→H b=some o→H' b=some o)→G acc H i v→G acc H' i v)
  (hs:∀ (acc:Addr) (i:Nat) (x:V) (H':Hp) (Qf:VK),xs[i]? = some x→H acc=none→Same H H'→H' acc≠none→(∀ v H3,Same H' H3→G acc H3 i v→Qf v H3)→te (some x :: zAj σ fj) H' Qf)
  (hd:∀ acc vs H',H acc=none→Same H H'→H' acc=some (.lst vs)→vs.length=xs.length→(∀ i v,vs[i]? = some v→G acc H' i v)→Q acc H') :
  ∀ acc,H acc=none→∃ W:Nat→Nat→List V→Hp→Prop,(∃ m,W 0 m [] (upd H acc (.lst [])))∧∀ i m ys H,W i m ys H →
   ((Itl K a).stop i H∧Q acc H)∨((Itl K a).go i H∧∀ x H',(Itl K a).yld i H x H'→zOc (some x :: zAj σ fj) H' fun b H2 =>
    if b=true then te (some x :: zAj σ fj) H2 fun v H3=>H3 acc=some (.lst ys)∧ys.length < sizeLine∧∃ m',m' < m∧W (i + 1) m' (ys ++ [v]) (upd H3 acc (.lst (ys ++ [v])))
    else ∃ m',m' < m∧W (i + 1) m' ys H2):=by
 refine zM9 (xs:=xs) hn (fun acc i ys H'=>ys.length=i∧H' acc=some (.lst ys)∧H acc=none∧Same H H'∧∀ j v,ys[j]? = some v→G acc H' j v) ?_ ?_ ?_ ?_
 ·exact fun acc h=>⟨rfl,zB,h,zF h _,fun j v z=>by simp at z⟩
 ·rintro acc i ys H' hi ⟨h0,h1,h2,h3,_⟩
  exact ⟨h0,SqL.of (h3 _ _ ha)⟩
 ·rintro acc i x ys H' Qf hx ⟨h0,h1,h2,h3,h4⟩ k
  refine hs acc i x H' Qf hx h2 h3 (by rw [h1];simp) fun v H3 s3 g=>k v H3 (s3 _ _ h1) ⟨by simp [h0],zB,h2,zB6 h2 (h3.trans s3) _,fun j u hj=>?_⟩
  have up:∀ b o,b≠acc→H3 b=some o→upd H3 acc (.lst (ys ++ [v])) b=some o:=fun b o hb q=>by rw [upd_ne hb];exact q
  by_cases hji:j < ys.length
  ·rw [List.getElem?_append_left hji] at hj
   exact mono up (mono (fun b o _ q=>s3 b o q) (h4 j u hj))
  ·rw [List.getElem?_append_right (by omega)] at hj
   have e:j=i:=by
    rcases Nat.lt_or_ge (j - ys.length) 1 with z | z
    ·omega
    ·rw [List.getElem?_eq_none (by simpa using z)] at hj;cases hj
   subst e
   rw [show j - ys.length=0 by omega] at hj
   cases hj
   exact mono up g
 ·rintro acc ys H' h ⟨h0,h1,h2,h3,h4⟩
  exact hd acc ys H' h2 h3 h1 h0 h4
theorem zQq {K:PySem.W.Frag}{σ:St}{H:Hp}{a:Addr}{xs:List V}{Q:Addr→Hp→Prop}{sp:Sp}{g:V→Bool}(hsp:∀ x (H':Hp) (Qf:VK),Kd K H' x→Qf (.bl (g x)) H'→sp [x] H' Qf E0) (ha:H a=some (.lst xs)) (hz:xs.length≤1000) (hk:∀ x ∈ xs,Kd K H x)
  (hq:∀ acc H',H acc=none→Same H H'→H' acc=some (.lst ((xs.map g).map V.bl))→Q acc H') :
  ∀ acc,H acc=none→∃ W:Nat→Nat→List V→Hp→Prop,(∃ m,W 0 m [] (upd H acc (.lst [])))∧∀ i m ys H,W i m ys H →
   ((Itl K a).stop i H∧Q acc H)∨((Itl K a).go i H∧∀ x H',(Itl K a).yld i H x H'→zOc (some x :: zAj σ []) H' fun b H2 =>
    if b=true then zL8 sp [] E0 (zK7 (zLw 0) zPm) (some x :: zAj σ []) H2 fun v H3=>H3 acc=some (.lst ys)∧ys.length < sizeLine∧∃ m',m' < m∧W (i + 1) m' (ys ++ [v]) (upd H3 acc (.lst (ys ++ [v])))
    else ∃ m',m' < m∧W (i + 1) m' ys H2):=by
 refine zM9 (xs:=xs) hz (fun acc i ys H'=>ys=((xs.take i).map g).map V.bl∧H' acc=some (.lst ys)∧H acc=none∧Same H H') ?_ ?_ ?_ ?_
 ·exact fun acc h=>⟨rfl,zB,h,zF h _⟩
 ·rintro acc i ys H' hi ⟨rfl,h1,h2,h3⟩
  refine ⟨?_,SqL.of (h3 _ _ ha)⟩
  rw [List.length_map,List.length_map,List.length_take]
  omega
 ·rintro acc i x ys H' Qf hx ⟨rfl,h1,h2,h3⟩ k
  refine ⟨x,rfl,hsp x H' _ ((hk x (List.mem_of_getElem? hx)).same h3) (k _ _ h1 ⟨?_,zB,h2,zB6 h2 h3 _⟩)⟩
  rw [List.take_add_one,hx]
  simp
 ·rintro acc ys H' h ⟨rfl,h1,h2,h3⟩
  rw [List.take_length] at h1
  exact hq acc H' h2 h3 h1
def RowsAt (H:Hp) (rs:List Addr) (R:List (List Int)):Prop:=rs.length=R.length∧∀ (i:Nat) (r:Addr) (row:List Int),rs[i]? = some r→R[i]? = some row→H r=some (.lst (row.map V.int))
def zY (row:List Int):Prop:=row.length=16∧∀ x ∈ row,0≤x∧x≤999999999
def lv:Option Int→V
 | none=>.non
 | some k=>.int k
structure DiskAt (C:Addr) (H:Hp) (d kr:Addr) (R:List (List Int)) (n:Int) (l:Option Int):Prop where
 ex:∃ dx rs,H d=some (.ins C dx [("kept_rows", .ref kr),("writes_done", .int n),("writes_left", lv l)])∧H kr=some (.lst (rs.map V.ref))∧RowsAt H rs R
 lo:24≤R.length
 hi:R.length≤96
 good:∀ row ∈ R,zY row
theorem RowsAt.chg {rs:List Addr}{R:List (List Int)}{S:List Addr}(h:RowsAt H rs R) (c:Chg S H H') (n:∀ r ∈ rs,r ∉ S):RowsAt H' rs R :=
 ⟨h.1,fun i r row h1 h2=>c r _ (h.2 i r row h1 h2) (n r (List.mem_of_getElem? h1))⟩
theorem RowsAt.set {rs:List Addr}{R:List (List Int)}(h:RowsAt H rs R) (i:Nat) {p:Addr}{row:List Int}(hp:H p=some (.lst (row.map V.int))):RowsAt H (rs.set i p) (R.set i row):=by
 refine ⟨by simp [h.1],fun j r q h1 h2=>?_⟩
 rw [List.getElem?_set] at h1 h2
 by_cases e:i=j
 ·subst e
  rw [if_pos rfl] at h1 h2
  split at h1
  ·split at h2
   ·cases h1;cases h2;exact hp
   ·cases h2
  ·cases h1
 ·rw [if_neg e] at h1 h2
  exact h.2 j r q h1 h2
theorem RowsAt.get {rs:List Addr}{R:List (List Int)}(h:RowsAt H rs R) {i:Nat}(hi:i < R.length):∃ r,rs[i]? = some r∧H r=some (.lst ((R[i]).map V.int)):=by
 have hi':i < rs.length:=by rw [h.1];exact hi
 exact ⟨rs[i],List.getElem?_eq_getElem hi',h.2 i _ _ (List.getElem?_eq_getElem hi') (List.getElem?_eq_getElem hi)⟩
theorem RowsAt.all {rs:List Addr}{R:List (List Int)}(h:RowsAt H rs R) {r:Addr}(hr:r ∈ rs):∃ row ∈ R,H r=some (.lst (row.map V.int)):=by
 obtain ⟨i,hi,e⟩:=List.mem_iff_getElem.mp hr
 have hi':i < R.length:=by rw [← h.1];exact hi
 exact ⟨R[i],List.getElem_mem hi',h.2 i r _ (by rw [← e];exact List.getElem?_eq_getElem hi) (List.getElem?_eq_getElem hi')⟩
theorem zEk {rs:List Addr}{row:List Int}(h:row.length=16):(HO.lst (rs.map V.ref))≠HO.lst (row.map V.int):=by
 intro z
 cases rs with
 | nil=>cases row with
  | nil=>cases h
  | cons=>cases z
 | cons=>cases row with
  | nil=>cases h
  | cons=>cases z
variable {C d kr:Addr}{R:List (List Int)}{n:Int}{l:Option Int}
theorem DiskAt.chg {S:List Addr}(h:DiskAt C H d kr R n l) (c:Chg S H H') (hd:d ∉ S) (hk:kr ∉ S) (hr:∀ r row,H r=some (.lst (row.map V.int))→zY row→r ∉ S):DiskAt C H' d kr R n l:=by
 obtain ⟨dx,rs,h1,h2,h3⟩:=h.ex
 refine ⟨⟨dx,rs,c _ _ h1 hd,c _ _ h2 hk,h3.chg c fun r hm=>?_⟩,h.lo,h.hi,h.good⟩
 obtain ⟨row,hrow,e⟩:=h3.all hm
 exact hr r row e (h.good row hrow)
theorem DiskAt.same (h:DiskAt C H d kr R n l) (s:Same H H'):DiskAt C H' d kr R n l:=h.chg (S:=[]) (Chg.of s) (by simp) (by simp) (by simp)
theorem DiskAt.put {n':Int}{l':Option Int}(D:DiskAt C H d kr R n l) {dx:Addr}{fs:List (Str × V)}(h1:H d=some (.ins C dx fs)):DiskAt C (L2.upd H d (.ins C dx [("kept_rows", .ref kr),("writes_done", .int n'),("writes_left", lv l')])) d kr R n' l':=by
 obtain ⟨dx',rs,h1',h2,h3⟩:=D.ex
 refine ⟨⟨dx,rs,zB,?_,h3.1,fun i r row e1 e2=>?_⟩,D.lo,D.hi,D.good⟩
 ·rw [upd_ne (ze h2 h1 (fun z=>by cases z))];exact h2
 ·have hr:=h3.2 i r row e1 e2
  rw [upd_ne (ze hr h1 (fun z=>by cases z))];exact hr
theorem DiskAt.at {C d kr:Addr}(h:DiskAt C H d kr R n l):∃ dx,H d=some (.ins C dx [("kept_rows", .ref kr),("writes_done", .int n),("writes_left", lv l)]):=let ⟨dx,_,e,_⟩:=h.ex;⟨dx,e⟩
end
section
variable {X:Cx}{K:PySem.W.Frag}
def zS8 (K:PySem.W.Frag):List V→Hp→VK→Prop:=fun xs H Q=>∃ p ys,xs=[.ref p]∧(SqL K H p ys∨SqT K H p ys)∧Q (.int ys.length) H
def zRs (K:PySem.W.Frag):List V→Hp→VK→Prop:=fun xs H Q=>∃ p ys,xs=[.ref p]∧(SqL K H p ys∨SqT K H p ys)∧∀ l,H l=none→Q (.ref l) (upd H l (.lst ys))
theorem zX (h:X.K=K):zDj X (.builtin "len") (zS8 K):=by subst h;exact zIy
theorem zCq (h:X.K=K):zDj X (.type "list") (zRs K):=by subst h;exact zIx
theorem zAb (h:X.K=K):IxR X (zTu K):=by subst h;exact zQv
theorem zi (h:X.K=K):SlR X (zTt K):=by subst h;exact zP1
theorem zB9 {T:String}(h:X.K=K):zDj X (.builtin "isinstance") (zRt K T):=by subst h;exact zJ4
end
section
variable {X:Cx}
end
section
variable {X:Cx}{K:PySem.W.Frag}
theorem zBt {tg l:Expr}{tl:TE}(h:X.K=K) (hl:PE X l tl):PI X tg l (zSg K tl):=by subst h;exact zQc hl
theorem zS {e:Expr}{f:Str}{pos:Pos}{ta:TE}(h:X.K=K) (he:PE X e ta) (hb:attributeBase e f X.env (eval e X.env)=eval e X.env):PE X (.Attribute e f pos) (zRh K ta f):=by subst h;exact zR0 he hb
theorem zQi (h:X.K=K) (hu:X.A.units + 64 < cLine):OpR X (compareOp .Eq) (zSr K false):=by subst h;exact zR5 hu
theorem zMv (h:X.K=K) (hu:X.A.units + 64 < cLine):OpR X (compareOp .NotEq) (zSr K true):=by subst h;exact zR3 hu
theorem zN1 (h:X.K=K) (hc:X.calm=true):zDj X (.builtin "all") (zTv K):=by subst h;exact zPg hc
variable {o e:Expr}{es:List Expr}{to:TE}{t:TA}{name:Str}{apos cpos:Pos}{T id:String}{r:V→List V→Hp→VK→Prop}
theorem zIa (h:X.K=K) (pa:PySem.PlainAttrs T) (slot:PySem.Slot T name id) (hty:typeOf (.builtin id)=pure (.type "method_descriptor")) (hm:MtR X id r) (ho:PE X o to) (ha:PA X (e :: es) t)
  (hbase:attributeBase o name X.env (eval o X.env)=eval o X.env:=by rfl)
  (hfew:((backTo cpos (starEach (e :: es) X.env)).all (fun x=>!x.1) && (backToKw cpos (keywordEach [] X.env)).all (fun x=>x.1.isSome)
   && decide ((e :: es).length + ([] : List Keyword).length + (if ([] : List Keyword).isEmpty then 0 else 1) < 30))=true:=by rfl)
  (hline:(apos.endLine == cpos.line)=true:=by rfl) (hs:starEach (e :: es) X.env=(false,eval e X.env) :: starEach es X.env:=by rfl) (hplain:(backTo cpos (starEach es X.env)).any (·.1)=false:=by rfl) :
  PE X (.Call (.Attribute o name apos) (e :: es) [] cpos) (tBM K T r to t):=by subst h;exact zS9 pa slot hty hm ho ha hbase hfew hline hs hplain
end
section
variable {σ:St}{H:Hp}{Q:Bool→Hp→Prop}{i:Nat}{c:Int}
end
theorem zLy {v:V}{m:Nat}(h:zg v 0 ((m:Int) - 1)=true):∃ b:Nat,v=.int b∧b < m:=by
 cases v with
 | int i =>
  have h':(decide ((0:Int)≤i) && decide (i≤(m:Int) - 1))=true:=h
  rw [Bool.and_eq_true,decide_eq_true_eq,decide_eq_true_eq] at h'
  exact ⟨i.toNat,by rw [show ((i.toNat:Nat):Int)=i by omega],by omega⟩
 | _=>cases h
section
variable {C d kr p:Addr}{H H':Hp}{R:List (List Int)}{n:Int}{l:Option Int}
def NoRowAt (H:Hp) (kr p:Addr):Prop:=∀ rs:List Addr,H kr=some (.lst (rs.map V.ref))→p ∉ rs
theorem zDe:∀ {xs ys:List Addr},xs.map V.ref=ys.map V.ref→xs=ys
 | [],[],_=>rfl
 | [],_ :: _,h=>by cases h
 | _ :: _,[],h=>by cases h
 | x :: xs,y :: ys,h=>by
  rw [List.map_cons,List.map_cons] at h
  injection h with h1 h2
  injection h1 with h1
  rw [h1,zDe h2]
theorem DiskAt.noRow (D:DiskAt C H d kr R n l) (hp:H p=none):NoRowAt H kr p:=fun rs hrs hm=>by
 obtain ⟨dx,rs',_,h2,h3⟩:=D.ex
 rw [h2] at hrs
 have e:rs'=rs:=zDe (by injection hrs with z;injection z)
 subst e
 obtain ⟨row,_,e⟩:=h3.all hm
 rw [hp] at e;cases e
theorem NoRowAt.chg {S:List Addr}(h:NoRowAt H kr p) (D:DiskAt C H d kr R n l) (c:Chg S H H') (hk:kr ∉ S):NoRowAt H' kr p:=fun rs hrs=>by
 obtain ⟨dx,rs',_,h2,_⟩:=D.ex
 have:=c _ _ h2 hk
 rw [this] at hrs
 have e:rs'=rs:=zDe (by injection hrs with z;injection z)
 subst e
 exact h rs' h2
theorem DiskAt.off (D:DiskAt C H d kr R n l) (np:NoRowAt H kr p) (h1:p≠d) (h2:p≠kr) (o:HO):DiskAt C (L2.upd H p o) d kr R n l:=by
 obtain ⟨dx,rs,g1,g2,g3⟩:=D.ex
 refine ⟨⟨dx,rs,by rw [upd_ne (Ne.symm h1)];exact g1,by rw [upd_ne (Ne.symm h2)];exact g2,g3.1,fun i r row e1 e2=>?_⟩,D.lo,D.hi,D.good⟩
 rw [upd_ne (fun z=>np rs g2 (by rw [← z];exact List.mem_of_getElem? e1))]
 exact g3.2 i r row e1 e2
end
end BK
end
section
namespace BK
open PySem L2
theorem zFt:∀ ns ms:List Int,PyData.eqvAll (ns.map PyData.int) (ms.map PyData.int)=decide (ns=ms)
 | [],[]=>by simp [PyData.eqvAll]
 | [],_ :: _=>by simp [PyData.eqvAll]
 | _ :: _,[]=>by simp [PyData.eqvAll]
 | a :: r,b :: t=>by
  have e:PyData.eqv (.int a) (.int b)=decide (a=b):=by rw [Bool.eq_iff_iff];simp [PyData.eqv]
  simp only [List.map_cons,PyData.eqvAll,e,zFt r t]
  by_cases h:a=b <;> by_cases h':r=t <;> simp [h,h']
theorem zHu (ns ms:List Int):PyData.eqv (.list (ns.map PyData.int)) (.list (ms.map PyData.int))=decide (ns=ms):=by
 rw [PyData.eqv];exact zFt ns ms
end BK
end
section
namespace L2
open PySem PySem.Spec PySem.Calls PyProof.Rows PySem.W
section
variable {prog:Program}{w:World}{A:Around}{E:Value→Shared→Prop}{s:Shared}{T:String}{r d:Addr}{n:Nat}{P:Nat→Value→Prop}{OK:Heap→Prop}
end
theorem zFq {ns:List Int}:∀ {us:List Value},IntsAre us ns→Vals (ns.map V.int) us:=by
 intro us h
 induction h with
 | nil=>exact .nil
 | cons=>exact .cons ⟨_,rfl⟩ (by assumption)
theorem zKy {ns:List Int}{us:List Value}(h:IntsAre us ns):ns.length=us.length:=by
 have:=(zFq h).length
 simpa using this
theorem zGp {P:Program}{w:World}:∀ {ks:List Int}{kvs:List (Key × Value)}(vs:List Value),kvs.map (·.1)=ks.map Sum.inl→vs.length=kvs.length →
  (∀ (j:Nat) (v:Value),vs[j]? = some v→∃ (k:Key) (x:Value),kvs[j]? = some (k,x)∧(zAh P w).is k v=true)→IntsAre vs ks
 | [],[],[],_,_,_=>.nil
 | k :: ks,q :: r,v :: vs,e,hl,hv=>by
  simp only [List.map_cons,List.cons.injEq] at e
  obtain ⟨k',x,hk,hi⟩:=hv 0 v rfl
  simp only [List.getElem?_cons_zero,Option.some.injEq] at hk
  subst hk
  obtain ⟨e1,e2⟩:=e
  have e1:k'=Sum.inl k:=e1
  subst e1
  rcases keyIs_shape (show zIr (Sum.inl k) v=true from hi) with ⟨i,t,ei,ev⟩ | ⟨y,t,ei,ev⟩
  ·cases ei
   subst ev
   exact .cons _ _ (zGp vs e2 (by simpa using hl) fun j u hu=>by simpa using hv (j + 1) u (by simpa using hu))
  ·cases ei
 | [],_ :: _,_,e,_,_=>by simp at e
 | _ :: _,[],_,e,_,_=>by simp at e
 | _,[],_ :: _,_,hl,_=>by simp at hl
 | _,_ :: _,[],_,hl,_=>by simp at hl
section
variable {X:Cx}
def zOn (xs:List V) (H:Hp) (Q:VK):Prop:=∃ (a:Addr) (kvs:List (Key × V)) (ks:List Int),xs=[.ref a]∧H a=some (.dK kvs)∧kvs.map (·.1)=ks.map (Sum.inl:Int→Key)∧kvs.length < 64 ∧
 ∀ l (ns:List Int),H l=none→ns.Perm ks→ns.Pairwise (· ≤ ·)→Q (.ref l) (upd H l (.lst (ns.map V.int)))
end
end L2
end
section
namespace BK
open PySem L2
structure DS where
 R:List (List Int)
 n:Int
 l:Option Int
def DS.stop (S:DS):Bool:=match S.l with
 | some k=>decide (k < 1)
 | none=>false
def DS.put (S:DS) (x:Nat × List Int):DS:=⟨S.R.set x.1 x.2,S.n + 1,S.l.map (· - 1)⟩
def zAk (S:DS):List (Nat × List Int)→DS × Bool
 | []=>(S,false)
 | x :: r=>if S.stop=true then (S,true) else zAk (S.put x) r
theorem zCu (S:DS) (xs ys:List (Nat × List Int)):zAk S (xs ++ ys)=if (zAk S xs).2=true then zAk S xs else zAk (zAk S xs).1 ys:=by
 induction xs generalizing S with
 | nil=>rfl
 | cons x r ih =>
  show (if S.stop=true then (S,true) else zAk (S.put x) (r ++ ys))=_
  by_cases h:S.stop=true
  ·rw [if_pos h]
   have:zAk S (x :: r)=(S,true):=if_pos h
   rw [this];rfl
  ·rw [if_neg h,ih]
   have:zAk S (x :: r)=zAk (S.put x) r:=if_neg h
   rw [this]
theorem zCt (S:DS) (xs:List (Nat × List Int)):(zAk S xs).1.R.length=S.R.length:=by
 induction xs generalizing S with
 | nil=>rfl
 | cons x r ih =>
  show ((if S.stop=true then (S,true) else zAk (S.put x) r).1).R.length=_
  split
  ·rfl
  ·rw [ih];exact List.length_set
theorem stop_iff {S:DS}(h:S.stop=true):∃ k,S.l=some k∧k < 1:=by
 unfold DS.stop at h
 split at h
 ·rename_i k e;exact ⟨k,e,of_decide_eq_true h⟩
 ·cases h
theorem stop_not {S:DS}(h:¬ S.stop=true):∀ k,S.l=some k→¬ k < 1:=fun k e z=>h (by unfold DS.stop;rw [e];exact decide_eq_true z)
theorem zC6 {S:DS}(h:S.l=none) (xs:List (Nat × List Int)):zAk S xs=(⟨xs.foldl (fun R x=>R.set x.1 x.2) S.R,S.n + xs.length,none⟩,false):=by
 induction xs generalizing S with
 | nil=>obtain ⟨R,n,l⟩:=S;cases h;simp [zAk]
 | cons x r ih =>
  have e:S.stop=false:=by unfold DS.stop;rw [h]
  show (if S.stop=true then (S,true) else zAk (S.put x) r)=_
  rw [e,if_neg (by decide),ih (by show S.l.map _=none;rw [h];rfl)]
  simp only [DS.put,List.foldl_cons,List.length_cons]
  congr 2
  omega
abbrev zDk (C:Addr) (H:Hp) (d kr:Addr) (S:DS):Prop:=DiskAt C H d kr S.R S.n S.l
def zSo (K:PySem.W.Frag) (RA:Hp→V→Bool→Prop) (H:Hp) (ps:Addr) (L:List (V × V × Bool)):Prop:=∃ ts:List Addr,H ps=some (.lst (ts.map V.ref))∧ts.length=L.length∧∀ (i:Nat) (t:Addr) (x:V × V × Bool),ts[i]? = some t→L[i]? = some x→H t=some (.tup [x.1,x.2.1])∧Kd K H x.1∧RA H x.2.1 x.2.2
def PL (H:Hp) (ts rs:List Addr) (L:List (Nat × List Int)):Prop:=ts.length=L.length∧rs.length=L.length∧∀ (i:Nat) (h1:i < ts.length) (h2:i < rs.length) (h3:i < L.length),H ts[i]=some (.tup [.int L[i].1,.ref rs[i]])∧H rs[i]=some (.lst (L[i].2.map V.int))
theorem PL.same {H H':Hp}{ts rs:List Addr}{L:List (Nat × List Int)}(h:PL H ts rs L) (s:Same H H'):PL H' ts rs L:=⟨h.1,h.2.1,fun i a b c=>⟨s _ _ (h.2.2 i a b c).1,s _ _ (h.2.2 i a b c).2⟩⟩
def PairsTs (H:Hp) (ps:Addr) (ts rs:List Addr) (L:List (Nat × List Int)):Prop:=H ps=some (.lst (ts.map V.ref))∧PL H ts rs L
def PairsAt (H:Hp) (ps:Addr) (L:List (Nat × List Int)):Prop:=∃ ts rs,PairsTs H ps ts rs L
theorem PairsTs.same {H H':Hp}{ps:Addr}{ts rs:List Addr}{L:List (Nat × List Int)}(h:PairsTs H ps ts rs L) (s:Same H H'):PairsTs H' ps ts rs L :=
 ⟨s _ _ h.1,h.2.same s⟩
theorem PairsAt.same {H H':Hp}{ps:Addr}{L:List (Nat × List Int)}(h:PairsAt H ps L) (s:Same H H'):PairsAt H' ps L:=let ⟨ts,rs,z⟩:=h;⟨ts,rs,z.same s⟩
theorem zOs {C d kr:Addr}{H:Hp}{S:DS}(D:zDk C H d kr S) {ps:Addr}{ts:List Addr}(h1:H ps=some (.lst (ts.map V.ref))) (h2:∀ t ∈ ts,∃ xs,H t=some (.tup xs)):ps≠kr:=by
 obtain ⟨dx,rs,_,g2,g3⟩:=D.ex
 intro z
 subst z
 rw [h1] at g2
 have e:ts=rs:=zDe (by injection g2 with z;injection z)
 subst e
 have hlo:=D.lo
 have hp:0 < ts.length:=by rw [g3.1];omega
 obtain ⟨xs,q⟩:=h2 ts[0] (List.getElem_mem hp)
 obtain ⟨row,_,q2⟩:=g3.all (List.getElem_mem hp)
 rw [q] at q2;cases q2
theorem PairsTs.chg {C d kr:Addr}{H H':Hp}{S:DS}{ps:Addr}{ts rs:List Addr}{L:List (Nat × List Int)}(h:PairsTs H ps ts rs L) (D:zDk C H d kr S) (g:∀ x ∈ L,zY x.2) (c:Chg [d,kr] H H'):PairsTs H' ps ts rs L:=by
 obtain ⟨h1,h2,h2',h3⟩:=h
 obtain ⟨dx,rs',g1,g2,_⟩:=D.ex
 have nk:ps≠kr:=zOs D h1 fun t ht=>by
  obtain ⟨i,hi,e⟩:=List.mem_iff_getElem.mp ht
  exact ⟨_,by rw [← e];exact (h3 i hi (by omega) (by omega)).1⟩
 refine ⟨c _ _ h1 ?_,h2,h2',fun i a1 a2 a3=>?_⟩
 ·simp only [List.mem_cons,List.not_mem_nil,or_false,not_or]
  exact ⟨ze h1 g1 (fun z=>by cases z),nk⟩
 ·obtain ⟨a,b⟩:=h3 i a1 a2 a3
  refine ⟨c _ _ a ?_,c _ _ b ?_⟩ <;> simp only [List.mem_cons,List.not_mem_nil,or_false,not_or]
  ·exact ⟨ze a g1 (fun z=>by cases z),ze a g2 (fun z=>by cases z)⟩
  ·exact ⟨ze b g1 (fun z=>by cases z),ze b g2 (fun z=>zEk (g _ (List.getElem_mem a3)).1 z.symm)⟩
def Rises (m:Int):Option Int→List (Nat × List Int)→Prop
 | _,[]=>True
 | h,x :: r=>17≤x.1∧(x.1:Int)≤m - 1∧(∀ j,h=some j→j < (x.1:Int))∧Rises m (some (x.1:Int)) r
theorem Rises.all {m:Int}{h:Option Int}{L:List (Nat × List Int)}(r:Rises m h L):∀ x ∈ L,17≤x.1∧(x.1:Int)≤m - 1:=by
 induction L generalizing h with
 | nil=>intro x hx;cases hx
 | cons y L ih =>
  obtain ⟨r1,r2,_,r4⟩:=r
  intro x hx
  rcases List.mem_cons.mp hx with e | hx
  ·subst e;exact ⟨r1,r2⟩
  ·exact ih r4 x hx
structure Homes (H:Hp) (a:Addr) (m:Int) (ks:List Int) (ρ:Int→List Int):Prop where
 ex:∃ kvs,H a=some (.dK kvs)∧kvs.map (·.1)=ks.map (Sum.inl:Int→Key)∧∀ k ∈ ks,∃ r,valV kvs (.inl k)=some (.ref r)∧H r=some (.lst ((ρ k).map V.int))
 nd:ks.Nodup
 inn:∀ k ∈ ks,17≤k∧k≤m - 1
 good:∀ k ∈ ks,zY (ρ k)
theorem Homes.same {H H':Hp}{a:Addr}{m:Int}{ks:List Int}{ρ:Int→List Int}(h:Homes H a m ks ρ) (s:Same H H'):Homes H' a m ks ρ:=by
 obtain ⟨⟨kvs,h1,h2,h3⟩,h4,h5,h6⟩:=h
 refine ⟨⟨kvs,s _ _ h1,h2,fun k hk=>?_⟩,h4,h5,h6⟩
 obtain ⟨r,a,b⟩:=h3 k hk
 exact ⟨r,a,s _ _ b⟩
theorem zNz {P:Nat→Addr→Addr→Prop}:∀ (n:Nat),(∀ i,i < n→∃ t r,P i t r)→∃ ts rs:List Addr,ts.length=n∧rs.length=n∧∀ (i:Nat) (h1:i < ts.length) (h2:i < rs.length),P i ts[i] rs[i]
 | 0,_=>⟨[],[],rfl,rfl,fun i h _=>absurd h (Nat.not_lt_zero _)⟩
 | n + 1,h=>by
  obtain ⟨ts,rs,h1,h2,h3⟩:=zNz n fun i hi=>h i (by omega)
  obtain ⟨t,r,hp⟩:=h n (by omega)
  refine ⟨ts ++ [t],rs ++ [r],by simp [h1],by simp [h2],fun i a b=>?_⟩
  by_cases hi:i < n
  ·rw [List.getElem_append_left (by omega),List.getElem_append_left (by omega)]
   exact h3 i (by omega) (by omega)
  ·have e:i=n:=by simp at a;omega
   subst e
   rw [List.getElem_append_right (by omega),List.getElem_append_right (by omega)]
   simpa [h1,h2] using hp
theorem zKh {m:Int}{ρ:Int→List Int}:∀ {ns:List Int}{h:Option Int},ns.Pairwise (· < ·)→(∀ k ∈ ns,17≤k∧k≤m - 1)→(∀ j,h=some j→∀ k ∈ ns,j < k)→Rises m h (ns.map fun k=>(k.toNat,ρ k))
 | [],_,_,_,_=>trivial
 | k :: ns,h,hp,hi,hh=>by
  obtain ⟨h1,h2⟩:=hi k (by simp)
  have hp':=List.pairwise_cons.mp hp
  refine ⟨by show 17≤k.toNat;omega,by show (k.toNat:Int)≤m - 1;omega,fun j e=>by show j < (k.toNat:Int);have:=hh j e k (by simp);omega,zKh hp'.2 (fun x hx=>hi x (by simp [hx])) fun j e x hx=>?_⟩
  have e':((k.toNat:Nat):Int)=j:=Option.some.inj e
  have:=hp'.1 x hx
  omega
theorem zF4 {ns:List Int}(h1:ns.Pairwise (· ≤ ·)) (h2:ns.Nodup):ns.Pairwise (· < ·):=by
 refine (h1.and h2).imp fun ⟨a,b⟩=>?_
 omega
theorem DiskAt.offs {C d kr:Addr}{H H':Hp}{R:List (List Int)}{n:Int}{l:Option Int}{S:List Addr}(D:DiskAt C H d kr R n l) (c:Chg S H H') (hd:d ∉ S) (hk:kr ∉ S) (hr:∀ u ∈ S,NoRowAt H kr u):DiskAt C H' d kr R n l:=by
 obtain ⟨dx,rs,g1,g2,g3⟩:=D.ex
 exact ⟨⟨dx,rs,c _ _ g1 hd,c _ _ g2 hk,g3.chg c fun r hm z=>hr r z rs g2 hm⟩,D.lo,D.hi,D.good⟩
theorem zNk (W:List (Nat × List Int)):∀ R:List (List Int),(W.foldl (fun R x=>R.set x.1 x.2) R).length=R.length:=by
 induction W with
 | nil=>intro R;rfl
 | cons x W ih=>intro R;rw [List.foldl_cons,ih,List.length_set]
end BK
end
section
namespace BK
open PySem L2
def insK (ks:List Int) (k:Int):List Int:=if k ∈ ks then ks else ks ++ [k]
theorem insK_mem {ks:List Int}{k x:Int}:x ∈ insK ks k ↔ x ∈ ks∨x=k:=by
 unfold insK
 split
 ·rename_i h;exact ⟨.inl,fun z=>z.elim id fun e=>by rw [e];exact h⟩
 ·simp
theorem zQx {ks:List Int}{k:Int}(h:ks.Nodup):(insK ks k).Nodup:=by
 unfold insK
 split
 ·exact h
 ·rename_i hk
  rw [List.nodup_append]
  exact ⟨h,by simp,fun x hx y hy z=>hk (by rw [List.mem_singleton.mp hy] at z;rw [← z];exact hx)⟩
theorem zDh {ks:List Int}{k:Int}:(insK ks k).length≤ks.length + 1:=by
 unfold insK;split <;> simp
theorem zOp {kvs:List (Key × V)}{ks:List Int}(h:kvs.map (·.1)=ks.map (Sum.inl:Int→Key)) (k:Int) (v:V):(zFx kvs (.inl k) v).map (·.1)=(insK ks k).map (Sum.inl:Int→Key):=by
 by_cases hk:k ∈ ks
 ·have hany:(kvs.any fun kv=>decide (kv.1=Sum.inl k))=true:=by
   have:(Sum.inl k:Key) ∈ kvs.map (·.1):=by rw [h];exact List.mem_map.mpr ⟨k,hk,rfl⟩
   obtain ⟨kv,hkv,e⟩:=List.mem_map.mp this
   exact List.any_eq_true.mpr ⟨kv,hkv,decide_eq_true e⟩
  unfold zFx insK
  rw [if_pos hany,if_pos hk,List.map_map,← h]
  refine List.map_congr_left fun kv _=>?_
  show (if kv.1=Sum.inl k then (kv.1,v) else kv).1=kv.1
  split <;> rfl
 ·have hany:¬ (kvs.any fun kv=>decide (kv.1=Sum.inl k))=true:=fun z=>hk (by
   obtain ⟨kv,hkv,e⟩:=List.any_eq_true.mp z
   have:kv.1 ∈ kvs.map (·.1):=List.mem_map.mpr ⟨kv,hkv,rfl⟩
   rw [of_decide_eq_true e,h] at this
   obtain ⟨j,hj,e⟩:=List.mem_map.mp this
   cases e;exact hj)
  unfold zFx insK
  rw [if_neg hany,if_neg hk,List.map_append,h,List.map_append];rfl
def OffD (H:Hp) (a p:Addr):Prop:=∀ kvs:List (Key × V),H a=some (.dK kvs)→∀ (k:Key) (r:Addr),valV kvs k=some (.ref r)→r≠p
section
variable {H H':Hp}{a p:Addr}{m:Int}{ks:List Int}{ρ:Int→List Int}
theorem Homes.at (h:Homes H a m ks ρ):∃ kvs,H a=some (.dK kvs):=let ⟨kvs,e,_⟩:=h.ex;⟨kvs,e⟩
theorem Homes.row (h:Homes H a m ks ρ) {kvs:List (Key × V)}(e:H a=some (.dK kvs)) {k:Key}{r:Addr}(hv:valV kvs k=some (.ref r)):∃ j ∈ ks,k=.inl j∧H r=some (.lst ((ρ j).map V.int)):=by
 obtain ⟨kvs',e1,e2,e3⟩:=h.ex
 rw [e] at e1
 cases e1
 have:=zL0 hv
 rw [e2] at this
 obtain ⟨j,hj,rfl⟩:=List.mem_map.mp this
 obtain ⟨r',z1,z2⟩:=e3 j hj
 rw [hv] at z1
 cases z1
 exact ⟨j,hj,rfl,z2⟩
theorem Homes.new (h:Homes H a m ks ρ) (hp:H p=none):OffD H a p:=fun kvs e k r hv z=>by
 obtain ⟨j,_,_,q⟩:=h.row e hv
 rw [z,hp] at q;cases q
theorem Homes.offo (h:Homes H a m ks ρ) {o:HO}(hp:H p=some o) (no:∀ row:List Int,row.length=16→o≠.lst (row.map V.int)):OffD H a p:=fun kvs e k r hv z=>by
 obtain ⟨j,hj,_,q⟩:=h.row e hv
 rw [z,hp] at q
 exact no _ (h.good j hj).1 (Option.some.inj q)
theorem Homes.chg {S:List Addr}(h:Homes H a m ks ρ) (c:Chg S H H') (ha:a ∉ S) (hs:∀ p ∈ S,OffD H a p):Homes H' a m ks ρ:=by
 obtain ⟨⟨kvs,h1,h2,h3⟩,h4,h5,h6⟩:=h
 refine ⟨⟨kvs,c _ _ h1 ha,h2,fun k hk=>?_⟩,h4,h5,h6⟩
 obtain ⟨r,q1,q2⟩:=h3 k hk
 exact ⟨r,q1,c _ _ q2 fun z=>hs r z kvs h1 _ _ q1 rfl⟩
theorem OffD.chg {S:List Addr}(o:OffD H a p) (h:Homes H a m ks ρ) (c:Chg S H H') (ha:a ∉ S):OffD H' a p:=fun kvs e k r hv=>by
 obtain ⟨kvs',e1⟩:=h.at
 have:=c _ _ e1 ha
 rw [this] at e
 cases e
 exact o _ e1 k r hv
theorem OffD.same (o:OffD H a p) (h:Homes H a m ks ρ) (s:Same H H'):OffD H' a p:=o.chg h (Chg.of s (S:=[])) (by simp)
theorem Homes.put2 (h:Homes H a m ks ρ) (hz:ks.length < 900) {k:Int}(h1:17≤k) (h2:k≤m - 1) {r:Addr}{row:List Int}(hr:H r=some (.lst (row.map V.int))) (g:zY row) :
  ∃ H',DPut H a (.int k) (.ref r) H'∧Chg [a] H H'∧Homes H' a m (insK ks k) (fun j=>if j=k then row else ρ j)∧∀ u,OffD H a u→r≠u→OffD H' a u:=by
 obtain ⟨⟨kvs,e1,e2,e3⟩,nd,inn,gd⟩:=h
 have hlen:kvs.length=ks.length:=by have:=congrArg List.length e2;simpa using this
 refine ⟨_,DPut.k (k:=.inl k) e1 (small1000 (by omega)),(Chg.of (Same.refl _)).upd (by simp) _,⟨⟨_,zB,zOp e2 k _,fun j hj=>?_⟩,zQx nd,fun j hj=>?_,fun j hj=>?_⟩,fun u ou hru kvs' ek k' r' hv=>?_⟩
 ·have off:∀ {r:Addr}{xs:List V},H r=some (.lst xs)→∀ o:HO,(upd H a o) r=some (.lst xs):=fun z o=>by rw [upd_ne (ze z e1 (fun z=>by cases z))];exact z
  by_cases hjk:j=k
  ·subst hjk
   exact ⟨r,by rw [zG1,if_pos rfl],by rw [if_pos rfl];exact off hr _⟩
  ·have hj':j ∈ ks:=(insK_mem.mp hj).resolve_right hjk
   obtain ⟨r',z1,z2⟩:=e3 j hj'
   exact ⟨r',by rw [zG1,if_neg (fun z=>hjk (Sum.inl.inj z))];exact z1,by rw [if_neg hjk];exact off z2 _⟩
 ·rcases insK_mem.mp hj with z | z
  ·exact inn j z
  ·rw [z];exact ⟨h1,h2⟩
 ·by_cases hjk:j=k
  ·rw [if_pos hjk];exact g
  ·rw [if_neg hjk];exact gd j ((insK_mem.mp hj).resolve_right hjk)
 ·rw [zB] at ek
  cases ek
  rw [zG1] at hv
  split at hv
  ·cases hv;exact hru
  ·exact ou kvs e1 k' r' hv
theorem zIt (h:H a=some (.dK [])):Homes H a m [] ρ:=⟨⟨[],h,rfl,fun k hk=>(by cases hk)⟩,.nil,fun k hk=>(by cases hk),fun k hk=>(by cases hk)⟩
theorem Homes.get (h:Homes H a m ks ρ) {k:Int}(hk:k ∈ ks):∃ r,DGet H a (.int k) (some (.ref r))∧H r=some (.lst ((ρ k).map V.int)):=by
 obtain ⟨kvs,e1,_,e3⟩:=h.ex
 obtain ⟨r,z1,z2⟩:=e3 k hk
 have:=DGet.k (k:=.inl k) e1
 rw [z1] at this
 exact ⟨r,this,z2⟩
theorem Homes.getN (h:Homes H a m ks ρ) {k:Int}(hk:k ∉ ks):DGet H a (.int k) none:=by
 obtain ⟨kvs,e1,e2,_⟩:=h.ex
 have:=DGet.k (k:=.inl k) e1
 cases e:valV kvs (.inl k) with
 | none=>rw [e] at this;exact this
 | some v =>
  have z:=zL0 e
  rw [e2] at z
  obtain ⟨j,hj,q⟩:=List.mem_map.mp z
  cases q;exact absurd hj hk
end
def zK3 (ks ns:List Int):Prop:=ns.Perm ks∧ns.Pairwise (· < ·)
def zn (ns:List Int) (ρ:Int→List Int):List (Nat × List Int):=ns.map fun k=>(k.toNat,ρ k)
structure Bat (C:Addr) (H:Hp) (b d nr:Addr) (m:Int) (ks:List Int) (ρ:Int→List Int):Prop where
 ex:∃ dx,H b=some (.ins C dx [("disk", .ref d),("new_rows", .ref nr)])
 ho:Homes H nr m ks ρ
section
variable {C CD b d kr nr:Addr}{H H':Hp}{m:Int}{ks:List Int}{ρ:Int→List Int}{S:DS}
theorem Bat.chg {T:List Addr}(h:Bat C H b d nr m ks ρ) (c:Chg T H H') (hb:b ∉ T) (hn:nr ∉ T) (ho:∀ p ∈ T,OffD H nr p):Bat C H' b d nr m ks ρ :=
 ⟨let ⟨dx,e⟩:=h.ex;⟨dx,c _ _ e hb⟩,h.ho.chg c hn ho⟩
theorem Bat.same (h:Bat C H b d nr m ks ρ) (s:Same H H'):Bat C H' b d nr m ks ρ:=h.chg (Chg.of s (S:=[])) (by simp) (by simp) (by simp)
theorem zLo {a:Addr}(h:Homes H a m ks ρ) (D:zDk CD H d kr S) (c:Chg [d,kr] H H'):Homes H' a m ks ρ:=by
 obtain ⟨dx,rs,g1,g2,_⟩:=D.ex
 obtain ⟨kvs,e1⟩:=h.at
 refine h.chg c ?_ fun p hp=>?_
 ·simp only [List.mem_cons,List.not_mem_nil,or_false,not_or]
  exact ⟨ze e1 g1 (fun z=>by cases z),ze e1 g2 (fun z=>by cases z)⟩
 ·simp only [List.mem_cons,List.not_mem_nil,or_false] at hp
  rcases hp with z | z
  ·subst z;exact h.offo g1 fun row _ z=>by cases z
  ·subst z;exact h.offo g2 fun row h16 z=>zEk h16 z
theorem Bat.disk (h:Bat C H b d nr m ks ρ) (D:zDk CD H d kr S) (c:Chg [d,kr] H H'):Bat C H' b d nr m ks ρ:=by
 obtain ⟨dx,rs,g1,g2,_⟩:=D.ex
 obtain ⟨bx,e⟩:=h.ex
 refine ⟨⟨bx,c _ _ e ?_⟩,zLo h.ho D c⟩
 simp only [List.mem_cons,List.not_mem_nil,or_false,not_or]
 refine ⟨fun z=>?_,ze e g2 (fun z=>by cases z)⟩
 subst z
 rw [e] at g1
 injection g1 with g1
 injection g1 with _ _ g1
 injection g1 with g1
 injection g1 with g1
 exact absurd g1 (by decide)
theorem zFv {a:Addr}(D:zDk CD H d kr S) (h:∃ kvs,H a=some (.dK kvs)) (c:Chg [a] H H'):zDk CD H' d kr S:=by
 obtain ⟨dx,rs,g1,g2,g3⟩:=D.ex
 obtain ⟨kvs,e1⟩:=h
 exact D.chg c (by simp only [List.mem_singleton];exact ze g1 e1 (fun z=>by cases z)) (by simp only [List.mem_singleton];exact ze g2 e1 (fun z=>by cases z)) fun r row hr _=>by simp only [List.mem_singleton];exact ze hr e1 (fun z=>by cases z)
end
theorem zM8 {fj:List (Str × Nat)}{tc:TT}{te:TE}{σ:St}{H:Hp}{Q:Addr→Hp→Prop}{lo:Int}{n:Nat}(hn:n≤1000) (g:Nat→Bool) (val:Nat→V)
  (hc:∀ (i:Nat) (H':Hp) (Qb:Bool→Hp→Prop),i < n→Same H H'→(∀ H3,Same H' H3→Qb (g i) H3)→tc (some (.int (lo + (i:Int))) :: zAj σ fj) H' Qb)
  (he:∀ (i:Nat) (H':Hp) (Qf:VK),i < n→g i=true→Same H H'→(∀ H3,Same H' H3→Qf (val i) H3)→te (some (.int (lo + (i:Int))) :: zAj σ fj) H' Qf)
  (hd:∀ acc H',H acc=none→Same H H'→H' acc=some (.lst (((List.range n).filter g).map val))→Q acc H') :
  ∀ acc,H acc=none→∃ W:Nat→Nat→List V→Hp→Prop,(∃ m,W 0 m [] (upd H acc (.lst [])))∧∀ i m ys H,W i m ys H →
   ((Itr lo n).stop i H∧Q acc H)∨((Itr lo n).go i H∧∀ x H',(Itr lo n).yld i H x H'→tc (some x :: zAj σ fj) H' fun b H2 =>
    if b=true then te (some x :: zAj σ fj) H2 fun v H3=>H3 acc=some (.lst ys)∧ys.length < sizeLine∧∃ m',m' < m∧W (i + 1) m' (ys ++ [v]) (upd H3 acc (.lst (ys ++ [v])))
    else ∃ m',m' < m∧W (i + 1) m' ys H2):=by
 intro acc hacc
 refine ⟨fun i m ys H'=>m=n - i∧i≤n∧ys=((List.range i).filter g).map val∧H' acc=some (.lst ys)∧Same H H',⟨n,rfl,Nat.zero_le _,rfl,zB,zF hacc _⟩,?_⟩
 rintro i m ys H' ⟨rfl,hi,rfl,h1,s1⟩
 by_cases hlt:i < n
 ·refine .inr ⟨hlt,?_⟩
  rintro x H2 ⟨rfl,rfl⟩
  refine hc i _ _ hlt s1 fun H3 s3=>?_
  have hl:(((List.range i).filter g).map val).length < sizeLine:=by
   have:=List.length_filter_le g (List.range i)
   rw [List.length_map]
   rw [List.length_range] at this
   exact small1000 (by omega)
  cases hg:g i with
  | true =>
   refine iteT (he i H3 _ hlt hg (s1.trans s3) fun H4 s4=>⟨s4 _ _ (s3 _ _ h1),hl,n - (i + 1),by omega,rfl,hlt,?_,zB,zB6 hacc ((s1.trans s3).trans s4) _⟩)
   rw [List.range_succ,List.filter_append,List.map_append]
   simp [hg]
  | false =>
   refine iteF ⟨n - (i + 1),by omega,rfl,hlt,?_,s3 _ _ h1,s1.trans s3⟩
   rw [List.range_succ,List.filter_append,List.map_append]
   simp [hg]
 ·have e:i=n:=by omega
  subst e
  exact .inl ⟨Nat.le_refl _,hd acc H' hacc s1 h1⟩
end BK
end
section
namespace L2
open PySem PySem.Spec PySem.Calls PyProof.Rows PySem.W
section
variable {Κ:Type} [DecidableEq Κ] {prog:Program}{w:World}{knd:PySem.KeyKind prog w Κ}{A:Around}{E:Value→Shared→Prop}{s:Shared}
theorem zIq {it d:Addr}{i ep:Nat}{kvs:List (Κ × Value)}{Q:Option Value→Shared→Prop}(hd0:HdAt A s.heap) (kit:s.heap.IsKeyIter it d i kvs.length ep) (dat:s.heap.DictAt knd d kvs ep) (over:kvs[i]? = none)
  (post:∀ h',Heap.ExtBut it s.heap h'→Q none { s with heap:=h' }):wpAny (model prog w) A (pyNext (.ref it)) Q E s:=by
 obtain ⟨oi,e1,e2,e3⟩:=id kit
 obtain ⟨od,es,f1,f2,f3,f4,f5,f6⟩:=id dat
 have ls:es.size=kvs.length:=by rw [← f5.length];simp
 have past:es.size≤i:=by rw [ls];simpa using over
 unfold pyNext
 refine wpAny_bind (wpAny_attempt (wpAny_callSpecial?_slot (name:=Str.ofString "__next__") kit.typeIs F.slot_dict_keyiterator_next (wpAny_call_entry F.slot_dict_keyiterator_next kit.typeIs F.entry_dict_keyiterator_next ?_ (F.args_dict_keyiterator_next_1 _))))
 refine wpAny_bind (wpAny_pure (wpAny_bind (wpAny_bind ?_)))
 first | refine wpAny_bind (wpAny_typeNameOfWhole_keyiter kit.typeIs (wpAny_pure ?_)) | refine wpAny_bind (wpAny_typeNameOf_keyiter kit.typeIs (wpAny_pure ?_))
 refine wpAny_bind (wpAny_fieldsOf e1 e3 ?_)
 simp only [show Builtin.Dict_items.ownsTuple "dict_keyiterator" = false by decide,Bool.false_eq_true,if_false]
 show wpAny _ _ (if (Value.ref d == Value.none)=true then _ else _) _ _ s
 rw [if_neg (by simp)]
 refine wpAny_bind (wpAny_pure (wpAny_bind (wpAny_dictEntries f1 f3 ?_)))
 rw [if_neg (by rw [ls];simp)]
 refine wpAny_bind (wpAny_pure (wpAny_bind (wpAny_dictEpoch f1 f3 ?_)))
 rw [if_neg (by simp)]
 refine wpAny_pure ?_
 simp only [if_neg (show ¬ ((i:Int) < 0) by omega),Int.toNat_natCast,Array.getElem?_eq_none past]
 refine wpAny_bind ?_
 first | refine wpAny_bind (wpAny_typeNameOfWhole_keyiter kit.typeIs (wpAny_pure ?_)) | refine wpAny_bind (wpAny_typeNameOf_keyiter kit.typeIs (wpAny_pure ?_))
 show wpAny _ _ (setField (.ref it) 0 .none >>= _) _ _ s
 refine wpAny_bind (wpAny_setField e1 e3 (by simp) ?_)
 show wpAny _ _ (newExc (.type "StopIteration") [] >>= _) _ _ _
 refine wpAny_bind ?_
 simp only [newExc,newTuple]
 refine wpAny_bind (wpAny_newObj_type ?_ (by size_fits))
 refine wpAny_bind (m:=firstArgMember _ _) (wpAny_of_eq (a:=Value.none) (by first | rfl | (simp only [firstArgMember];rfl)) ?_)
 refine wpAny_newObj_type ?_ (by size_fits)
 refine zCv (HdAt.two (A:=A.in1) (it:=it) hd0 (fun b o' hb e=>(Heap.SameBut.update ..).extBut b o' hb e) (fun oe vs e e'=>by rw [e1] at e;cases e;rw [e3] at e';cases e';exact ⟨by simp,by simp⟩)) (Heap.get?_push_size _ rfl) rfl (by simp;omega) fun h' sb ⟨o',_,ho',hc',_⟩=>?_
 refine wpAny_bind (wpAny_isInstance (T := "StopIteration") (b:=true) ⟨_,ho',hc'⟩ isSubtype_stop ?_)
 refine wpAny_pure (post _ fun b ob hb e=>(sb.2 b ?_).trans (((Heap.SameBut.update ..).extBut.push _).push _ b ob hb e))
 exact Nat.ne_of_lt (Nat.lt_of_lt_of_le (Heap.lt_size e) (by rw [Heap.size_push,Heap.size_after_update];exact Nat.le_succ _))
theorem HdAt.in2 {A:Around}{h:Heap}(x:HdAt A h):∃ L,HdIn A L h∧∀ b ∈ L,∃ o,h.get? b=some o:=by
 rcases x with x | ⟨e,oe,vs,a,b,c,d⟩
 ·exact ⟨[],.inl x,fun b hb=>by cases hb⟩
 ·rcases d with d | ⟨b',ob,vb,d1,d2,d3,d4⟩
  ·exact ⟨[e],.inr ⟨e,oe,vs,a,by simp,b,c,.inl d⟩,fun z hz=>by rw [List.mem_singleton.mp hz];exact ⟨_,b⟩⟩
  ·refine ⟨[e,b'],.inr ⟨e,oe,vs,a,by simp,b,c,.inr ⟨b',ob,vb,d1,d2,by simp,d3,d4⟩⟩,fun z hz=>?_⟩
   simp only [List.mem_cons,List.not_mem_nil,or_false] at hz
   rcases hz with e | e
   ·rw [e];exact ⟨_,b⟩
   ·rw [e];exact ⟨_,d3⟩
theorem zI9 (I d:Addr) (hne:d≠I) (kvs:List (Κ × Value)) (ep:Nat) (L:List Addr) :
  Walks prog w A I (I :: d :: L) [I] kvs.length (fun i v=>∃ k x,kvs[i]? = some (k,x)∧knd.is k v=true) (fun i h=>h.IsKeyIter I d i kvs.length ep∧h.DictAt knd d kvs ep∧HdIn A L h) where
 sub:=fun b hb=>by rw [List.mem_singleton.mp hb];exact List.mem_cons_self ..
 frame:=fun _ _ _ st hk=>⟨st.1.at fun o e=>hk I (List.mem_cons_self ..) o e,st.2.1.at' fun o e=>hk d (List.mem_cons_of_mem _ (List.mem_cons_self ..)) o e,st.2.2.keepF fun b hb o e=>hk b (List.mem_cons_of_mem _ (List.mem_cons_of_mem _ hb)) o e⟩
 item:=fun i s Q E hi st hQ=>by
  have hx:kvs[i]? = some (kvs[i].1,kvs[i].2):=List.getElem?_eq_getElem hi
  refine wpAny_pyNext_dict_item st.1 st.2.1 hx fun key h' hkey hit' hs'=>?_
  refine hQ key h' s.toks ⟨_,_,hx,hkey⟩ ⟨hit',st.2.1.extBut hs'.extBut hne,?_⟩ fun b o hb e=>hs'.extBut b o (fun z=>hb (by simp [z])) e
  have nit:∀ (c:Addr) (o:Obj) (vs:Array Value),s.heap.get? c=some o→o.data=.fields vs→(vs[2]? = some .none∨∃ b,vs[2]? = some (.ref b))→c≠I:=fun c o vs b c' dd z=>by
   subst z
   obtain ⟨o',ho,_,hd⟩:=st.1
   rw [b] at ho;cases ho;rw [hd] at c';cases c'
   rcases dd with dd | ⟨_,dd⟩ <;> simp at dd
  rcases st.2.2 with x | ⟨e,oe,vs,a,m,b,c,dd⟩
  ·exact .inl x
  ·refine .inr ⟨e,oe,vs,a,m,hs'.extBut e oe (nit e oe vs b c ?_) b,c,?_⟩
   ·rcases dd with dd | ⟨b,_,_,dd,_⟩
    ·exact .inl dd
    ·exact .inr ⟨b,dd⟩
   ·rcases dd with dd | ⟨b,ob,vb,d1,d2,d3,d4,d5,d6⟩
    ·exact .inl dd
    ·exact .inr ⟨b,ob,vb,d1,d2,d3,hs'.extBut b ob (nit b ob vb d4 d5 (.inl d6)) d4,d5,d6⟩
 done:=fun s Q E st hQ=>zIq st.2.2.at st.1 st.2.1 (by simp) fun h' he=>hQ h' s.toks fun b o hb e=>he b o (fun z=>hb (by simp [z])) e
 self:=fun _ _ _ _ st h=>wpAny_pyIter_keyiter st.1 h
end
section
variable {prog:Program}{w:World}{A:Around}{E:Value→Shared→Prop}{s:Shared}{T:String}{r d:Addr}{n:Nat}{P:Nat→Value→Prop}{OK:Heap→Prop}
theorem zOb {R:Result→Shared→Prop}(K:KdlSrc prog w T r d n P OK) {oI:Obj}{F:List Addr}{St:Nat→Heap→Prop}(good:OK s.heap) (made:∀ (E':Value→Shared→Prop) (Q':Value→Shared→Prop),Q' (.ref s.heap.objs.size) { s with heap:=s.heap.push oI }→wpAny (model prog w) A.in1 (pyIter (.ref r)) Q' E' s)
  (W:Walks prog w A.in1 s.heap.objs.size F [s.heap.objs.size] n P St) (st0:St 0 (s.heap.push oI)) (l:Addr) (lr:l≠r) (lF:l ∉ F) (res:Value) (c0:Nat) (hl:s.heap.get? l=some { cls:=.type "list", data:=.seq #[] c0 }) (hn:n≤sizeLine)
  (post:∀ h' tk acc c,(∀ b o,b≠l→s.heap.get? b=some o→h'.get? b=some o)→h'.get? l=some { cls:=.type "list", dict:=none,data:=.seq acc c,slots:=#[] }→ItemsOf P acc n→R (.ok (.ret res)) { s with heap:=h',toks:=tk }) :
  wpAny (model prog w) A.in1 (Builtin.List.listExtendWith (.ref l) (.ref r) res) (fun fin s'=>match fin with | .done f=>R (.ok f) s' | .again c'=>c'.quiet=true∧codeAny (model prog w) A c' R s') (fun e s'=>R (.error e) s') s:=by
 have walk:∀ (h:Heap) (c tk:Nat),St 0 h→(∀ b o,b≠l→s.heap.get? b=some o→h.get? b=some o)→h.get? l=some { cls:=.type "list", data:=.seq #[] c }→codeAny (model prog w) A (.builtin "list.extend.loop" ⟨[.ref l,.ref s.heap.objs.size,res],[]⟩) R { s with heap:=h,toks:=tk }:=by
  intro h c tk q1 q2 q3
  refine codeAny_extend_loopS W.toS hn l lF res n 0 _ #[] c rfl (Nat.zero_le _) q1 q3 (ItemsOf.nil _) fun s' acc c' mv q4 q5=>?_
  rw [Moved.eq_with mv]
  refine post s'.heap s'.toks acc c' (fun b o nb e=>mv.heap b o (fun z=>?_) (q2 b o nb e)) q4 q5
  rcases List.mem_cons.mp z with z | z
  ·exact nb z
  ·rw [List.mem_singleton.mp z] at e;exact absurd (Heap.lt_size e) (Nat.lt_irrefl _)
 have apart:Builtin.List.listSameRef (.ref l) (.ref r)=false:=by simp [Builtin.List.listSameRef,lr]
 have hl1:=Heap.get?_push_of_some oI hl
 unfold Builtin.List.listExtendWith
 refine wpAny_bind (wpAny_typeOf (T:=T) (K.type s good) ?_)
 simp only [apart,K.notList,K.notTuple,Bool.or_false,Bool.false_eq_true,if_false]
 refine wpAny_bind (made _ _ (wpAny_bind (wpAny_holding (K.hint _ _ _ _ (K.keep _ _ good fun b _ o e=>Heap.get?_push_of_some _ e) ?_))))
 refine wpAny_ite_split (fun _=>?_) (fun _=>wpAny_pure ⟨plainId_quiet PySem.F.plain_extend_loop _,walk _ c0 _ st0 (fun b o _ e=>Heap.get?_push_of_some _ e) hl1⟩)
 refine wpAny_bind (wpAny_rule (wpAny_bind ?_))
 show wpAny _ _ (updateSeq l (·.push .none) >>= fun _=>updateSeq l (·.pop)) _ _ _
 refine wpAny_bind (wpAny_updateSeq hl1 rfl ?_)
 have hl2:=Heap.get?_update_self (Obj.mapSeq (·.push Value.none)) hl1 rfl
 have hl3:=Heap.get?_update_self (Obj.mapSeq (·.pop)) hl2 rfl
 have far:∀ b,b≠l→∀ o,(s.heap.push oI).get? b=some o→(((s.heap.push oI).update l (Obj.mapSeq (·.push Value.none))).update l (Obj.mapSeq (·.pop))).get? b=some o:=fun b nb o e=>by
  rw [Heap.get?_update_other _ _ (Ne.symm nb),Heap.get?_update_other _ _ (Ne.symm nb)];exact e
 refine wpAny_updateSeq (hz:=by seq_fits) hl2 rfl (wpAny_pure ⟨plainId_quiet PySem.F.plain_extend_loop _,walk _ _ _ (W.frame 0 _ _ st0 fun b hb o e=>far b (fun z=>lF (z ▸ hb)) o e) (fun b o nb e=>far b nb o (Heap.get?_push_of_some _ e)) hl3⟩)
end
section
variable {Κ:Type} [DecidableEq Κ] {prog:Program}{w:World}{knd:PySem.KeyKind prog w Κ}{A:Around}{E:Value→Shared→Prop}{s:Shared}{d:Addr}{kvs:List (Κ × Value)}{ep:Nat}
theorem zLv {R:Result→Shared→Prop}(lo:(d == sysModules)=false) (hd0:HdAt A s.heap) (dat:s.heap.DictAt knd d kvs ep) (hn:kvs.length≤sizeLine)
  (post:∀ h' tk (acc:Array Value) c,(∀ b o,s.heap.get? b=some o→h'.get? b=some o)→h'.get? s.heap.objs.size=some { cls:=.type "list", dict:=none,data:=.seq acc c,slots:=#[] }→ItemsOf (fun i v=>∃ k x,kvs[i]? = some (k,x)∧knd.is k v=true) acc kvs.length→R (.ok (.ret (.ref s.heap.objs.size))) { s with heap:=h',toks:=tk }) :
  codeAny (model prog w) A (.builtin "proto.collect" ⟨[.ref d],[]⟩) R s:=by
 have Kd:=kdl_dict (prog:=prog) (w:=w) (knd:=knd) (kvs:=kvs) (ep:=ep) lo
 obtain ⟨L,hL,hLt⟩:=hd0.in2
 refine codeAny_builtin PySem.F.entry_proto_collect ?_
 rw [Around.under_plainId PySem.F.plain_proto_collect _]
 show wpAny _ A.in1 (newList [] >>= fun l=>again (.builtin "list.__iadd__" ⟨[l,.ref d],[]⟩)) _ _ s
 refine wpAny_bind (wpAny_newObj_type (wpAny_pure ⟨plainId_quiet PySem.F.plain_list_iadd _,codeAny_builtin PySem.F.entry_list_iadd ?_⟩))
 rw [Around.under_plainId PySem.F.plain_list_iadd _]
 have hl:(s.heap.push { cls:=.type "list", data:=.seq ([] : List Value).toArray }).get? s.heap.objs.size=some { cls:=.type "list", data:=.seq ([] : List Value).toArray }:=Heap.get?_push_size _ rfl
 show wpAny _ A.in1 (Builtin.List.listExtendWith (.ref s.heap.objs.size) (.ref d) (.ref s.heap.objs.size)) _ _ _
 have dat1:(s.heap.push { cls:=.type "list", data:=.seq ([] : List Value).toArray }).DictAt knd d kvs ep:=dat.push _
 have dlt:=dat.lt_size
 refine zOb (R:=R) (A:=A) (s:={ s with heap:=s.heap.push { cls:=.type "list", data:=.seq ([] : List Value).toArray } }) (F:=_ :: d :: L) (St:=fun i h=>h.IsKeyIter _ d i kvs.length ep∧h.DictAt knd d kvs ep∧HdIn A.in1 L h) Kd dat1 (fun E' Q' hq=>wpAny_pyIter_dict lo dat1 hq) (zI9 _ d (Nat.ne_of_lt dat1.lt_size) kvs ep L)
  ⟨⟨_,Heap.get?_push_size _ rfl,rfl,rfl⟩,dat1.push _,HdIn.keepF (show HdIn A.in1 L s.heap from hL) fun b _ o e=>Heap.get?_push_of_some _ (Heap.get?_push_of_some _ e)⟩ s.heap.objs.size (Nat.ne_of_gt dlt) (fun z=>?_) _ 0 hl hn fun h' tk acc c kp hs hacc=>?_
 ·rcases List.mem_cons.mp z with z | z
  ·exact absurd z (Nat.ne_of_lt (by rw [Heap.size_push];exact Nat.lt_succ_self _))
  ·rcases List.mem_cons.mp z with z | z
   ·exact absurd z (Nat.ne_of_gt dlt)
   ·obtain ⟨o,ho⟩:=hLt _ z
    exact absurd (Heap.lt_size ho) (Nat.lt_irrefl _)
 ·exact post h' tk acc c (fun b o e=>kp b o (Nat.ne_of_lt (Heap.lt_size e)) (Heap.get?_push_of_some _ e)) hs hacc
theorem zHv {Q:List Value→Shared→Prop}(lo:(d == sysModules)=false) (hd0:HdAt A s.heap) (dat:s.heap.DictAt knd d kvs ep) (hn:kvs.length≤sizeLine)
  (post:∀ h' tk (acc:Array Value),(∀ b o,s.heap.get? b=some o→h'.get? b=some o)→s.heap.objs.size < h'.objs.size→ItemsOf (fun i v=>∃ k x,kvs[i]? = some (k,x)∧knd.is k v=true) acc kvs.length→Q acc.toList { s with heap:=h',toks:=tk }) :
  wpAny (model prog w) A (collect (.ref d)) Q E s:=by
 unfold collect
 refine wpAny_bind (wpAny_runValue (zLv lo hd0 dat hn fun h' tk acc c kp hs hacc=>?_))
 show wpAny _ A (load s.heap.objs.size >>= _) _ _ _
 exact wpAny_bind (wpAny_load hs (wpAny_pure (post h' tk acc kp (Heap.lt_size hs) hacc)))
theorem zH5 {ns:List Int}{Q:Value→Shared→Prop}(lo:(d == sysModules)=false) (hd0:HdAt A s.heap) (dat:s.heap.DictAt knd d kvs ep) (hI:∀ acc:Array Value,ItemsOf (fun i v=>∃ k x,kvs[i]? = some (k,x)∧knd.is k v=true) acc kvs.length→IntsAre acc.toList ns) (h64:kvs.length < 64)
  (h:∀ (h':Heap) (tk e:Nat) (a:Addr) (out:Array Value) (ns':List Int),(∀ b o,s.heap.get? b=some o→h'.get? b=some o)→s.heap.objs.size≤a→h'.get? a=some (seqObj "list" out e) →
   IntsAre out.toList ns'→ns'.Perm ns→ns'.Pairwise (· ≤ ·)→Q (.ref a) { s with heap:=h',toks:=tk }) :
  wpAny (model prog w) A (call (.builtin "sorted") [.ref d]) Q E s:=by
 refine Calls.call_function_entry kind_sorted plain_sorted entry_sorted (args_sorted1 _) ?_
 unfold Builtin.«sorted»
 refine wpAny_bind (m:=checkCount "sorted" 1 1 _) (wpAny_pure ?_)
 refine wpAny_bind (zHv (A:=A.in1) lo hd0 dat (by rw [sizeLine_eq];omega) fun h1 tk acc kp hs hacc=>?_)
 have hl:acc.toList.length < 64:=by rw [Array.length_toList,hacc.1];exact h64
 refine wpAny_bind (wpAny_newList ?_)
 have hoL:(h1.push (seqObj "list" acc.toList.toArray 0)).get? h1.objs.size=some (seqObj "list" acc.toList.toArray 0):=Heap.get?_push_size _ rfl
 show wpAny _ _ _ _ _ { s with heap:=h1.push (seqObj "list" acc.toList.toArray 0),toks:=tk }
 refine wpAny_bind (wpAny_holding (wpAny_call_entry slot_list_sort ⟨_,hoL,rfl⟩ entry_list_sort (list_sort_tree hoL (hI acc hacc) hl fun out ns' a1 a2 a3=>⟨_,rfl,?_⟩) (args_list_sort _)))
 obtain ⟨e,he⟩:=sortedHeap_at (out:=out) hoL
 refine wpAny_pure ⟨_,rfl,h _ tk e h1.objs.size out ns' (fun b o q=>?_) (Nat.le_of_lt hs) he a1 a2 a3⟩
 have hb:=Heap.lt_size (kp b o q)
 rw [sortedHeap_old (Nat.ne_of_lt hb) (by rw [size_push'];exact Nat.lt_succ_of_lt hb)]
 exact Heap.get?_push_of_some _ (kp b o q)
end
theorem zHw {X:Cx}:zDj X (.builtin "sorted") zOn:=by
 intro pins s σ H xs us Q I r h
 obtain ⟨a,kvs,ks,rfl,e,hk,h64,q⟩:=h
 obtain ⟨u,rfl,rx⟩:=zGz r
 cases rx
 obtain ⟨z,hd,vs,rel,dd⟩:=zQ4 I.hok e
 obtain ⟨ep,hat⟩:=dd.dictAt
 have hks:=rel.keys
 have hlen:=rel.length
 refine zH5 (knd:=zAh X.prog X.w) (kvs:=vs) (ep:=ep) hd I.hd hat (ns:=ks) (fun acc hacc=>?_) (by omega) fun h' tk e' a' out ns' kp ha he hi hp hs=>?_
 ·refine zGp (P:=X.prog) (w:=X.w) (kvs:=vs) acc.toList (hks.symm.trans hk) (by rw [Array.length_toList];exact hacc.1) fun j v hv=>?_
  exact hacc.2 j v (by rw [← Array.getElem?_toList];exact hv)
 ·have hl:ns'.length=kvs.length:=by
   have:=hp.length_eq
   have h2:=congrArg List.length hk
   simp only [List.length_map] at h2
   omega
  exact ⟨.ref a',_,I.laid (t':=tk) kp ha (show ObjOk X.prog X.w _ h' _ (.lst (ns'.map V.int)) from ⟨by rw [List.length_map,hl];exact z,out.toList,e',zFq hi,by simpa using he⟩),rfl,q _ _ (I.hok.fresh ha) hp hs⟩
end L2
end
section
namespace L2
open PySem PySem.Spec PySem.Calls PyProof.Rows
def Its (lo st:Int) (n:Nat):It:=⟨fun i _=>i < n,fun i H x H'=>H'=H∧x=.int (lo + i * st),fun i _=>n≤i⟩
theorem zL3 {P:Program}{w:World}{K:PySem.W.Frag}{tg:Expr}(it:Addr) (lo c:Int) (n:Nat):Turn P w K tg (Its lo c n) [it] it (fun i h=>IsRangeIter h it (lo + (i:Nat) * c) ((n:Int) - (i:Nat)) c) where
 mem:=by simp
 obj:=fun i h st b hb=>by
  have e:b=it:=by simpa using hb
  subst e
  exact ⟨_,st,fun v z=>by
   have z':Data.fields _=Data.cell v:=z
   cases z'⟩
 keep:=fun i h h' st k=>k it (by simp) _ st
 item:=by
  intro X hP hw hK hc i pins s σ H E I hf st hg
  subst hP hw hK
  obtain ⟨f0,f1,f2,f3,f4,f5⟩:=hf it (by simp)
  have hlt:i < n:=hg
  refine wpAny_pyNext_range_item st (by omega) fun h' st' sb=>?_
  have I1:Inv X pins σ H { s with heap:=h',toks:=s.toks + 1 }:=I.turned (fun b o hb e=>(sb.2 b hb).trans e) f0 f1 f3 f4 f5
  have e1:lo + (i:Int) * c + c=lo + ((i + 1:Nat):Int) * c:=by push_cast;rw [Int.add_mul];omega
  have e2:(n:Int) - (i:Int) - 1=(n:Int) - ((i + 1:Nat):Int):=by omega
  rw [e1,e2] at st'
  exact ⟨_,rfl,zO4 (s:={ s with heap:=h',toks:=s.toks + 1 }) (n := "range_iterator") st' rfl rfl (by decide) ⟨.int (lo + i * c),H,I1,⟨s.toks,rfl⟩,⟨rfl,rfl⟩,st',fun b hb=>(hf b hb).1⟩⟩
 done:=by
  intro X hP hw hK hc i pins s σ H E I hf st hg
  subst hP hw hK
  obtain ⟨f0,f1,f2,f3,f4,f5⟩:=hf it (by simp)
  exact zGi I.hd st (by have:n≤i:=hg;omega) fun h' eb=>⟨rfl,I.turned (t':=s.toks) (fun b o hb e=>eb b o hb e) f0 f1 f3 f4 f5⟩
 self:=fun _ _ _ _ _ st h=>wpAny_pyIter_rangeiter st h
section
variable {X:Cx}{tg:Expr}
theorem zP0 {pins:List (Addr × Obj)}{σ:St}{H:Hp}{s:Shared}{R:It→Hp→Prop}{E:Value→Shared→Prop}{lo hi c:Int}{n:Nat}{t u v:Tok}{tk:Nat}(I:Inv X pins σ H s) (hs:Builtin.Range.small lo hi c=true) (hn:Builtin.Range.rangeSize lo hi c=n)
  (q:R (Its lo c n) H):wpAny (model X.prog X.w) X.A (pyIter (.ref s.heap.objs.size)) (PIE X pins σ tg R) E { s with heap:=s.heap.push { cls:=.type "range", data:=.fields #[.int lo t,.int hi u,.int c v] },toks:=tk }:=by
 refine wpAny_pyIter_range (IsRange.new ..) hs ?_
 have I1:Inv X pins σ H { s with heap:=s.heap.push { cls:=.type "range", data:=.fields #[.int lo t,.int hi u,.int c v] },toks:=tk }:=I.kept fun b o e=>Heap.get?_push_of_some _ e
 refine ⟨(s.heap.push { cls:=.type "range", data:=.fields #[.int lo t,.int hi u,.int c v] }).objs.size,[(s.heap.push { cls:=.type "range", data:=.fields #[.int lo t,.int hi u,.int c v] }).objs.size],_,_,H,rfl,
  I1.kept (t':=tk) fun b o e=>Heap.get?_push_of_some _ e,zL3 _ lo c n,?_,fun b hb=>?_,q⟩
 ·have e1:lo + ((0:Nat):Int) * c=lo:=by simp
  have e2:((n:Nat):Int) - ((0:Nat):Int)=Builtin.Range.rangeSize lo hi c:=by rw [hn];simp
  show IsRangeIter _ _ (lo + ((0:Nat):Int) * c) (((n:Nat):Int) - ((0:Nat):Int)) c
  rw [e1,e2]
  exact Heap.get?_push_size _ rfl
 ·have e:b=(s.heap.push { cls:=.type "range", data:=.fields #[.int lo t,.int hi u,.int c v] }).objs.size:=by simpa using hb
  subst e
  exact I1.fpOk (Nat.le_refl _) (I1.hok.fresh (Nat.le_refl _))
inductive iRng3' (R:(It→Hp→Prop)) (vs:List V) (H1:Hp):Prop
 | mk:∀ (i j c:Int) (n:Nat),(vs=[.int i,.int j,.int c])→(c≠0)→(c.natAbs < 1073741824)→(Builtin.Range.small i j c=true)→(Builtin.Range.rangeSize i j c=n)→(R (Its i c n) H1)→iRng3' R vs H1
def zTc (ta:TA):TI:=fun σ H R=>ta σ H fun vs H1=>iRng3' R vs H1
theorem pi_range3 {a b c:Expr}{ta:TA}{p pos:Pos}(hg:Gl X "range") (hm:X.mg "range" = none) (ha:PA X [a,b,c] ta) (he:starEach [a,b,c] X.env=(false,eval a X.env) :: starEach [b,c] X.env:=by rfl) (hpl:(backTo pos (starEach [b,c] X.env)).any (·.1)=false:=by rfl) :
  PI X tg (.Call (.Name "range" p) [a,b,c] [] pos) (zTc ta):=by
 intro pins s σ H R I h
 refine Call_ (zD6 I hg hm boot_range (PyProof.Rows.callWith_type1 (thn (ha pos pins s σ H _ I h) fun us s1 ⟨vs,H1,I1,r1,q1⟩=>?_) he hpl))
 obtain ⟨i,j,c,n,e,h0,h1,h2,h3,q⟩:=q1
 subst e
 cases r1 with
 | cons r rr =>
  cases rr with
  | cons r' rr =>
   cases rr with
   | cons r'' rr =>
    cases rr
    obtain ⟨t,rfl⟩:=r
    obtain ⟨t',rfl⟩:=r'
    obtain ⟨t'',rfl⟩:=r''
    exact call_range_3 h0 (zP0 I1 h2 h3 q) (Or.inl (PyProof.noPylong_small h1))
theorem zOh {a b c:Int}(hc:1≤c) (hc2:c < 2 ^ 30) (ha:-(2 ^ 30)≤a) (ha':a < 2 ^ 30) (hb:-(2 ^ 30)≤b) (hb':b < 2 ^ 30) :
  Builtin.Range.small a b c=true∧Builtin.Range.rangeSize a b c=(((b - a + c - 1) / c).toNat:Int):=by
 have hs:Builtin.Range.rangeSize a b c=if a < b then (b - a - 1) / c + 1 else 0:=by
  unfold Builtin.Range.rangeSize
  rw [if_pos (by omega)]
 have e:∀ x:Int,(x + c) / c=x / c + 1:=fun x=>by rw [Int.add_ediv_of_dvd_right (Int.dvd_refl c),Int.ediv_self (by omega)]
 have hb2:∀ x:Int,0≤x→0≤x / c∧x / c≤x:=fun x hx=>⟨Int.ediv_nonneg hx (by omega),Int.ediv_le_self _ hx⟩
 constructor
 ·unfold Builtin.Range.small
  rw [hs]
  simp only [Builtin.Range.rangeFitsLong,Bool.and_eq_true,Bool.or_eq_true,decide_eq_true_eq,beq_iff_eq]
  split
  ·have:=hb2 (b - a - 1) (by omega)
   rw [if_pos (show c > 0 by omega)]
   simp only [Bool.and_eq_true,decide_eq_true_eq]
   omega
  ·omega
 ·rw [hs]
  split
  ·have h1:(b - a + c - 1) / c=(b - a - 1) / c + 1:=by rw [← e];congr 1;omega
   have:=hb2 (b - a - 1) (by omega)
   rw [h1]
   omega
  ·by_cases h0:b=a
   ·subst h0
    have:(b - b + c - 1) / c=0:=Int.ediv_eq_zero_of_lt (by omega) (by omega)
    rw [this];rfl
   ·have:(b - a + c - 1) / c≤0:=by
     have h1:(b - a + c - 1) / c=(b - a - 1) / c + 1:=by rw [← e];congr 1;omega
     have h2:(b - a - 1) / c < 0:=Int.ediv_neg_of_neg_of_pos (by omega) (by omega)
     omega
    omega
inductive tRngL' (Q:VK) (vs:List V) (H1:Hp):Prop
 | mk:∀ (i j:Int),(vs=[.int i,.int j])→((-(2 ^ 62)≤i∧i < 2 ^ 62∧-(2 ^ 62)≤j∧j < 2 ^ 62))→((j - i).toNat≤2 ^ 24)→(∀ l,H1 l=none→Q (.ref l) (upd H1 l (.lst ((List.range (j - i).toNat).map fun (k:Nat)=>V.int (i + k)))))→tRngL' Q vs H1
def zSz (ta:TA):TE:=fun σ H Q=>ta σ H fun vs H1=>tRngL' Q vs H1
theorem zOm {i:Int}{n:Nat}{acc:Array Value}(h:ItemsOf (fun k v=>∃ t,v=Value.int (i + k * 1) t) acc n):Vals ((List.range n).map fun (k:Nat)=>V.int (i + k)) acc.toList:=by
 obtain ⟨h1,h2⟩:=h
 subst h1
 have key:∀ (us:List Value) (m:Nat),(∀ (k:Nat) (v:Value),us[k]? = some v→∃ t,v=Value.int (i + ((m + k:Nat):Int) * 1) t)→Vals ((List.range' m us.length).map fun (k:Nat)=>V.int (i + k)) us:=by
  intro us
  induction us with
  | nil=>intro m _;exact .nil
  | cons u us ih =>
   intro m hk
   obtain ⟨t,e⟩:=hk 0 u rfl
   subst e
   rw [List.length_cons,List.range'_succ,List.map_cons]
   refine .cons ⟨t,by simp⟩ (ih (m + 1) fun k v hv=>?_)
   obtain ⟨t',e'⟩:=hk (k + 1) v (by simpa using hv)
   exact ⟨t',by rw [e'];congr 2;congr 1;omega⟩
 have:=key acc.toList 0 (fun k v hv=>by
  obtain ⟨t,e⟩:=h2 k v (by rw [← Array.getElem?_toList];exact hv)
  exact ⟨t,by rw [e];simp⟩)
 rw [List.range_eq_range',← Array.length_toList]
 exact this
theorem zHf {a b:Expr}{ta:TA}{p pos p' pos':Pos}(hc:X.A.handled=none) (hgl:Gl X "list") (hml:X.mg "list" = none) (hg:Gl X "range") (hm:X.mg "range" = none) (ha:PA X [a,b] ta)
  (hs:starEach [a,b] X.env=[(false,eval a X.env),(false,eval b X.env)]:=by rfl) (hs2:starEach [b] X.env=[(false,eval b X.env)]:=by rfl)
  (hs3:starEach [.Call (.Name "range" p) [a,b] [] pos] X.env=[(false,eval (.Call (.Name "range" p) [a,b] [] pos) X.env)]:=by rfl) :
  PE X (.Call (.Name "list" p') [.Call (.Name "range" p) [a,b] [] pos] [] pos') (zSz ta):=by
 intro pins s σ H Q I h
 refine wpAny_Call_Name_kw (zD6 I hgl hml BK.bt_list ?_)
 refine PyProof.Rows.callWith_type1 ?_ hs3 rfl
 rw [hs3]
 show wpAny _ _ (spliced ((false,eval (.Call (.Name "range" p) [a,b] [] pos) X.env) :: [])) _ _ s
 refine Calls.spliced_cons ?_
 refine Call_ (zD6 I hg hm boot_range (PyProof.Rows.callWith_type1 (thn (ha pos pins s σ H _ I h) fun us s1 ⟨vs,H1,I1,r1,q1⟩=>?_) (by rw [hs,hs2]) (by rw [hs2];rfl)))
 obtain ⟨i,j,e,⟨q1,q2,q3,q4⟩,q5,q⟩:=q1
 subst e
 cases r1 with
 | cons r rr =>
  cases rr with
  | cons r' rr =>
   cases rr
   obtain ⟨t,rfl⟩:=r
   obtain ⟨t',rfl⟩:=r'
   refine call_range_2 ?_
   refine Calls.spliced_nil ?_
   have hn:Builtin.Range.rangeSize i j 1=((j - i).toNat:Int):=by rw [rangeSize_one];split <;> omega
   refine call_list_range hc (IsRange.new ..) (small_one q1 q2 q3 q4) hn q5 fun h' tk acc c' kp he hacc=>?_
   refine ⟨.ref _,_,I1.laid (t':=tk) (fun b u hu=>kp b u (Heap.get?_push_of_some _ hu)) (Nat.le_of_lt ?_) (show ObjOk X.prog X.w _ h' _ (.lst ((List.range (j - i).toNat).map fun (k:Nat)=>V.int (i + k))) from ⟨?_,acc.toList,c',zOm hacc,by simpa using he⟩),rfl,q _ (I1.hok.fresh (Nat.le_of_lt ?_))⟩
   ·show s1.heap.objs.size < (s1.heap.push _).objs.size
    rw [size_push'];exact Nat.lt_succ_self _
   ·rw [List.length_map,List.length_range,sizeLine_eq];exact q5
   ·show s1.heap.objs.size < (s1.heap.push _).objs.size
    rw [size_push'];exact Nat.lt_succ_self _
end
end L2
end
section
namespace BK
open PySem L2
end BK
end
section
namespace L2
open PySem PySem.Spec PySem.Calls PyProof.Rows
section
variable {prog:Program}{w:World}{A:Around}{E:Value→Shared→Prop}{s:Shared}
theorem zJr {it l:Addr}{i:Nat}{items:Array Value}{Q:Value→Shared→Prop}(hh:HdAt A s.heap) (hit:s.heap.IsListIter it l i) (hl:s.heap.IsList l items) (hx:items[i]? = none)
  (hE:∀ h' e,Heap.ExtBut it s.heap h'→(∃ o,h'.get? e=some o∧o.cls=.type "StopIteration")→E (.ref e) { s with heap:=h' }) :
  wpAny (model prog w) A (Builtin.SmallTypes.nextOf (.ref it)) Q E s:=by
 obtain ⟨o,ho,hc,hd⟩:=id hit
 obtain ⟨ol,hol,_,nl,hdl⟩:=hl
 unfold Builtin.SmallTypes.nextOf
 refine wpAny_bind (wpAny_callSpecial?_slot (name:=Str.ofString "__next__") hit.typeIs slot_listiter_next
  (wpAny_call_entry slot_listiter_next hit.typeIs entry_listiter_next ?_ (args_listiter_next _)))
 show wpAny _ _ (field (.ref it) 0 >>= _) _ _ s
 refine wpAny_bind (wpAny_field ho hd (x:=.ref l) rfl ?_)
 show wpAny _ _ (if (Value.ref l == Value.none)=true then _ else _) _ _ s
 rw [if_neg (show ¬ ((Value.ref l == Value.none)=true) from Bool.false_ne_true)]
 show wpAny _ _ (field (.ref it) 1 >>= _) _ _ s
 refine wpAny_bind (wpAny_field ho hd (x:=.int i 0) rfl ?_)
 show wpAny _ _ (seqItems? (.ref l) >>= _) _ _ s
 refine wpAny_bind (wpAny_seqItems hol hdl ?_)
 simp only [Int.toNat_natCast,hx]
 refine wpAny_bind (wpAny_rule (wpAny_bind (wpAny_setField ho hd (by simp) ?_)))
 show wpAny _ _ (newExc (.type "StopIteration") [] >>= _) _ _ _
 refine wpAny_bind ?_
 simp only [newExc,newTuple]
 refine wpAny_bind (wpAny_newObj_type ?_ (by size_fits))
 refine wpAny_bind (m:=firstArgMember _ _) (wpAny_of_eq (a:=Value.none) (by first | rfl | (simp only [firstArgMember];rfl)) ?_)
 refine wpAny_newObj_type ?_ (by size_fits)
 refine zCv (HdAt.two (A:=A.in1) (it:=it) hh (fun b o' hb e=>(Heap.SameBut.update ..).extBut b o' hb e) (fun oe vs e e2=>by rw [ho] at e;cases e;rw [hd] at e2;cases e2;exact ⟨by simp,by simp⟩)) (Heap.get?_push_size _ rfl) rfl (by simp;omega) fun h' sb ⟨o',_,ho',hc',_⟩=>?_
 refine hE _ _ (fun b ob hb e=>(sb.2 b ?_).trans (((Heap.SameBut.update ..).extBut.push _).push _ b ob hb e)) ⟨o',ho',hc'⟩
 exact Nat.ne_of_lt (Nat.lt_of_lt_of_le (Heap.lt_size e) (by rw [Heap.size_push,Heap.size_after_update];exact Nat.le_succ _))
theorem zNq {e it l:Addr}{i:Nat}{items:Array Value}{old:Value}{Q:Option Value→Shared→Prop}(hh:HdAt A s.heap)
  (he:IsEnum s.heap e it i old) (hit:s.heap.IsListIter it l i) (hl:s.heap.IsList l items) (hx:items[i]? = none)
  (hQ:∀ h',Heap.ExtBut it s.heap h'→Q none { s with heap:=h' }):wpAny (model prog w) A (pyNext (.ref e)) Q E s:=by
 have hT:s.TypeIs (.ref e) "enumerate" := ⟨_,he,rfl⟩
 unfold pyNext
 refine wpAny_bind (wpAny_attempt (wpAny_callSpecial?_slot (name:=Str.ofString "__next__") hT PySem.F.slot_enumerate_next
  (wpAny_call_entry PySem.F.slot_enumerate_next hT PySem.F.entry_enumerate_next ?_ (PySem.F.args_enumerate_next_1 _))))
 show wpAny _ _ (field (.ref e) 2 >>= _) _ _ _
 refine wpAny_bind (wpAny_field he rfl (x:=.ref it) rfl ?_)
 refine wpAny_bind (zJr (A:=A.in1) hh hit hl hx fun h' x he' hx'=>?_)
 obtain ⟨o,ho,hc⟩:=hx'
 refine wpAny_bind (wpAny_isInstance (T := "StopIteration") (b:=true) ⟨o,ho,hc⟩ isSubtype_stop ?_)
 exact wpAny_pure (hQ _ he')
end
def Ite (K:PySem.W.Frag) (a:Addr):It :=
 ⟨fun i H=>∃ xs x,SqL K H a xs∧xs[i]? = some x,fun i H x H'=>∃ p y,x=.ref p∧H p=none∧H'=upd H p (.tup [.int i,y])∧∀ xs,SqL K H a xs→xs[i]? = some y,fun i H=>∃ xs,SqL K H a xs∧xs.length≤i⟩
theorem zL5 {P:Program}{w:World}{K:PySem.W.Frag}{elts:List Expr}{x1}{pos:Pos}(a e it:Addr) (hne:e≠it) :
  Turn P w K (.Tuple elts x1 pos) (Ite K a) [e,it] e (fun i h=>(∃ old,IsEnum h e it (i:Nat) old)∧h.IsListIter it a i) where
 mem:=by simp
 obj:=fun i h st b hb=>by
  obtain ⟨⟨old,he⟩,hit⟩:=st
  rcases List.mem_cons.mp hb with rfl | hb
  ·exact ⟨_,he,fun v z=>by
    have z':Data.fields _=Data.cell v:=z
    cases z'⟩
  ·have q:b=it:=by simpa using hb
   subst q
   obtain ⟨o,e,c,d⟩:=hit
   exact ⟨o,e,fun v z=>by rw [d] at z;cases z⟩
 keep:=fun i h h' ⟨⟨old,he⟩,hit⟩ k=>⟨⟨old,k e (by simp) _ he⟩,hit.at fun o q=>k it (by simp) o q⟩
 item:=by
  intro X hP hw hK hc i pins s σ H E I hf st hg
  subst hP hw hK
  obtain ⟨⟨old,he⟩,hit⟩:=st
  obtain ⟨xs,x,hq,hx⟩:=hg
  obtain ⟨its,rv,p,hz⟩:=I.list hq
  obtain ⟨u,hu,ru⟩:=rv.get hx
  obtain ⟨f0,f1,f2,f3,f4,f5⟩:=hf e (by simp)
  obtain ⟨g0,g1,g2,g3,g4,g5⟩:=hf it (by simp)
  refine wpAny_pyNext_enum_item he hit p.isList (x:=u) (by simpa using hu) hne fun h' heo hit' ht hsz hk=>⟨_,rfl,wpAny_letOwnedTupleGo_enum heo fun h2 he2 hs2=>?_⟩
  replace hs2:Heap.SameBut e h' h2:=hs2
  have hel:e < s.heap.objs.size:=Heap.lt_size he
  have hit2:h2.IsListIter it a (i + 1):=hit'.extBut hs2.extBut (Ne.symm hne)
  have ht2:h2.get? s.heap.objs.size=some { cls:=.type "tuple", data:=.seq #[.int i s.toks,u] }:=(hs2.2 _ (Nat.ne_of_gt hel)).trans ht
  obtain ⟨oi,hoi,ci,di⟩:=id hit
  obtain ⟨oi2,hoi2,ci2,di2⟩:=id hit2
  have hil:it < s.heap.objs.size:=Heap.lt_size hoi
  have m1:=Heap.get?_update_self (fun _=>({ cls:=.type "enumerate", dict:=none,data:=.fields #[.none,.bool false,.ref it,rawInt ((i:Int) + 1),.none,u],slots:=#[] }:Obj)) he rfl
  generalize hmid:s.heap.update e (fun _=>({ cls:=.type "enumerate", dict:=none,data:=.fields #[.none,.bool false,.ref it,rawInt ((i:Int) + 1),.none,u],slots:=#[] }:Obj))=hm at m1
  have o1:∀ b o,b≠e→s.heap.get? b=some o→hm.get? b=some o:=fun b o hb q=>by rw [← hmid];exact (Heap.get?_update_other _ _ (Ne.symm hb)).trans q
  have o1r:∀ b o,b≠e→hm.get? b=some o→s.heap.get? b=some o:=fun b o hb q=>by rw [← hmid,Heap.get?_update_other _ _ (Ne.symm hb)] at q;exact q
  have z1:hm.objs.size=s.heap.objs.size:=by rw [← hmid,Heap.size_update]
  have m2:=Heap.get?_update_self (fun _=>oi2) (o1 it oi (Ne.symm hne) hoi) (Obj.isFreed_of_fields di2)
  generalize hmid2:hm.update it (fun _=>oi2)=hn at m2
  have o2:∀ b o,b≠it→hm.get? b=some o→hn.get? b=some o:=fun b o hb q=>by rw [← hmid2];exact (Heap.get?_update_other _ _ (Ne.symm hb)).trans q
  have o2r:∀ b o,b≠it→hn.get? b=some o→hm.get? b=some o:=fun b o hb q=>by rw [← hmid2,Heap.get?_update_other _ _ (Ne.symm hb)] at q;exact q
  have z2:hn.objs.size=s.heap.objs.size:=by rw [← hmid2,Heap.size_update,z1]
  have I1:Inv X pins σ H { s with heap:=hm }:=I.turned (t':=s.toks) o1 f0 f1 f3 f4 f5
  have I2:Inv X pins σ H { s with heap:=hn }:=I1.turned (t':=s.toks) o2 g0 g1 g3 g4 g5
  have fin:∀ b o,hn.get? b=some o→h2.get? b=some o:=fun b o q=>by
   by_cases be:b=it
   ·subst be;rw [m2] at q;cases q;exact hoi2
   ·have q:=o2r b o be q
    by_cases bi:b=e
    ·subst bi;rw [m1] at q;cases q;exact he2
    ·exact hs2.extBut b o bi (hk b o bi be (o1r b o bi q))
  have hfr:H s.heap.objs.size=none:=I.hok.fresh (Nat.le_refl _)
  have I3:Inv X pins σ (upd H s.heap.objs.size (.tup [.int i,x])) { s with heap:=h2,toks:=s.toks + 1 } :=
   I2.laid (a:=s.heap.objs.size) (t':=s.toks + 1) fin (by show hn.objs.size≤_;rw [z2];exact Nat.le_refl _)
    (show ObjOk X.prog X.w _ h2 _ (.tup [.int i,x]) from ⟨by rw [sizeLine_eq];simp,[.int i s.toks,u],.cons ⟨_,rfl⟩ (.cons ru .nil),⟨_,ht2,rfl,_,rfl⟩⟩)
  refine ⟨.ref s.heap.objs.size,_,I3,rfl,⟨_,x,rfl,hfr,rfl,fun ys hy=>by rw [I.list_inj hy hq];exact hx⟩,⟨⟨u,by simpa using he2⟩,hit2⟩,fun b hb=>?_⟩
  have hb':b≠s.heap.objs.size:=by
   rcases List.mem_cons.mp hb with rfl | hb
   ·exact Nat.ne_of_lt hel
   ·have q:b=it:=by simpa using hb
    subst q;exact Nat.ne_of_lt hil
  show upd H s.heap.objs.size _ b=none
  rw [upd_ne hb']
  exact (hf b hb).1
 done:=by
  intro X hP hw hK hc i pins s σ H E I hf st hg
  subst hP hw hK
  obtain ⟨⟨old,he⟩,hit⟩:=st
  obtain ⟨xs,hq,hx⟩:=hg
  obtain ⟨its,rv,p,hz⟩:=I.list hq
  obtain ⟨g0,g1,g2,g3,g4,g5⟩:=hf it (by simp)
  have hl:=rv.length
  exact zNq I.hd he hit p.isList (by simp;omega) fun h' eb=>⟨rfl,I.turned (t':=s.toks) (fun b o hb q=>eb b o hb q) g0 g1 g3 g4 g5⟩
 self:=fun _ _ _ _ _ ⟨⟨old,he⟩,_⟩ h=>wpAny_pyIter_enum he h
section
variable {X:Cx}{elts:List Expr}{pos:Pos}
inductive iEnum' (K:PySem.W.Frag) (R:(It→Hp→Prop)) (vs:List V) (H1:Hp):Prop
 | mk:∀ a,(vs=[.ref a])→((∃ xs,SqL K H1 a xs))→(R (Ite K a) H1)→iEnum' K R vs H1
def zTf (K:PySem.W.Frag) (ta:TA):TI:=fun σ H R=>ta σ H fun vs H1=>iEnum' K R vs H1
theorem zQd {l:Expr}{ta:TA}{x1}{p cpos:Pos}(hg:Gl X "enumerate") (hm:X.mg "enumerate" = none) (ha:PA X [l] ta) (hs:starEach [l] X.env=[(false,eval l X.env)]:=by rfl) :
  PI X (.Tuple elts x1 pos) (.Call (.Name "enumerate" p) [l] [] cpos) (zTf X.K ta):=by
 intro pins s σ H R I h
 refine Call_ (zD6 I hg hm boot_enumerate (PyProof.Rows.callWith_type1 (thn (ha cpos pins s σ H _ I h) fun us s1 ⟨vs,H1,I1,r1,q1⟩=>?_) hs rfl))
 obtain ⟨a,e,⟨xs,hq⟩,q⟩:=q1
 subst e
 obtain ⟨u,rfl,rx⟩:=zGz r1
 cases rx
 obtain ⟨its,rv,pl,hz⟩:=I1.list hq
 refine call_enumerate_list pl.isList fun h' he hit hsz hk=>?_
 refine wpAny_pyIter_enum he ?_
 have hne:s1.heap.objs.size + 1≠s1.heap.objs.size:=Nat.succ_ne_self _
 refine ⟨s1.heap.objs.size + 1,[s1.heap.objs.size + 1,s1.heap.objs.size],_,_,H1,rfl,I1.kept (t':=s1.toks) hk,zL5 a _ _ hne,⟨⟨_,by simpa using he⟩,hit⟩,fun b hb=>?_,q⟩
 rcases List.mem_cons.mp hb with e | hb
 ·subst e
  exact I1.fpOk (Nat.le_succ _) (I1.hok.fresh (Nat.le_succ _))
 ·have e:b=s1.heap.objs.size:=by simpa using hb
  subst e
  exact I1.fpOk (Nat.le_refl _) (I1.hok.fresh (Nat.le_refl _))
theorem zO8 {K:PySem.W.Frag}{a:Addr}{xs:List V}{g:TG}{tb:TS}{D:Ends}{σ:St}{H:Hp}(Pv:Nat→St→Hp→Prop) (h0:Pv 0 σ H) (hl:∀ i σ H,i≤xs.length→Pv i σ H→SqL K H a xs)
  (hs:∀ i y σ H p,xs[i]? = some y→Pv i σ H→H p=none→g (.ref p) σ (upd H p (.tup [.int i,y])) fun σ2 H2=>tb { D with nx:=Pv (i + 1),ct:=Pv (i + 1),bk:=D.nx } σ2 H2) (hd:∀ σ H,Pv xs.length σ H→D.nx σ H) :
  ∃ W:Nat→Nat→St→Hp→Prop,(∃ m,W 0 m σ H)∧∀ i m σ H,W i m σ H →
   ((Ite K a).stop i H∧D.nx σ H)∨((Ite K a).go i H∧∃ N:St→Hp→Prop,(∀ σ' H',N σ' H'→∃ m',m' < m∧W (i + 1) m' σ' H')∧∀ x H',(Ite K a).yld i H x H'→g x σ H' fun σ2 H2=>tb { D with nx:=N,ct:=N,bk:=D.nx } σ2 H2):=by
 refine ⟨fun i m σ H=>m=xs.length - i∧i≤xs.length∧Pv i σ H,⟨xs.length,by simp,Nat.zero_le _,h0⟩,?_⟩
 rintro i m σ H ⟨rfl,hi,p⟩
 have q:=hl i σ H hi p
 by_cases hlt:i < xs.length
 ·refine .inr ⟨⟨xs,xs[i],q,by simp [hlt]⟩,Pv (i + 1),fun σ' H' p'=>⟨xs.length - (i + 1),by omega,rfl,hlt,p'⟩,fun x H' y=>?_⟩
  obtain ⟨b,z,e1,e2,e3,e4⟩:=y
  subst e1 e3
  exact hs i z σ H b (e4 xs q) p e2
 ·have e:i=xs.length:=by omega
  subst e
  exact .inl ⟨⟨xs,q,Nat.le_refl _⟩,hd σ H p⟩
end
end L2
end
section
namespace L2
open PySem PySem.Spec PySem.Calls PyProof.Rows
section
variable {X:Cx}{pins:List (Addr × Obj)}{σ:St}{H:Hp}{s:Shared}
end
end L2
end
section
namespace L2
open PySem PySem.Spec PySem.Calls PyProof.Rows
section
variable {prog:Program}{w:World}{A:Around}{E:Value→Shared→Prop}{s:Shared}
end
section
variable {X:Cx}{tg:Expr}
def zT6 (K:PySem.W.Frag) (xs:List V) (H:Hp) (Q:VK):Prop:=∃ (p:Addr) (ks:List Int),xs=[.ref p]∧SqL K H p (ks.map V.int)∧Q (.int ks.sum) H
theorem zPf (hc:X.A.handled=none):zDj X (.builtin "sum") (zT6 X.K):=by
 intro pins s σ H xs us Q I r h
 obtain ⟨p,ks,rfl,hq,q⟩:=h
 obtain ⟨u,rfl,rx⟩:=zGz r
 cases rx
 obtain ⟨its,r',pl,hz⟩:=I.list hq
 have hi:=zGq r'
 obtain ⟨ys,e⟩:=hi.allInts.items
 have hns:ks=ys.toList.map (·.1):=by rw [← hi.numsOf,← nums_intItems,← e]
 have hl:=pl.isList
 rw [e] at hl
 refine sum_intListG hc hl fun h' tk t' hkp=>?_
 have hm:preSum (numAt ys) ys.size=ks.sum:=by
  rw [hns,preSum_eq]
  congr 1
  rw [List.take_of_length_le (by simp)]
 rw [hm]
 exact ⟨.int ks.sum,H,I.kept (t':=tk) hkp,⟨t',rfl⟩,q⟩
end
section
variable {X:Cx}{CX:CXT}{k1 k2:Nat}{f1 f2:Addr}{fd1 fd2:FuncData}{ps1 ps2:List Str}{sp1 sp2:Sp}{E:XK}{fe e:Expr}{es:List Expr}{te:TE}{t:TA}{pos:Pos}
end
end L2
end
section
namespace L2
open PySem PySem.Spec PySem.Calls PyProof.Rows
section
variable {X:Cx}{sc:Scope}{cl:List (Str × Addr)}{fj:List (Str × Nat)}{x y:Str}{pins:List (Addr × Obj)}{σ:St}{H:Hp}{s₃:Shared}{ex:List Addr}
end
section
variable {X:Cx}{sc:Scope}{cl:List (Str × Addr)}{fj:List (Str × Nat)}{x y:Str}{px py pt pos:Pos}{kt:Nat}{elt iter:Expr}{ifs:List Expr}{wi:TI}{tc:TT}{te:TE}
end
end L2
end
section
namespace L2
open PySem PySem.Spec PySem.Calls PyProof.Rows
section
variable {prog:Program}{w:World}{A:Around}{E:Value→Shared→Prop}{s:Shared}
end
section
variable {X:Cx}{pins:List (Addr × Obj)}{σ:St}{H:Hp}{s:Shared}
end
section
variable {prog:Program}{w:World}{A:Around}{E:Value→Shared→Prop}{s:Shared}
end
section
variable {X:Cx}{elts:List Expr}{pos:Pos}
end
end L2
end
section
namespace BK
open PySem L2
theorem zQr {It0:It}{fj:List (Str × Nat)}{tc:TT}{te:TE}{σ:St}{H:Hp}{Q:Addr→Hp→Prop}(xs:List V) (hn:xs.length≤1000) (hgo:∀ i H',i < xs.length→Same H H'→It0.go i H') (hstop:∀ H',Same H H'→It0.stop xs.length H')
  (hy:∀ i H1 x H',i < xs.length→Same H H1→It0.yld i H1 x H'→H'=H1∧xs[i]? = some x) (p:V→Bool) (f:V→V)
  (ht:∀ x H' (Qf:Bool→Hp→Prop),x ∈ xs→Same H H'→(∀ H3,Same H' H3→Qf (p x) H3)→tc (some x :: zAj σ fj) H' Qf)
  (hs:∀ x H' (Qf:VK),x ∈ xs→p x=true→Same H H'→(∀ H3,Same H' H3→Qf (f x) H3)→te (some x :: zAj σ fj) H' Qf)
  (hd:∀ acc H',H acc=none→Same H H'→H' acc=some (.lst ((xs.filter p).map f))→Q acc H') :
  ∀ acc,H acc=none→∃ W:Nat→Nat→List V→Hp→Prop,(∃ m,W 0 m [] (upd H acc (.lst [])))∧∀ i m ys H,W i m ys H →
   (It0.stop i H∧Q acc H)∨(It0.go i H∧∀ x H',It0.yld i H x H'→tc (some x :: zAj σ fj) H' fun b H2 =>
    if b=true then te (some x :: zAj σ fj) H2 fun v H3=>H3 acc=some (.lst ys)∧ys.length < sizeLine∧∃ m',m' < m∧W (i + 1) m' (ys ++ [v]) (upd H3 acc (.lst (ys ++ [v])))
    else ∃ m',m' < m∧W (i + 1) m' ys H2):=by
 intro acc hacc
 refine ⟨fun i m ys H'=>m=xs.length - i∧i≤xs.length∧ys=((xs.take i).filter p).map f∧H' acc=some (.lst ys)∧Same H H',⟨xs.length,by simp,Nat.zero_le _,by simp,zB,zF hacc _⟩,?_⟩
 rintro i m ys H' ⟨rfl,hi,rfl,h1,s1⟩
 by_cases hx:i < xs.length
 ·refine .inr ⟨hgo i H' hx s1,fun v H2 hv'=>?_⟩
  obtain ⟨rfl,hv⟩:=hy i H' v H2 hx s1 hv'
  have hm:=List.mem_of_getElem? hv
  have lt:(((xs.take i).filter p).map f).length < sizeLine:=small1000 (by
   rw [List.length_map]
   have:=List.length_filter_le p (xs.take i)
   rw [List.length_take] at this
   omega)
  have tk:xs.take (i + 1)=xs.take i ++ [v]:=by rw [List.take_add_one,hv];rfl
  refine ht v _ _ hm s1 fun H3 s3=>?_
  cases e:p v with
  | false =>
   refine iteF ⟨xs.length - (i + 1),by omega,rfl,hx,?_,s3 _ _ h1,s1.trans s3⟩
   rw [tk,List.filter_append,List.filter_cons,if_neg (by rw [e];exact Bool.false_ne_true),List.filter_nil,List.append_nil]
  | true =>
   refine iteT (hs v _ _ hm e (s1.trans s3) fun H4 s4=>?_)
   refine ⟨s4 _ _ (s3 _ _ h1),lt,xs.length - (i + 1),by omega,rfl,hx,?_,zB,zB6 hacc ((s1.trans s3).trans s4) _⟩
   rw [tk,List.filter_append,List.filter_cons,if_pos e,List.filter_nil,List.map_append]
   rfl
 ·have e:i=xs.length:=by omega
  subst e
  refine .inl ⟨hstop H' s1,hd acc H' hacc s1 ?_⟩
  rw [List.take_length] at h1
  exact h1
section
variable {K:PySem.W.Frag}{fj:List (Str × Nat)}{tc:TT}{te:TE}{σ:St}{H:Hp}{Q:Addr→Hp→Prop}
end
end BK
namespace L2
open PySem
section
variable {es:List Expr}{env:Env}
end
end L2
end
section
namespace L2
open PySem PySem.Spec PySem.Calls PyProof.Rows PySem.W
section
variable {X:Cx}{pins:List (Addr × Obj)}{σ:St}{H:Hp}{s:Shared}{a:Addr}{od:Obj}{kvs:List (Key × V)}
theorem Inv.thaw (I:Inv X pins σ H s) (h:H a=some (.frz od (.dK kvs))) (h0:∀ o u,X.H₀ a≠some (.frz o u)):Inv X pins σ (upd H a (.dK kvs)) s:=by
 have ne:∀ b o,H b=some o→o≠.frz od (.dK kvs)→b≠a:=fun b o e d z=>by subst z;rw [h] at e;exact d (Option.some.inj e).symm
 have nn:∀ b,H b=none→b≠a:=fun b e z=>by subst z;rw [h] at e;cases e
 refine ⟨I.ok,I.os,I.bare,⟨I.base.keep,I.base.slot,fun b o e n x=>?_,I.base.there,fun b xs e=>?_,fun b o u e=>?_,fun b ps e=>?_,fun b c e=>?_⟩,I.loc,I.cell,?_,fun x c e=>?_,fun p hp=>?_,fun b o e=>?_,I.len,fun p hp=>?_,I.fix⟩
 ·have q:=I.base.free b o e n x;rw [upd_ne (nn b q)];exact q
 ·have q:=I.base.tups b xs e;rw [upd_ne (ne b _ q (by simp))];exact q
 ·have q:=I.base.frzs b o u e
  rw [upd_ne (fun z:b=a=>h0 o u (by rw [← z];exact e))];exact q
 ·obtain ⟨more,q⟩:=I.base.tbls b ps e
  exact ⟨more,by rw [upd_ne (ne b _ q (by simp))];exact q⟩
 ·have q:=I.base.excs b c e;rw [upd_ne (ne b _ q (by simp))];exact q
 ·rw [upd_ne (Ne.symm (Ne.symm (nn _ I.free)))];exact I.free
 ·have q:=I.freeC x c e;rw [upd_ne (nn _ q)];exact q
 ·obtain ⟨p1,p2,p3⟩:=I.pin p hp
  exact ⟨p1,by rw [upd_ne (nn _ p2)];exact p2,p3⟩
 ·by_cases hb:b=a
  ·subst hb;rw [zB] at e;cases e;exact (I.hok b _ h).2
  ·rw [upd_ne hb] at e
   exact (I.hok b o e).stay (fun c v _ q=>q) (fun c q=>by rw [upd_ne (ne c _ q (by simp))];exact q) fun c xs q=>by rw [upd_ne (ne c _ q (by simp))];exact q
 ·have q:=I.tr p hp;rw [upd_ne (ne _ _ q (by simp))];exact q
theorem Inv.notFrz (I:Inv X pins σ H s) (h:H a=some (.dK kvs)):∀ o u,X.H₀ a≠some (.frz o u):=fun o u e=>by
 have:=I.base.frzs a o u e
 rw [h] at this;cases this
theorem Inv.freeze (I:Inv X pins σ H s) (h:H a=some (.dK kvs)) (ho:s.heap.get? a=some od):Inv X pins σ (upd H a (.frz od (.dK kvs))) s :=
 I.write (e:=a) (t':=s.toks) (by rw [h];trivial) (.inl rfl) (fun _ _ _ q=>q) ⟨_,ho⟩ ⟨ho,I.hok a _ h⟩
end
def Itd (a:Addr) (od:Obj) (kvs:List (Key × V)):It:=⟨fun i H=>H a=some (.frz od (.dK kvs))∧i < kvs.length,fun i H x H'=>H'=H∧∃ k v,kvs[i]? = some (k,v)∧x=kV k,fun i H=>H a=some (.frz od (.dK kvs))∧kvs.length≤i⟩
theorem zQu {k:Key}{v:Value}(h:zIr k v=true):RelV (kV k) v:=by
 rcases keyIs_shape h with ⟨i,t,ei,ev⟩ | ⟨y,t,ei,ev⟩
 ·subst ei ev;exact ⟨t,rfl⟩
 ·subst ei ev;exact ⟨t,rfl⟩
theorem zNs {P:Program}{w:World}{H:Hp}{h:Heap}{a:Addr}{od:Obj}{kvs:List (Key × V)}{es:Array DictEntry}{ep:Nat}(hd:od.data=.dict es ep) (ok:HOk P w H h) (e:H a=some (.frz od (.dK kvs))) :
  ∃ vs,KV kvs vs∧h.DictAt (zAh P w) a vs ep:=by
 obtain ⟨ho,z,hs,vs,rel,o,es',ep',q1,q2,q3,q⟩:=ok a _ e
 rw [ho] at q1
 cases q1
 have q3':=q3
 rw [hd] at q3'
 cases q3'
 exact ⟨vs,rel,od,es,ho,q2,hd,q⟩
theorem zL6 {P:Program}{w:World}{K:PySem.W.Frag}{tg:Expr}(a it:Addr) (od:Obj) (kvs:List (Key × V)) (es:Array DictEntry) (ep:Nat) (hd:od.data=.dict es ep) :
  Turn P w K tg (Itd a od kvs) [it] it (fun i h=>h.IsKeyIter it a i kvs.length ep) where
 mem:=by simp
 obj:=fun i h st b hb=>by
  have e:b=it:=by simpa using hb
  subst e
  obtain ⟨o,e,c,d⟩:=st
  exact ⟨o,e,fun v z=>by rw [d] at z;cases z⟩
 keep:=fun i h h' st k=>by
  obtain ⟨o,e,c,d⟩:=st
  exact ⟨o,k it (by simp) o e,c,d⟩
 item:=by
  intro X hP hw hK hc i pins s σ H E I hf st hg
  subst hP hw hK
  obtain ⟨hfr,hi⟩:=hg
  obtain ⟨vs,rel,dat⟩:=zNs hd I.hok hfr
  have hl:=rel.length
  have hks:=rel.keys
  rw [hl] at st
  obtain ⟨f0,f1,f2,f3,f4,f5⟩:=hf it (by simp)
  have hiv:i < vs.length:=by omega
  refine wpAny_pyNext_dict_item (k:=vs[i].1) (v:=vs[i].2) st dat (List.getElem?_eq_getElem hiv) fun key h' hkey st' sb=>?_
  have I1:Inv X pins σ H { s with heap:=h' }:=I.turned (t':=s.toks) (fun b o hb e=>(sb.2 b hb).trans e) f0 f1 f3 f4 f5
  have ek:kvs[i].1=vs[i].1:=by
   have:=congrArg (fun l=>l[i]?) hks
   simpa [hi,hiv] using this
  have rk:RelV (kV kvs[i].1) key:=by rw [ek];exact zQu hkey
  rw [← hl] at st'
  obtain ⟨o,e,c,d⟩:=id st'
  exact ⟨key,rfl,zO4 (s:={ s with heap:=h' }) e c d (by decide) ⟨kV kvs[i].1,H,I1,rk,⟨rfl,kvs[i].1,kvs[i].2,List.getElem?_eq_getElem hi,rfl⟩,st',fun b hb=>(hf b hb).1⟩⟩
 done:=by
  intro X hP hw hK hc i pins s σ H E I hf st hg
  subst hP hw hK
  obtain ⟨hfr,hi⟩:=hg
  obtain ⟨vs,rel,dat⟩:=zNs hd I.hok hfr
  have hl:=rel.length
  rw [hl] at st
  obtain ⟨f0,f1,f2,f3,f4,f5⟩:=hf it (by simp)
  exact zIq I.hd st dat (List.getElem?_eq_none (by omega)) fun h' eb=>⟨rfl,I.turned (t':=s.toks) (fun b o hb e=>eb b o hb e) f0 f1 f3 f4 f5⟩
 self:=fun _ _ _ _ _ st h=>wpAny_pyIter_keyiter st h
section
variable {X:Cx}{tg:Expr}
def zTg (td:TE):TI:=fun σ H R=>td σ H fun x H1=>∃ (a:Addr) (kvs:List (Key × V)),x=.ref a∧H1 a=some (.dK kvs)∧∀ od,R (Itd a od kvs) (upd H1 a (.frz od (.dK kvs)))
theorem zMs {l:Expr}{td:TE}(hl:PE X l td):PI X tg l (zTg td):=by
 intro pins s σ H R I h
 refine thn (hl pins s σ H _ I h) fun v s1 ⟨x,H1,I1,r1,q1⟩=>?_
 obtain ⟨a,kvs,e,ha,q⟩:=q1
 subst e
 cases r1
 obtain ⟨z,hs,vs,rel,od,es,ep,q1,q2,q3,q4⟩:=I1.hok a _ ha
 have dat:s1.heap.DictAt (zAh X.prog X.w) a vs ep:=⟨od,es,q1,q2,q3,q4⟩
 refine wpAny_pyIter_dict hs dat ?_
 have I2:=I1.freeze ha q1
 have hf:(upd H1 a (.frz od (.dK kvs))) s1.heap.objs.size=none:=I2.hok.fresh (Nat.le_refl _)
 refine ⟨s1.heap.objs.size,[s1.heap.objs.size],_,_,_,rfl,I2.kept (t':=s1.toks) fun b o e=>Heap.get?_push_of_some _ e,zL6 a _ od kvs es ep q3,⟨_,Heap.get?_push_size _ rfl,rfl,by rw [rel.length];rfl⟩,fun b hb=>?_,q od⟩
 have e:b=s1.heap.objs.size:=by simpa using hb
 subst e
 exact I1.fpOk (Nat.le_refl _) hf
def zSx (t:TE):TE:=fun σ H Q=>t σ H fun v H2=>∃ (a:Addr) (od:Obj) (kvs:List (Key × V)),H2 a=some (.frz od (.dK kvs))∧H a=some (.dK kvs)∧Q v (upd H2 a (.dK kvs))
theorem zQe {e:Expr}{t:TE}(h:PE X e t):PE X e (zSx t):=by
 intro pins s σ H Q I q
 refine thn (h pins s σ H _ I q) fun v s1 ⟨x,H2,I2,r2,q2⟩=>?_
 obtain ⟨a,od,kvs,e1,e2,q3⟩:=q2
 exact ⟨x,_,I2.thaw e1 (I.notFrz e2),r2,q3⟩
end
end L2
end
section
namespace L2
open PySem PySem.Spec PySem.Calls PyProof.Rows PySem.W
section
variable {X:Cx}
def zSv (H:Hp) (D:Ends):Ends:={ D with nx:=fun σ2 H2=>∃ (a:Addr) (od:Obj) (kvs:List (Key × V)),H2 a=some (.frz od (.dK kvs))∧H a=some (.dK kvs)∧D.nx σ2 (upd H2 a (.dK kvs)) }
def zS6 (t:TS):TS:=fun D σ H=>t (zSv H D) σ H
theorem zP9 {st:Stmt}{t:TS}(h:PS X st t):PS X st (zS6 t):=by
 intro pins s σ H D I q
 refine thn (h pins s σ H _ I q) fun f s1 q1=>?_
 cases f with
 | next =>
  obtain ⟨σ',H2,I2,a,od,kvs,e1,e2,q2⟩:=q1
  exact ⟨σ',_,I2.thaw e1 (I.notFrz e2),q2⟩
 | brk=>exact q1
 | cont=>exact q1
 | ret u=>exact q1
end
theorem zO9 {a:Addr}{od:Obj}{kvs:List (Key × V)}{g:TG}{tb:TS}{D:Ends}{σ:St}{H:Hp}(Pv:Nat→St→Hp→Prop) (h0:Pv 0 σ H) (hf:∀ i σ H,i≤kvs.length→Pv i σ H→H a=some (.frz od (.dK kvs)))
  (hs:∀ i k v σ H,kvs[i]? = some (k,v)→Pv i σ H→g (kV k) σ H fun σ2 H2=>tb { D with nx:=Pv (i + 1),ct:=Pv (i + 1),bk:=D.nx } σ2 H2) (hd:∀ σ H,Pv kvs.length σ H→D.nx σ H) :
  ∃ W:Nat→Nat→St→Hp→Prop,(∃ m,W 0 m σ H)∧∀ i m σ H,W i m σ H →
   ((Itd a od kvs).stop i H∧D.nx σ H)∨((Itd a od kvs).go i H∧∃ N:St→Hp→Prop,(∀ σ' H',N σ' H'→∃ m',m' < m∧W (i + 1) m' σ' H')∧∀ x H',(Itd a od kvs).yld i H x H'→g x σ H' fun σ2 H2=>tb { D with nx:=N,ct:=N,bk:=D.nx } σ2 H2):=by
 refine ⟨fun i m σ H=>m=kvs.length - i∧i≤kvs.length∧Pv i σ H,⟨kvs.length,by simp,Nat.zero_le _,h0⟩,?_⟩
 rintro i m σ H ⟨rfl,hi,p⟩
 have q:=hf i σ H hi p
 by_cases hlt:i < kvs.length
 ·refine .inr ⟨⟨q,hlt⟩,Pv (i + 1),fun σ' H' p'=>⟨kvs.length - (i + 1),by omega,rfl,hlt,p'⟩,fun x H' y=>?_⟩
  obtain ⟨e,k,v,hk,rfl⟩:=y
  subst e
  exact hs i k v σ _ hk p
 ·have e:i=kvs.length:=by omega
  subst e
  exact .inl ⟨⟨q,Nat.le_refl _⟩,hd σ H p⟩
end L2
end
section
namespace So
open PySem PyProof.Rows
structure SG (a₀:Array Keyed) (st:SortSt):Prop where
 perm:(arrOf st).Perm a₀
 kind:kindOf st=oneType'
 failed:failedOf st=none
def key (p:Keyed):Int:=numOf p.1
def zF8 (p:Keyed):Prop:=∃ n t,p.1=.int n t
section
variable {prog:Program}{w:World}{A:Around}{E:Value→Shared→Prop}{s:Shared}{a₀:Array Keyed}
theorem zHz {st:SortSt}{x y:Keyed}{Q:Option Bool→SortSt→Prop}(hk:kindOf st=oneType') (hx:zF8 x) (hy:zF8 y) (h:Q (some (decide (key x < key y))) st) :
  wpS (model prog w) A E s (lt' x y) Q st:=by
 obtain ⟨a,p⟩:=x
 obtain ⟨b,q⟩:=y
 obtain ⟨n,t,e1⟩:=hx
 obtain ⟨m,u,e2⟩:=hy
 simp only at e1 e2
 subst e1 e2
 rw [lt'_eq]
 refine wpS_bind (wpS_get ?_)
 rw [hk,keyLt'_oneType]
 refine wpS_bind (wpS_lift (wpAny_attempt (oneLt_int ⟨rfl,?_⟩)))
 exact wpS_pure h
theorem zc {st:SortSt}{xs:Array Keyed}{i:Nat}{Q:Keyed→SortSt→Prop}(hi:i < xs.size) (h:Q xs[i] st):wpS (model prog w) A E s (elem' xs i) Q st:=by
 rw [elem'_eq,getElem?_pos xs i hi]
 exact wpS_pure h
end
def zEq:Bool→Keyed→Array Keyed→Nat→Nat→Nat→StateT SortSt Sem (Option Nat):=sortPriv% PySem.Builtin.gallop
def zJ5 (left:Bool) (k:Keyed) (arr:Array Keyed) (base i:Nat):StateT SortSt Sem (Option Bool):=do
 let x ← elem' arr (base + i)
 if left then lt' x k else return (← lt' k x).map (!·)
def Bey (left:Bool) (k:Int) (x:Int):Prop:=if left then x < k else x≤k
instance (left:Bool) (k x:Int):Decidable (Bey left k x):=by unfold Bey;infer_instance
section
variable {prog:Program}{w:World}{A:Around}{E:Value→Shared→Prop}{s:Shared}{a₀:Array Keyed}
theorem wpS_beyond {st:SortSt}{left:Bool}{k:Keyed}{arr:Array Keyed}{base i:Nat}{Q:Option Bool→SortSt→Prop}(hk:kindOf st=oneType') (hi:base + i < arr.size) (h1:zF8 k) (h2:zF8 arr[base + i])
  (h:Q (some (decide (Bey left (key k) (key arr[base + i])))) st):wpS (model prog w) A E s (zJ5 left k arr base i) Q st:=by
 unfold zJ5
 refine wpS_bind (zc hi ?_)
 cases left with
 | true=>exact zHz hk h2 h1 h
 | false =>
  refine wpS_bind (zHz hk h1 h2 (wpS_pure ?_))
  have e:(Option.map (fun x=>!x) (some (decide (key k < key arr[base + i]))))=some (decide (Bey false (key k) (key arr[base + i]))):=by
   unfold Bey
   simp only [Option.map_some,Bool.false_eq_true,if_false]
   congr 1
   rw [← decide_not]
   exact decide_eq_decide.mpr (by omega)
  rw [e]
  exact h
end
theorem zF6 {a b:Nat}(h:a=b):(a == b)=true:=by simpa using h
theorem zF7 {a b:Nat}(h:¬ a=b):¬ (a == b)=true:=by simpa using h
section
variable {M:Model}{A:Around}{E:Value→Shared→Prop}{s:Shared}{σ ρ:Type}{c:Prop} [Decidable c] {t e:StateT σ Sem ρ}{Q:ρ→σ→Prop}{st:σ}
theorem ifT (h:c) (q:wpS M A E s t Q st):wpS M A E s (if c then t else e) Q st:=by rw [if_pos h];exact q
theorem ifF (h:¬ c) (q:wpS M A E s e Q st):wpS M A E s (if c then t else e) Q st:=by rw [if_neg h];exact q
end
end So
end
section
namespace So
open PySem PyProof.Rows
section
variable {prog:Program}{w:World}{A:Around}{E:Value→Shared→Prop}{s:Shared}{a₀:Array Keyed}
theorem zBw {st:SortSt}{left:Bool}{k:Keyed}{arr:Array Keyed}{base n hint:Nat}{Q:Option Nat→SortSt→Prop}(hk:kindOf st=oneType') (hn:base + n≤arr.size) (hh:hint < n) (h1:zF8 k) (h2:∀ (i:Nat) (hi:i < arr.size),zF8 arr[i])
  (P:Nat→Prop) (hP:∀ (i:Nat) (hi:base + i < arr.size),P i ↔ Bey left (key k) (key arr[base + i])) (anti:∀ i j,i≤j→j < n→P j→P i)
  (h:∀ m,m≤n→(∀ i,i < m→P i)→(∀ i,m≤i→i < n→¬ P i)→Q (some m) st):wpS (model prog w) A E s (zEq left k arr base n hint) Q st:=by
 have beyond:∀ {i:Nat}{Q':Option Bool→SortSt→Prop},i < n→(P i→Q' (some true) st)→(¬ P i→Q' (some false) st)→wpS (model prog w) A E s (zJ5 left k arr base i) Q' st:=by
  intro i Q' hi ht hf
  refine wpS_beyond hk (by omega) h1 (h2 _ (by omega)) ?_
  have e:=hP i (by omega)
  by_cases p:P i
  ·rw [decide_eq_true (e.mp p)];exact ht p
  ·rw [decide_eq_false (fun q=>p (e.mpr q))];exact hf p
 delta zEq
 try dsimp only
 refine wpS_bind (beyond hh (fun p=>?_) (fun p=>?_))
 ·dsimp only
  refine ifT rfl ?_
  refine wpS_bind (wpS_mono (wpS_forRange (I:=fun x c st'=>st'=st∧∃ lf o,c=(none,lf,o)∧x + 1≤o∧lf < o∧lf < n - hint∧P (hint + lf))
   (Q:=fun c st'=>st'=st∧∃ lf o,c=(none,lf,o)∧lf < o∧lf < n - hint∧P (hint + lf)∧(n - hint≤o∨¬ P (hint + o))) ?_ ?_ ⟨rfl,0,1,rfl,by omega,by omega,by omega,p⟩) ?_)
  ·rintro x c st' - hx ⟨rfl,lf,o,rfl,h3,h4,h5,h6⟩
   dsimp only
   by_cases hge:o ≥ n - hint
   ·refine ifT hge ?_
    exact wpS_pure ⟨rfl,lf,o,rfl,h4,h5,h6,.inl hge⟩
   ·refine ifF hge ?_
    refine wpS_bind (beyond (by omega) (fun p=>?_) (fun p=>?_))
    ·dsimp only
     refine ifF (by decide) ?_
     exact wpS_pure ⟨rfl,_,_,rfl,by omega,by omega,by omega,p⟩
    ·dsimp only
     refine ifT (by decide) ?_
     exact wpS_pure ⟨rfl,_,_,rfl,h4,h5,h6,.inr p⟩
  ·rintro c st' ⟨rfl,lf,o,rfl,h3,h4,h5,h6⟩
   exact ⟨rfl,lf,o,rfl,h4,h5,h6,.inl (by omega)⟩
  ·rintro c st' ⟨rfl,lf,o,rfl,h4,h5,h6,h7⟩
   dsimp only
   have hlh:hint + lf + 1≤hint + min o (n - hint):=by omega
   have hhn:hint + min o (n - hint)≤n:=by omega
   have b1:∀ i,i < hint + lf + 1→P i:=fun i hi=>anti i (hint + lf) (by omega) (by omega) h6
   have b2:∀ i,hint + min o (n - hint)≤i→i < n→¬ P i:=fun i h1' h2' q=>by
    rcases h7 with h7 | h7
    ·omega
    ·by_cases ho:o < n - hint
     ·exact h7 (anti (hint + o) i (by omega) h2' q)
     ·omega
   refine wpS_bind (wpS_forRange (I:=fun x c sx=>sx=st'∧∃ lo hi,c=(none,lo,hi)∧lo≤hi∧hi≤n∧hi - lo≤n - x∧(∀ i,i < lo→P i)∧(∀ i,hi≤i→i < n→¬ P i)) ?_ ?_ ⟨rfl,_,_,rfl,hlh,hhn,by omega,b1,b2⟩)
   ·rintro x c st' - hx ⟨rfl,lo,hi,rfl,hlh,hhn,hm,b1,b2⟩
    dsimp only
    by_cases hge:lo ≥ hi
    ·refine ifT hge ?_
     have:lo=hi:=by omega
     subst this
     exact wpS_pure (wpS_pure (h lo hhn b1 b2))
    ·refine ifF hge ?_
     refine wpS_bind (beyond (by omega) (fun p=>?_) (fun p=>?_))
     ·dsimp only
      refine ifT rfl ?_
      exact wpS_pure ⟨rfl,_,_,rfl,by omega,hhn,by omega,fun i hi'=>anti i _ (by omega) (by omega) p,b2⟩
     ·dsimp only
      refine ifF (by decide) ?_
      exact wpS_pure ⟨rfl,_,_,rfl,by omega,by omega,by omega,b1,fun i h1' h2' q=>p (anti _ i (by omega) h2' q)⟩
   ·rintro c st' ⟨rfl,lo,hi,rfl,hlh,hhn,hm,b1,b2⟩
    have:lo=hi:=by omega
    subst this
    exact wpS_pure (h lo hhn b1 b2)
 ·dsimp only
  refine ifF (by decide) ?_
  refine wpS_bind (wpS_mono (wpS_forRange (I:=fun x c st'=>st'=st∧∃ lf o,c=(none,lf,o)∧x + 1≤o∧lf < o∧lf < hint + 1∧¬ P (hint - lf))
   (Q:=fun c st'=>st'=st∧∃ lf o,c=(none,lf,o)∧lf < o∧lf < hint + 1∧¬ P (hint - lf)∧(hint + 1≤o∨P (hint - o))) ?_ ?_ ⟨rfl,0,1,rfl,by omega,by omega,by omega,p⟩) ?_)
  ·rintro x c st' - hx ⟨rfl,lf,o,rfl,h3,h4,h5,h6⟩
   dsimp only
   by_cases hge:o ≥ hint + 1
   ·refine ifT hge ?_
    exact wpS_pure ⟨rfl,lf,o,rfl,h4,h5,h6,.inl hge⟩
   ·refine ifF hge ?_
    refine wpS_bind (beyond (by omega) (fun p=>?_) (fun p=>?_))
    ·dsimp only
     refine ifT rfl ?_
     exact wpS_pure ⟨rfl,_,_,rfl,h4,h5,h6,.inr p⟩
    ·dsimp only
     refine ifF (by decide) ?_
     exact wpS_pure ⟨rfl,_,_,rfl,by omega,by omega,by omega,p⟩
  ·rintro c st' ⟨rfl,lf,o,rfl,h3,h4,h5,h6⟩
   exact ⟨rfl,lf,o,rfl,h4,h5,h6,.inl (by omega)⟩
  ·rintro c st' ⟨rfl,lf,o,rfl,h4,h5,h6,h7⟩
   dsimp only
   have hlh:hint + 1 - min o (hint + 1)≤hint - lf:=by omega
   have hhn:hint - lf≤n:=by omega
   have b1:∀ i,i < hint + 1 - min o (hint + 1)→P i:=fun i hi=>by
    rcases h7 with h7 | h7
    ·omega
    ·by_cases ho:o < hint + 1
     ·exact anti i (hint - o) (by omega) (by omega) h7
     ·omega
   have b2:∀ i,hint - lf≤i→i < n→¬ P i:=fun i h1' h2' q=>h6 (anti (hint - lf) i (by omega) h2' q)
   refine wpS_bind (wpS_forRange (I:=fun x c sx=>sx=st'∧∃ lo hi,c=(none,lo,hi)∧lo≤hi∧hi≤n∧hi - lo≤n - x∧(∀ i,i < lo→P i)∧(∀ i,hi≤i→i < n→¬ P i)) ?_ ?_ ⟨rfl,_,_,rfl,hlh,hhn,by omega,b1,b2⟩)
   ·rintro x c st' - hx ⟨rfl,lo,hi,rfl,hlh,hhn,hm,b1,b2⟩
    dsimp only
    by_cases hge:lo ≥ hi
    ·refine ifT hge ?_
     have:lo=hi:=by omega
     subst this
     exact wpS_pure (wpS_pure (h lo hhn b1 b2))
    ·refine ifF hge ?_
     refine wpS_bind (beyond (by omega) (fun p=>?_) (fun p=>?_))
     ·dsimp only
      refine ifT rfl ?_
      exact wpS_pure ⟨rfl,_,_,rfl,by omega,hhn,by omega,fun i hi'=>anti i _ (by omega) (by omega) p,b2⟩
     ·dsimp only
      refine ifF (by decide) ?_
      exact wpS_pure ⟨rfl,_,_,rfl,by omega,by omega,by omega,b1,fun i h1' h2' q=>p (anti _ i (by omega) h2' q)⟩
   ·rintro c st' ⟨rfl,lo,hi,rfl,hlh,hhn,hm,b1,b2⟩
    have:lo=hi:=by omega
    subst this
    exact wpS_pure (h lo hhn b1 b2)
end
end So
end
section
namespace So
open PySem PyProof.Rows
abbrev zTq (st:SortSt) (g:Nat):SortSt:=SortSt.mk' (kindOf st) (arrOf st) (pendingOf st) g (failedOf st)
def zKs:Array Keyed→Array Keyed→StateT SortSt Sem (Array Keyed):=sortPriv% PySem.Builtin.mergeLo
section
variable {M:Model}{A:Around}{E:Value→Shared→Prop}{s:Shared}{σ ρ α β:Type}{c:Prop} [Decidable c] {t e:StateT σ Sem ρ}{Q:ρ→σ→Prop}{st:σ}
theorem jp0 (C:σ→Prop) (hx:¬ c→C st) (h:∀ st,C st→wpS M A E s e Q st) (ht:c→(∀ st,C st→wpS M A E s e Q st)→wpS M A E s t Q st):wpS M A E s (if c then t else e) Q st:=by
 split
 ·rename_i hc;exact ht hc h
 ·rename_i hc;exact h st (hx hc)
end
section
variable {M:Model}{A:Around}{E:Value→Shared→Prop}{s:Shared}{σ ρ α β:Type}{Q:ρ→σ→Prop}{st:σ}
theorem jp1 {c:α→Prop} [∀ x,Decidable (c x)] {t e:α→StateT σ Sem ρ}(g:α→α) (he:∀ x,t x=e (g x)) (h:∀ x,wpS M A E s (e x) Q st) (x:α):wpS M A E s (if c x then t x else e x) Q st:=by
 split
 ·rw [he];exact h _
 ·exact h x
theorem jp2 {c C0:α→β→Prop} [∀ x y,Decidable (c x y)] {t e:α→β→StateT σ Sem ρ}(C:α→β→σ→Prop) (h:∀ x y st,C x y st→wpS M A E s (e x y) Q st) (hx:∀ x y,C0 x y→¬ c x y→C x y st) (ht:∀ x y,C0 x y→c x y→(∀ x y st,C x y st→wpS M A E s (e x y) Q st)→wpS M A E s (t x y) Q st) (x:α) (y:β) (h0:C0 x y):wpS M A E s (if c x y then t x y else e x y) Q st :=
 jp0 (C x y) (hx x y h0) (h x y) fun hc _=>ht x y h0 hc h
theorem jp3 {c C0:α→Prop} [∀ x,Decidable (c x)] {t e:α→StateT σ Sem ρ}(C:α→σ→Prop) (h:∀ x st,C x st→wpS M A E s (e x) Q st) (hx:∀ x,C0 x→¬ c x→C x st) (ht:∀ x,C0 x→c x→(∀ x st,C x st→wpS M A E s (e x) Q st)→wpS M A E s (t x) Q st) (x:α) (h0:C0 x):wpS M A E s (if c x then t x else e x) Q st :=
 jp0 (C x) (hx x h0) (h x) fun hc _=>ht x h0 hc h
end
def Srt (l:List Keyed):Prop:=l.Pairwise fun p q=>key p≤key q
def Res (a b m:Array Keyed):Prop:=m.toList.Perm (a.toList ++ b.toList)∧Srt m.toList
structure LoI (a b out:Array Keyed) (ia ib:Nat):Prop where
 perm:(out.toList ++ (a.toList.drop ia ++ b.toList.drop ib)).Perm (a.toList ++ b.toList)
 sa:Srt (out.toList ++ a.toList.drop ia)
 sb:Srt (out.toList ++ b.toList.drop ib)
theorem srt_app {x y:List Keyed}:Srt (x ++ y) ↔ Srt x∧Srt y∧∀ p ∈ x,∀ q ∈ y,key p≤key q:=List.pairwise_append
theorem zBd (a:Array Keyed) (i j:Nat):(a.extract i j).toList=(a.toList.drop i).take (j - i):=by
 rw [Array.toList_extract,List.extract_eq_drop_take]
theorem zDi (a:Array Keyed) (i:Nat):(a.extract i a.size).toList=a.toList.drop i:=by
 rw [zBd,List.take_of_length_le (by simp)]
theorem zFu {a:Array Keyed}{i:Nat}(h:i < a.size):a.toList.drop i=a[i] :: a.toList.drop (i + 1):=by
 rw [List.drop_eq_getElem_cons (by simpa using h)];simp
section
variable {a b out:Array Keyed}{ia ib:Nat}
theorem LoI.moveA {x ra:List Keyed}{o:Array Keyed}{ia':Nat}(h:LoI a b out ia ib) (e:a.toList.drop ia=x ++ ra) (eo:o.toList=out.toList ++ x) (er:a.toList.drop ia'=ra) (hx:∀ p ∈ x,∀ q ∈ b.toList.drop ib,key p≤key q):LoI a b o ia' ib:=by
 obtain ⟨h1,h2,h3⟩:=h
 rw [e] at h1 h2
 refine ⟨?_,?_,?_⟩
 ·rw [eo,er];simpa [List.append_assoc] using h1
 ·rw [eo,er];simpa [List.append_assoc] using h2
 ·rw [eo]
  rw [srt_app] at h2 h3 ⊢
  obtain ⟨a1,a2,a3⟩:=h2
  obtain ⟨b1,b2,b3⟩:=h3
  refine ⟨srt_app.mpr ⟨a1,(srt_app.mp a2).1,fun p hp q hq=>a3 p hp q (List.mem_append_left _ hq)⟩,b2,fun p hp q hq=>?_⟩
  rcases List.mem_append.mp hp with hp | hp
  ·exact b3 p hp q hq
  ·exact hx p hp q hq
theorem LoI.moveB {x rb:List Keyed}{o:Array Keyed}{ib':Nat}(h:LoI a b out ia ib) (e:b.toList.drop ib=x ++ rb) (eo:o.toList=out.toList ++ x) (er:b.toList.drop ib'=rb) (hx:∀ p ∈ x,∀ q ∈ a.toList.drop ia,key p≤key q):LoI a b o ia ib':=by
 obtain ⟨h1,h2,h3⟩:=h
 rw [e] at h1 h3
 refine ⟨?_,?_,?_⟩
 ·rw [eo,er]
  refine List.Perm.trans ?_ h1
  rw [List.append_assoc]
  refine List.Perm.append_left _ ?_
  rw [← List.append_assoc,← List.append_assoc]
  exact List.Perm.append_right _ List.perm_append_comm
 ·rw [eo]
  rw [srt_app] at h2 h3 ⊢
  obtain ⟨a1,a2,a3⟩:=h3
  obtain ⟨b1,b2,b3⟩:=h2
  refine ⟨srt_app.mpr ⟨a1,(srt_app.mp a2).1,fun p hp q hq=>a3 p hp q (List.mem_append_left _ hq)⟩,b2,fun p hp q hq=>?_⟩
  rcases List.mem_append.mp hp with hp | hp
  ·exact b3 p hp q hq
  ·exact hx p hp q hq
 ·rw [eo,er];simpa [List.append_assoc] using h3
theorem zKb {x:Keyed}{l:List Keyed}(h:Srt (x :: l)):∀ q ∈ x :: l,key x≤key q:=by
 intro q hq
 rcases List.mem_cons.mp hq with rfl | hq
 ·exact Int.le_refl _
 ·exact (List.pairwise_cons.mp h).1 q hq
theorem LoI.headA (h:LoI a b out ia ib) (ha:ia < a.size):∀ q ∈ a.toList.drop ia,key a[ia]≤key q:=by
 have:=(srt_app.mp h.sa).2.1
 rw [zFu ha] at this ⊢
 exact zKb this
theorem LoI.headB (h:LoI a b out ia ib) (hb:ib < b.size):∀ q ∈ b.toList.drop ib,key b[ib]≤key q:=by
 have:=(srt_app.mp h.sb).2.1
 rw [zFu hb] at this ⊢
 exact zKb this
theorem LoI.pushB (h:LoI a b out ia ib) (hb:ib < b.size) (ha:ia < a.size) (hk:key b[ib]≤key a[ia]):LoI a b (out.push b[ib]) ia (ib + 1) :=
 h.moveB (x:=[b[ib]]) (zFu hb) (by simp) rfl fun p hp q hq=>by
  rw [List.mem_singleton.mp hp];exact Int.le_trans hk (h.headA ha q hq)
theorem LoI.pushA (h:LoI a b out ia ib) (ha:ia < a.size) (hb:ib < b.size) (hk:key a[ia]≤key b[ib]):LoI a b (out.push a[ia]) (ia + 1) ib :=
 h.moveA (x:=[a[ia]]) (zFu ha) (by simp) rfl fun p hp q hq=>by
  rw [List.mem_singleton.mp hp];exact Int.le_trans hk (h.headB hb q hq)
theorem LoI.runA {k:Nat}(h:LoI a b out ia ib) (hb:ib < b.size) (hk:∀ (i:Nat) (hi:ia + i < a.size),i < k→key a[ia + i]≤key b[ib]):LoI a b (out ++ a.extract ia (ia + k)) (ia + k) ib:=by
 refine h.moveA (x:=(a.toList.drop ia).take k) (ra:=a.toList.drop (ia + k)) ?_ ?_ rfl fun p hp q hq=>?_
 ·rw [← List.drop_drop,List.take_append_drop]
 ·rw [Array.toList_append,zBd,Nat.add_sub_cancel_left]
 ·obtain ⟨i,hi,e⟩:=List.mem_take_iff_getElem.mp hp
  rw [List.length_drop,Array.length_toList] at hi
  have e':a[ia + i]'(by omega)=p:=by rw [← e];simp
  rw [← e']
  exact Int.le_trans (hk i (by omega) (by omega)) (h.headB hb q hq)
theorem LoI.runB {k:Nat}(h:LoI a b out ia ib) (ha:ia < a.size) (hk:∀ (i:Nat) (hi:ib + i < b.size),i < k→key b[ib + i]≤key a[ia]):LoI a b (out ++ b.extract ib (ib + k)) ia (ib + k):=by
 refine h.moveB (x:=(b.toList.drop ib).take k) (rb:=b.toList.drop (ib + k)) ?_ ?_ rfl fun p hp q hq=>?_
 ·rw [← List.drop_drop,List.take_append_drop]
 ·rw [Array.toList_append,zBd,Nat.add_sub_cancel_left]
 ·obtain ⟨i,hi,e⟩:=List.mem_take_iff_getElem.mp hp
  rw [List.length_drop,Array.length_toList] at hi
  have e':b[ib + i]'(by omega)=p:=by rw [← e];simp
  rw [← e']
  exact Int.le_trans (hk i (by omega) (by omega)) (h.headA ha q hq)
theorem LoI.doneB (h:LoI a b out ia ib) (hb:ib=b.size):Res a b (out ++ a.extract ia a.size ++ b.extract ib b.size):=by
 subst hb
 have e:b.toList.drop b.size=[]:=List.drop_of_length_le (by simp)
 obtain ⟨h1,h2,h3⟩:=h
 rw [e,List.append_nil] at h1
 unfold Res
 rw [Array.toList_append,Array.toList_append,zDi,zDi,e,List.append_nil]
 exact ⟨h1,h2⟩
theorem LoI.doneA (h:LoI a b out ia ib) (ha:ia=a.size):Res a b (out ++ a.extract ia a.size ++ b.extract ib b.size):=by
 subst ha
 have e:a.toList.drop a.size=[]:=List.drop_of_length_le (by simp)
 obtain ⟨h1,h2,h3⟩:=h
 rw [e,List.nil_append] at h1
 unfold Res
 rw [Array.toList_append,Array.toList_append,zDi,zDi,e,List.append_nil]
 exact ⟨h1,h3⟩
theorem LoI.lastA (h:LoI a b out ia ib) (ha:ia + 1=a.size) (hl:∀ p ∈ b.toList,∀ (hi:a.size - 1 < a.size),key p≤key a[a.size - 1]):Res a b (out ++ b.extract ib b.size ++ a.extract ia a.size):=by
 have hlt:ia < a.size:=by omega
 have e:a.toList.drop ia=[a[ia]]:=by rw [zFu hlt,List.drop_of_length_le (by simp;omega)]
 have e2:a[ia]=a[a.size - 1]'(by omega):=by congr 1;omega
 obtain ⟨h1,h2,h3⟩:=h
 unfold Res
 rw [Array.toList_append,Array.toList_append,zDi,zDi]
 constructor
 ·refine List.Perm.trans ?_ h1
  rw [List.append_assoc]
  exact List.Perm.append_left _ List.perm_append_comm
 ·rw [e] at h2 ⊢
  rw [srt_app] at h2 ⊢
  refine ⟨h3,h2.2.1,fun p hp q hq=>?_⟩
  rcases List.mem_append.mp hp with hp | hp
  ·exact h2.2.2 p hp q hq
  ·rw [List.mem_singleton.mp hq,e2]
   exact hl p (List.mem_of_mem_drop hp) (by omega)
end
end So
end
section
namespace So
open PySem PyProof.Rows
def Eqv (st sx:SortSt):Prop:=∃ g,sx=zTq st g
theorem Eqv.refl (st:SortSt):Eqv st st:=⟨gallopOf st,rfl⟩
theorem Eqv.set {st sx:SortSt}(h:Eqv st sx) (g:Nat):Eqv st (zTq sx g):=by obtain ⟨g',rfl⟩:=h;exact ⟨g,rfl⟩
theorem Eqv.kind {st sx:SortSt}(h:Eqv st sx) (hk:kindOf st=oneType'):kindOf sx=oneType':=by obtain ⟨g',rfl⟩:=h;exact hk
def LoG (a b out:Array Keyed) (ia ib n:Nat):Prop:=LoI a b out ia ib∧ia + 1 < a.size∧ib < b.size∧n≤ia + ib
section
variable {prog:Program}{w:World}{A:Around}{E:Value→Shared→Prop}{s:Shared}
variable {a b:Array Keyed}
theorem zG2 {a:Array Keyed}(h:Srt a.toList) {i j:Nat}(hij:i≤j) (hj:j < a.size):key a[i]≤key a[j]:=by
 by_cases e:i=j
 ·subst e;exact Int.le_refl _
 ·have:=List.pairwise_iff_getElem.mp h i j (by simp;omega) (by simpa using hj) (by omega)
  simpa using this
theorem zQz {st:SortSt}{ia ib:Nat}{Q:Option Nat→SortSt→Prop}(hk:kindOf st=oneType') (ka:∀ (i:Nat) (hi:i < a.size),zF8 a[i]) (kb:∀ (i:Nat) (hi:i < b.size),zF8 b[i]) (sa:Srt a.toList) (h1:ia < a.size) (h2:ib < b.size)
  (h:∀ m,ia + m≤a.size→(∀ (i:Nat) (hi:ia + i < a.size),i < m→key a[ia + i]≤key b[ib])→(∀ (i:Nat) (hi:ia + i < a.size),m≤i→key b[ib]≤key a[ia + i])→Q (some m) st):wpS (model prog w) A E s (zEq false b[ib] a ia (a.size - ia) 0) Q st:=by
 refine zBw hk (by omega) (by omega) (kb _ h2) ka (fun i=>∃ hi:ia + i < a.size,key a[ia + i]≤key b[ib]) (fun i hi=>?_) (fun i j hij hj=>?_) fun m h3 h4 h5=>?_
 ·unfold Bey
  simp only [Bool.false_eq_true,if_false]
  exact ⟨fun ⟨_,q⟩=>q,fun q=>⟨hi,q⟩⟩
 ·rintro ⟨hi,q⟩
  exact ⟨by omega,Int.le_trans (zG2 sa (by omega) hi) q⟩
 ·refine h m (by omega) (fun i hi him=>(h4 i him).2) fun i hi him=>?_
  have:¬ key a[ia + i]≤key b[ib]:=fun q=>h5 i him (by omega) ⟨hi,q⟩
  omega
theorem zQ0 {st:SortSt}{ia ib:Nat}{Q:Option Nat→SortSt→Prop}(hk:kindOf st=oneType') (ka:∀ (i:Nat) (hi:i < a.size),zF8 a[i]) (kb:∀ (i:Nat) (hi:i < b.size),zF8 b[i]) (sb:Srt b.toList) (h1:ia < a.size) (h2:ib < b.size)
  (h:∀ m,ib + m≤b.size→(∀ (i:Nat) (hi:ib + i < b.size),i < m→key b[ib + i]≤key a[ia])→(∀ (i:Nat) (hi:ib + i < b.size),m≤i→key a[ia]≤key b[ib + i])→Q (some m) st):wpS (model prog w) A E s (zEq true a[ia] b ib (b.size - ib) 0) Q st:=by
 refine zBw hk (by omega) (by omega) (ka _ h1) kb (fun i=>∃ hi:ib + i < b.size,key b[ib + i] < key a[ia]) (fun i hi=>?_) (fun i j hij hj=>?_) fun m h3 h4 h5=>?_
 ·unfold Bey
  simp only [if_true]
  exact ⟨fun ⟨_,q⟩=>q,fun q=>⟨hi,q⟩⟩
 ·rintro ⟨hi,q⟩
  exact ⟨by omega,Int.lt_of_le_of_lt (zG2 sb (by omega) hi) q⟩
 ·refine h m (by omega) (fun i hi him=>Int.le_of_lt (h4 i him).2) fun i hi him=>?_
  have:¬ key b[ib + i] < key a[ia]:=fun q=>h5 i him (by omega) ⟨hi,q⟩
  omega
theorem zI6 {st:SortSt}{Q:Array Keyed→SortSt→Prop}(hk:kindOf st=oneType') (ka:∀ (i:Nat) (hi:i < a.size),zF8 a[i]) (kb:∀ (i:Nat) (hi:i < b.size),zF8 b[i]) (sa:Srt a.toList) (sb:Srt b.toList) (ha:1≤a.size) (hb:1≤b.size)
  (hfirst:key b[0]≤key a[0]) (hl:∀ p ∈ b.toList,∀ (hi:a.size - 1 < a.size),key p≤key a[a.size - 1]) (h:∀ m sx,Eqv st sx→Res a b m→Q m sx):wpS (model prog w) A E s (zKs a b) Q st:=by
 delta zKs
 try dsimp only
 refine wpS_bind (wpS_lift (wpAny_rule ⟨rfl,?_⟩))
 refine wpS_bind (zc (by omega) ?_)
 have h0:LoI a b #[] 0 0:=⟨by simp,by simpa using sa,by simpa using sb⟩
 have h1:LoI a b #[b[0]] 0 1:=h0.pushB (by omega) (by omega) hfirst
 try dsimp only
 by_cases e1:1=b.size
 ·refine ifT (zF6 e1) ?_
  exact wpS_pure (h _ _ (Eqv.refl st) (h1.doneB e1))
 refine ifF (zF7 e1) ?_
 by_cases e2:0 + 1=a.size
 ·refine ifT (zF6 e2) ?_
  exact wpS_pure (h _ _ (Eqv.refl st) (h1.lastA e2 hl))
 refine ifF (zF7 e2) ?_
 refine wpS_bind (wpS_get ?_)
 refine wpS_bind (wpS_mono (wpS_forRange (I:=fun x c sx=>Eqv st sx∧∃ out ia ib mg,c=(none,out,ia,ib,mg)∧LoG a b out ia ib x) (Q:=fun c sx=>Eqv st sx∧∃ m d,c=(some m,d)∧Res a b m) ?_ ?_ ⟨Eqv.refl st,_,_,_,_,rfl,h1,by omega,by omega,by omega⟩) ?_)
 ·rintro n c sx - hx ⟨hv,out,ia,ib,mg,rfl,hG⟩
  try dsimp only
  refine wpS_bind (wpS_mono (wpS_forRange (I:=fun x c sy=>sy=sx∧∃ out ia ib ac bc,c=(none,out,ia,ib,ac,bc)∧LoG a b out ia ib n)
   (Q:=fun c sy=>sy=sx∧((∃ m d,c=(some m,d)∧Res a b m)∨∃ out ia ib ac bc,c=(none,out,ia,ib,ac,bc)∧LoG a b out ia ib n)) ?_ ?_ ⟨rfl,_,_,_,_,_,rfl,hG⟩) ?_)
  ·rintro x c sy - hx ⟨rfl,out,ia,ib,ac,bc,rfl,hI,h1,h2,h3⟩
   try dsimp only
   refine wpS_bind (zc h2 (wpS_bind (zc (by omega) (wpS_bind (zHz (hv.kind hk) (kb _ h2) (ka _ (by omega)) ?_)))))
   by_cases hw:key b[ib] < key a[ia]
   ·rw [decide_eq_true hw]
    try dsimp only
    refine ifT rfl ?_
    have hJ:=hI.pushB h2 (by omega) (Int.le_of_lt hw)
    refine wpS_bind (zc h2 ?_)
    by_cases e:ib + 1=b.size
    ·refine ifT (zF6 e) ?_
     exact wpS_pure ⟨rfl,.inl ⟨_,_,rfl,hJ.doneB e⟩⟩
    ·refine ifF (zF7 e) ?_
     have hG:LoG a b _ ia (ib + 1) n:=⟨hJ,h1,by omega,by omega⟩
     split
     ·exact wpS_pure ⟨rfl,.inr ⟨_,_,_,_,_,rfl,hG⟩⟩
     ·exact wpS_pure ⟨rfl,_,_,_,_,_,rfl,hG⟩
   ·rw [decide_eq_false hw]
    try dsimp only
    refine ifF (by decide) ?_
    have hJ:=hI.pushA (by omega) h2 (by omega)
    refine wpS_bind (zc (by omega) ?_)
    by_cases e:ia + 1 + 1=a.size
    ·refine ifT (zF6 e) ?_
     exact wpS_pure ⟨rfl,.inl ⟨_,_,rfl,hJ.lastA e hl⟩⟩
    ·refine ifF (zF7 e) ?_
     have hG:LoG a b _ (ia + 1) ib n:=⟨hJ,by omega,h2,by omega⟩
     split
     ·exact wpS_pure ⟨rfl,.inr ⟨_,_,_,_,_,rfl,hG⟩⟩
     ·exact wpS_pure ⟨rfl,_,_,_,_,_,rfl,hG⟩
  ·rintro c sy ⟨rfl,out,ia,ib,ac,bc,rfl,hG⟩
   exact ⟨rfl,.inr ⟨_,_,_,_,_,rfl,hG⟩⟩
  ·rintro c sy ⟨rfl,⟨m,d,rfl,hm⟩ | ⟨out,ia,ib,ac,bc,rfl,hG⟩⟩
   ·try dsimp only
    exact wpS_pure ⟨hv,_,_,rfl,hm⟩
   ·try dsimp only
    refine wpS_bind (wpS_lift (wpAny_rule ⟨rfl,?_⟩))
    refine wpS_bind (wpS_mono (wpS_forRange (I:=fun x c sz=>Eqv st sz∧∃ out ia ib mg ac bc,c=(none,out,ia,ib,mg,ac,bc)∧((x=0∧LoG a b out ia ib n)∨LoG a b out ia ib (n + 1)))
     (Q:=fun c sz=>Eqv st sz∧((∃ m d,c=(some m,d)∧Res a b m)∨∃ out ia ib mg ac bc,c=(none,out,ia,ib,mg,ac,bc)∧LoG a b out ia ib (n + 1))) ?_ ?_ ⟨hv,_,_,_,_,_,_,rfl,.inl ⟨rfl,hG⟩⟩) ?_)
    ·rintro x c sz - hx ⟨hv,out,ia,ib,mg,ac,bc,rfl,hG⟩
     replace hG:LoG a b out ia ib n:=by
      rcases hG with ⟨_,hG⟩ | ⟨q1,q2,q3,q4⟩
      ·exact hG
      ·exact ⟨q1,q2,q3,by omega⟩
     obtain ⟨hI,h1,h2,h3⟩:=hG
     try dsimp only
     revert mg
     refine jp1 (fun mg=>mg - 1) (fun _=>rfl) fun mg=>?_
     refine wpS_bind (wpS_modify ?_)
     have hvv:=hv.set mg
     refine wpS_bind (zc h2 ?_)
     refine wpS_bind (zQz (hvv.kind hk) ka kb sa (by omega) h2 fun k p1 p2 p3=>?_)
     try dsimp only
     have hC:=And.intro hI (And.intro h1 (And.intro h3 (And.intro p1 (And.intro p2 p3))))
     clear hI h1 h3 p1 p2 p3
     revert out ia
     refine jp2 (fun o i sz'=>Eqv st sz'∧LoI a b o i ib∧i + 1 < a.size∧n≤i + ib∧∀ hi:i < a.size,key b[ib]≤key a[i]) ?_ (fun _ ia ⟨hI,h1,h3,p1,p2,p3⟩ hk0=>⟨hvv,hI,h1,h3,fun hi=>p3 0 hi (by omega)⟩) fun out ia ⟨hI,h1,h3,p1,p2,p3⟩ hk0 key=>?_
     ·rintro out i sz ⟨hvv,hL,c1,c2,c3⟩
      refine wpS_bind (zc h2 ?_)
      have hJ:=hL.pushB h2 (by omega) (c3 (by omega))
      by_cases e2:ib + 1=b.size
      ·refine ifT (zF6 e2) ?_
       exact wpS_pure ⟨hvv,.inl ⟨_,_,rfl,hJ.doneB e2⟩⟩
      refine ifF (zF7 e2) ?_
      generalize out.push b[ib]=o2 at hJ ⊢
      generalize hjb:ib + 1=jb at hJ e2 ⊢
      refine wpS_bind (zc (by omega) ?_)
      refine wpS_bind (zQ0 (hvv.kind hk) ka kb sb (by omega) (by omega) fun k1 q1 q2 q3=>?_)
      try dsimp only
      have hC:=And.intro hJ (And.intro (show jb < b.size by omega) (And.intro (show n + 1≤i + jb by omega) (And.intro q1 (And.intro q2 q3))))
      clear hJ e2 hjb q1 q2 q3
      revert o2 jb
      refine jp2 (fun o j sz'=>Eqv st sz'∧LoI a b o i j∧j < b.size∧n + 1≤i + j∧∀ hi:j < b.size,key (a[i]'(by omega))≤key b[j]) ?_ (fun _ jb ⟨hJ,e2,e3,q1,q2,q3⟩ hk1=>⟨hvv,hJ,e2,e3,fun hi=>q3 0 hi (by omega)⟩) fun o2 jb ⟨hJ,e2,e3,q1,q2,q3⟩ hk1 key=>?_
      ·rintro o j sz ⟨hvv,hL,d1,d2,d3⟩
       refine wpS_bind (zc (by omega) ?_)
       have hN:=hL.pushA (by omega) d1 (d3 d1)
       by_cases e3:i + 1 + 1=a.size
       ·refine ifT (zF6 e3) ?_
        exact wpS_pure ⟨hvv,.inl ⟨_,_,rfl,hN.lastA e3 hl⟩⟩
       refine ifF (zF7 e3) ?_
       have hG:LoG a b _ (i + 1) j (n + 1):=⟨hN,by omega,d1,by omega⟩
       split
       ·exact wpS_pure ⟨hvv,.inr ⟨_,_,_,_,_,_,rfl,hG⟩⟩
       ·exact wpS_pure ⟨hvv,_,_,_,_,_,_,rfl,.inr hG⟩
      ·have hL:=hJ.runB (by omega) q2
       by_cases e4:jb + k1=b.size
       ·refine ifT (zF6 e4) ?_
        exact wpS_pure ⟨hvv,.inl ⟨_,_,rfl,hL.doneB e4⟩⟩
       refine ifF (zF7 e4) ?_
       exact key _ _ _ ⟨hvv,hL,by omega,by omega,fun hi=>q3 k1 hi (Nat.le_refl _)⟩
     ·have hL:=hI.runA h2 p2
      by_cases e1:ia + k + 1=a.size
      ·refine ifT (zF6 e1) ?_
       exact wpS_pure ⟨hvv,.inl ⟨_,_,rfl,hL.lastA e1 hl⟩⟩
      refine ifF (zF7 e1) ?_
      by_cases e5:ia + k=a.size
      ·refine ifT (zF6 e5) ?_
       exact wpS_pure ⟨hvv,.inl ⟨_,_,rfl,hL.doneA e5⟩⟩
      refine ifF (zF7 e5) ?_
      exact key _ _ _ ⟨hvv,hL,by omega,by omega,fun hi=>p3 k hi (Nat.le_refl _)⟩
    ·rintro c sz ⟨hv,out,ia,ib,mg,ac,bc,rfl,hG⟩
     rcases hG with ⟨hz,_⟩ | hG
     ·omega
     ·exact ⟨hv,.inr ⟨_,_,_,_,_,_,rfl,hG⟩⟩
    ·rintro c sz ⟨hv,⟨m,d,rfl,hm⟩ | ⟨out,ia,ib,mg,ac,bc,rfl,hG⟩⟩
     ·try dsimp only
      exact wpS_pure ⟨hv,_,_,rfl,hm⟩
     ·try dsimp only
      exact wpS_bind (wpS_modify (wpS_pure ⟨hv.set _,_,_,_,_,rfl,hG⟩))
 ·rintro c sx ⟨hv,out,ia,ib,mg,rfl,hI,h1,h2,h3⟩
  omega
 ·rintro c sx ⟨hv,m,d,rfl,hm⟩
  exact wpS_pure (h _ _ hv hm)
end
end So
end
section
namespace So
open PySem PyProof.Rows
def zKt:Array Keyed→Array Keyed→StateT SortSt Sem (Array Keyed):=sortPriv% PySem.Builtin.mergeHi
structure HiI (a b out:Array Keyed) (na nb:Nat):Prop where
 perm:(a.toList.take na ++ (b.toList.take nb ++ out.toList.reverse)).Perm (a.toList ++ b.toList)
 sa:Srt (a.toList.take na ++ out.toList.reverse)
 sb:Srt (b.toList.take nb ++ out.toList.reverse)
theorem zCp (a:Array Keyed) (n:Nat):(a.extract 0 n).toList=a.toList.take n:=by
 rw [zBd,Nat.sub_zero,List.drop_zero]
theorem zE6 {a:Array Keyed}{n:Nat}(h:1≤n) (h2:n≤a.size):a.toList.take n=a.toList.take (n - 1) ++ [a[n - 1]'(by omega)]:=by
 have e:=List.take_succ_eq_append_getElem (l:=a.toList) (i:=n - 1) (by simp;omega)
 rw [show n - 1 + 1=n by omega] at e
 rw [e];simp
section
variable {a b out:Array Keyed}{na nb:Nat}
theorem HiI.moveA {x la:List Keyed}{o:Array Keyed}{na':Nat}(h:HiI a b out na nb) (e:a.toList.take na=la ++ x) (eo:o.toList.reverse=x ++ out.toList.reverse) (er:a.toList.take na'=la) (hx:∀ p ∈ b.toList.take nb,∀ q ∈ x,key p≤key q):HiI a b o na' nb:=by
 obtain ⟨h1,h2,h3⟩:=h
 rw [e] at h1 h2
 refine ⟨?_,?_,?_⟩
 ·rw [eo,er]
  refine List.Perm.trans ?_ h1
  rw [List.append_assoc]
  refine List.Perm.append_left _ ?_
  rw [← List.append_assoc,← List.append_assoc]
  exact List.Perm.append_right _ List.perm_append_comm
 ·rw [eo,er];simpa [List.append_assoc] using h2
 ·rw [eo]
  rw [List.append_assoc] at h2
  rw [srt_app] at h2 h3 ⊢
  obtain ⟨a1,a2,a3⟩:=h2
  obtain ⟨b1,b2,b3⟩:=h3
  refine ⟨b1,a2,fun p hp q hq=>?_⟩
  rcases List.mem_append.mp hq with hq | hq
  ·exact hx p hp q hq
  ·exact b3 p hp q hq
theorem HiI.moveB {x lb:List Keyed}{o:Array Keyed}{nb':Nat}(h:HiI a b out na nb) (e:b.toList.take nb=lb ++ x) (eo:o.toList.reverse=x ++ out.toList.reverse) (er:b.toList.take nb'=lb) (hx:∀ p ∈ a.toList.take na,∀ q ∈ x,key p≤key q):HiI a b o na nb':=by
 obtain ⟨h1,h2,h3⟩:=h
 rw [e] at h1 h3
 refine ⟨?_,?_,?_⟩
 ·rw [eo,er];simpa [List.append_assoc] using h1
 ·rw [eo]
  rw [List.append_assoc] at h3
  rw [srt_app] at h2 h3 ⊢
  obtain ⟨a1,a2,a3⟩:=h3
  obtain ⟨b1,b2,b3⟩:=h2
  refine ⟨b1,a2,fun p hp q hq=>?_⟩
  rcases List.mem_append.mp hq with hq | hq
  ·exact hx p hp q hq
  ·exact b3 p hp q hq
 ·rw [eo,er];simpa [List.append_assoc] using h3
theorem zH3 {x:Keyed}{l:List Keyed}(h:Srt (l ++ [x])):∀ q ∈ l ++ [x],key q≤key x:=by
 intro q hq
 rcases List.mem_append.mp hq with hq | hq
 ·exact (srt_app.mp h).2.2 q hq x (List.mem_singleton.mpr rfl)
 ·rw [List.mem_singleton.mp hq];exact Int.le_refl _
theorem HiI.lastA (h:HiI a b out na nb) (h1:1≤na) (h2:na≤a.size):∀ q ∈ a.toList.take na,key q≤key (a[na - 1]'(by omega)):=by
 have:=(srt_app.mp h.sa).1
 rw [zE6 h1 h2] at this ⊢
 exact zH3 this
theorem HiI.lastB (h:HiI a b out na nb) (h1:1≤nb) (h2:nb≤b.size):∀ q ∈ b.toList.take nb,key q≤key (b[nb - 1]'(by omega)):=by
 have:=(srt_app.mp h.sb).1
 rw [zE6 h1 h2] at this ⊢
 exact zH3 this
theorem HiI.pushA (h:HiI a b out na nb) (h1:1≤na) (h2:na≤a.size) (h3:1≤nb) (h4:nb≤b.size) (hk:key (b[nb - 1]'(by omega))≤key (a[na - 1]'(by omega))):HiI a b (out.push (a[na - 1]'(by omega))) (na - 1) nb :=
 h.moveA (x:=[a[na - 1]'(by omega)]) (zE6 h1 h2) (by simp) rfl fun p hp q hq=>by
  rw [List.mem_singleton.mp hq];exact Int.le_trans (h.lastB h3 h4 p hp) hk
theorem HiI.pushB (h:HiI a b out na nb) (h1:1≤na) (h2:na≤a.size) (h3:1≤nb) (h4:nb≤b.size) (hk:key (a[na - 1]'(by omega))≤key (b[nb - 1]'(by omega))):HiI a b (out.push (b[nb - 1]'(by omega))) na (nb - 1) :=
 h.moveB (x:=[b[nb - 1]'(by omega)]) (zE6 h3 h4) (by simp) rfl fun p hp q hq=>by
  rw [List.mem_singleton.mp hq];exact Int.le_trans (h.lastA h1 h2 p hp) hk
theorem zGc (l:List Keyed) {m n:Nat}(h:m≤n):l.take n=l.take m ++ (l.drop m).take (n - m):=by
 have e:n=m + (n - m):=by omega
 conv=>lhs;rw [e]
 exact List.take_add
theorem HiI.runA {m:Nat}(h:HiI a b out na nb) (h2:na≤a.size) (h3:1≤nb) (h4:nb≤b.size) (hm:m≤na) (hk:∀ (i:Nat) (hi:i < a.size),m≤i→i < na→key (b[nb - 1]'(by omega))≤key a[i]):HiI a b (out ++ (a.extract m na).reverse) m nb:=by
 refine h.moveA (x:=(a.toList.drop m).take (na - m)) (zGc _ hm) ?_ rfl fun p hp q hq=>?_
 ·rw [Array.toList_append,List.reverse_append,Array.toList_reverse,List.reverse_reverse,zBd]
 ·obtain ⟨i,hi,e⟩:=List.mem_take_iff_getElem.mp hq
  rw [List.length_drop,Array.length_toList] at hi
  have e':a[m + i]'(by omega)=q:=by rw [← e];simp
  rw [← e']
  exact Int.le_trans (h.lastB h3 h4 p hp) (hk _ (by omega) (by omega) (by omega))
theorem HiI.runB {m:Nat}(h:HiI a b out na nb) (h1:1≤na) (h2:na≤a.size) (h4:nb≤b.size) (hm:m≤nb) (hk:∀ (i:Nat) (hi:i < b.size),m≤i→i < nb→key (a[na - 1]'(by omega))≤key b[i]):HiI a b (out ++ (b.extract m nb).reverse) na m:=by
 refine h.moveB (x:=(b.toList.drop m).take (nb - m)) (zGc _ hm) ?_ rfl fun p hp q hq=>?_
 ·rw [Array.toList_append,List.reverse_append,Array.toList_reverse,List.reverse_reverse,zBd]
 ·obtain ⟨i,hi,e⟩:=List.mem_take_iff_getElem.mp hq
  rw [List.length_drop,Array.length_toList] at hi
  have e':b[m + i]'(by omega)=q:=by rw [← e];simp
  rw [← e']
  exact Int.le_trans (h.lastA h1 h2 p hp) (hk _ (by omega) (by omega) (by omega))
theorem HiI.doneA (h:HiI a b out na nb) (ha:na=0):Res a b (a.extract 0 na ++ b.extract 0 nb ++ out.reverse):=by
 subst ha
 obtain ⟨h1,h2,h3⟩:=h
 unfold Res
 rw [Array.toList_append,Array.toList_append,zCp,zCp,Array.toList_reverse]
 simp only [List.take_zero,List.nil_append] at h1 ⊢
 exact ⟨h1,h3⟩
theorem HiI.doneB (h:HiI a b out na nb) (hb:nb=0):Res a b (a.extract 0 na ++ b.extract 0 nb ++ out.reverse):=by
 subst hb
 obtain ⟨h1,h2,h3⟩:=h
 unfold Res
 rw [Array.toList_append,Array.toList_append,zCp,zCp,Array.toList_reverse]
 simp only [List.take_zero,List.nil_append,List.append_nil] at h1 ⊢
 exact ⟨h1,h2⟩
theorem HiI.firstB (h:HiI a b out na nb) (hb:nb=1) (hbs:1≤b.size) (hf:∀ q ∈ a.toList,∀ (hi:0 < b.size),key b[0]≤key q):Res a b (b.extract 0 nb ++ a.extract 0 na ++ out.reverse):=by
 subst hb
 obtain ⟨h1,h2,h3⟩:=h
 have e:b.toList.take 1=[b[0]'(by omega)]:=by rw [zE6 (Nat.le_refl 1) hbs];simp
 unfold Res
 rw [Array.toList_append,Array.toList_append,zCp,zCp,Array.toList_reverse]
 constructor
 ·refine List.Perm.trans ?_ h1
  rw [← List.append_assoc]
  exact List.Perm.append_right _ List.perm_append_comm
 ·rw [e] at h3 ⊢
  rw [List.append_assoc]
  rw [srt_app] at h3 ⊢
  refine ⟨h3.1,h2,fun p hp q hq=>?_⟩
  rcases List.mem_append.mp hq with hq | hq
  ·rw [List.mem_singleton.mp hp]
   exact hf q (List.mem_of_mem_take hq) (by omega)
  ·exact h3.2.2 p hp q hq
end
end So
end
section
namespace So
open PySem PyProof.Rows
def HiG (a b out:Array Keyed) (na nb n:Nat):Prop:=HiI a b out na nb∧1≤na∧na≤a.size∧2≤nb∧nb≤b.size∧n + na + nb≤a.size + b.size
section
variable {prog:Program}{w:World}{A:Around}{E:Value→Shared→Prop}{s:Shared}
variable {a b:Array Keyed}
theorem zO6 {st:SortSt}{na:Nat}{k:Keyed}{Q:Option Nat→SortSt→Prop}(hk:kindOf st=oneType') (ka:∀ (i:Nat) (hi:i < a.size),zF8 a[i]) (kk:zF8 k) (sa:Srt a.toList) (h1:1≤na) (h2:na≤a.size)
  (h:∀ m,m≤na→(∀ (i:Nat) (hi:i < a.size),i < m→key a[i]≤key k)→(∀ (i:Nat) (hi:i < a.size),m≤i→i < na→key k≤key a[i])→Q (some m) st):wpS (model prog w) A E s (zEq false k a 0 na (na - 1)) Q st:=by
 refine zBw hk (by omega) (by omega) kk ka (fun i=>∃ hi:0 + i < a.size,key a[0 + i]≤key k) (fun i hi=>?_) (fun i j hij hj=>?_) fun m h3 h4 h5=>?_
 ·unfold Bey
  simp only [Bool.false_eq_true,if_false]
  exact ⟨fun ⟨_,q⟩=>q,fun q=>⟨hi,q⟩⟩
 ·rintro ⟨hi,q⟩
  exact ⟨by omega,Int.le_trans (zG2 sa (by omega) hi) q⟩
 ·refine h m (by omega) (fun i hi him=>?_) fun i hi him hin=>?_
  ·have:=(h4 i him).2
   simpa using this
  ·have:¬ key a[0 + i]≤key k:=fun q=>h5 i him (by omega) ⟨by omega,q⟩
   simp only [Nat.zero_add] at this
   omega
theorem gallopLh {st:SortSt}{nb:Nat}{k:Keyed}{Q:Option Nat→SortSt→Prop}(hk:kindOf st=oneType') (kb:∀ (i:Nat) (hi:i < b.size),zF8 b[i]) (kk:zF8 k) (sb:Srt b.toList) (h1:1≤nb) (h2:nb≤b.size)
  (h:∀ m,m≤nb→(∀ (i:Nat) (hi:i < b.size),i < m→key b[i]≤key k)→(∀ (i:Nat) (hi:i < b.size),m≤i→i < nb→key k≤key b[i])→Q (some m) st):wpS (model prog w) A E s (zEq true k b 0 nb (nb - 1)) Q st:=by
 refine zBw hk (by omega) (by omega) kk kb (fun i=>∃ hi:0 + i < b.size,key b[0 + i] < key k) (fun i hi=>?_) (fun i j hij hj=>?_) fun m h3 h4 h5=>?_
 ·unfold Bey
  simp only [if_true]
  exact ⟨fun ⟨_,q⟩=>q,fun q=>⟨hi,q⟩⟩
 ·rintro ⟨hi,q⟩
  exact ⟨by omega,Int.lt_of_le_of_lt (zG2 sb (by omega) hi) q⟩
 ·refine h m (by omega) (fun i hi him=>?_) fun i hi him hin=>?_
  ·have:=(h4 i him).2
   simp only [Nat.zero_add] at this
   omega
  ·have:¬ key b[0 + i] < key k:=fun q=>h5 i him (by omega) ⟨by omega,q⟩
   simp only [Nat.zero_add] at this
   omega
theorem wpS_mergeHi {st:SortSt}{Q:Array Keyed→SortSt→Prop}(hk:kindOf st=oneType') (ka:∀ (i:Nat) (hi:i < a.size),zF8 a[i]) (kb:∀ (i:Nat) (hi:i < b.size),zF8 b[i]) (sa:Srt a.toList) (sb:Srt b.toList) (ha:1≤a.size) (hb:1≤b.size)
  (hf:∀ q ∈ a.toList,∀ (hi:0 < b.size),key b[0]≤key q) (hlast:key (b[b.size - 1]'(by omega))≤key (a[a.size - 1]'(by omega))) (h:∀ m sx,Eqv st sx→Res a b m→Q m sx):wpS (model prog w) A E s (zKt a b) Q st:=by
 delta zKt
 try dsimp only
 refine wpS_bind (wpS_lift (wpAny_rule ⟨rfl,?_⟩))
 refine wpS_bind (zc (by omega) ?_)
 have ta:a.toList.take a.size=a.toList:=List.take_of_length_le (by simp)
 have tb:b.toList.take b.size=b.toList:=List.take_of_length_le (by simp)
 have h0:HiI a b #[] a.size b.size:=⟨by rw [ta,tb];simp,by rw [ta];simpa using sa,by rw [tb];simpa using sb⟩
 have h1:HiI a b #[a[a.size - 1]'(by omega)] (a.size - 1) b.size:=h0.pushA (by omega) (by omega) (by omega) (by omega) hlast
 try dsimp only
 by_cases e1:a.size - 1=0
 ·refine ifT (zF6 e1) ?_
  exact wpS_pure (h _ _ (Eqv.refl st) (h1.doneA e1))
 refine ifF (zF7 e1) ?_
 by_cases e2:b.size=1
 ·refine ifT (zF6 e2) ?_
  exact wpS_pure (h _ _ (Eqv.refl st) (h1.firstB e2 (by omega) hf))
 refine ifF (zF7 e2) ?_
 refine wpS_bind (wpS_get ?_)
 refine wpS_bind (wpS_mono (wpS_forRange (I:=fun x c sx=>Eqv st sx∧∃ na nb out mg,c=(none,na,nb,out,mg)∧HiG a b out na nb x) (Q:=fun c sx=>Eqv st sx∧∃ m d,c=(some m,d)∧Res a b m) ?_ ?_ ⟨Eqv.refl st,_,_,_,_,rfl,h1,by omega,by omega,by omega,by omega,by omega⟩) ?_)
 ·rintro n c sx - hx ⟨hv,na,nb,out,mg,rfl,hG⟩
  try dsimp only
  refine wpS_bind (wpS_mono (wpS_forRange (I:=fun x c sy=>sy=sx∧∃ na nb out ac bc,c=(none,na,nb,out,ac,bc)∧HiG a b out na nb n)
   (Q:=fun c sy=>sy=sx∧((∃ m d,c=(some m,d)∧Res a b m)∨∃ na nb out ac bc,c=(none,na,nb,out,ac,bc)∧HiG a b out na nb n)) ?_ ?_ ⟨rfl,_,_,_,_,_,rfl,hG⟩) ?_)
  ·rintro x c sy - hx ⟨rfl,na,nb,out,ac,bc,rfl,hI,h1,h2,h3,h4,h5⟩
   try dsimp only
   refine wpS_bind (zc (by omega) (wpS_bind (zc (by omega) (wpS_bind (zHz (hv.kind hk) (kb _ (by omega)) (ka _ (by omega)) ?_)))))
   by_cases hw:key (b[nb - 1]'(by omega)) < key (a[na - 1]'(by omega))
   ·rw [decide_eq_true hw]
    try dsimp only
    refine ifT rfl ?_
    have hJ:=hI.pushA h1 h2 (by omega) h4 (Int.le_of_lt hw)
    refine wpS_bind (zc (by omega) ?_)
    by_cases e:na - 1=0
    ·refine ifT (zF6 e) ?_
     exact wpS_pure ⟨rfl,.inl ⟨_,_,rfl,hJ.doneA e⟩⟩
    ·refine ifF (zF7 e) ?_
     have hG:HiG a b _ (na - 1) nb n:=⟨hJ,by omega,by omega,by omega,by omega,by omega⟩
     split
     ·exact wpS_pure ⟨rfl,.inr ⟨_,_,_,_,_,rfl,hG⟩⟩
     ·exact wpS_pure ⟨rfl,_,_,_,_,_,rfl,hG⟩
   ·rw [decide_eq_false hw]
    try dsimp only
    refine ifF (by decide) ?_
    have hJ:=hI.pushB h1 h2 (by omega) h4 (by omega)
    refine wpS_bind (zc (by omega) ?_)
    by_cases e:nb - 1=1
    ·refine ifT (zF6 e) ?_
     exact wpS_pure ⟨rfl,.inl ⟨_,_,rfl,hJ.firstB e (by omega) hf⟩⟩
    ·refine ifF (zF7 e) ?_
     have hG:HiG a b _ na (nb - 1) n:=⟨hJ,by omega,by omega,by omega,by omega,by omega⟩
     split
     ·exact wpS_pure ⟨rfl,.inr ⟨_,_,_,_,_,rfl,hG⟩⟩
     ·exact wpS_pure ⟨rfl,_,_,_,_,_,rfl,hG⟩
  ·rintro c sy ⟨rfl,na,nb,out,ac,bc,rfl,hG⟩
   exact ⟨rfl,.inr ⟨_,_,_,_,_,rfl,hG⟩⟩
  ·rintro c sy ⟨rfl,⟨m,d,rfl,hm⟩ | ⟨na,nb,out,ac,bc,rfl,hG⟩⟩
   ·try dsimp only
    exact wpS_pure ⟨hv,_,_,rfl,hm⟩
   ·try dsimp only
    refine wpS_bind (wpS_lift (wpAny_rule ⟨rfl,?_⟩))
    refine wpS_bind (wpS_mono (wpS_forRange (I:=fun x c sz=>Eqv st sz∧∃ na nb out mg ac bc,c=(none,na,nb,out,mg,ac,bc)∧((x=0∧HiG a b out na nb n)∨HiG a b out na nb (n + 1)))
     (Q:=fun c sz=>Eqv st sz∧((∃ m d,c=(some m,d)∧Res a b m)∨∃ na nb out mg ac bc,c=(none,na,nb,out,mg,ac,bc)∧HiG a b out na nb (n + 1))) ?_ ?_ ⟨hv,_,_,_,_,_,_,rfl,.inl ⟨rfl,hG⟩⟩) ?_)
    ·rintro x c sz - hx ⟨hv,na,nb,out,mg,ac,bc,rfl,hG⟩
     replace hG:HiG a b out na nb n:=by
      rcases hG with ⟨_,hG⟩ | ⟨q1,q2,q3,q4,q5,q6⟩
      ·exact hG
      ·exact ⟨q1,q2,q3,q4,q5,by omega⟩
     obtain ⟨hI,h1,h2,h3,h4,h5⟩:=hG
     try dsimp only
     revert mg
     refine jp1 (fun mg=>mg - 1) (fun _=>rfl) fun mg=>?_
     refine wpS_bind (wpS_modify ?_)
     refine wpS_bind (zc (by omega) ?_)
     have hvv:=hv.set mg
     refine wpS_bind (zO6 (hvv.kind hk) ka (kb _ (by omega)) sa (by omega) (by omega) fun m p1 p2 p3=>?_)
     try dsimp only
     generalize hac:na - m=ac
     have hC:=And.intro hI (And.intro h1 (And.intro h2 (And.intro h5 (And.intro hac (And.intro p1 (And.intro p2 p3))))))
     clear hI h1 h2 h5 hac p1 p2 p3
     revert na out
     refine jp2 (fun i o sz'=>Eqv st sz'∧HiI a b o i nb∧1≤i∧i≤a.size∧n + i + nb≤a.size + b.size∧∀ hi:i - 1 < a.size,key a[i - 1]≤key (b[nb - 1]'(by omega))) ?_ (fun na _ ⟨hI,h1,h2,h5,hac,p1,p2,p3⟩ hk0=>⟨hvv,hI,h1,h2,h5,fun hi=>p2 _ hi (by omega)⟩) fun na out ⟨hI,h1,h2,h5,hac,p1,p2,p3⟩ hk0 key=>?_
     ·rintro i out sz ⟨hvv,hL,c1,c2,c4,c3⟩
      refine wpS_bind (zc (by omega) ?_)
      have hJ:=hL.pushB c1 (by omega) (by omega) h4 (c3 (by omega))
      by_cases e2:nb - 1=1
      ·refine ifT (zF6 e2) ?_
       exact wpS_pure ⟨hvv,.inl ⟨_,_,rfl,hJ.firstB e2 (by omega) hf⟩⟩
      refine ifF (zF7 e2) ?_
      generalize out.push (b[nb - 1]'(by omega))=o2 at hJ ⊢
      generalize hjb:nb - 1=jb at hJ e2 ⊢
      refine wpS_bind (zc (by omega) ?_)
      refine wpS_bind (gallopLh (hvv.kind hk) kb (ka _ (by omega)) sb (by omega) (by omega) fun m1 q1 q2 q3=>?_)
      try dsimp only
      generalize hbc:jb - m1=bc
      have hC:=And.intro hJ (And.intro hbc (And.intro (show 2≤jb by omega) (And.intro (show jb≤b.size by omega) (And.intro (show n + 1 + i + jb≤a.size + b.size by omega) (And.intro q1 (And.intro q2 q3))))))
      clear hJ e2 hjb hbc q1 q2 q3
      revert jb o2
      refine jp2 (fun o j sz'=>Eqv st sz'∧HiI a b o i j∧2≤j∧j≤b.size∧n + 1 + i + j≤a.size + b.size∧∀ hi:j - 1 < b.size,key b[j - 1]≤key (a[i - 1]'(by omega))) ?_ (fun _ jb ⟨hJ,hbc,e2,e3,e4,q1,q2,q3⟩ hk1=>⟨hvv,hJ,e2,e3,e4,fun hi=>q2 _ hi (by omega)⟩) fun o2 jb ⟨hJ,hbc,e2,e3,e6,q1,q2,q3⟩ hk1 key=>?_
      ·rintro o j sz ⟨hvv,hL,d1,d2,d4,d3⟩
       refine wpS_bind (zc (by omega) ?_)
       have hN:=hL.pushA c1 (by omega) (by omega) (by omega) (d3 (by omega))
       by_cases e3:i - 1=0
       ·refine ifT (zF6 e3) ?_
        exact wpS_pure ⟨hvv,.inl ⟨_,_,rfl,hN.doneA e3⟩⟩
       refine ifF (zF7 e3) ?_
       have hG:HiG a b _ (i - 1) j (n + 1):=⟨hN,by omega,by omega,d1,by omega,by omega⟩
       split
       ·exact wpS_pure ⟨hvv,.inr ⟨_,_,_,_,_,_,rfl,hG⟩⟩
       ·exact wpS_pure ⟨hvv,_,_,_,_,_,_,rfl,.inr hG⟩
      ·have hL:=hJ.runB c1 (by omega) (by omega) q1 q3
       by_cases e4:m1=1
       ·refine ifT (zF6 e4) ?_
        exact wpS_pure ⟨hvv,.inl ⟨_,_,rfl,hL.firstB e4 (by omega) hf⟩⟩
       refine ifF (zF7 e4) ?_
       by_cases e5:m1=0
       ·refine ifT (zF6 e5) ?_
        exact wpS_pure ⟨hvv,.inl ⟨_,_,rfl,hL.doneB e5⟩⟩
       refine ifF (zF7 e5) ?_
       exact key _ _ _ ⟨hvv,hL,by omega,by omega,by omega,fun hi=>q2 _ hi (by omega)⟩
     ·have hL:=hI.runA h2 (by omega) h4 p1 p3
      by_cases e1:m=0
      ·refine ifT (zF6 e1) ?_
       exact wpS_pure ⟨hvv,.inl ⟨_,_,rfl,hL.doneA e1⟩⟩
      refine ifF (zF7 e1) ?_
      exact key _ _ _ ⟨hvv,hL,by omega,by omega,by omega,fun hi=>p2 _ hi (by omega)⟩
    ·rintro c sz ⟨hv,na,nb,out,mg,ac,bc,rfl,hG⟩
     rcases hG with ⟨hz,_⟩ | hG
     ·omega
     ·exact ⟨hv,.inr ⟨_,_,_,_,_,_,rfl,hG⟩⟩
    ·rintro c sz ⟨hv,⟨m,d,rfl,hm⟩ | ⟨na,nb,out,mg,ac,bc,rfl,hG⟩⟩
     ·try dsimp only
      exact wpS_pure ⟨hv,_,_,rfl,hm⟩
     ·try dsimp only
      exact wpS_bind (wpS_modify (wpS_pure ⟨hv.set _,_,_,_,_,rfl,hG⟩))
 ·rintro c sx ⟨hv,na,nb,out,mg,rfl,hI,h1,h2,h3,h4,h5⟩
  omega
 ·rintro c sx ⟨hv,m,d,rfl,hm⟩
  exact wpS_pure (h _ _ hv hm)
end
end So
end
section
namespace So
open PySem PyProof.Rows
def SOn (xs:Array Keyed) (lo hi:Nat):Prop:=∀ i j,lo≤i→i≤j→j < hi→K xs i≤K xs j
theorem zBv {xs:Array Keyed}{i:Nat}(hi:i < xs.size):K xs i=key xs[i]:=K_eq hi
theorem IntKeys.at {xs a₀:Array Keyed}(h0:IntKeys a₀) (hp:xs.Perm a₀) (i:Nat) (hi:i < xs.size):zF8 xs[i] :=
 h0 _ ((Array.perm_iff_toList_perm.mp hp).mem_iff.mp (by simp))
def wr (b:Nat) (l:List Keyed) (j:Nat) (a:Array Keyed):Array Keyed:=(l.zipIdx j).foldl (fun a (p,j)=>a.setIfInBounds (b + j) p) a
theorem zHy (b:Nat):∀ (l:List Keyed) (j:Nat) (a:Array Keyed),b + j + l.length≤a.size→(wr b l j a).toList=a.toList.take (b + j) ++ (l ++ a.toList.drop (b + j + l.length))
 | [],j,a,h=>by unfold wr;simp
 | p :: l,j,a,h=>by
  rw [List.length_cons] at h
  have ih:=zHy b l (j + 1) (a.setIfInBounds (b + j) p) (by rw [Array.size_setIfInBounds];omega)
  have e:wr b (p :: l) j a=wr b l (j + 1) (a.setIfInBounds (b + j) p):=by unfold wr;rw [List.zipIdx_cons,List.foldl_cons]
  rw [e,ih,Array.toList_setIfInBounds]
  have hl:b + j < a.toList.length:=by simp;omega
  rw [List.set_eq_take_append_cons_drop,if_pos hl]
  have hm:min (b + j) a.toList.length=b + j:=by omega
  rw [List.length_cons,show b + (j + 1)=(b + j) + 1 by omega]
  have h1:(a.toList.take (b + j)).length=b + j:=by rw [List.length_take];exact hm
  have g:∀ (T D:List Keyed) (n m:Nat),T.length=n→(T ++ p :: D).take (n + 1)=T ++ [p]∧(T ++ p :: D).drop (n + 1 + m)=D.drop m:=by
   intro T D n m hn
   subst hn
   constructor
   ·rw [List.take_append,List.take_of_length_le (Nat.le_succ _),Nat.add_sub_cancel_left];rfl
   ·rw [List.drop_append,List.drop_of_length_le (by omega),show T.length + 1 + m - T.length=m + 1 by omega,List.nil_append,List.drop_succ_cons]
  obtain ⟨g1,g2⟩:=g (a.toList.take (b + j)) (a.toList.drop (b + j + 1)) (b + j) l.length h1
  rw [g1,g2,List.drop_drop,show b + j + 1 + l.length=b + j + (l.length + 1) by omega]
  simp
theorem zSp {xs:Array Keyed}(t:Nat):K xs t=match xs.toList[t]? with | some p=>key p | none=>0:=by
 unfold K;rw [Array.getElem?_toList];rfl
end So
end
section
namespace So
open PySem PyProof.Rows
theorem zPw {σ:Type}{M:Model}{A:Around}{E:Value→Shared→Prop}{s:Shared}{x:σ}{Q:PUnit→σ→Prop}{st:σ}(h:Q ⟨⟩ x):wpS M A E s (set x:StateT σ Sem PUnit) Q st:=by
 unfold wpS;rw [StateT.run_set];exact wpAny_pure ⟨rfl,h⟩
theorem zMi {α:Type}{p:Array α}{l1 l2:List α}{x y z:α}{i:Nat}(h:p.toList=l1 ++ x :: y :: l2) (hi:l1.length=i):((p.setIfInBounds i z).eraseIdxIfInBounds (i + 1)).toList=l1 ++ z :: l2:=by
 obtain ⟨pl⟩:=p
 simp only at h
 subst h hi
 rw [List.setIfInBounds_toArray,List.eraseIdxIfInBounds_toArray]
 simp only
 rw [List.set_append_right _ _ (Nat.le_refl _),Nat.sub_self,List.set_cons_zero,List.eraseIdx_append_of_length_le (show l1.length≤l1.length + 1 by omega),Nat.add_sub_cancel_left]
 rfl
theorem zSn {α:Type}{p:Array α}{l1 l2:List α}{x y:α}{i:Nat}(h:p.toList=l1 ++ x :: y :: l2) (hi:l1.length=i):p[i]? = some x∧p[i + 1]? = some y:=by
 subst hi
 rw [← Array.getElem?_toList,← Array.getElem?_toList,h]
 constructor
 ·rw [List.getElem?_append_right (Nat.le_refl _),Nat.sub_self];rfl
 ·rw [List.getElem?_append_right (show l1.length≤l1.length + 1 by omega),Nat.add_sub_cancel_left];rfl
theorem zMk {xs:Array Keyed}{lo hi:Nat}(h:SOn xs lo hi) (hs:hi≤xs.size):Srt (xs.extract lo hi).toList:=by
 unfold Srt
 rw [List.pairwise_iff_getElem]
 intro i j hi' hj' hij
 simp only [Array.length_toList,Array.size_extract] at hi' hj'
 have:=h (lo + i) (lo + j) (by omega) (by omega) (by omega)
 rw [zBv (by omega),zBv (by omega)] at this
 simpa using this
theorem K_out {xs ys:Array Keyed}{s:Nat}{M:List Keyed}(e:ys.toList=xs.toList.take s ++ (M ++ xs.toList.drop (s + M.length))) (hs:s + M.length≤xs.size) (t:Nat) (ht:t < s∨s + M.length≤t):ys[t]? = xs[t]? := by
 rw [← Array.getElem?_toList,← Array.getElem?_toList,e]
 have h1:(xs.toList.take s).length=s:=by rw [List.length_take,Array.length_toList];omega
 rcases ht with ht | ht
 ·rw [List.getElem?_append_left (by omega),List.getElem?_take_of_lt ht]
 ·rw [List.getElem?_append_right (by omega),List.getElem?_append_right (by omega),List.getElem?_drop]
  congr 1
  omega
theorem zUf {xs ys:Array Keyed}{s:Nat}{M:List Keyed}(e:ys.toList=xs.toList.take s ++ (M ++ xs.toList.drop (s + M.length))) (hs:s + M.length≤xs.size) (t:Nat) (h1:s≤t) (h2:t < s + M.length):∃ h:t - s < M.length,K ys t=key M[t - s]:=by
 refine ⟨by omega,?_⟩
 rw [zSp,e]
 have hl:(xs.toList.take s).length=s:=by rw [List.length_take,Array.length_toList];omega
 rw [List.getElem?_append_right (by omega),hl,List.getElem?_append_left (by omega),List.getElem?_eq_getElem (by omega)]
section
variable {prog:Program}{w:World}{A:Around}{E:Value→Shared→Prop}{s:Shared}{a₀:Array Keyed}
theorem zI7 {st:SortSt}{l1 l2:List (Nat × Nat × Nat)}{sa na pw sb nb pw2 i:Nat}{Q:Bool→SortSt→Prop}(h0:IntKeys a₀) (hS:SG a₀ st) (hp:(pendingOf st).toList=l1 ++ (sa,na,pw) :: (sb,nb,pw2) :: l2) (hi:l1.length=i)
  (hsb:sb=sa + na) (ha:1≤na) (hb:1≤nb) (hsz:sb + nb≤a₀.size) (oa:SOn (arrOf st) sa sb) (ob:SOn (arrOf st) sb (sb + nb))
  (h:∀ sx,SG a₀ sx→(pendingOf sx).toList=l1 ++ (sa,na + nb,pw) :: l2→SOn (arrOf sx) sa (sb + nb)→(∀ t,t < sa∨sb + nb≤t→(arrOf sx)[t]? = (arrOf st)[t]?)→Q true sx) :
  wpS (model prog w) A E s (mergeAt' i) Q st:=by
 obtain ⟨hperm,hkind,hfail⟩:=hS
 have hsize:(arrOf st).size=a₀.size:=hperm.size_eq
 have hint:=fun i hi=>IntKeys.at h0 hperm i hi
 delta mergeAt'
 try dsimp only
 refine wpS_bind (wpS_get ?_)
 obtain ⟨e1,e2⟩:=zSn hp hi
 rw [e1,e2]
 try dsimp only
 refine wpS_bind (zPw ?_)
 have hpend:=zMi (z:=(sa,na + nb,pw)) hp hi
 refine wpS_bind (zc (xs:=arrOf st) (by omega) ?_)
 refine wpS_bind (zBw (arr:=arrOf st) hkind (by omega) (by omega) (hint _ (by omega)) hint (fun i=>∃ hi:sa + i < (arrOf st).size,key (arrOf st)[sa + i]≤key ((arrOf st)[sb]'(by omega))) (fun i hi=>?_) (fun i j hij hj=>?_) fun k k1 k2 k3=>?_)
 ·unfold Bey
  simp only [Bool.false_eq_true,if_false]
  exact ⟨fun ⟨_,q⟩=>q,fun q=>⟨hi,q⟩⟩
 ·rintro ⟨hi,q⟩
  have:=oa (sa + i) (sa + j) (by omega) (by omega) (by omega)
  rw [zBv (by omega),zBv (by omega)] at this
  exact ⟨by omega,Int.le_trans this q⟩
 have k2':∀ t,sa≤t→t < sa + k→K (arrOf st) t≤K (arrOf st) sb:=fun t h1 h2=>by
  obtain ⟨hi,q⟩:=k2 (t - sa) (by omega)
  rw [zBv (by omega),zBv (by omega)]
  simpa [show sa + (t - sa)=t by omega] using q
 have k3':∀ t,sa + k≤t→t < sb→K (arrOf st) sb≤K (arrOf st) t:=fun t h1 h2=>by
  have q:¬ key ((arrOf st)[sa + (t - sa)]'(by omega))≤key ((arrOf st)[sb]'(by omega)):=fun q=>k3 (t - sa) (by omega) (by omega) ⟨by omega,q⟩
  rw [zBv (by omega),zBv (by omega)]
  simp only [show sa + (t - sa)=t by omega] at q
  omega
 try dsimp only
 by_cases hk:na - k=0
 ·refine ifT (zF6 hk) ?_
  refine wpS_pure (h _ ⟨hperm,hkind,hfail⟩ hpend (fun i j h1 h2 h3=>?_) fun t _=>rfl)
  show K (arrOf st) i≤K (arrOf st) j
  by_cases c1:j < sb
  ·exact oa i j h1 h2 c1
  ·by_cases c2:sb≤i
   ·exact ob i j c2 h2 h3
   ·exact Int.le_trans (k2' i h1 (by omega)) (ob sb j (Nat.le_refl _) (by omega) h3)
 refine ifF (zF7 hk) ?_
 have hlast:sa + k + (na - k) - 1=sb - 1:=by omega
 rw [hlast]
 refine wpS_bind (zc (xs:=arrOf st) (by omega) ?_)
 refine wpS_bind (zBw (arr:=arrOf st) hkind (by omega) (by omega) (hint _ (by omega)) hint (fun i=>∃ hi:sb + i < (arrOf st).size,key (arrOf st)[sb + i] < key ((arrOf st)[sb - 1]'(by omega))) (fun i hi=>?_) (fun i j hij hj=>?_) fun m m1 m2 m3=>?_)
 ·unfold Bey
  simp only [if_true]
  exact ⟨fun ⟨_,q⟩=>q,fun q=>⟨hi,q⟩⟩
 ·rintro ⟨hi,q⟩
  have:=ob (sb + i) (sb + j) (by omega) (by omega) (by omega)
  rw [zBv (by omega),zBv (by omega)] at this
  exact ⟨by omega,Int.lt_of_le_of_lt this q⟩
 have m2':∀ t,sb≤t→t < sb + m→K (arrOf st) t≤K (arrOf st) (sb - 1):=fun t h1 h2=>by
  obtain ⟨hi,q⟩:=m2 (t - sb) (by omega)
  rw [zBv (by omega),zBv (by omega)]
  simp only [show sb + (t - sb)=t by omega] at q
  omega
 have m3':∀ t,sb + m≤t→t < sb + nb→K (arrOf st) (sb - 1)≤K (arrOf st) t:=fun t h1 h2=>by
  have q:¬ key ((arrOf st)[sb + (t - sb)]'(by omega)) < key ((arrOf st)[sb - 1]'(by omega)):=fun q=>m3 (t - sb) (by omega) (by omega) ⟨by omega,q⟩
  rw [zBv (by omega),zBv (by omega)]
  simp only [show sb + (t - sb)=t by omega] at q
  omega
 try dsimp only
 by_cases hm:m=0
 ·refine ifT (zF6 hm) ?_
  refine wpS_pure (h _ ⟨hperm,hkind,hfail⟩ hpend (fun i j h1 h2 h3=>?_) fun t _=>rfl)
  show K (arrOf st) i≤K (arrOf st) j
  by_cases c1:j < sb
  ·exact oa i j h1 h2 c1
  ·by_cases c2:sb≤i
   ·exact ob i j c2 h2 h3
   ·exact Int.le_trans (oa i (sb - 1) h1 (by omega) (by omega)) (m3' j (by omega) h3)
 refine ifF (zF7 hm) ?_
 have sx:((arrOf st).extract (sa + k) sb).size=na - k:=by rw [Array.size_extract];omega
 have sy:((arrOf st).extract sb (sb + m)).size=m:=by rw [Array.size_extract];omega
 have kx:∀ (i:Nat) (hi:i < ((arrOf st).extract (sa + k) sb).size),((arrOf st).extract (sa + k) sb)[i]=(arrOf st)[sa + k + i]'(by omega):=fun i hi=>Array.getElem_extract ..
 have ky:∀ (i:Nat) (hi:i < ((arrOf st).extract sb (sb + m)).size),((arrOf st).extract sb (sb + m))[i]=(arrOf st)[sb + i]'(by omega):=fun i hi=>Array.getElem_extract ..
 have mx:∀ p ∈ ((arrOf st).extract (sa + k) sb).toList,∃ t,sa + k≤t∧t < sb∧K (arrOf st) t=key p:=fun p hp=>by
  obtain ⟨i,hi,e⟩:=List.getElem_of_mem hp
  simp only [Array.length_toList] at hi
  refine ⟨sa + k + i,by omega,by omega,?_⟩
  rw [zBv (by omega),← e,Array.getElem_toList,kx]
 have my:∀ p ∈ ((arrOf st).extract sb (sb + m)).toList,∃ t,sb≤t∧t < sb + m∧K (arrOf st) t=key p:=fun p hp=>by
  obtain ⟨i,hi,e⟩:=List.getElem_of_mem hp
  simp only [Array.length_toList] at hi
  refine ⟨sb + i,by omega,by omega,?_⟩
  rw [zBv (by omega),← e,Array.getElem_toList,ky]
 have ssx:Srt ((arrOf st).extract (sa + k) sb).toList:=zMk (fun i j h1 h2 h3=>oa i j (by omega) h2 h3) (by omega)
 have ssy:Srt ((arrOf st).extract sb (sb + m)).toList:=zMk (fun i j h1 h2 h3=>ob i j h1 h2 (by omega)) (by omega)
 have fin:∀ mg sx,Eqv (setPending st (((pendingOf st).setIfInBounds i (sa,na + nb,pw)).eraseIdxIfInBounds (i + 1))) sx→Res ((arrOf st).extract (sa + k) sb) ((arrOf st).extract sb (sb + m)) mg →
   wpS (model prog w) A E s (do
    modify fun s=>setArr s (wr (sa + k) mg.toList 0 (arrOf s))
    return (failedOf (← get)).isNone) Q sx:=by
  rintro mg _ ⟨g,rfl⟩ ⟨r1,r2⟩
  refine wpS_bind (wpS_modify (wpS_bind (wpS_get ?_)))
  have hlen:mg.toList.length=na - k + m:=by rw [r1.length_eq,List.length_append,Array.length_toList,Array.length_toList,sx,sy]
  have el:(wr (sa + k) mg.toList 0 (arrOf st)).toList=(arrOf st).toList.take (sa + k) ++ (mg.toList ++ (arrOf st).toList.drop (sa + k + mg.toList.length)):=zHy (sa + k) mg.toList 0 (arrOf st) (by omega)
  have hs':sa + k + mg.toList.length≤(arrOf st).size:=by omega
  have mm:∀ p ∈ mg.toList,∃ t,sa + k≤t∧t < sb + m∧K (arrOf st) t=key p:=fun p hp=>by
   rcases List.mem_append.mp (r1.mem_iff.mp hp) with hp | hp
   ·obtain ⟨t,a1,a2,a3⟩:=mx p hp;exact ⟨t,a1,by omega,a3⟩
   ·obtain ⟨t,a1,a2,a3⟩:=my p hp;exact ⟨t,by omega,a2,a3⟩
  have low:∀ t,sa + k≤t→t < sb + m→K (arrOf st) sb≤K (arrOf st) t:=fun t h1 h2=>by
   by_cases c:t < sb
   ·exact k3' t h1 c
   ·exact ob sb t (Nat.le_refl _) (by omega) (by omega)
  have high:∀ t u,sa + k≤t→t < sb + m→sb + m≤u→u < sb + nb→K (arrOf st) t≤K (arrOf st) u:=fun t u h1 h2 h3 h4=>by
   by_cases c:t < sb
   ·exact Int.le_trans (oa t (sb - 1) (by omega) (by omega) (by omega)) (m3' u h3 h4)
   ·exact ob t u (by omega) (by omega) h4
  have hpm:(wr (sa + k) mg.toList 0 (arrOf st)).Perm (arrOf st):=by
   rw [Array.perm_iff_toList_perm,el]
   have ex:(arrOf st).toList=(arrOf st).toList.take (sa + k) ++ ((((arrOf st).extract (sa + k) sb).toList ++ ((arrOf st).extract sb (sb + m)).toList) ++ (arrOf st).toList.drop (sa + k + mg.toList.length)):=by
    rw [zBd,zBd,hlen,show sb + m - sb=m by omega,show sb - (sa + k)=na - k by omega]
    have q1:(arrOf st).toList.drop (sa + k + (na - k + m))=((arrOf st).toList.drop sb).drop m:=by rw [List.drop_drop];congr 1;omega
    have q2:(arrOf st).toList.drop sb=((arrOf st).toList.drop (sa + k)).drop (na - k):=by rw [List.drop_drop];congr 1;omega
    rw [q1,List.append_assoc,List.take_append_drop,q2,List.take_append_drop,List.take_append_drop]
   conv=>rhs;rw [ex]
   exact List.Perm.append_left _ (List.Perm.append_right _ r1)
  refine wpS_pure ?_
  have hff:(failedOf st).isNone=true:=by rw [hfail];rfl
  show Q ((failedOf st).isNone) _
  rw [hff]
  have out:∀ t,t < sa + k∨sb + m≤t→(wr (sa + k) mg.toList 0 (arrOf st))[t]? = (arrOf st)[t]? := fun t ht=>K_out el hs' t (by omega)
  refine h _ ⟨hpm.trans hperm,hkind,hfail⟩ hpend (fun i j h1 h2 h3=>?_) fun t ht=>out t (by omega)
  show K (wr (sa + k) mg.toList 0 (arrOf st)) i≤K (wr (sa + k) mg.toList 0 (arrOf st)) j
  have old:∀ t,t < sa + k∨sb + m≤t→K (wr (sa + k) mg.toList 0 (arrOf st)) t=K (arrOf st) t:=fun t ht=>K_congr (out t ht)
  have new:∀ t,sa + k≤t→t < sb + m→∃ h:t - (sa + k) < mg.toList.length,K (wr (sa + k) mg.toList 0 (arrOf st)) t=key mg.toList[t - (sa + k)]:=fun t h1 h2=>zUf el hs' t h1 (by omega)
  by_cases ci:i < sa + k
  ·rw [old i (.inl ci)]
   by_cases cj:j < sa + k
   ·rw [old j (.inl cj)];exact oa i j h1 h2 (by omega)
   ·by_cases cj2:j < sb + m
    ·obtain ⟨hh,e⟩:=new j (by omega) cj2
     rw [e]
     obtain ⟨t,t1,t2,t3⟩:=mm _ (List.getElem_mem hh)
     rw [← t3]
     exact Int.le_trans (k2' i h1 ci) (low t t1 t2)
    ·rw [old j (.inr (by omega))]
     exact Int.le_trans (k2' i h1 ci) (ob sb j (Nat.le_refl _) (by omega) h3)
  ·by_cases ci2:i < sb + m
   ·obtain ⟨hh,e⟩:=new i (by omega) ci2
    rw [e]
    by_cases cj2:j < sb + m
    ·obtain ⟨hh2,e2⟩:=new j (by omega) cj2
     rw [e2]
     by_cases eij:i=j
     ·subst eij;exact Int.le_refl _
     ·exact List.pairwise_iff_getElem.mp r2 _ _ hh hh2 (by omega)
    ·rw [old j (.inr (by omega))]
     obtain ⟨t,t1,t2,t3⟩:=mm _ (List.getElem_mem hh)
     rw [← t3]
     exact high t j t1 t2 (by omega) h3
   ·rw [old i (.inr (by omega)),old j (.inr (by omega))]
    exact ob i j (by omega) h2 h3
 have hx0:∀ (i:Nat) (hi:i < ((arrOf st).extract (sa + k) sb).size),zF8 ((arrOf st).extract (sa + k) sb)[i]:=fun i hi=>by rw [kx];exact hint _ _
 have hy0:∀ (i:Nat) (hi:i < ((arrOf st).extract sb (sb + m)).size),zF8 ((arrOf st).extract sb (sb + m))[i]:=fun i hi=>by rw [ky];exact hint _ _
 by_cases hle:na - k≤m
 ·refine ifT hle ?_
  refine wpS_bind (zI6 (a:=(arrOf st).extract (sa + k) sb) (b:=(arrOf st).extract sb (sb + m)) hkind hx0 hy0 ssx ssy (by omega) (by omega) ?_ (fun p hp hi=>?_) fun mg sx hv hr=>fin mg sx hv hr)
  ·rw [kx,ky]
   have:=k3' (sa + k) (Nat.le_refl _) (by omega)
   rw [zBv (by omega),zBv (by omega)] at this
   simpa using this
  ·obtain ⟨t,t1,t2,t3⟩:=my p hp
   rw [kx,← t3,← zBv (i:=sa + k + (((arrOf st).extract (sa + k) sb).size - 1)) (by omega),show sa + k + (((arrOf st).extract (sa + k) sb).size - 1)=sb - 1 by omega]
   exact m2' t t1 t2
 ·refine ifF hle ?_
  refine wpS_bind (wpS_mergeHi (a:=(arrOf st).extract (sa + k) sb) (b:=(arrOf st).extract sb (sb + m)) hkind hx0 hy0 ssx ssy (by omega) (by omega) (fun q hq hi=>?_) ?_ fun mg sx hv hr=>fin mg sx hv hr)
  ·obtain ⟨t,t1,t2,t3⟩:=mx q hq
   rw [ky,← t3]
   have:=k3' t t1 t2
   rw [zBv (i:=sb) (by omega)] at this
   simpa using this
  ·rw [kx,ky,← zBv (i:=sa + k + (((arrOf st).extract (sa + k) sb).size - 1)) (by omega),← zBv (i:=sb + (((arrOf st).extract sb (sb + m)).size - 1)) (by omega),show sa + k + (((arrOf st).extract (sa + k) sb).size - 1)=sb - 1 by omega]
   exact m2' (sb + (((arrOf st).extract sb (sb + m)).size - 1)) (by omega) (by omega)
end
end So
end
section
namespace So
open PySem PyProof.Rows
structure Upd (a₀:Array Keyed) (lo hi:Nat) (st sx:SortSt):Prop where
 sg:SG a₀ sx
 pend:pendingOf sx=pendingOf st
 out:∀ t,t < lo∨hi≤t→(arrOf sx)[t]? = (arrOf st)[t]?
def NOn (xs:Array Keyed) (lo hi:Nat):Prop:=∀ i j,lo≤i→i≤j→j < hi→K xs j≤K xs i
section
variable {prog:Program}{w:World}{A:Around}{E:Value→Shared→Prop}{s:Shared}{a₀:Array Keyed}
theorem SG.size {st:SortSt}(h:SG a₀ st):(arrOf st).size=a₀.size:=h.perm.size_eq
theorem zEd {st:SortSt}{i j:Nat}{Q:Option Bool→SortSt→Prop}(h0:IntKeys a₀) (hS:SG a₀ st) (hi:i < a₀.size) (hj:j < a₀.size) (h:Q (some (decide (K (arrOf st) i < K (arrOf st) j))) st) :
  wpS (model prog w) A E s (ltAt' i j) Q st:=by
 have hs:=hS.size
 rw [ltAt'_eq]
 refine wpS_bind (wpS_get ?_)
 refine wpS_bind (zc (by omega) (wpS_bind (zc (by omega) (zHz hS.kind (IntKeys.at h0 hS.perm _ _) (IntKeys.at h0 hS.perm _ _) ?_))))
 rw [zBv (by omega),zBv (by omega)] at h
 exact h
theorem Upd.mir {st sx:SortSt}{lo hi i j:Nat}(h:Upd a₀ lo hi st sx) (h1:lo≤i) (h2:j≤hi) (h3:hi≤a₀.size):Upd a₀ lo hi st (setArr sx (mirror (arrOf sx) i j ((j - i) / 2))):=by
 have hs:=h.sg.size
 refine ⟨⟨(mirror_perm _ _ _ _).trans h.sg.perm,h.sg.kind,h.sg.failed⟩,h.pend,fun t ht=>?_⟩
 show (mirror (arrOf sx) i j ((j - i) / 2))[t]? = _
 rw [getElem?_mirror_all (by omega),if_neg (by omega)]
 exact h.out t ht
theorem zRo {xs:Array Keyed}{lo n:Nat}(hN:NOn xs lo (lo + n)) (hs:lo + n≤xs.size):SOn (mirror xs lo (lo + n) ((lo + n - lo) / 2)) lo (lo + n):=by
 intro i j h1 h2 h3
 rw [K_mirror hs,K_mirror hs,if_pos (by omega),if_pos (by omega)]
 exact hN _ _ (by omega) (by omega) (by omega)
theorem zR7 {xs ys:Array Keyed}{lo hi:Nat}(hk:∀ k,K ys k=K xs k) (hN:NOn xs lo hi):NOn ys lo hi:=fun i j h1 h2 h3=>by rw [hk,hk];exact hN i j h1 h2 h3
theorem zE2 {xs ys:Array Keyed}{lo x:Nat}(hk:∀ k,K ys k=K xs k) (hN:NOn xs lo (lo + x)) (hl:K xs (lo + x) < K xs (lo + x - 1)):NOn ys lo (lo + (x + 1)):=by
 intro i j h1 h2 h3
 rw [hk,hk]
 by_cases hj:j < lo + x
 ·exact hN i j h1 h2 hj
 ·have e:j=lo + x:=by omega
  subst e
  by_cases hi:i=lo + x
  ·subst hi;exact Int.le_refl _
  ·exact Int.le_trans (Int.le_of_lt hl) (hN i (lo + x - 1) h1 (by omega) (by omega))
theorem zOw {xs:Array Keyed}{lo x:Nat}(hN:NOn xs lo (lo + x)) (hl:K xs (lo + x)=K xs (lo + x - 1)):NOn xs lo (lo + (x + 1)):=by
 intro i j h1 h2 h3
 by_cases hj:j < lo + x
 ·exact hN i j h1 h2 hj
 ·have e:j=lo + x:=by omega
  subst e
  by_cases hi:i=lo + x
  ·subst hi;exact Int.le_refl _
  ·rw [hl];exact hN i (lo + x - 1) h1 (by omega) (by omega)
theorem zGw {st:SortSt}{lo nrem:Nat}{Q:Option Nat→SortSt→Prop}(h0:IntKeys a₀) (hS:SG a₀ st) (h1:1≤nrem) (hn:lo + nrem≤a₀.size)
  (h:∀ m sx,1≤m→m≤nrem→Upd a₀ lo (lo + nrem) st sx→SOn (arrOf sx) lo (lo + m)→Q (some m) sx):wpS (model prog w) A E s (countRun' lo nrem) Q st:=by
 rw [countRun'_eq]
 obtain ⟨sx,hsx⟩ : ∃ sx,sx=st:=⟨st,rfl⟩
 have hU:Upd a₀ lo (lo + nrem) st sx:=by subst hsx;exact ⟨hS,rfl,fun t _=>rfl⟩
 have hO:SOn (arrOf sx) lo (lo + 1):=fun i j h1 h2 h3=>by
  have:i=j:=by omega
  subst this;exact Int.le_refl _
 rw [← hsx]
 refine wpS_bind ?_
 refine wpS_mono (wpS_forRange (I:=fun x c sz=>sz=sx∧c=(none,x)∧SOn (arrOf sx) lo (lo + x)) (Q:=fun c sz=>sz=sx∧∃ m,c=(none,m)∧1≤m∧m≤nrem∧SOn (arrOf sx) lo (lo + m)∧(m=nrem∨K (arrOf sx) (lo + m) < K (arrOf sx) (lo + m - 1))) ?_ ?_ ⟨rfl,rfl,hO⟩) ?_
 ·rintro x c sz hx1 hx2 ⟨rfl,rfl,hO⟩
  dsimp only
  refine wpS_bind (zEd h0 hU.sg (by omega) (by omega) ?_)
  by_cases hl:K (arrOf sz) (lo + x) < K (arrOf sz) (lo + x - 1)
  ·rw [decide_eq_true hl]
   dsimp only
   refine ifT rfl ?_
   exact wpS_pure ⟨rfl,x,rfl,by omega,by omega,hO,.inr hl⟩
  ·rw [decide_eq_false hl]
   dsimp only
   refine ifF (by decide) ?_
   refine wpS_pure ⟨rfl,rfl,fun i j h1 h2 h3=>?_⟩
   by_cases hj:j < lo + x
   ·exact hO i j h1 h2 hj
   ·have hj':j=lo + x:=by omega
    subst hj'
    by_cases hi:i=lo + x
    ·subst hi;exact Int.le_refl _
    ·exact Int.le_trans (hO i (lo + x - 1) h1 (by omega) (by omega)) (Int.not_lt.mp hl)
 ·rintro c sz ⟨rfl,rfl,hO⟩
  rw [show max 1 nrem=nrem by omega] at hO ⊢
  exact ⟨rfl,nrem,rfl,by omega,Nat.le_refl _,hO,.inl rfl⟩
 rintro c sz ⟨rfl,n,rfl,n1,n2,n3,n4⟩
 dsimp only
 by_cases e:n=nrem
 ·refine ifT (zF6 e) ?_
  exact wpS_pure (h n _ n1 n2 hU n3)
 refine ifF (zF7 e) ?_
 have n4:=n4.resolve_left e
 refine jp0 (fun sx=>Upd a₀ lo (lo + nrem) st sx∧NOn (arrOf sx) lo (lo + (n + 1))) (fun hg=>⟨hU,zE2 (fun _=>rfl) (fun i j i1 i2 i3=>?_) n4⟩) ?_ fun hg key=>?_
 ·have:i=j:=by omega
  subst this;exact Int.le_refl _
 ·rintro sx ⟨hU,hN⟩
  refine wpS_bind (wpS_lift (wpAny_rule ⟨rfl,?_⟩))
  refine wpS_bind (wpS_mono (wpS_forRange (I:=fun x c sz=>∃ neq,c=(none,x,neq)∧Upd a₀ lo (lo + nrem) st sz∧NOn (arrOf sz) lo (lo + x)∧neq + 1≤x∧∀ i,lo + x - (neq + 1)≤i→i < lo + x→K (arrOf sz) i=K (arrOf sz) (lo + x - 1))
   (Q:=fun c sz=>∃ x neq,c=(none,x,neq)∧1≤x∧x≤nrem∧Upd a₀ lo (lo + nrem) st sz∧NOn (arrOf sz) lo (lo + x)∧neq + 1≤x∧∀ i,lo + x - (neq + 1)≤i→i < lo + x→K (arrOf sz) i=K (arrOf sz) (lo + x - 1)) ?_ ?_ ⟨0,rfl,hU,hN,by omega,fun i h1 h2=>by congr 1;omega⟩) ?_)
  ·rintro x c sz hx1 hx2 ⟨neq,rfl,hU,hN,hq,he⟩
   have hsz:=hU.sg.size
   dsimp only
   refine wpS_bind (zEd h0 hU.sg (by omega) (by omega) ?_)
   by_cases hl:K (arrOf sz) (lo + x) < K (arrOf sz) (lo + x - 1)
   ·rw [decide_eq_true hl]
    dsimp only
    refine ifT rfl ?_
    by_cases hneq:neq > 0
    ·rw [if_pos hneq,reverseSlice'_eq]
     refine wpS_bind (wpS_modify (wpS_pure ⟨0,rfl,hU.mir (by omega) (by omega) (by omega),zE2 (K_mirror_equal (by omega) he) hN hl,by omega,fun i h1 h2=>by congr 1;omega⟩))
    ·refine ifF hneq ?_
     exact wpS_pure ⟨0,rfl,hU,zE2 (fun _=>rfl) hN hl,by omega,fun i h1 h2=>by congr 1;omega⟩
   ·rw [decide_eq_false hl]
    dsimp only
    refine ifF (by decide) ?_
    refine wpS_bind (zEd h0 hU.sg (by omega) (by omega) ?_)
    by_cases hg:K (arrOf sz) (lo + x - 1) < K (arrOf sz) (lo + x)
    ·rw [decide_eq_true hg]
     dsimp only
     refine ifT rfl ?_
     exact wpS_pure ⟨x,neq,rfl,by omega,by omega,hU,hN,hq,he⟩
    ·rw [decide_eq_false hg]
     dsimp only
     refine ifF (by decide) ?_
     have hx:K (arrOf sz) (lo + x)=K (arrOf sz) (lo + x - 1):=by omega
     refine wpS_pure ⟨neq + 1,rfl,hU,zOw hN hx,by omega,fun i h1 h2=>?_⟩
     rw [show lo + (x + 1) - 1=lo + x by omega]
     by_cases hi:i=lo + x
     ·subst hi;rfl
     ·rw [hx];exact he i (by omega) (by omega)
  ·rintro c sz ⟨neq,rfl,hU,hN,hq,he⟩
   rw [show max (n + 1) nrem=nrem by omega] at hN hq he ⊢
   exact ⟨nrem,neq,rfl,by omega,Nat.le_refl _,hU,hN,hq,he⟩
  ·rintro c sx ⟨x,neq,rfl,x1,x2,hU,hN,hq,he⟩
   dsimp only
   have hsz:=hU.sg.size
   refine jp0 (fun sx=>Upd a₀ lo (lo + nrem) st sx∧NOn (arrOf sx) lo (lo + x)) (fun _=>⟨hU,hN⟩) ?_ fun hneq key=>?_
   ·rintro sx ⟨hU,hN⟩
    rw [reverseSlice'_eq]
    refine wpS_bind (wpS_modify ?_)
    have hsz:=hU.sg.size
    have hO:=zRo (lo:=lo) (n:=x) hN (by omega)
    have hU:=hU.mir (i:=lo) (j:=lo + x) (Nat.le_refl _) (by omega) (by omega)
    generalize hgen:setArr sx (mirror (arrOf sx) lo (lo + x) ((lo + x - lo) / 2))=sx at hU
    have hO:SOn (arrOf sx) lo (lo + x):=by rw [← hgen];exact hO
    refine wpS_bind ?_
    refine wpS_mono (wpS_forRange (I:=fun x c sz=>sz=sx∧c=(none,x)∧SOn (arrOf sx) lo (lo + x)) (Q:=fun c sz=>sz=sx∧∃ m,c=(none,m)∧x≤m∧m≤nrem∧SOn (arrOf sx) lo (lo + m)∧(m=nrem∨K (arrOf sx) (lo + m) < K (arrOf sx) (lo + m - 1))) ?_ ?_ ⟨rfl,rfl,hO⟩) ?_
    ·rintro x c sz hx1 hx2 ⟨rfl,rfl,hO⟩
     dsimp only
     refine wpS_bind (zEd h0 hU.sg (by omega) (by omega) ?_)
     by_cases hl:K (arrOf sz) (lo + x) < K (arrOf sz) (lo + x - 1)
     ·rw [decide_eq_true hl]
      dsimp only
      refine ifT rfl ?_
      exact wpS_pure ⟨rfl,x,rfl,by omega,by omega,hO,.inr hl⟩
     ·rw [decide_eq_false hl]
      dsimp only
      refine ifF (by decide) ?_
      refine wpS_pure ⟨rfl,rfl,fun i j h1 h2 h3=>?_⟩
      by_cases hj:j < lo + x
      ·exact hO i j h1 h2 hj
      ·have hj':j=lo + x:=by omega
       subst hj'
       by_cases hi:i=lo + x
       ·subst hi;exact Int.le_refl _
       ·exact Int.le_trans (hO i (lo + x - 1) h1 (by omega) (by omega)) (Int.not_lt.mp hl)
    ·rintro c sz ⟨rfl,rfl,hO⟩
     rw [show max x nrem=nrem by omega] at hO ⊢
     exact ⟨rfl,nrem,rfl,by omega,Nat.le_refl _,hO,.inl rfl⟩
    rintro c sz ⟨rfl,m,rfl,m1,m2,m3,m4⟩
    exact wpS_pure (h m _ (by omega) m2 hU m3)
   ·rw [reverseSlice'_eq]
    exact wpS_bind (wpS_modify (key _ ⟨hU.mir (i:=lo + x - (neq + 1)) (j:=lo + x) (by omega) (by omega) (by omega),zR7 (K_mirror_equal (xs:=arrOf sx) (i:=lo + x - (neq + 1)) (j:=lo + x) (by omega) he) hN⟩))
 ·refine wpS_bind (zEd h0 hU.sg (by omega) (by omega) ?_)
  by_cases hr:K (arrOf sz) lo < K (arrOf sz) (lo + n - 1)
  ·rw [decide_eq_true hr]
   dsimp only
   refine ifT rfl ?_
   exact wpS_pure (h n _ n1 n2 hU n3)
  ·rw [decide_eq_false hr]
   dsimp only
   rw [if_neg (by decide),reverseSlice'_eq]
   have hsz:=hU.sg.size
   have hall:∀ k,lo≤k→k < lo + n→K (arrOf sz) k=K (arrOf sz) (lo + n - 1):=fun k k1 k2=>by
    have a1:=n3 lo k (Nat.le_refl _) k1 k2
    have a2:=n3 k (lo + n - 1) k1 (by omega) (by omega)
    omega
   have hN:NOn (arrOf sz) lo (lo + n):=fun i j i1 i2 i3=>by rw [hall i i1 (by omega),hall j (by omega) i3];exact Int.le_refl _
   exact wpS_bind (wpS_modify (key _ ⟨hU.mir (i:=lo) (j:=lo + n) (Nat.le_refl _) (by omega) (by omega),zE2 (K_mirror_equal (by omega) hall) hN n4⟩))
end
end So
end
section
namespace So
open PySem PyProof.Rows
section
variable {prog:Program}{w:World}{A:Around}{E:Value→Shared→Prop}{s:Shared}{a₀:Array Keyed}
theorem Upd.bub {st sx:SortSt}{lo hi src d:Nat}(h:Upd a₀ lo hi st sx) (h1:lo + d≤src) (h2:src < hi) (h3:hi≤a₀.size):Upd a₀ lo hi st (setArr sx (bubble (arrOf sx) src d)):=by
 have hs:=h.sg.size
 refine ⟨⟨(bubble_perm _ _ _).trans h.sg.perm,h.sg.kind,h.sg.failed⟩,h.pend,fun t ht=>?_⟩
 show (bubble (arrOf sx) src d)[t]? = _
 rw [getElem?_bubble (by omega) d (by omega),if_neg (by omega),if_neg (by omega)]
 exact h.out t ht
theorem zE4 {st:SortSt}{lo n ok:Nat}{Q:Bool→SortSt→Prop}(h0:IntKeys a₀) (hS:SG a₀ st) (hn:lo + n≤a₀.size) (hok:ok≤n) (hO:SOn (arrOf st) lo (lo + ok))
  (h:∀ sx,Upd a₀ lo (lo + n) st sx→SOn (arrOf sx) lo (lo + n)→Q true sx):wpS (model prog w) A E s (binarySort' lo n ok) Q st:=by
 rw [binarySort'_eq]
 refine wpS_bind (wpS_mono (wpS_forRange (I:=fun k c sx=>c=(none,())∧Upd a₀ lo (lo + n) st sx∧SOn (arrOf sx) lo (lo + min k n))
  (Q:=fun c sx=>c=(none,())∧Upd a₀ lo (lo + n) st sx∧SOn (arrOf sx) lo (lo + n)) ?_ ?_ ⟨rfl,⟨hS,rfl,fun t _=>rfl⟩,fun i j h1 h2 h3=>?_⟩) ?_)
 ·rintro k c sx hk1 hk2 ⟨rfl,hU,hO⟩
  rw [show min k n=k by omega] at hO
  have hsz:=hU.sg.size
  refine wpS_bind (wpS_mono (wpS_forRange (I:=fun x c sy=>sy=sx∧∃ l r,c=(none,l,r)∧l≤r∧r≤k∧r - l≤k - x∧(∀ i,i < l→K (arrOf sx) (lo + i)≤K (arrOf sx) (lo + k))∧(∀ i,r≤i→i < k→K (arrOf sx) (lo + k) < K (arrOf sx) (lo + i)))
   (Q:=fun c sy=>sy=sx∧∃ l r,c=(none,l,r)∧l≤k∧(∀ i,i < l→K (arrOf sx) (lo + i)≤K (arrOf sx) (lo + k))∧(∀ i,l≤i→i < k→K (arrOf sx) (lo + k) < K (arrOf sx) (lo + i))) ?_ ?_ ⟨rfl,0,k,rfl,by omega,by omega,by omega,fun i hi=>by omega,fun i h1 h2=>by omega⟩) ?_)
  ·rintro x c sy - hx ⟨rfl,l,r,rfl,hlr,hrk,hm,b1,b2⟩
   dsimp only
   by_cases hge:l ≥ r
   ·refine ifT hge ?_
    have:l=r:=by omega
    subst this
    exact wpS_pure ⟨rfl,l,l,rfl,hrk,b1,b2⟩
   ·refine ifF hge ?_
    refine wpS_bind (zEd h0 hU.sg (by omega) (by omega) ?_)
    by_cases hl:K (arrOf sy) (lo + k) < K (arrOf sy) (lo + (l + r) / 2)
    ·rw [decide_eq_true hl]
     dsimp only
     refine ifT rfl ?_
     refine wpS_pure ⟨rfl,l,(l + r) / 2,rfl,by omega,by omega,by omega,b1,fun i h1 h2=>?_⟩
     exact Int.lt_of_lt_of_le hl (hO _ _ (by omega) (by omega) (by omega))
    ·rw [decide_eq_false hl]
     dsimp only
     refine ifF (by decide) ?_
     refine wpS_pure ⟨rfl,(l + r) / 2 + 1,r,rfl,by omega,by omega,by omega,fun i h1=>?_,b2⟩
     exact Int.le_trans (hO (lo + i) (lo + (l + r) / 2) (by omega) (by omega) (by omega)) (Int.not_lt.mp hl)
  ·rintro c sy ⟨rfl,l,r,rfl,hlr,hrk,hm,b1,b2⟩
   have:l=r:=by omega
   subst this
   exact ⟨rfl,l,l,rfl,hrk,b1,b2⟩
  ·rintro c sy ⟨rfl,l,r,rfl,hlk,b1,b2⟩
   dsimp only
   rw [moveDown'_eq]
   refine wpS_bind (wpS_modify (wpS_pure ⟨rfl,hU.bub (by omega) (by omega) (by omega),?_⟩))
   rw [show min (k + 1) n=k + 1 by omega]
   intro i j h1 h2 h3
   show K (bubble (arrOf sy) (lo + k) (lo + k - (lo + l))) i≤K (bubble (arrOf sy) (lo + k) (lo + k - (lo + l))) j
   rw [K_bubble (by omega) (by omega),K_bubble (by omega) (by omega),show lo + k - (lo + k - (lo + l))=lo + l by omega]
   have b1':∀ i,lo≤i→i < lo + l→K (arrOf sy) i≤K (arrOf sy) (lo + k):=fun i h1 h2=>by
    have:=b1 (i - lo) (by omega)
    rwa [show lo + (i - lo)=i by omega] at this
   have b2':∀ i,lo + l≤i→i < lo + k→K (arrOf sy) (lo + k)≤K (arrOf sy) i:=fun i h1 h2=>by
    have:=b2 (i - lo) (by omega) (by omega)
    rw [show lo + (i - lo)=i by omega] at this
    exact Int.le_of_lt this
   repeat' split
   all_goals first
    | (exfalso;omega)
    | exact Int.le_refl _
    | exact b1' _ (by omega) (by omega)
    | exact b2' _ (by omega) (by omega)
    | exact hO _ _ (by omega) (by omega) (by omega)
 ·rintro c sx ⟨rfl,hU,hO⟩
  rw [show min (max (max ok 1) n) n=n by omega] at hO
  exact ⟨rfl,hU,hO⟩
 ·by_cases e:ok=0
  ·have:i=j:=by omega
   subst this;exact Int.le_refl _
  ·exact hO i j h1 h2 (by omega)
 ·rintro c sx ⟨rfl,hU,hO⟩
  exact wpS_pure (h sx hU hO)
def zE3 (xs:Array Keyed):Nat→List (Nat × Nat × Nat)→Nat→Prop
 | f,[],t=>f=t
 | f,q :: r,t=>q.1=f∧1≤q.2.1∧SOn xs f (f + q.2.1)∧zE3 xs (f + q.2.1) r t
theorem zFd {xs:Array Keyed}:∀ {p:List (Nat × Nat × Nat)}{f t:Nat},zE3 xs f p t→f + p.length≤t
 | [],f,t,h=>by have:f=t:=h;simp [this]
 | q :: r,f,t,⟨h1,h2,h3,h4⟩=>by have:=zFd h4;rw [List.length_cons];omega
theorem runs_app {xs:Array Keyed}:∀ {p q:List (Nat × Nat × Nat)}{f t:Nat},zE3 xs f (p ++ q) t ↔ ∃ m,zE3 xs f p m∧zE3 xs m q t
 | [],q,f,t=>⟨fun h=>⟨f,rfl,h⟩,fun ⟨m,h1,h2⟩=>by have:f=m:=h1;subst this;exact h2⟩
 | x :: p,q,f,t=>by
  constructor
  ·rintro ⟨h1,h2,h3,h4⟩
   obtain ⟨m,h5,h6⟩:=runs_app.mp h4
   exact ⟨m,⟨h1,h2,h3,h5⟩,h6⟩
  ·rintro ⟨m,⟨h1,h2,h3,h4⟩,h5⟩
   exact ⟨h1,h2,h3,runs_app.mpr ⟨m,h4,h5⟩⟩
theorem zH7 {xs ys:Array Keyed}{lo hi:Nat}(h:SOn xs lo hi) (e:∀ u,lo≤u→u < hi→ys[u]? = xs[u]?):SOn ys lo hi:=fun i j h1 h2 h3=>by
 rw [K_congr (e i h1 (by omega)),K_congr (e j (by omega) h3)];exact h i j h1 h2 h3
theorem zCj {xs ys:Array Keyed}:∀ {p:List (Nat × Nat × Nat)}{f t:Nat},zE3 xs f p t→(∀ u,f≤u→u < t→ys[u]? = xs[u]?)→zE3 ys f p t
 | [],f,t,h,_=>h
 | q :: r,f,t,⟨h1,h2,h3,h4⟩,e=>by
  have:=zFd h4
  exact ⟨h1,h2,zH7 h3 fun u u1 u2=>e u u1 (by omega),zCj h4 fun u u1 u2=>e u (by omega) u2⟩
theorem zF9 {st:SortSt}{i t:Nat}{Q:Bool→SortSt→Prop}(h0:IntKeys a₀) (hS:SG a₀ st) (hR:zE3 (arrOf st) 0 (pendingOf st).toList t) (hi:i + 1 < (pendingOf st).size) (ht:t≤a₀.size)
  (h:∀ sx,SG a₀ sx→zE3 (arrOf sx) 0 (pendingOf sx).toList t→(pendingOf sx).size + 1=(pendingOf st).size→(∀ u,t≤u→(arrOf sx)[u]? = (arrOf st)[u]?)→Q true sx):wpS (model prog w) A E s (mergeAt' i) Q st:=by
 have hlen:(pendingOf st).toList.length=(pendingOf st).size:=Array.length_toList
 have e:(pendingOf st).toList=(pendingOf st).toList.take i ++ (pendingOf st).toList[i] :: (pendingOf st).toList[i + 1] :: (pendingOf st).toList.drop (i + 2):=by
  rw [← List.drop_eq_getElem_cons (i:=i + 1),← List.drop_eq_getElem_cons (i:=i),List.take_append_drop]
 generalize hl1:(pendingOf st).toList.take i=l1 at e
 generalize hl2:(pendingOf st).toList.drop (i + 2)=l2 at e
 have n1:l1.length=i:=by rw [← hl1,List.length_take];omega
 have n2:l2.length + (i + 2)=(pendingOf st).size:=by rw [← hl2,List.length_drop];omega
 obtain ⟨⟨sa,na,pw⟩,ex⟩ : ∃ x,x=(pendingOf st).toList[i]:=⟨_,rfl⟩
 obtain ⟨⟨sb,nb,pw2⟩,ey⟩ : ∃ x,x=(pendingOf st).toList[i + 1]:=⟨_,rfl⟩
 rw [← ex,← ey] at e
 rw [e,runs_app] at hR
 obtain ⟨m,r1,r2,r3,r4,r5,r6,r7,r8⟩:=hR
 simp only at r2 r3 r4 r5 r6 r7 r8
 subst r2
 have l8:=zFd r8
 have l1':=zFd r1
 refine zI7 h0 hS e n1 r5 r3 r6 (by omega) (by rw [r5];exact r4) (by rw [r5];exact r7) fun sx g1 g2 g3 g4=>?_
 refine h sx g1 ?_ ?_ fun u hu=>g4 u (by omega)
 ·rw [g2,runs_app]
  refine ⟨sa,zCj r1 fun u u1 u2=>g4 u (by omega),rfl,by show 1≤na + nb;omega,?_,?_⟩
  ·show SOn _ sa (sa + (na + nb))
   rw [show sa + (na + nb)=sb + nb by omega];exact g3
  ·show zE3 _ (sa + (na + nb)) l2 t
   rw [show sa + (na + nb)=sa + na + nb by omega]
   exact zCj r8 fun u u1 u2=>g4 u (by omega)
 ·have:=congrArg List.length g2
  rw [Array.length_toList,List.length_append,List.length_cons] at this
  omega
end
end So
end
section
namespace So
open PySem PyProof.Rows
section
variable {prog:Program}{w:World}{A:Around}{E:Value→Shared→Prop}{s:Shared}{a₀:Array Keyed}
theorem zPi {α:Type}{p:Array α}{x:α}(h:p.back? = some x):0 < p.size:=by
 rcases Nat.eq_zero_or_pos p.size with e | e
 ·have:p = #[]:=Array.eq_empty_of_size_eq_zero e
  subst this;simp at h
 ·exact e
theorem zOk {xs:Array Keyed}{p:Array (Nat × Nat × Nat)}{t pw:Nat}(h:zE3 xs 0 p.toList t):zE3 xs 0 (p.modify (p.size - 1) fun q=>(q.1,q.2.1,pw)).toList t:=by
 have key:∀ (l:List (Nat × Nat × Nat)) (i f:Nat),zE3 xs f l t→zE3 xs f (l.modify i fun q=>(q.1,q.2.1,pw)) t:=by
  intro l
  induction l with
  | nil=>intro i f h;simpa using h
  | cons q r ih =>
   intro i f h
   obtain ⟨h1,h2,h3,h4⟩:=h
   cases i with
   | zero=>rw [List.modify_zero_cons];exact ⟨h1,h2,h3,h4⟩
   | succ i=>rw [List.modify_succ_cons];exact ⟨h1,h2,h3,ih i _ h4⟩
 rw [Array.toList_modify]
 exact key _ _ _ h
theorem zH8 {xs:Array Keyed}{p:Array (Nat × Nat × Nat)}{lo n:Nat}(h:zE3 xs 0 p.toList lo) (h1:1≤n) (hO:SOn xs lo (lo + n)):zE3 xs 0 (p.push (lo,n,0)).toList (lo + n):=by
 rw [Array.toList_push]
 exact runs_app.mpr ⟨lo,h,rfl,h1,hO,rfl⟩
theorem zGv {st:SortSt}{Q:Unit→SortSt→Prop}(h0:IntKeys a₀) (hS:SG a₀ st) (hp:pendingOf st = #[])
  (h:∀ sx,(arrOf sx).Perm a₀→failedOf sx=none→SortedTo (arrOf sx) a₀.size→Q () sx):wpS (model prog w) A E s sortRuns' Q st:=by
 rw [sortRuns'_eq]
 refine wpS_bind (wpS_get ?_)
 try dsimp only
 rw [hS.size]
 refine wpS_bind (wpS_mono (wpS_forRange (I:=fun x c sx=>SG a₀ sx∧∃ lo,c=(none,lo)∧zE3 (arrOf sx) 0 (pendingOf sx).toList lo∧lo≤a₀.size∧x≤lo) (Q:=fun c sx=>SG a₀ sx∧∃ lo,c=(none,lo)∧zE3 (arrOf sx) 0 (pendingOf sx).toList a₀.size) ?_ ?_ ⟨hS,0,rfl,by rw [hp];rfl,by omega,by omega⟩) ?_)
 ·rintro x c sx - hx ⟨hS,lo,rfl,hR,hlo,hxl⟩
  try dsimp only
  by_cases hge:lo ≥ a₀.size
  ·refine ifT hge ?_
   have e:lo=a₀.size:=by omega
   rw [e] at hR
   exact wpS_pure ⟨hS,lo,rfl,hR⟩
  ·refine ifF hge ?_
   refine wpS_bind (zGw h0 hS (by omega) (by omega) fun m sy m1 m2 hU hO=>?_)
   try dsimp only
   have hR:zE3 (arrOf sy) 0 (pendingOf sy).toList lo:=by
    rw [hU.pend]
    exact zCj hR fun u u1 u2=>hU.out u (.inl u2)
   have hC:=And.intro m1 (And.intro m2 hO)
   clear m1 m2 hO
   revert m
   refine jp3 (fun m sx=>SG a₀ sx∧zE3 (arrOf sx) 0 (pendingOf sx).toList lo∧1≤m∧lo + m≤a₀.size∧SOn (arrOf sx) lo (lo + m)) ?_ (fun m ⟨m1,m2,hO⟩ _=>⟨hU.sg,hR,m1,by omega,hO⟩) fun m ⟨m1,m2,hO⟩ hm key=>?_
   ·rintro m sx ⟨hS,hR,n1',hlm,hO⟩
    refine wpS_bind (wpS_get ?_)
    rcases hb:(pendingOf sx).back? with _ | ⟨s1,n1,pz⟩
    ·try dsimp only
     exact wpS_bind (wpS_modify (wpS_pure ⟨⟨hS.perm,hS.kind,hS.failed⟩,lo + m,rfl,zH8 hR n1' hO,by omega,by omega⟩))
    ·try dsimp only
     have hpos:=zPi hb
     refine wpS_bind (wpS_mono (wpS_forRange (I:=fun _ c sy=>c=(none,())∧SG a₀ sy∧zE3 (arrOf sy) 0 (pendingOf sy).toList lo∧SOn (arrOf sy) lo (lo + m)) (Q:=fun c sy=>c=(none,())∧SG a₀ sy∧zE3 (arrOf sy) 0 (pendingOf sy).toList lo∧SOn (arrOf sy) lo (lo + m)) ?_ (fun _ _ q=>q) ⟨rfl,hS,hR,hO⟩) ?_)
     ·rintro y c sy - hy ⟨rfl,hS,hR,hO⟩
      refine wpS_bind (wpS_get ?_)
      by_cases hg:(pendingOf sy).size > 1
      ·rw [if_pos hg]
       rcases he:(pendingOf sy)[(pendingOf sy).size - 2]? with _ | ⟨u1,u2,older⟩
       ·try dsimp only
        exact wpS_pure ⟨rfl,hS,hR,hO⟩
       ·try dsimp only
        split
        ·exact wpS_pure ⟨rfl,hS,hR,hO⟩
        ·refine wpS_bind (zF9 h0 hS hR (by omega) (by omega) fun sz g1 g2 g3 g4=>?_)
         try dsimp only
         refine ifF (by decide) ?_
         exact wpS_pure ⟨rfl,g1,g2,zH7 hO fun u u1 u2=>g4 u u1⟩
      ·rw [if_neg hg]
       try dsimp only
       exact wpS_pure ⟨rfl,hS,hR,hO⟩
     ·rintro c sy ⟨rfl,hS,hR,hO⟩
      try dsimp only
      exact wpS_bind (wpS_modify (wpS_bind (wpS_modify (wpS_pure ⟨⟨hS.perm,hS.kind,hS.failed⟩,lo + m,rfl,zH8 (zOk hR) n1' hO,by omega,by omega⟩))))
   ·refine wpS_bind (wpS_lift (wpAny_rule ⟨rfl,?_⟩))
    generalize hf:min (a₀.size - lo) (minRun' a₀.size a₀.size 0)=force
    refine wpS_bind (zE4 h0 hU.sg (by omega) (by omega) hO fun sx hU2 hO=>?_)
    try dsimp only
    refine ifF (by decide) ?_
    refine key force _ ⟨hU2.sg,?_,by omega,by omega,hO⟩
    rw [hU2.pend]
    exact zCj hR fun u u1 u2=>hU2.out u (.inl u2)
 ·rintro c sx ⟨hS,lo,rfl,hR,hlo,hxl⟩
  have e:lo=a₀.size:=by omega
  rw [e] at hR
  exact ⟨hS,lo,rfl,hR⟩
 ·rintro c sx ⟨hS,lo,rfl,hR⟩
  try dsimp only
  refine wpS_bind (wpS_mono (wpS_forRange (I:=fun x c sy=>c=(none,())∧SG a₀ sy∧zE3 (arrOf sy) 0 (pendingOf sy).toList a₀.size∧(pendingOf sy).size + x≤a₀.size) (Q:=fun c sy=>c=(none,())∧SG a₀ sy∧zE3 (arrOf sy) 0 (pendingOf sy).toList a₀.size∧(pendingOf sy).size≤1) ?_ ?_ ⟨rfl,hS,hR,?_⟩) ?_)
  ·rintro x c sy - hx ⟨rfl,hS,hR,hz⟩
   refine wpS_bind (wpS_get ?_)
   by_cases h1:(pendingOf sy).size≤1
   ·refine ifT h1 ?_
    exact wpS_pure ⟨rfl,hS,hR,h1⟩
   ·refine ifF h1 ?_
    have hj2:∀ (c:Bool) (n:Nat),¬ n≤1→(if c=true then n - 2 - 1 else n - 2) + 1 < n:=by
     intro c n hn
     cases c
     ·rw [if_neg (by decide)];omega
     ·rw [if_pos rfl];omega
    refine wpS_bind (zF9 h0 hS hR (hj2 _ _ h1) (Nat.le_refl _) fun sz g1 g2 g3 g4=>?_)
    try dsimp only
    refine ifF (by decide) ?_
    exact wpS_pure ⟨rfl,g1,g2,by omega⟩
  ·rintro c sy ⟨rfl,hS,hR,hz⟩
   exact ⟨rfl,hS,hR,by omega⟩
  ·have:=zFd hR
   rw [Array.length_toList] at this
   omega
  ·rintro c sy ⟨rfl,hS,hR,hz⟩
   try dsimp only
   refine wpS_pure (h sy hS.perm hS.failed ?_)
   rcases hl:(pendingOf sy).toList with _ | ⟨q,_ | ⟨q2,r⟩⟩
   ·rw [hl] at hR
    have e:0=a₀.size:=hR
    intro i j _ hj
    omega
   ·rw [hl] at hR
    obtain ⟨r1,r2,r3,r4⟩:=hR
    have e:0 + q.2.1=a₀.size:=r4
    rw [e] at r3
    exact fun i j hij hj=>r3 i j (Nat.zero_le _) hij hj
   ·have:=congrArg List.length hl
    rw [Array.length_toList,List.length_cons,List.length_cons] at this
    omega
end
end So
end
section
namespace So
open PySem PyProof.Rows
section
variable {prog:Program}{w:World}{A:Around}{E:Value→Shared→Prop}{s:Shared}
theorem sort_tree {a:Addr}{vs:List Value}{ns:List Int}{n:Nat}{P:Fin→Shared→Prop}(ho:s.heap.get? a=some (seqObj "list" vs.toArray n)) (hI:IntsAre vs ns) (hz:vs.length≤sizeLine)
  (h:∀ (out:Array Value) (ns':List Int),IntsAre out.toList ns'→ns'.Perm ns→ns'.Pairwise (· ≤ ·)→P (.done (.ret .none)) { s with heap:=sortedHeap s.heap a vs out }) :
  wpAny (model prog w) A (Builtin.«list.sort» ⟨[.ref a],[]⟩) P E s:=by
 by_cases h64:vs.length < 64
 ·exact list_sort_tree ho hI h64 h
 rw [list_sort_plain]
 have ha:a < s.heap.objs.size:=Heap.lt_size ho
 have hsz:vs.toArray.size=vs.length:=by simp
 refine wpAny_bind (listItems_at ho rfl (wpAny_bind (listUpdate_at ho rfl ?_ (by rw [hsz];exact hz))))
 obtain ⟨e1,ho1⟩ : ∃ e1,(s.heap.update a (Obj.mapSeq fun _=>#[])).get? a=some (seqObj "list" #[] e1):=⟨_,get?_update_seq ho (fun _=>#[])⟩
 refine wpAny_bind (seqEpoch_at ho1 rfl (wpAny_bind (wpAny_newTuple ?_ (by size_fits))))
 refine wpAny_bind (wpAny_newList (wpAny_holding ?_))
 have ho6:(((s.heap.update a (Obj.mapSeq fun _=>#[])).push (seqObj "tuple" vs.toArray 0)).push (seqObj "list" #[] 0)).get? a=some (seqObj "list" #[] e1):=by
  have q1:a≠((s.heap.update a (Obj.mapSeq fun _=>#[])).push (seqObj "tuple" vs.toArray 0)).objs.size:=by rw [size_push',Heap.size_update];exact Nat.ne_of_lt (Nat.lt_succ_of_lt ha)
  have q2:a≠(s.heap.update a (Obj.mapSeq fun _=>#[])).objs.size:=by rw [Heap.size_update];exact Nat.ne_of_lt ha
  rw [Heap.get?_push_ne _ _ _ q1,Heap.get?_push_ne _ _ _ q2]
  exact ho1
 show wpAny (model prog w) A _ P E { s with heap:=((s.heap.update a (Obj.mapSeq fun _=>#[])).push (seqObj "tuple" vs.toArray 0)).push (seqObj "list" #[] 0) }
 dsimp only
 have h2:¬ vs.toArray.size < 2:=by omega
 rw [if_neg h2,if_neg h2]
 have hkk:keyKind' vs.toArray=pure oneType':=by
  match vs,h64,hI with
  | [],h,_=>simp at h
  | [_],h,_=>simp at h
  | v₁ :: v₂ :: rest,_,hI=>exact keyKind_ints hI
 rw [hkk]
 refine wpAny_bind (wpAny_pure ?_)
 refine wpAny_bind (wpAny_mono (zGv (a₀:=pairsOf vs) (st:=SortSt.mk' oneType' (vs.toArray.zip vs.toArray) #[] 7 none)
  (Q:=fun _ sx=>(arrOf sx).Perm (pairsOf vs)∧failedOf sx=none∧SortedTo (arrOf sx) (pairsOf vs).size) hI.intKeys ⟨Array.Perm.refl _,rfl,rfl⟩ rfl fun sx a1 a2 a3=>⟨a1,a2,a3⟩) ?_ fun _ _ e=>e)
 rintro ⟨⟨⟩,sx⟩ s' ⟨rfl,hp,hf,hs⟩
 dsimp only
 refine wpAny_bind (seqEpoch_at ho6 rfl ?_)
 refine wpAny_bind (listUpdate_at ho6 rfl ?_ (hsz2:=?_))
 ·rw [hf]
  simp only [bne_self_eq_false,Bool.false_eq_true,if_false]
  obtain ⟨ns',b1,b2,b3⟩:=sorted_out hI hp hs
  exact wpAny_pure (h _ ns' b1 b2 b3)
 ·refine Nat.le_trans (Nat.le_of_eq ((Array.size_map ..).trans (hp.size_eq.trans (pairsOf_size _)))) ?_
  omega
end
end So
namespace L2
open PySem PySem.Spec PySem.Calls PyProof.Rows PySem.W
section
variable {prog:Program}{w:World}{A:Around}{E:Value→Shared→Prop}{s:Shared}{T:String}{r d:Addr}{n:Nat}{P:Nat→Value→Prop}{OK:Heap→Prop}
theorem zJi {ns:List Int}{x:Value}{Q:Value→Shared→Prop}(hc:∀ (Q':List Value→Shared→Prop) (E':Value→Shared→Prop),
   (∀ h' tk vs,(∀ b o,s.heap.get? b=some o→h'.get? b=some o)→s.heap.objs.size < h'.objs.size→IntsAre vs ns→Q' vs { s with heap:=h',toks:=tk })→wpAny (model prog w) A.in1 (collect x) Q' E' s) (hz:ns.length≤sizeLine)
  (h:∀ (h':Heap) (tk e:Nat) (a:Addr) (out:Array Value) (ns':List Int),(∀ b o,s.heap.get? b=some o→h'.get? b=some o)→s.heap.objs.size≤a→h'.get? a=some (seqObj "list" out e) →
   IntsAre out.toList ns'→ns'.Perm ns→ns'.Pairwise (· ≤ ·)→Q (.ref a) { s with heap:=h',toks:=tk }) :
  wpAny (model prog w) A (call (.builtin "sorted") [x]) Q E s:=by
 refine Calls.call_function_entry kind_sorted plain_sorted entry_sorted (args_sorted1 _) ?_
 unfold Builtin.«sorted»
 refine wpAny_bind (m:=checkCount "sorted" 1 1 _) (wpAny_pure ?_)
 refine wpAny_bind (hc _ _ fun h1 tk vs kp hs hi=>?_)
 have hl:vs.length≤sizeLine:=by rw [← zKy hi];exact hz
 refine wpAny_bind (wpAny_newList ?_ hl)
 have hoL:(h1.push (seqObj "list" vs.toArray 0)).get? h1.objs.size=some (seqObj "list" vs.toArray 0):=Heap.get?_push_size _ rfl
 show wpAny _ _ _ _ _ { s with heap:=h1.push (seqObj "list" vs.toArray 0),toks:=tk }
 refine wpAny_bind (wpAny_holding (wpAny_call_entry slot_list_sort ⟨_,hoL,rfl⟩ entry_list_sort (So.sort_tree hoL hi hl fun out ns' a1 a2 a3=>⟨_,rfl,?_⟩) (args_list_sort _)))
 obtain ⟨e,he⟩:=sortedHeap_at (out:=out) hoL
 refine wpAny_pure ⟨_,rfl,h _ tk e h1.objs.size out ns' (fun b o q=>?_) (Nat.le_of_lt hs) he a1 a2 a3⟩
 have hb:=Heap.lt_size (kp b o q)
 rw [sortedHeap_old (Nat.ne_of_lt hb) (by rw [size_push'];exact Nat.lt_succ_of_lt hb)]
 exact Heap.get?_push_of_some _ (kp b o q)
end
section
variable {X:Cx}
def zRq (K:PySem.W.Frag) (xs:List V) (H:Hp) (Q:VK):Prop:=∃ (p:Addr) (ks:List Int),xs=[.ref p]∧SqL K H p (ks.map V.int) ∧
 ∀ l (ns:List Int),H l=none→ns.Perm ks→ns.Pairwise (· ≤ ·)→Q (.ref l) (upd H l (.lst (ns.map V.int)))
theorem call_sortL:zDj X (.builtin "sorted") (zRq X.K):=by
 intro pins s σ H xs us Q I r h
 obtain ⟨p,ks,rfl,hq,q⟩:=h
 obtain ⟨u,rfl,rx⟩:=zGz r
 cases rx
 obtain ⟨its,r',pl,hz⟩:=I.list hq
 have hi:=zGq r'
 rw [List.length_map] at hz
 have hlen:=zKy hi
 refine zJi (ns:=ks) (fun Q' E' hq=>?_) hz fun h' tk e' a' out ns' kp ha he hi hp hs=>?_
 ·refine collect_list pl.isList (hq _ s.toks its (fun b o e=>?_) ?_ hi) (by omega)
  ·rw [Heap.get?_update_ne _ _ _ _ (Nat.ne_of_lt (Heap.lt_size e))]
   exact Heap.get?_push_of_some _ e
  ·rw [Heap.size_update,size_push'];exact Nat.lt_succ_self _
 ·have hl2:=hp.length_eq
  exact ⟨.ref a',_,I.laid (t':=tk) kp ha (show ObjOk X.prog X.w _ h' _ (.lst (ns'.map V.int)) from ⟨by rw [List.length_map];omega,out.toList,e',zFq hi,by simpa using he⟩),rfl,q _ _ (I.hok.fresh ha) hp hs⟩
end
end L2
end
section
namespace K14
open PySem L2 BK
def top (i:Nat):Stmt:=PySem.Challenge.pw_blockkeep_k14_whole_no_room.main.body.getD i (.Pass ⟨0,0,0,0⟩)
abbrev zB2:Stmt:=top 16
theorem sc_is_whole:FnScope ["thing", "least", "most"] ["thing", "least", "most"] (zD zB2):=⟨rfl,rfl,rfl,by decide +kernel,rfl,by decide +kernel,by decide +kernel⟩
abbrev zr:Stmt:=zBh (top 68) 0
theorem sc_Layout___init__:FnScope ["self", "many", "tables"] ["self", "many", "tables"] (zD zr):=⟨rfl,rfl,rfl,by decide +kernel,rfl,by decide +kernel,by decide +kernel⟩
abbrev zBl:Stmt:=top 20
theorem sc_empty_row:FnScope [] [] (zD zBl):=⟨rfl,rfl,rfl,by decide +kernel,rfl,by decide +kernel,by decide +kernel⟩
abbrev zAf:Stmt:=zBh (top 62) 0
theorem sc_Disk___init__:FnScope ["self", "many"] ["self", "many"] (zD zAf):=⟨rfl,rfl,rfl,by decide +kernel,rfl,by decide +kernel,by decide +kernel⟩
abbrev zAa:Stmt:=zBh (top 77) 0
theorem sc_Batch___init__:FnScope ["self", "disk"] ["self", "disk"] (zD zAa):=⟨rfl,rfl,rfl,by decide +kernel,rfl,by decide +kernel,by decide +kernel⟩
abbrev zAx:Stmt:=zBh (top 62) 1
theorem sc_Disk_blocks:FnScope ["self"] ["self"] (zD zAx):=⟨rfl,rfl,rfl,by decide +kernel,rfl,by decide +kernel,by decide +kernel⟩
abbrev zCg:Stmt:=top 71
theorem sc_is_home:FnScope ["disk", "block"] ["disk", "block"] (zD zCg):=⟨rfl,rfl,rfl,by decide +kernel,rfl,by decide +kernel,by decide +kernel⟩
abbrev zCf:Stmt:=top 17
theorem sc_is_word:FnScope ["thing"] ["thing"] (zD zCf):=⟨rfl,rfl,rfl,by decide +kernel,rfl,by decide +kernel,by decide +kernel⟩
abbrev zBn:Stmt:=top 18
theorem sc_are_words:FnScope ["thing"] ["thing"] (zD zBn):=⟨rfl,rfl,rfl,by decide +kernel,rfl,by decide +kernel,by decide +kernel⟩
abbrev zDb:Stmt:=top 19
theorem sc_is_row:FnScope ["thing"] ["thing"] (zD zDb):=⟨rfl,rfl,rfl,by decide +kernel,rfl,by decide +kernel,by decide +kernel⟩
abbrev zd:Stmt:=top 73
theorem sc_refuse_wrong_pairs:FnScope ["disk", "pairs", "ahead", "block", "row"] ["disk", "pairs"] (zD zd):=⟨rfl,rfl,rfl,by decide +kernel,rfl,by decide +kernel,by decide +kernel⟩
abbrev zW:Stmt:=zBh (top 62) 8
theorem sc_Disk_refuse_no_block:FnScope ["self", "block"] ["self", "block"] (zD zW):=⟨rfl,rfl,rfl,by decide +kernel,rfl,by decide +kernel,by decide +kernel⟩
abbrev zt:Stmt:=zBh (top 62) 9
theorem sc_Disk_use_up_one:FnScope ["self"] ["self"] (zD zt):=⟨rfl,rfl,rfl,by decide +kernel,rfl,by decide +kernel,by decide +kernel⟩
abbrev zA7:Stmt:=zBh (top 62) 3
theorem sc_Disk_write:FnScope ["self", "block", "row"] ["self", "block", "row"] (zD zA7):=⟨rfl,rfl,rfl,by decide +kernel,rfl,by decide +kernel,by decide +kernel⟩
abbrev zCi:Stmt:=top 21
theorem sc_changed:FnScope ["row", "at", "words"] ["row", "at", "words"] (zD zCi):=⟨rfl,rfl,rfl,by decide +kernel,rfl,by decide +kernel,by decide +kernel⟩
abbrev zBi:Stmt:=top 74
theorem sc_write_log:FnScope ["disk", "pairs", "homes", "block", "row"] ["disk", "pairs"] (zD zBi):=⟨rfl,rfl,rfl,by decide +kernel,rfl,by decide +kernel,by decide +kernel⟩
abbrev zAu:Stmt:=top 75
theorem sc_write_homes:FnScope ["disk", "pairs", "block", "row"] ["disk", "pairs"] (zD zAu):=⟨rfl,rfl,rfl,by decide +kernel,rfl,by decide +kernel,by decide +kernel⟩
abbrev zDd:Stmt:=top 72
theorem sc_commit:FnScope ["disk", "pairs"] ["disk", "pairs"] (zD zDd):=⟨rfl,rfl,rfl,by decide +kernel,rfl,by decide +kernel,by decide +kernel⟩
abbrev zAz:Stmt:=zBh (top 77) 3
theorem sc_Batch_pairs:FnScope ["self"] ["self"] (zD zAz):=⟨rfl,rfl,rfl,by decide +kernel,rfl,by decide +kernel,by decide +kernel⟩
abbrev zAo:Stmt:=zBh (top 77) 4
theorem sc_Batch_finish:FnScope ["self"] ["self"] (zD zAo):=⟨rfl,rfl,rfl,by decide +kernel,rfl,by decide +kernel,by decide +kernel⟩
abbrev zB1:Stmt:=top 25
theorem sc_new_maps:FnScope ["layout", "places", "free", "words"] ["layout"] (zD zB1):=⟨rfl,rfl,rfl,by decide +kernel,rfl,by decide +kernel,by decide +kernel⟩
abbrev zj:Stmt:=zBh (top 68) 1
theorem sc_Layout_most_node:FnScope ["self"] ["self"] (zD zj):=⟨rfl,rfl,rfl,by decide +kernel,rfl,by decide +kernel,by decide +kernel⟩
abbrev zz:Stmt:=top 41
theorem sc_refuse_no_node:FnScope ["layout", "node"] ["layout", "node"] (zD zz):=⟨rfl,rfl,rfl,by decide +kernel,rfl,by decide +kernel,by decide +kernel⟩
abbrev zB3:Stmt:=top 42
theorem sc_block_of:FnScope ["layout", "node"] ["layout", "node"] (zD zB3):=⟨rfl,rfl,rfl,by decide +kernel,rfl,by decide +kernel,by decide +kernel⟩
abbrev zAy:Stmt:=zBh (top 77) 2
theorem sc_Batch_write:FnScope ["self", "block", "row"] ["self", "block", "row"] (zD zAy):=⟨rfl,rfl,rfl,by decide +kernel,rfl,by decide +kernel,by decide +kernel⟩
abbrev zBp:Stmt:=zBh (top 62) 2
theorem sc_Disk_read:FnScope ["self", "block"] ["self", "block"] (zD zBp):=⟨rfl,rfl,rfl,by decide +kernel,rfl,by decide +kernel,by decide +kernel⟩
abbrev zA8:Stmt:=zBh (top 77) 1
theorem sc_Batch_read:FnScope ["self", "block"] ["self", "block"] (zD zA8):=⟨rfl,rfl,rfl,by decide +kernel,rfl,by decide +kernel,by decide +kernel⟩
abbrev zAd:Stmt:=top 43
theorem sc_first_word_of:FnScope ["node"] ["node"] (zD zAd):=⟨rfl,rfl,rfl,by decide +kernel,rfl,by decide +kernel,by decide +kernel⟩
abbrev zB0:Stmt:=top 39
theorem sc_put_node:FnScope ["batch", "layout", "node", "words", "block"] ["batch", "layout", "node", "words"] (zD zB0):=⟨rfl,rfl,rfl,by decide +kernel,rfl,by decide +kernel,by decide +kernel⟩
abbrev zCe:Stmt:=top 38
theorem sc_node_of:FnScope ["batch", "layout", "node", "at"] ["batch", "layout", "node"] (zD zCe):=⟨rfl,rfl,rfl,by decide +kernel,rfl,by decide +kernel,by decide +kernel⟩
abbrev zBj:Stmt:=top 40
theorem sc_take_node:FnScope ["batch", "layout", "kind", "node"] ["batch", "layout", "kind"] (zD zBj):=⟨rfl,rfl,rfl,by decide +kernel,rfl,by decide +kernel,by decide +kernel⟩
abbrev zAn:Stmt:=top 79
theorem sc__law_cell_at:FnScope ["_law_script", "_law_k"] ["_law_script", "_law_k"] (zD zAn):=⟨rfl,rfl,rfl,by decide +kernel,rfl,by decide +kernel,by decide +kernel⟩
abbrev zA6:Stmt:=top 81
theorem sc__law_begun:FnScope ["_law_script", "_law_layout", "_law_disk", "_law_block", "_law_k", "_law_row", "_law_batch"] ["_law_script"] (zD zA6):=⟨rfl,rfl,rfl,by decide +kernel,rfl,by decide +kernel,by decide +kernel⟩
abbrev zAw:Stmt:=zBh (top 62) 4
theorem sc_Disk_writes:FnScope ["self"] ["self"] (zD zAw):=⟨rfl,rfl,rfl,by decide +kernel,rfl,by decide +kernel,by decide +kernel⟩
abbrev zCh:Stmt:=top 26
theorem sc_is_free:FnScope ["batch", "layout", "block", "row"] ["batch", "layout", "block"] (zD zCh):=⟨rfl,rfl,rfl,by decide +kernel,rfl,by decide +kernel,by decide +kernel⟩
abbrev zGf:Stmt:=top 30
theorem sc_mark:FnScope ["batch", "layout", "block", "word", "at"] ["batch", "layout", "block", "word"] (zD zGf):=⟨rfl,rfl,rfl,by decide +kernel,rfl,by decide +kernel,by decide +kernel⟩
abbrev zGg:Stmt:=top 29
theorem sc_give:FnScope ["batch", "layout", "block"] ["batch", "layout", "block"] (zD zGg):=⟨rfl,rfl,rfl,by decide +kernel,rfl,by decide +kernel,by decide +kernel⟩
abbrev zAv:Stmt:=top 27
theorem sc_free_blocks:FnScope ["batch", "layout"] ["batch", "layout"] (zD zAv):=⟨rfl,rfl,rfl,by decide +kernel,rfl,by decide +kernel,by decide +kernel⟩
abbrev zGe:Stmt:=top 28
theorem sc_take:FnScope ["batch", "layout", "blocks"] ["batch", "layout"] (zD zGe):=⟨rfl,rfl,rfl,by decide +kernel,rfl,by decide +kernel,by decide +kernel⟩
abbrev zDc:Stmt:=top 56
theorem sc_fitted:FnScope ["batch", "layout", "used", "count", "block", "kept"] ["batch", "layout", "used", "count"] (zD zDc):=⟨rfl,rfl,rfl,by decide +kernel,rfl,by decide +kernel,by decide +kernel⟩
abbrev zBz:Stmt:=top 57
theorem sc_put_used:FnScope ["batch", "layout", "node", "size", "used", "words"] ["batch", "layout", "node", "size", "used"] (zD zBz):=⟨rfl,rfl,rfl,by decide +kernel,rfl,by decide +kernel,by decide +kernel⟩
abbrev zAm:Stmt:=top 58
theorem sc_clear_behind:FnScope ["batch", "blocks", "first", "place", "kept", "row"] ["batch", "blocks", "first"] (zD zAm):=⟨rfl,rfl,rfl,by decide +kernel,rfl,by decide +kernel,by decide +kernel⟩
abbrev zq:Stmt:=top 52
theorem sc_count_of_blocks:FnScope ["size"] ["size"] (zD zq):=⟨rfl,rfl,rfl,by decide +kernel,rfl,by decide +kernel,by decide +kernel⟩
abbrev zBm:Stmt:=top 47
theorem sc_blocks_of:FnScope ["batch", "layout", "node", "words", "count", "near"] ["batch", "layout", "node"] (zD zBm):=⟨rfl,rfl,rfl,by decide +kernel,rfl,by decide +kernel,by decide +kernel⟩
abbrev zCd:Stmt:=top 48
theorem sc_used_by:FnScope ["batch", "layout", "node", "blocks", "far"] ["batch", "layout", "node"] (zD zCd):=⟨rfl,rfl,rfl,by decide +kernel,rfl,by decide +kernel,by decide +kernel⟩
abbrev zAe:Stmt:=top 53
theorem sc_count_of_used:FnScope ["size", "count"] ["size"] (zD zAe):=⟨rfl,rfl,rfl,by decide +kernel,rfl,by decide +kernel,by decide +kernel⟩
abbrev zEi:Stmt:=top 51
theorem sc_sized:FnScope ["batch", "layout", "node", "size", "before", "used"] ["batch", "layout", "node", "size"] (zD zEi):=⟨rfl,rfl,rfl,by decide +kernel,rfl,by decide +kernel,by decide +kernel⟩
abbrev zA5:Stmt:=top 80
theorem sc__law_drawn:FnScope ["_law_cell", "_law_many"] ["_law_cell", "_law_many"] (zD zA5):=⟨rfl,rfl,rfl,by decide +kernel,rfl,by decide +kernel,by decide +kernel⟩
abbrev zZ:Stmt:=top 54
theorem sc_refuse_out_of_place:FnScope ["batch", "layout", "node", "begin", "count", "size"] ["batch", "layout", "node", "begin", "count"] (zD zZ):=⟨rfl,rfl,rfl,by decide +kernel,rfl,by decide +kernel,by decide +kernel⟩
abbrev zEj:Stmt:=top 55
theorem sc_parts:FnScope ["begin", "count", "end", "cuts", "at", "step"] ["begin", "count"] (zD zEj):=⟨rfl,rfl,rfl,by decide +kernel,rfl,by decide +kernel,by decide +kernel⟩
abbrev zBk:Stmt:=top 50
theorem sc_put_words:FnScope ["batch", "layout", "node", "begin", "words", "count", "blocks", "at", "step", "block", "part"] ["batch", "layout", "node", "begin", "words"] (zD zBk):=⟨rfl,rfl,rfl,by decide +kernel,rfl,by decide +kernel,by decide +kernel⟩
abbrev zBy:Stmt:=top 49
theorem sc_words_of:FnScope ["batch", "layout", "node", "begin", "count", "blocks", "words", "at", "step", "first"] ["batch", "layout", "node", "begin", "count"] (zD zBy):=⟨rfl,rfl,rfl,by decide +kernel,rfl,by decide +kernel,by decide +kernel⟩
abbrev zA3:Stmt:=top 82
theorem sc__law_wants:FnScope ["_law_size", "_law_many"] ["_law_size"] (zD zA3):=⟨rfl,rfl,rfl,by decide +kernel,rfl,by decide +kernel,by decide +kernel⟩
abbrev zBo:Stmt:=top 83
theorem sc__law_deed:FnScope ["_law_disk", "_law_layout", "_law_kept", "_law_cell", "_law_batch", "_law_node", "_law_words", "_law_size", "_law_used", "_law_begin", "_law_fresh"] ["_law_disk", "_law_layout", "_law_kept", "_law_cell"] (zD zBo):=⟨rfl,rfl,rfl,by decide +kernel,rfl,by decide +kernel,by decide +kernel⟩
abbrev zA4:Stmt:=top 84
theorem sc__law_holds:FnScope ["_law_disk", "_law_layout", "_law_kept", "_law_batch", "_law_blocks", "_law_node"] ["_law_disk", "_law_layout", "_law_kept"] (zD zA4):=⟨rfl,rfl,rfl,by decide +kernel,rfl,by decide +kernel,by decide +kernel⟩
abbrev zHd:Stmt:=top 85
theorem sc_law:FnScope ["_law_script", "_law_layout", "_law_disk", "_law_kept", "_law_cell", "_law_ahead"] ["_law_script"] (zD zHd):=⟨rfl,rfl,rfl,by decide +kernel,rfl,by decide +kernel,by decide +kernel⟩
structure Ad where
 cKeepError:Addr
 cBadRow:Addr
 cNoBlock:Addr
 cStopped:Addr
 cBadDisk:Addr
 cNoRoom:Addr
 cTooMuch:Addr
 cNoNode:Addr
 cNoNodes:Addr
 cTooLong:Addr
 cOutOfPlace:Addr
 cDisk:Addr
 cLayout:Addr
 cBatch:Addr
 fLayout_init:Addr
 fDisk_init:Addr
 fBatch_init:Addr
 f_blocks:Addr
 f_refuse_no_block:Addr
 f_use_up_one:Addr
 f_write:Addr
 f_pairs:Addr
 f_finish:Addr
 f_most_node:Addr
 f_Batch_write:Addr
 f_read:Addr
 f_Batch_read:Addr
 f_writes:Addr
structure Txt (K:PySem.W.Frag) (mg:Str→Option Value) (a:Ad):Prop where
 isinstance:mg "isinstance" = none
 int:mg "int" = none
 bool:mg "bool" = none
 list:mg "list" = none
 len:mg "len" = none
 all:mg "all" = none
 range:mg "range" = none
 ValueError:mg "ValueError" = none
 sorted:mg "sorted" = none
 enumerate:mg "enumerate" = none
 min:mg "min" = none
 max:mg "max" = none
 sum:mg "sum" = none
 cROW_WORDS:∃ t,mg "ROW_WORDS" = some (.int 16 t)
 cMOST_WORD:∃ t,mg "MOST_WORD" = some (.int 999999999 t)
 cFREE:∃ t,mg "FREE" = some (.int 0 t)
 cUSED:∃ t,mg "USED" = some (.int 1 t)
 cUNUSED:∃ t,mg "UNUSED" = some (.int 0 t)
 cNODE_WORDS:∃ t,mg "NODE_WORDS" = some (.int 8 t)
 cKIND_AT:∃ t,mg "KIND_AT" = some (.int 0 t)
 cSIZE_AT:∃ t,mg "SIZE_AT" = some (.int 2 t)
 cPLACES_AT:∃ t,mg "PLACES_AT" = some (.int 3 t)
 cFAR_AT:∃ t,mg "FAR_AT" = some (.int 7 t)
 cMOST_SIZE:∃ t,mg "MOST_SIZE" = some (.int 320 t)
 cNEAR_BLOCKS:∃ t,mg "NEAR_BLOCKS" = some (.int 4 t)
 cLEAST_BLOCKS:∃ t,mg "LEAST_BLOCKS" = some (.int 24 t)
 cMOST_BLOCKS:∃ t,mg "MOST_BLOCKS" = some (.int 96 t)
 cLOG_HEAD_AT:∃ t,mg "LOG_HEAD_AT" = some (.int 1 t)
 cLOG_ROWS_AT:∃ t,mg "LOG_ROWS_AT" = some (.int 2 t)
 cMAPS_AT:∃ t,mg "MAPS_AT" = some (.int 17 t)
 cMOST_TABLES:∃ t,mg "MOST_TABLES" = some (.int 8 t)
 cMOST_HOMES:∃ t,mg "MOST_HOMES" = some (.int 15 t)
 mKeepError:mg "KeepError" = some (.ref a.cKeepError)
 mBadRow:mg "BadRow" = some (.ref a.cBadRow)
 mNoBlock:mg "NoBlock" = some (.ref a.cNoBlock)
 mStopped:mg "Stopped" = some (.ref a.cStopped)
 mBadDisk:mg "BadDisk" = some (.ref a.cBadDisk)
 mNoRoom:mg "NoRoom" = some (.ref a.cNoRoom)
 mTooMuch:mg "TooMuch" = some (.ref a.cTooMuch)
 mNoNode:mg "NoNode" = some (.ref a.cNoNode)
 mNoNodes:mg "NoNodes" = some (.ref a.cNoNodes)
 mTooLong:mg "TooLong" = some (.ref a.cTooLong)
 mOutOfPlace:mg "OutOfPlace" = some (.ref a.cOutOfPlace)
 mDisk:mg "Disk" = some (.ref a.cDisk)
 mLayout:mg "Layout" = some (.ref a.cLayout)
 mBatch:mg "Batch" = some (.ref a.cBatch)
 xBadRow:PySem.W.excIn K a.cBadRow veMro "ValueError.__new__" = true
 xNoBlock:PySem.W.excIn K a.cNoBlock veMro "ValueError.__new__" = true
 xStopped:PySem.W.excIn K a.cStopped veMro "ValueError.__new__" = true
 xBadDisk:PySem.W.excIn K a.cBadDisk veMro "ValueError.__new__" = true
 xTooMuch:PySem.W.excIn K a.cTooMuch veMro "ValueError.__new__" = true
 xNoRoom:PySem.W.excIn K a.cNoRoom veMro "ValueError.__new__" = true
 xNoNode:PySem.W.excIn K a.cNoNode veMro "ValueError.__new__" = true
 xNoNodes:PySem.W.excIn K a.cNoNodes veMro "ValueError.__new__" = true
 xOutOfPlace:PySem.W.excIn K a.cOutOfPlace veMro "ValueError.__new__" = true
 xTooLong:PySem.W.excIn K a.cTooLong veMro "ValueError.__new__" = true
 kNoRoom:CatK K a.cNoRoom
 sBadRow_NoRoom:PySem.W.mroIn K a.cBadRow (.ref a.cNoRoom)=some false
 sNoBlock_NoRoom:PySem.W.mroIn K a.cNoBlock (.ref a.cNoRoom)=some false
 sStopped_NoRoom:PySem.W.mroIn K a.cStopped (.ref a.cNoRoom)=some false
 sBadDisk_NoRoom:PySem.W.mroIn K a.cBadDisk (.ref a.cNoRoom)=some false
 sTooMuch_NoRoom:PySem.W.mroIn K a.cTooMuch (.ref a.cNoRoom)=some false
 sNoRoom_NoRoom:PySem.W.mroIn K a.cNoRoom (.ref a.cNoRoom)=some true
 sNoNode_NoRoom:PySem.W.mroIn K a.cNoNode (.ref a.cNoRoom)=some false
 sNoNodes_NoRoom:PySem.W.mroIn K a.cNoNodes (.ref a.cNoRoom)=some false
 sOutOfPlace_NoRoom:PySem.W.mroIn K a.cOutOfPlace (.ref a.cNoRoom)=some false
 sTooLong_NoRoom:PySem.W.mroIn K a.cTooLong (.ref a.cNoRoom)=some false
 clDisk:Cls K a.cDisk
 n_kept_rows:NoAttr K a.cDisk "kept_rows"
 n_writes_done:NoAttr K a.cDisk "writes_done"
 n_writes_left:NoAttr K a.cDisk "writes_left"
 mkDisk:Mk K a.cDisk a.fDisk_init
 m_blocks:Meth K a.cDisk "blocks" a.f_blocks
 m_refuse_no_block:Meth K a.cDisk "refuse_no_block" a.f_refuse_no_block
 m_use_up_one:Meth K a.cDisk "use_up_one" a.f_use_up_one
 m_write:Meth K a.cDisk "write" a.f_write
 m_read:Meth K a.cDisk "read" a.f_read
 m_writes:Meth K a.cDisk "writes" a.f_writes
 clLayout:Cls K a.cLayout
 n_many:NoAttr K a.cLayout "many"
 n_tables:NoAttr K a.cLayout "tables"
 n_maps_at:NoAttr K a.cLayout "maps_at"
 n_nodes_at:NoAttr K a.cLayout "nodes_at"
 n_data_at:NoAttr K a.cLayout "data_at"
 mkLayout:Mk K a.cLayout a.fLayout_init
 m_most_node:Meth K a.cLayout "most_node" a.f_most_node
 clBatch:Cls K a.cBatch
 n_disk:NoAttr K a.cBatch "disk"
 n_new_rows:NoAttr K a.cBatch "new_rows"
 mkBatch:Mk K a.cBatch a.fBatch_init
 m_pairs:Meth K a.cBatch "pairs" a.f_pairs
 m_finish:Meth K a.cBatch "finish" a.f_finish
 m_Batch_write:Meth K a.cBatch "write" a.f_Batch_write
 m_Batch_read:Meth K a.cBatch "read" a.f_Batch_read
def Df (P:Program) (w:World) (K:PySem.W.Frag) (mg:Str→Option Value) (base:Heap) (CX:CXT) (n:Nat) (x:Str) (ps:List Str) (sp:Sp):Prop :=
 ∃ f fd,FnOk P w K mg base CX n f fd ps sp∧Binds K fd ps []∧PySem.W.keepIn K (.ref f)=true∧mg x=some (.ref f)
def Mf (P:Program) (w:World) (K:PySem.W.Frag) (mg:Str→Option Value) (base:Heap) (CX:CXT) (n:Nat) (f:Addr) (ps:List Str) (sp:Sp):Prop :=
 ∃ fd,FnOk P w K mg base CX n f fd ps sp∧Binds K fd ps []
end K14
end
section
namespace K14
open PySem L2 BK
theorem nx_hide {t u:TS}{D:Ends}{r:VK}{b c:L2.St→Hp→Prop}{σ:L2.St}{H:Hp}(h:∀ D':Ends,D' = { D with nx:=u D }→t D' σ H):(Ends.mk (zOd t u D) r b c).nx σ H:=h _ rfl
theorem seq_hide {t u:TS}{D:Ends}{σ:L2.St}{H:Hp}(h:∀ D':Ends,D' = { D with nx:=u D }→t D' σ H):zOd t u D σ H:=h _ rfl
section
variable {P:Program}{w:World}{K:PySem.W.Frag}{mg:Str→Option Value}{base:Heap}{f:Addr}{fd:FuncData}{a:Ad}
inductive spWhole' (K:PySem.W.Frag) (vs:List V) (H:Hp) (Q:VK):Prop
 | mk:∀ v lo hi,(vs=[v,.int lo,.int hi])→(Kd K H v)→(Q (.bl (zg v lo hi)) H)→spWhole' K vs H Q
def zCa (K:PySem.W.Frag) (_:Ad):Sp:=fun vs H Q _=>spWhole' K vs H Q
theorem zJp (F:Fun K "is_whole" "is_whole" zB2 f fd) (T:Txt K mg a)  : FnOk P w K mg base CX0 1 f fd ["thing", "least", "most"] (zCa K a):=by
 have nd:=sc_is_whole.nd
 refine F.ok sc_is_whole (fun vs H Q E h=>?_) (fun cdv A outer s H vs Q E hr h=>?_)
 ·obtain ⟨v,lo,hi,rfl,_⟩:=h
  rfl
 obtain ⟨v,lo,hi,rfl,⟨t,ty,e1,e2,_⟩,q⟩:=h
 refine ⟨_,(zG (zV (zKp (zQ (zB9 (K:=K) (T := "int") rfl) rfl T.isinstance zBu (zA (pv 0) (zA (zHh (v:=.ty "int") rfl T.int zPs rfl) zC))) (zKp (zRz (zQ (zB9 (K:=K) (T := "bool") rfl) rfl T.isinstance zBu (zA (pv 0) (zA (zHh (v:=.ty "bool") rfl T.bool zQ6 rfl) zC)))) (zMu (zOq zLd zLd (pv 1) (pv 0) (pv 2))))))),?_⟩
 refine ⟨_,rfl,_,t,_,rfl,ty,e1,_,rfl,?_⟩
 cases v with
 | int i =>
  refine iteT ⟨_,rfl,_,t,_,rfl,ty,e2,_,rfl,_,rfl,iteT ?_⟩
  refine ⟨_,rfl,_,rfl,_,_,rfl,rfl,_,rfl,?_⟩
  refine zSt (fun c=>?_) (fun c=>?_)
  ·refine ⟨_,rfl,_,_,rfl,rfl,?_⟩
   have c':decide (lo≤i)=true:=c
   have:zg (.int i) lo hi=decide (i≤hi):=by show (decide (lo≤i) && decide (i≤hi))=_;rw [c',Bool.true_and]
   rw [this] at q
   exact q
  ·have c':decide (lo≤i)=false:=Bool.eq_false_iff.mpr c
   have:zg (.int i) lo hi=false:=by show (decide (lo≤i) && decide (i≤hi))=_;rw [c',Bool.false_and]
   rw [this] at q
   exact q
 | bl b=>exact iteT ⟨_,rfl,_,t,_,rfl,ty,e2,_,rfl,_,rfl,iteF q⟩
 | _=>exact iteF q
inductive spWord' (K:PySem.W.Frag) (vs:List V) (H:Hp) (Q:VK):Prop
 | mk:∀ v,(vs=[v])→(Kd K H v)→(Q (.bl (zEp v)) H)→spWord' K vs H Q
def zKc (K:PySem.W.Frag) (_:Ad):Sp:=fun vs H Q _=>spWord' K vs H Q
theorem zLg (F:Fun K "is_word" "is_word" zCf f fd) (T:Txt K mg a) (D_is_whole:Df P w K mg base CX0 1 "is_whole" ["thing", "least", "most"] (zCa K a)):FnOk P w K mg base CX0 2 f fd ["thing"] (zKc K a):=by
 obtain ⟨_,_,Gis_whole,bis_whole,kis_whole,mis_whole⟩:=D_is_whole
 have nd:=sc_is_word.nd
 refine F.ok sc_is_word (fun vs H Q E h=>?_) (fun cdv A outer s H vs Q E hr h=>?_)
 ·obtain ⟨v,rfl,_⟩:=h
  rfl
 obtain ⟨v,rfl,kd,q⟩:=h
 refine ⟨_,(zG (zV (zH Gis_whole (hr.mono (by decide)) rfl mis_whole kis_whole bis_whole .nil zw (zA (pv 0) (zA zM (zA (zK (v:=.int 999999999) rfl T.cMOST_WORD.choose_spec ⟨_,rfl⟩) zC)))))),?_⟩
 exact ⟨_,rfl,v,0,999999999,rfl,kd,q⟩
inductive spAre' (K:PySem.W.Frag) (vs:List V) (H:Hp) (Q:VK):Prop
 | mk:∀ v,(vs=[v])→(Kd K H v)→(((isL H v=false∧Q (.bl false) H)∨∃ a xs,v=.ref a∧H a=some (.lst xs)∧xs.length≤1000∧(∀ x ∈ xs,Kd K H x)∧∀ H',Same H H'→Q (.bl (xs.all zEp)) H'))→spAre' K vs H Q
def zMg (K:PySem.W.Frag) (_:Ad):Sp:=fun vs H Q _=>spAre' K vs H Q
theorem zIj (F:Fun K "are_words" "are_words" zBn f fd) (T:Txt K mg a) (D_is_word:Df P w K mg base CX0 2 "is_word" ["thing"] (zKc K a)):FnOk P w K mg base CX0 3 f fd ["thing"] (zMg K a):=by
 obtain ⟨_,_,Gis_word,bis_word,kis_word,mis_word⟩:=D_is_word
 have nd:=sc_are_words.nd
 refine F.ok sc_are_words (fun vs H Q E h=>?_) (fun cdv A outer s H vs Q E hr h=>?_)
 ·obtain ⟨v,rfl,_⟩:=h
  rfl
 obtain ⟨v,rfl,⟨t,ty,e1,e2,e3⟩,ha⟩:=h
 refine ⟨_,(zG (zV (zKp (zQ (zB9 (K:=K) (T := "list") rfl) rfl T.isinstance zBu (zA (pv 0) (zA (zHh (v:=.ty "list") rfl T.list bt_list rfl) zC))) (zMu (zQ (zN1 (K:=K) rfl rfl) rfl T.all zSk (zA (zJk (cl:=[]) (fj:=[]) (by exact ⟨rfl,by decide +kernel,rfl,by decide +kernel,rfl,fun _ h=>(by cases h),by decide +kernel,fun _ h=>(by cases h),by decide +kernel⟩) rfl (zBt (K:=K) rfl (pv 0)) (fun _ _ _=>zGj) (fun _ _ _=>(zH Gis_word (hr.mono (by decide)) rfl mis_word kis_word bis_word .nil zw (zA (pv 0) zC)))) zC)))))),?_⟩
 refine ⟨_,rfl,_,t,_,rfl,ty,e3,_,rfl,?_⟩
 rcases ha with ⟨hl,q⟩ | ⟨p,xs,rfl,ha,hz,hk,q⟩
 ·exact iteF' hl q
 ·have hl:isL H (.ref p)=true:=by show zGo (H _)=_;rw [ha];rfl
  refine iteT' hl ⟨_,rfl,p,rfl,⟨xs,SqL.of ha⟩,zQq (sp:=zKc K a) (g:=zEp) (fun x H' Qf kd hq=>⟨x,rfl,kd,hq⟩) ha hz hk fun acc H' h1 h2 h3=>?_⟩
  refine ⟨acc,xs.map zEp,rfl,SqL.of h3,?_⟩
  rw [zPj]
  exact q H' h2
def RowA (K:PySem.W.Frag) (H:Hp) (v:V) (b:Bool):Prop:=Kd K H v∧((isL H v=false∧b=false)∨∃ a xs,v=.ref a∧H a=some (.lst xs)∧xs.length≤1000∧(∀ x ∈ xs,Kd K H x)∧b=(decide (xs.length=16) && xs.all zEp))
theorem RowA.same {H H':Hp}{v:V}{b:Bool}(h:RowA K H v b) (s:Same H H'):RowA K H' v b:=by
 obtain ⟨kd,h⟩:=h
 refine ⟨kd.same s,?_⟩
 rcases h with ⟨h1,h2⟩ | ⟨p,xs,h1,h2,h3,h4,h5⟩
 ·obtain ⟨t,ty,_⟩:=kd
  exact .inl ⟨by rw [zHp s ty];exact h1,h2⟩
 ·exact .inr ⟨p,xs,h1,s _ _ h2,h3,fun x hx=>(h4 x hx).same s,h5⟩
inductive spIsRow' (K:PySem.W.Frag) (vs:List V) (H:Hp) (Q:VK):Prop
 | mk:∀ v b,(vs=[v])→(RowA K H v b)→(∀ H',Same H H'→Q (.bl b) H')→spIsRow' K vs H Q
def zEh (K:PySem.W.Frag) (_:Ad):Sp:=fun vs H Q _=>spIsRow' K vs H Q
theorem zMw (F:Fun K "is_row" "is_row" zDb f fd) (T:Txt K mg a) (D_are_words:Df P w K mg base CX0 3 "are_words" ["thing"] (zMg K a)):FnOk P w K mg base CX0 4 f fd ["thing"] (zEh K a):=by
 obtain ⟨_,_,Gare_words,bare_words,kare_words,mare_words⟩:=D_are_words
 have nd:=sc_is_row.nd
 refine F.ok sc_is_row (fun vs H Q E h=>?_) (fun cdv A outer s H vs Q E hr h=>?_)
 ·obtain ⟨v,b,rfl,_⟩:=h
  rfl
 obtain ⟨v,b,rfl,⟨kd,ha⟩,q⟩:=h
 refine ⟨_,(zG (zV (zKp (zH Gare_words (hr.mono (by decide)) rfl mare_words kare_words bare_words .nil zw (zA (pv 0) zC)) (zMu (zHg zOt (zQ (zX (K:=K) rfl) rfl T.len zA0 (zA (pv 0) zC)) (zK (v:=.int 16) rfl T.cROW_WORDS.choose_spec ⟨_,rfl⟩) (zu _)))))),?_⟩
 rcases ha with ⟨hl,rfl⟩ | ⟨p,xs,rfl,ha,hz,hk,rfl⟩
 ·exact ⟨_,rfl,_,rfl,kd,.inl ⟨hl,_,rfl,iteF (q _ (Same.refl _))⟩⟩
 ·refine ⟨_,rfl,_,rfl,kd,.inr ⟨p,xs,rfl,ha,hz,hk,fun H' s'=>⟨_,rfl,?_⟩⟩⟩
  have qq:=q H' s'
  refine zSt (fun c=>?_) (fun c=>?_)
  ·refine ⟨_,rfl,p,xs,rfl,.inl (SqL.of (s' _ _ ha)),rfl,?_⟩
   rw [zLu,show decide ((xs.length:Int)=16)=decide (xs.length=16) from decide_eq_decide.mpr (by omega)]
   have c':xs.all zEp=true:=c
   rw [c',Bool.and_true] at qq
   exact qq
  ·have c':xs.all zEp=false:=Bool.eq_false_iff.mpr c
   rw [c',Bool.and_false] at qq
   exact qq
def spEmpty (_:PySem.W.Frag) (_:Ad):Sp:=fun vs H Q _=>vs=[]∧∀ p H',H p=none→Same H H'→H' p=some (.lst ((List.replicate 16 (0:Int)).map V.int))→Q (.ref p) H'
theorem zIh (F:Fun K "empty_row" "empty_row" zBl f fd) (T:Txt K mg a)  : FnOk P w K mg base CX0 1 f fd [] (spEmpty K a):=by
 have nd:=sc_empty_row.nd
 refine F.ok sc_empty_row (fun vs H Q E h=>?_) (fun cdv A outer s H vs Q E hr h=>?_)
 ·obtain ⟨rfl,_⟩:=h
  rfl
 obtain ⟨rfl,q⟩:=h
 refine ⟨_,(zG (zV (zO zEt (zBb (zA zM zC)) (zK (v:=.int 16) rfl T.cROW_WORDS.choose_spec ⟨_,rfl⟩)))),?_⟩
 refine ⟨(by show 1≤sizeLine;decide),fun p hp=>?_⟩
 refine ⟨p,16,[.int 0],rfl,rfl,zB,by decide,by decide,(by show 1 * 16≤sizeLine;decide),fun r hr'=>?_⟩
 have hrH:H r=none:=(zF hp (.lst [.int 0])).free hr'
 exact q r _ hrH ((zF hp _).trans (zF hr' _)) zB
inductive spChanged' (vs:List V) (H:Hp) (Q:VK):Prop
 | mk:∀ (r wd:Addr) (xs ys:List V) (k:Nat),(vs=[.ref r,.int k,.ref wd])→(H r=some (.lst xs))→(H wd=some (.lst ys))→(xs.length≤300)→(ys.length≤300)→(∀ p H',H p=none→Same H H'→H' p=some (.lst (xs.take k ++ ys ++ xs.drop (k + ys.length)))→Q (.ref p) H')→spChanged' vs H Q
def zBr (_:PySem.W.Frag) (_:Ad):Sp:=fun vs H Q _=>spChanged' vs H Q
theorem zLj (F:Fun K "changed" "changed" zCi f fd) (T:Txt K mg a)  : FnOk P w K mg base CX0 1 f fd ["row", "at", "words"] (zBr K a):=by
 have nd:=sc_changed.nd
 refine F.ok sc_changed (fun vs H Q E h=>?_) (fun cdv A outer s H vs Q E hr h=>?_)
 ·obtain ⟨r,wd,xs,ys,k,rfl,_⟩:=h
  rfl
 obtain ⟨r,wd,xs,ys,k,rfl,hr0,hw,z1,z2,q⟩:=h
 refine ⟨_,(zG (zV (zO zCn (zO zCn (zk (zi (K:=K) rfl) (pv 0) zBf (zh (pv 1))) (pv 2)) (zk (zi (K:=K) rfl) (pv 0) (zh (zO zm (pv 1) (zQ (zX (K:=K) rfl) rfl T.len zA0 (zA (pv 2) zC)))) zBf)))),?_⟩
 refine ⟨_,rfl,_,rfl,_,rfl,r,xs,rfl,SqL.of hr0,fun p1 n1=>?_⟩
 rw [zD9]
 have s1:=zF n1 (.lst (xs.take k))
 refine ⟨_,rfl,p1,wd,_,_,rfl,rfl,zB,s1 _ _ hw,small (by rw [List.length_take];omega),fun p2 n2=>?_⟩
 have s2:=s1.trans (zF n2 (.lst (xs.take k ++ ys)))
 refine ⟨_,rfl,_,rfl,_,rfl,wd,ys,rfl,.inl (SqL.of (s2 _ _ hw)),_,_,rfl,rfl,_,rfl,r,xs,rfl,SqL.of (s2 _ _ hr0),fun p3 n3=>?_⟩
 dsimp only
 rw [show (k:Int) + (ys.length:Int)=((k + ys.length:Nat):Int) by omega,zEa]
 have s3:=s2.trans (zF n3 (.lst (xs.drop (k + ys.length))))
 refine ⟨p2,p3,_,_,rfl,rfl,zF n3 _ _ _ zB,zB,small (by rw [List.length_append,List.length_take,List.length_drop];omega),fun p4 n4=>?_⟩
 exact q p4 _ (s3.free n4) (s3.trans (zF n4 _)) zB
end
end K14
end
section
namespace K14
open PySem L2 BK
section
variable {P:Program}{w:World}{K:PySem.W.Frag}{mg:Str→Option Value}{base:Heap}{f:Addr}{fd:FuncData}{a:Ad}
inductive spInit' (K:PySem.W.Frag) (a:Ad) (vs:List V) (H:Hp) (Q:VK) (E:XK):Prop
 | mk:∀ (x dx:Addr) (v:V),(vs=[.ref x,v])→(H x=some (.ins a.cDisk dx []))→(Kd K H v)→(((∃ m:Nat,v=.int m∧24≤m∧m≤96∧∀ kr H',H kr=none→Chg [x] H H'→DiskAt a.cDisk H' x kr (List.replicate m (List.replicate 16 0)) 0 none→Q .non H')∨(zg v 24 96=false∧E (.ref a.cBadDisk) none H)))→spInit' K a vs H Q E
def zMc (K:PySem.W.Frag) (a:Ad):Sp:=fun vs H Q E=>spInit' K a vs H Q E
theorem zP3 {H:Hp}{vs:List V}{n:Nat}{acc:Addr}(hl:vs.length=n) (g:Nat→List Int) (h:∀ i v,vs[i]? = some v→∃ r,v=.ref r∧r≠acc∧H r=some (.lst ((g i).map V.int))):∃ rs:List Addr,vs=rs.map V.ref∧acc ∉ rs∧RowsAt H rs ((List.range n).map g):=by
 refine ⟨vs.map fun v=>match v with | .ref r=>r | _=>0,?_,?_,by simp [hl],fun i r row h1 h2=>?_⟩
 ·rw [List.map_map]
  conv=>lhs;rw [← List.map_id vs]
  refine List.map_congr_left fun v hv=>?_
  obtain ⟨i,hi,e⟩:=List.mem_iff_getElem.mp hv
  obtain ⟨r,e1,_⟩:=h i v (by rw [← e];exact List.getElem?_eq_getElem hi)
  subst e1;rfl
 ·intro hm
  obtain ⟨v,hv,e⟩:=List.mem_map.mp hm
  obtain ⟨i,hi,e'⟩:=List.mem_iff_getElem.mp hv
  obtain ⟨r,e1,e2,_⟩:=h i v (by rw [← e'];exact List.getElem?_eq_getElem hi)
  subst e1;exact e2 e
 ·rw [List.getElem?_map] at h1 h2
  cases q:vs[i]? with
  | none=>rw [q] at h1;cases h1
  | some v =>
   obtain ⟨r',e1,_,e3⟩:=h i v q
   rw [q] at h1
   subst e1
   cases h1
   have hi:i < n:=by rw [← hl];exact (List.getElem?_eq_some_iff.mp q).1
   rw [List.getElem?_range hi] at h2
   cases h2
   exact e3
theorem good_zero:zY (List.replicate 16 0):=⟨by simp,fun x hx=>by rw [List.eq_of_mem_replicate hx];decide⟩
theorem zM4 (n:Nat) (r:List Int):(List.range n).map (fun _=>r)=List.replicate n r:=by
 rw [List.map_const'];simp
theorem zEw (F:Fun K "__init__" "Disk.__init__" zAf f fd) (T:Txt K mg a) (D_is_whole:Df P w K mg base CX0 1 "is_whole" ["thing", "least", "most"] (zCa K a)) (D_empty_row:Df P w K mg base CX0 1 "empty_row" [] (spEmpty K a)):FnOk P w K mg base (CXE P w) 2 f fd ["self", "many"] (zMc K a):=by
 obtain ⟨_,_,Gis_whole,bis_whole,kis_whole,mis_whole⟩:=D_is_whole
 obtain ⟨_,_,Gempty_row,bempty_row,kempty_row,mempty_row⟩:=D_empty_row
 have nd:=sc_Disk___init__.nd
 refine F.okE sc_Disk___init__ (fun vs H Q E h=>?_) (fun cdv A outer s H vs Q E hr hA h=>?_)
 ·obtain ⟨x,dx,v,rfl,_⟩:=h
  rfl
 obtain ⟨x,dx,v,rfl,hx,kd,hq⟩:=h
 refine ⟨_,(pss_cons (zAp (zBs (zBa (zH Gis_whole (hr.mono (by decide)) rfl mis_whole kis_whole bis_whole .nil zw (zA (pv 1) (zA (zK (v:=.int 24) rfl T.cLEAST_BLOCKS.choose_spec ⟨_,rfl⟩) (zA (zK (v:=.int 96) rfl T.cMOST_BLOCKS.choose_spec ⟨_,rfl⟩) zC)))))) (zG (za (zAl (fun _ _ _ h=>h)) rfl hA rfl T.mBadDisk T.xBadDisk (zA zAr zC))) zU)
  (pss_cons (zCl (pv 0) (zJk (cl:=[]) (fj:=[]) (by exact ⟨rfl,by decide +kernel,rfl,by decide +kernel,rfl,fun _ h=>(by cases h),by decide +kernel,fun _ h=>(by cases h),by decide +kernel⟩) rfl (zDw rfl T.range (zA (pv 1) zC)) (fun _ _ _=>zGj) (fun _ _ _=>(zDx Gempty_row (hr.mono (by decide)) rfl mempty_row kempty_row bempty_row .nil zw))) rfl)
  (pss_cons (zCl (pv 0) zM rfl)
  (zG (zCl (pv 0) zKm rfl))))),?_⟩
 refine ⟨_,rfl,v,24,96,rfl,kd,_,rfl,?_⟩
 rcases hq with ⟨m,rfl,h1,h2,q⟩ | ⟨hw,q⟩
 ·have hw:zg (.int (m:Int)) 24 96=true:=by show (decide ((24:Int)≤m) && decide ((m:Int)≤96))=true;rw [decide_eq_true (by omega),decide_eq_true (by omega)];rfl
  refine iteF' (by rw [hw];rfl) ?_
  refine ⟨_,rfl,_,rfl,by omega,by omega,?_⟩
  rw [show ((m:Int)).toNat=m by omega]
  refine zQp (n:=m) (by omega) (fun acc H i v=>∃ r,v=.ref r∧r≠acc∧H r=some (.lst ((List.replicate 16 (0:Int)).map V.int))) ?_ ?_ ?_
  ·rintro acc H H' i v k ⟨r,e1,e2,e3⟩
   exact ⟨r,e1,e2,k _ _ e2 e3⟩
  ·intro acc i H' Qf hi h0 s1 ha k
   exact ⟨rfl,fun p H3 np s3 hp=>k _ _ s3 ⟨p,rfl,fun z=>ha (by rw [← z];exact np),hp⟩⟩
  ·intro acc vs H' h0 s1 hacc hl hg
   obtain ⟨rs,rfl,nm,hR⟩:=zP3 hl (fun _=>List.replicate 16 0) hg
   rw [zM4] at hR
   have hx':=s1 _ _ hx
   have nx:x≠acc:=ze hx' hacc (fun z=>by cases z)
   refine ⟨_,rfl,x,a.cDisk,dx,_,rfl,hx',T.clDisk,T.n_kept_rows,by decide,?_⟩
   refine ⟨_,rfl,x,a.cDisk,dx,_,rfl,zB,T.clDisk,T.n_writes_done,(by show 1 < 1000;decide),?_⟩
   rw [zEe]
   refine ⟨_,rfl,x,a.cDisk,dx,_,rfl,zB,T.clDisk,T.n_writes_left,(by show 2 < 1000;decide),?_⟩
   rw [zEe]
   have c:Chg [x] H (upd H' x (.ins a.cDisk dx [("kept_rows", .ref acc),("writes_done", .int 0),("writes_left", .non)])):=(Chg.of s1).upd (by simp) _
   refine q acc _ h0 c ⟨⟨dx,rs,zB,by rw [upd_ne (Ne.symm nx)];exact hacc,hR.1,fun i r row e1 e2=>?_⟩,by simp;omega,by simp;omega,fun row hrow=>by rw [List.eq_of_mem_replicate hrow];exact good_zero⟩
   have hr:=hR.2 i r row e1 e2
   rw [upd_ne (ze hr hx' (fun z=>by cases z))]
   exact hr
 ·exact iteT' (by rw [hw];rfl) ⟨(by show 1≤1000;decide),q⟩
inductive spBlocks' (a:Ad) (vs:List V) (H:Hp) (Q:VK):Prop
 | mk:∀ (d kr:Addr) (R:List (List Int)) (n:Int) (l:Option Int),(vs=[.ref d])→(DiskAt a.cDisk H d kr R n l)→(Q (.int R.length) H)→spBlocks' a vs H Q
def zE0 (_:PySem.W.Frag) (a:Ad):Sp:=fun vs H Q _=>spBlocks' a vs H Q
theorem zF1 (F:Fun K "blocks" "Disk.blocks" zAx f fd) (T:Txt K mg a)  : FnOk P w K mg base (CXE P w) 1 f fd ["self"] (zE0 K a):=by
 have nd:=sc_Disk_blocks.nd
 refine F.okE sc_Disk_blocks (fun vs H Q E h=>?_) (fun cdv A outer s H vs Q E hr hA h=>?_)
 ·obtain ⟨d,kr,R,n,l,rfl,_⟩:=h
  rfl
 obtain ⟨d,kr,R,n,l,rfl,D,q⟩:=h
 obtain ⟨dx,rs,h1,h2,h3⟩:=D.ex
 refine ⟨_,(zG (zV (zQ (zX (K:=K) rfl) rfl T.len zA0 (zA (zS (K:=K) rfl (pv 0) rfl) zC)))),?_⟩
 refine ⟨_,rfl,d,a.cDisk,dx,_,_,rfl,h1,T.clDisk,T.n_kept_rows,rfl,kr,_,rfl,.inl (SqL.of h2),?_⟩
 rw [List.length_map,h3.1]
 exact q
inductive spRefuse' (K:PySem.W.Frag) (a:Ad) (vs:List V) (H:Hp) (Q:VK) (E:XK):Prop
 | mk:∀ (d kr:Addr) (R:List (List Int)) (n:Int) (l:Option Int) (v:V),(vs=[.ref d,v])→(DiskAt a.cDisk H d kr R n l)→(Kd K H v)→(if zg v 0 ((R.length:Int) - 1)=true then Q .non H else E (.ref a.cNoBlock) none H)→spRefuse' K a vs H Q E
def zEy (K:PySem.W.Frag) (a:Ad):Sp:=fun vs H Q E=>spRefuse' K a vs H Q E
theorem zCx (F:Fun K "refuse_no_block" "Disk.refuse_no_block" zW f fd) (T:Txt K mg a) (D_is_whole:Df P w K mg base CX0 1 "is_whole" ["thing", "least", "most"] (zCa K a)) (M_Disk_blocks:Mf P w K mg base (CXE P w) 1 a.f_blocks ["self"] (zE0 K a)):FnOk P w K mg base (CXE P w) 2 f fd ["self", "block"] (zEy K a):=by
 obtain ⟨_,_,Gis_whole,bis_whole,kis_whole,mis_whole⟩:=D_is_whole
 obtain ⟨_,G_blocks,b_blocks⟩:=M_Disk_blocks
 have nd:=sc_Disk_refuse_no_block.nd
 refine F.okE sc_Disk_refuse_no_block (fun vs H Q E h=>?_) (fun cdv A outer s H vs Q E hr hA h=>?_)
 ·obtain ⟨d,kr,R,n,l,v,rfl,_⟩:=h
  rfl
 obtain ⟨d,kr,R,n,l,v,rfl,D,kd,q⟩:=h
 obtain ⟨dx,h1⟩:=D.at
 refine ⟨_,(zG (zAp (zBs (zBa (zH Gis_whole (hr.mono (by decide)) rfl mis_whole kis_whole bis_whole .nil zw (zA (pv 1) (zA zM (zA (zO zAg (zBq (pv 0) T.clDisk T.m_blocks G_blocks (hr.mono (by decide)) b_blocks .nil (zE (fun _ _ _ h=>h)) (hcm:=(.inr hA))) zM) zC)))))) (zG (za (zAl (fun _ _ _ h=>h)) rfl hA rfl T.mNoBlock T.xNoBlock (zA zAr zC))) zU)),?_⟩
 refine ⟨_,rfl,_,rfl,d,dx,_,rfl,h1,rfl,d,kr,R,n,l,rfl,D,_,_,rfl,rfl,v,0,_,rfl,kd,_,rfl,?_⟩
 by_cases hw:zg v 0 ((R.length:Int) - 1)=true
 ·rw [if_pos hw] at q
  exact iteF' (by rw [hw];rfl) q
 ·rw [if_neg hw] at q
  exact iteT' (by rw [Bool.eq_false_iff.mpr hw];rfl) ⟨(by show 1≤1000;decide),q⟩
inductive spRead' (K:PySem.W.Frag) (a:Ad) (vs:List V) (H:Hp) (Q:VK) (E:XK):Prop
 | mk:∀ (d kr:Addr) (R:List (List Int)) (n:Int) (l:Option Int) (v:V),(vs=[.ref d,v])→(DiskAt a.cDisk H d kr R n l)→(Kd K H v)→(((∃ (b:Nat) (row:List Int),v=.int b∧R[b]? = some row∧∀ p H',H p=none→Same H H'→H' p=some (.lst (row.map V.int))→Q (.ref p) H')∨(zg v 0 ((R.length:Int) - 1)=false∧E (.ref a.cNoBlock) none H)))→spRead' K a vs H Q E
def zKd (K:PySem.W.Frag) (a:Ad):Sp:=fun vs H Q E=>spRead' K a vs H Q E
theorem zGx {b m:Nat}(h:b < m):zg (.int (b:Int)) 0 ((m:Int) - 1)=true:=by
 show (decide ((0:Int)≤b) && decide ((b:Int)≤(m:Int) - 1))=true
 rw [decide_eq_true (by omega),decide_eq_true (by omega)];rfl
theorem zIl (F:Fun K "read" "Disk.read" zBp f fd) (T:Txt K mg a) (M_Disk_refuse_no_block:Mf P w K mg base (CXE P w) 2 a.f_refuse_no_block ["self", "block"] (zEy K a)):FnOk P w K mg base (CXE P w) 3 f fd ["self", "block"] (zKd K a):=by
 obtain ⟨_,G_refuse_no_block,b_refuse_no_block⟩:=M_Disk_refuse_no_block
 have nd:=sc_Disk_read.nd
 refine F.okE sc_Disk_read (fun vs H Q E h=>?_) (fun cdv A outer s H vs Q E hr hA h=>?_)
 ·obtain ⟨d,kr,R,n,l,v,rfl,_⟩:=h
  rfl
 obtain ⟨d,kr,R,n,l,v,rfl,D,kd,hq⟩:=h
 obtain ⟨dx,rs,h1,h2,h3⟩:=D.ex
 refine ⟨_,(pss_cons (zT (zy (pv 0) T.clDisk T.m_refuse_no_block G_refuse_no_block (hr.mono (by decide)) b_refuse_no_block .nil (zE (fun _ _ _ h=>h)) (zA (pv 1) zC) (hcm:=(.inr hA))))
  (zG (zV (zCm (zCq (K:=K) rfl) rfl T.list bt_list (zA (zC7 (zAb (K:=K) rfl) (zS (K:=K) rfl (pv 0) rfl) (pv 1) (fun _ _=>rfl)) zC))))),?_⟩
 refine ⟨_,rfl,d,dx,_,rfl,h1,rfl,_,rfl,d,kr,R,n,l,v,rfl,D,kd,?_⟩
 rcases hq with ⟨b,row,rfl,hb,q⟩ | ⟨hw,q⟩
 ·have hb':b < R.length:=(List.getElem?_eq_some_iff.mp hb).1
  refine iteT' (zGx hb') ?_
  obtain ⟨r,e1,e2⟩:=h3.get hb'
  rw [show R[b]=row by rw [List.getElem?_eq_getElem hb'] at hb;exact Option.some.inj hb] at e2
  have e3:atI (rs.map V.ref) (b:Int)=some (.ref r):=zC0 (by rw [List.getElem?_map,e1];rfl)
  refine ⟨_,rfl,d,a.cDisk,dx,_,_,rfl,h1,T.clDisk,T.n_kept_rows,rfl,_,rfl,kr,_,_,.ref r,rfl,rfl,SqL.of h2,e3,r,_,rfl,.inl (SqL.of e2),fun p np=>?_⟩
  exact q p _ np (zF np _) zB
 ·exact iteF' hw q
inductive spWrites' (a:Ad) (vs:List V) (H:Hp) (Q:VK):Prop
 | mk:∀ (d kr:Addr) (R:List (List Int)) (n:Int) (l:Option Int),(vs=[.ref d])→(DiskAt a.cDisk H d kr R n l)→(Q (.int n) H)→spWrites' a vs H Q
def zG3 (_:PySem.W.Frag) (a:Ad):Sp:=fun vs H Q _=>spWrites' a vs H Q
theorem zF0 (F:Fun K "writes" "Disk.writes" zAw f fd) (T:Txt K mg a)  : FnOk P w K mg base CX0 1 f fd ["self"] (zG3 K a):=by
 have nd:=sc_Disk_writes.nd
 refine F.ok sc_Disk_writes (fun vs H Q E h=>?_) (fun cdv A outer s H vs Q E hr h=>?_)
 ·obtain ⟨d,kr,R,n,l,rfl,_⟩:=h
  rfl
 obtain ⟨d,kr,R,n,l,rfl,D,q⟩:=h
 obtain ⟨dx,h1⟩:=D.at
 refine ⟨_,(zG (zV (zS (K:=K) rfl (pv 0) rfl))),?_⟩
 exact ⟨_,rfl,d,a.cDisk,dx,_,_,rfl,h1,T.clDisk,T.n_writes_done,rfl,q⟩
inductive spUseUp' (a:Ad) (vs:List V) (H:Hp) (Q:VK) (E:XK):Prop
 | mk:∀ (d kr:Addr) (R:List (List Int)) (n:Int) (l:Option Int),(vs=[.ref d])→(DiskAt a.cDisk H d kr R n l)→(match l with
 | none=>Q .non H
 | some k=>(k < 1→E (.ref a.cStopped) none H)∧(¬ k < 1→∀ H',Chg [d] H H'→DiskAt a.cDisk H' d kr R n (some (k - 1))→Q .non H'))→spUseUp' a vs H Q E
def zJb (_:PySem.W.Frag) (a:Ad):Sp:=fun vs H Q E=>spUseUp' a vs H Q E
theorem zD2 (F:Fun K "use_up_one" "Disk.use_up_one" zt f fd) (T:Txt K mg a)  : FnOk P w K mg base (CXE P w) 1 f fd ["self"] (zJb K a):=by
 have nd:=sc_Disk_use_up_one.nd
 refine F.okE sc_Disk_use_up_one (fun vs H Q E h=>?_) (fun cdv A outer s H vs Q E hr hA h=>?_)
 ·obtain ⟨d,kr,R,n,l,rfl,_⟩:=h
  rfl
 obtain ⟨d,kr,R,n,l,rfl,D,q⟩:=h
 obtain ⟨dx,h1⟩:=D.at
 refine ⟨_,(pss_cons (zAp (zf zR4 (zS (K:=K) rfl (pv 0) rfl) zKm (zu _)) (zG zQa) zU)
  (pss_cons (zAp (zf zId (zS (K:=K) rfl (pv 0) rfl) zM (zu _)) (zG (za (zAl (fun _ _ _ h=>h)) rfl hA rfl T.mStopped T.xStopped (zA zAr zC))) zU)
  (zG (zCl (pv 0) (zO zAg (zS (K:=K) rfl (pv 0) rfl) zM) rfl)))),?_⟩
 cases l with
 | none=>exact ⟨_,rfl,d,a.cDisk,dx,_,_,rfl,h1,T.clDisk,T.n_writes_left,rfl,rfl,_,rfl,iteT' (by rfl) q⟩
 | some k =>
  refine ⟨_,rfl,d,a.cDisk,dx,_,_,rfl,h1,T.clDisk,T.n_writes_left,rfl,rfl,_,rfl,iteF' (by rfl) ?_⟩
  refine ⟨_,rfl,d,a.cDisk,dx,_,_,rfl,h1,T.clDisk,T.n_writes_left,rfl,_,_,rfl,rfl,_,rfl,?_⟩
  refine zSt (fun c=>⟨(by show 1≤1000;decide),q.1 (of_decide_eq_true c)⟩) (fun c=>?_)
  refine ⟨_,rfl,d,a.cDisk,dx,_,_,rfl,h1,T.clDisk,T.n_writes_left,rfl,_,_,rfl,rfl,_,rfl,d,a.cDisk,dx,_,rfl,h1,T.clDisk,T.n_writes_left,(by show 3 < 1000;decide),?_⟩
  exact q.2 (of_decide_eq_false (Bool.eq_false_iff.mpr c)) _ ((Chg.of (Same.refl _)).upd (by simp) _) (D.put (n':=n) (l':=some (k - 1)) h1)
inductive spWrite0' (K:PySem.W.Frag) (a:Ad) (vs:List V) (H:Hp) (Q:VK) (E:XK):Prop
  | mk:∀ (d kr:Addr) (R:List (List Int)) (n:Int) (l:Option Int) (v r:V) (ok:Bool),(vs=[.ref d,v,r])→(DiskAt a.cDisk H d kr R n l)→(Kd K H v)→(RowA K H r ok)→(((zg v 0 ((R.length:Int) - 1)=false∧E (.ref a.cNoBlock) none H) ∨
   (zg v 0 ((R.length:Int) - 1)=true∧ok=false∧∀ H',Same H H'→E (.ref a.cBadRow) none H') ∨
   (zg v 0 ((R.length:Int) - 1)=true∧ok=true∧(∃ k,l=some k∧k < 1)∧∀ H',Same H H'→E (.ref a.cStopped) none H') ∨
   (∃ (b:Nat) (p:Addr) (row:List Int),v=.int b∧b < R.length∧r=.ref p∧H p=some (.lst (row.map V.int))∧zY row∧(∀ k,l=some k→¬ k < 1) ∧
     ∀ H',Chg [d,kr] H H'→DiskAt a.cDisk H' d kr (R.set b row) (n + 1) (l.map (· - 1))→(∀ u,H u≠none→NoRowAt H kr u→NoRowAt H' kr u)→Q .non H')))→spWrite0' K a vs H Q E
def zOf (K:PySem.W.Frag) (a:Ad):Sp:=fun vs H Q E=>spWrite0' K a vs H Q E
@[irreducible] def zCr (K:PySem.W.Frag) (a:Ad):Sp:=zOf K a
theorem zBe {H:Hp}{p:Addr}{row:List Int}(hp:H p=some (.lst (row.map V.int))) (g:zY row):RowA K H (.ref p) true:=by
 refine ⟨.lst hp,.inr ⟨p,_,rfl,hp,by rw [List.length_map,g.1];decide,fun x hx=>?_,?_⟩⟩
 ·obtain ⟨i,_,rfl⟩:=List.mem_map.mp hx
  exact .int i
 ·rw [List.length_map,g.1,zCo row g.2];rfl
theorem zHm (F:Fun K "write" "Disk.write" zA7 f fd) (T:Txt K mg a) (M_Disk_refuse_no_block:Mf P w K mg base (CXE P w) 2 a.f_refuse_no_block ["self", "block"] (zEy K a)) (M_Disk_use_up_one:Mf P w K mg base (CXE P w) 1 a.f_use_up_one ["self"] (zJb K a)) (D_is_row:Df P w K mg base CX0 4 "is_row" ["thing"] (zEh K a)):FnOk P w K mg base (CXE P w) 5 f fd ["self", "block", "row"] (zCr K a):=by
 obtain ⟨_,G_refuse_no_block,b_refuse_no_block⟩:=M_Disk_refuse_no_block
 obtain ⟨_,G_use_up_one,b_use_up_one⟩:=M_Disk_use_up_one
 obtain ⟨_,_,Gis_row,bis_row,kis_row,mis_row⟩:=D_is_row
 have nd:=sc_Disk_write.nd
 refine F.okE sc_Disk_write (fun vs H Q E h=>?_) (fun cdv A outer s H vs Q E hr hA h=>?_)
 ·unfold zCr at h
  obtain ⟨d,kr,R,n,l,v,r,ok,rfl,_⟩:=h
  rfl
 unfold zCr at h
 obtain ⟨d,kr,R,n,l,v,r,ok,rfl,D,kd,rA,hq⟩:=h
 obtain ⟨dx,h1⟩:=D.at
 refine ⟨_,(pss_cons (zT (zy (pv 0) T.clDisk T.m_refuse_no_block G_refuse_no_block (hr.mono (by decide)) b_refuse_no_block .nil (zE (fun _ _ _ h=>h)) (zA (pv 1) zC) (hcm:=(.inr hA))))
  (pss_cons (zAp (zBs (zBa (zH Gis_row (hr.mono (by decide)) rfl mis_row kis_row bis_row .nil zw (zA (pv 2) zC)))) (zG (za (zAl (fun _ _ _ h=>h)) rfl hA rfl T.mBadRow T.xBadRow (zA zAr zC))) zU)
  (pss_cons (zT (zBq (pv 0) T.clDisk T.m_use_up_one G_use_up_one (hr.mono (by decide)) b_use_up_one .nil (zE (fun _ _ _ h=>h)) (hcm:=(.inr hA))))
  (pss_cons (zPo (zCm (zCq (K:=K) rfl) rfl T.list bt_list (zA (pv 2) zC)) (zRw (zS (K:=K) rfl (pv 0) rfl) (pv 1) zOi))
  (zG (zCl (pv 0) (zO zm (zS (K:=K) rfl (pv 0) rfl) zM) rfl)))))),?_⟩
 refine ⟨_,rfl,d,dx,_,rfl,h1,rfl,_,rfl,d,kr,R,n,l,v,rfl,D,kd,?_⟩
 rcases hq with ⟨hw,q⟩ | ⟨hw,rfl,q⟩ | ⟨hw,rfl,⟨k,rfl,hk⟩,q⟩ | ⟨b,p,row,rfl,hb,rfl,hp,g,hl,q⟩
 ·exact iteF' hw q
 ·refine iteT' hw ⟨_,rfl,r,false,rfl,rA,fun H1 s1=>⟨_,rfl,iteT' (by rfl) ⟨(by show 1≤1000;decide),q H1 s1⟩⟩⟩
 ·refine iteT' hw ⟨_,rfl,r,true,rfl,rA,fun H1 s1=>⟨_,rfl,iteF' (by rfl) ?_⟩⟩
  exact ⟨_,rfl,d,dx,_,rfl,s1 _ _ h1,rfl,d,kr,R,n,some k,rfl,D.same s1,fun _=>q H1 s1,fun z=>absurd hk z⟩
 ·refine iteT' (zGx hb) ⟨_,rfl,_,ok,rfl,rA,fun H1 s1=>?_⟩
  have hok:ok=true:=by
   obtain ⟨_,h⟩:=rA
   rcases h with ⟨hL,_⟩ | ⟨p',xs,e1,e2,_,_,e5⟩
   ·exfalso
    have:isL H (.ref p)=true:=by show zGo (H _)=_;rw [hp];rfl
    rw [this] at hL;cases hL
   ·cases e1
    rw [hp] at e2
    cases e2
    rw [e5,List.length_map,g.1,zCo row g.2];rfl
  subst hok
  refine ⟨_,rfl,iteF' (by rfl) ?_⟩
  have D1:=D.same s1
  have fin:∀ H2 l',Chg [d] H1 H2→DiskAt a.cDisk H2 d kr R n l'→l'=l.map (· - 1)→zOd (zRm (tCB (fun xs H Q=>∃ p ys,xs=[.ref p]∧(SqL K H p ys∨SqT K H p ys)∧∀ l,H l=none→Q (.ref l) (upd H l (.lst ys))) (zK7 (zLw 2) zPm)) (zTx (zRh K (zLw 0) "kept_rows") (zLw 1) zRr)) (zTs K (zLw 0) (tOp (rI0 fun i j=>.int (i + j)) (zRh K (zLw 0) "writes_done") (tC (.int 1))) "writes_done") { nx:=fun _ H'=>Q .non H',rt:=Q } (zE7 ["self", "block", "row"] [.ref d,.int b,.ref p]) H2:=by
   rintro H2 l' c2 D2 rfl
   have hp2:H2 p=some (.lst (row.map V.int)):=c2 _ _ (s1 _ _ hp) (by
    simp only [List.mem_singleton]
    exact ze hp h1 (fun z=>by cases z))
   obtain ⟨dx2,rs,g1,g2,g3⟩:=D2.ex
   refine ⟨_,rfl,p,_,rfl,.inl (SqL.of hp2),fun q1 nq=>?_⟩
   have s3:=zF nq (.lst (row.map V.int))
   have g1':=s3 _ _ g1
   have g2':=s3 _ _ g2
   have nkd:kr≠d:=ze g2 g1 (fun z=>by cases z)
   refine ⟨_,rfl,d,a.cDisk,dx2,_,_,rfl,g1',T.clDisk,T.n_kept_rows,rfl,_,rfl,kr,_,_,b,rfl,rfl,g2',?_,?_⟩
   ·rw [List.length_map,g3.1];unfold ixN;rw [if_pos (by omega),if_pos (by omega)];simp
   ·rw [show (rs.map V.ref).set b (.ref q1)=(rs.set b q1).map V.ref by rw [List.map_set]]
    have g1'':(upd (upd H2 q1 (.lst (row.map V.int))) kr (.lst ((rs.set b q1).map V.ref))) d=some (.ins a.cDisk dx2 [("kept_rows", .ref kr),("writes_done", .int n),("writes_left", lv (l.map (· - 1)))]):=by rw [upd_ne (Ne.symm nkd)];exact g1'
    refine ⟨_,rfl,d,a.cDisk,dx2,_,_,rfl,g1'',T.clDisk,T.n_writes_done,rfl,_,_,rfl,rfl,_,rfl,d,a.cDisk,dx2,_,rfl,g1'',T.clDisk,T.n_writes_done,(by show 3 < 1000;decide),?_⟩
    have cA:Chg [d,kr] H (upd (upd (upd H2 q1 (.lst (row.map V.int))) kr (.lst ((rs.set b q1).map V.ref))) d (.ins a.cDisk dx2 [("kept_rows", .ref kr),("writes_done", .int (n + 1)),("writes_left", lv (l.map (· - 1)))])) :=
     (((((Chg.of s1).trans (c2.mono (by simp))).new nq _)).upd (by simp) _).upd (by simp) _
    refine q _ cA ⟨⟨dx2,rs.set b q1,zB,?_,?_⟩,by rw [List.length_set];exact D.lo,by rw [List.length_set];exact D.hi,fun x hx=>?_⟩ (fun u hu nu rs' hrs' hm=>?_)
    ·rw [upd_ne nkd,zB]
    ·have nq1:q1≠kr:=Ne.symm (zJ g2 nq)
     have nq2:q1≠d:=Ne.symm (zJ g1 nq)
     refine RowsAt.set (row:=row) ⟨g3.1,fun i r x e1 e2=>?_⟩ b ?_
     ·have hr:=g3.2 i r x e1 e2
      have gx:=D.good x (List.mem_of_getElem? e2)
      rw [upd_ne (ze hr g1 (fun z=>by cases z)),upd_ne (ze hr g2 (fun z=>zEk gx.1 z.symm))]
      exact s3 _ _ hr
     ·rw [upd_ne nq2,upd_ne nq1,zB]
    ·rcases List.mem_or_eq_of_mem_set hx with z | z
     ·exact D.good x z
     ·rw [z];exact g
    ·rw [upd_ne nkd,zB] at hrs'
     have er:rs.set b q1=rs':=zDe (by injection hrs' with z;injection z)
     subst er
     rcases List.mem_or_eq_of_mem_set hm with z | z
     ·have nu2:NoRowAt H2 kr u:=(nu.chg D (Chg.of s1 (S:=[])) (by simp)).chg D1 c2 (by simp only [List.mem_singleton];exact nkd)
      exact nu2 rs g2 z
     ·subst z
      cases hu':H u with
      | none=>exact hu hu'
      | some o =>
       by_cases hud:u=d
       ·subst hud;rw [g1] at nq;cases nq
       ·have:=c2 _ _ (s1 _ _ hu') (by simp only [List.mem_singleton];exact hud)
        rw [this] at nq;cases nq
  refine ⟨_,rfl,d,dx,_,rfl,s1 _ _ h1,rfl,d,kr,R,n,l,rfl,D1,?_⟩
  cases l with
  | none=>exact fin H1 none (Chg.of (Same.refl _)) D1 rfl
  | some k=>exact ⟨fun z=>absurd z (hl k rfl),fun _ H2 c2 D2=>fin H2 (some (k - 1)) c2 D2 rfl⟩
end
end K14
end
section
namespace K14
open PySem L2 BK
section
variable {P:Program}{w:World}{K:PySem.W.Frag}{mg:Str→Option Value}{base:Heap}{f:Addr}{fd:FuncData}{a:Ad}
def zP (m:Int):Int:=17 + (m + 16 - 1) / 16
def zI (m t:Int):Int:=zP m + t
def zFw (m t:Int):Prop:=24≤m∧m≤96∧1≤t∧t≤8∧zI m t < m
def LayAt (C:Addr) (H:Hp) (x:Addr) (m t:Int):Prop:=∃ dx,H x=some (.ins C dx [("many", .int m),("tables", .int t),("maps_at", .int 17),("nodes_at", .int (zP m)),("data_at", .int (zI m t))])
theorem LayAt.chg {C x:Addr}{H H':Hp}{m t:Int}{S:List Addr}(h:LayAt C H x m t) (c:Chg S H H') (n:x ∉ S):LayAt C H' x m t:=let ⟨dx,e⟩:=h;⟨dx,c _ _ e n⟩
theorem LayAt.same {C x:Addr}{H H':Hp}{m t:Int}(h:LayAt C H x m t) (s:Same H H'):LayAt C H' x m t:=let ⟨dx,e⟩:=h;⟨dx,s _ _ e⟩
inductive spLInit' (K:PySem.W.Frag) (a:Ad) (vs:List V) (H:Hp) (Q:VK) (E:XK):Prop
  | mk:∀ (x dx:Addr) (v u:V),(vs=[.ref x,v,u])→(H x=some (.ins a.cLayout dx []))→(Kd K H v)→(Kd K H u)→((((zg v 24 96 && zg u 1 8)=false∧E (.ref a.cBadDisk) none H) ∨
   (∃ m t:Int,v=.int m∧u=.int t∧24≤m∧m≤96∧1≤t∧t≤8∧(m≤zI m t→∀ H',Chg [x] H H'→E (.ref a.cNoRoom) none H')∧(zI m t < m→∀ H',Chg [x] H H'→LayAt a.cLayout H' x m t→Q .non H'))))→spLInit' K a vs H Q E
def zJd (K:PySem.W.Frag) (a:Ad):Sp:=fun vs H Q E=>spLInit' K a vs H Q E
theorem zDa {i lo hi:Int}(h1:lo≤i) (h2:i≤hi):zg (.int i) lo hi=true:=by
 show (decide (lo≤i) && decide (i≤hi))=true
 rw [decide_eq_true h1,decide_eq_true h2];rfl
theorem zD1 (F:Fun K "__init__" "Layout.__init__" zr f fd) (T:Txt K mg a) (D_is_whole:Df P w K mg base CX0 1 "is_whole" ["thing", "least", "most"] (zCa K a)):FnOk P w K mg base (CXE P w) 2 f fd ["self", "many", "tables"] (zJd K a):=by
 obtain ⟨_,_,Gis_whole,bis_whole,kis_whole,mis_whole⟩:=D_is_whole
 have nd:=sc_Layout___init__.nd
 refine F.okE sc_Layout___init__ (fun vs H Q E h=>?_) (fun cdv A outer s H vs Q E hr hA h=>?_)
 ·obtain ⟨x,dx,v,u,rfl,_⟩:=h
  rfl
 obtain ⟨x,dx,v,u,rfl,hx,kv,ku,hq⟩:=h
 refine ⟨_,(pss_cons (zAp (zBs (zBa (zH Gis_whole (hr.mono (by decide)) rfl mis_whole kis_whole bis_whole .nil zw (zA (pv 1) (zA (zK (v:=.int 24) rfl T.cLEAST_BLOCKS.choose_spec ⟨_,rfl⟩) (zA (zK (v:=.int 96) rfl T.cMOST_BLOCKS.choose_spec ⟨_,rfl⟩) zC)))))) (zG (za (zAl (fun _ _ _ h=>h)) rfl hA rfl T.mBadDisk T.xBadDisk (zA zAr zC))) zU)
  (pss_cons (zAp (zBs (zBa (zH Gis_whole (hr.mono (by decide)) rfl mis_whole kis_whole bis_whole .nil zw (zA (pv 2) (zA zM (zA (zK (v:=.int 8) rfl T.cMOST_TABLES.choose_spec ⟨_,rfl⟩) zC)))))) (zG (za (zAl (fun _ _ _ h=>h)) rfl hA rfl T.mBadDisk T.xBadDisk (zA zAr zC))) zU)
  (pss_cons (zCl (pv 0) (pv 1) rfl)
  (pss_cons (zCl (pv 0) (pv 2) rfl)
  (pss_cons (zCl (pv 0) (zK (v:=.int 17) rfl T.cMAPS_AT.choose_spec ⟨_,rfl⟩) rfl)
  (pss_cons (zCl (pv 0) (zO zm (zK (v:=.int 17) rfl T.cMAPS_AT.choose_spec ⟨_,rfl⟩) (zO zBg (zO zAg (zO zm (pv 1) (zK (v:=.int 16) rfl T.cROW_WORDS.choose_spec ⟨_,rfl⟩)) zM) (zK (v:=.int 16) rfl T.cROW_WORDS.choose_spec ⟨_,rfl⟩))) rfl)
  (pss_cons (zCl (pv 0) (zO zm (zS (K:=K) rfl (pv 0) rfl) (pv 2)) rfl)
  (zG (zAp (zf zTb (zS (K:=K) rfl (pv 0) rfl) (pv 1) (zu _)) (zG (za (zAl (fun _ _ _ h=>h)) rfl hA rfl T.mNoRoom T.xNoRoom (zA zAr zC))) zU))))))))),?_⟩
 refine ⟨_,rfl,v,24,96,rfl,kv,_,rfl,?_⟩
 rcases hq with ⟨hw,q⟩ | ⟨m,t,rfl,rfl,h1,h2,h3,h4,q1,q2⟩
 ·by_cases hv:zg v 24 96=true
  ·refine iteF' (by rw [hv];rfl) ⟨_,rfl,u,1,8,rfl,ku,_,rfl,?_⟩
   rw [hv,Bool.true_and] at hw
   exact iteT' (by rw [hw];rfl) ⟨(by show 1≤1000;decide),q⟩
  ·exact iteT' (by rw [Bool.eq_false_iff.mpr hv];rfl) ⟨(by show 1≤1000;decide),q⟩
 ·refine iteF' (by rw [zDa h1 h2];rfl) ⟨_,rfl,_,1,8,rfl,ku,_,rfl,iteF' (by rw [zDa h3 h4];rfl) ?_⟩
  refine ⟨_,rfl,_,rfl,x,a.cLayout,dx,_,rfl,hx,T.clLayout,T.n_many,by decide,?_⟩
  refine ⟨_,rfl,_,rfl,x,a.cLayout,dx,_,rfl,zB,T.clLayout,T.n_tables,(by show 1 < 1000;decide),?_⟩
  rw [zEe]
  refine ⟨_,rfl,x,a.cLayout,dx,_,rfl,zB,T.clLayout,T.n_maps_at,(by show 2 < 1000;decide),?_⟩
  rw [zEe]
  refine ⟨_,rfl,_,_,rfl,rfl,_,_,rfl,rfl,_,_,rfl,rfl,⟨by decide,by decide⟩,_,_,rfl,rfl,_,rfl,x,a.cLayout,dx,_,rfl,zB,T.clLayout,T.n_nodes_at,(by show 3 < 1000;decide),?_⟩
  rw [zEe]
  refine ⟨_,rfl,x,a.cLayout,dx,_,_,rfl,zB,T.clLayout,T.n_nodes_at,rfl,_,rfl,_,_,rfl,rfl,_,rfl,x,a.cLayout,dx,_,rfl,zB,T.clLayout,T.n_data_at,(by show 4 < 1000;decide),?_⟩
  rw [zEe]
  refine ⟨_,rfl,x,a.cLayout,dx,_,_,rfl,zB,T.clLayout,T.n_data_at,rfl,_,rfl,_,_,rfl,rfl,_,rfl,?_⟩
  have c:=(Chg.of (Same.refl H) (S:=[x])).upd (a:=x) (by simp) (.ins a.cLayout dx [("many", .int m),("tables", .int t),("maps_at", .int 17),("nodes_at", .int (zP m)),("data_at", .int (zI m t))])
  by_cases hd:m≤zI m t
  ·exact iteT' (decide_eq_true hd) ⟨(by show 1≤1000;decide),q1 hd _ c⟩
  ·exact iteF' (decide_eq_false hd) (q2 (by omega) _ c ⟨dx,zB⟩)
inductive spMost' (a:Ad) (vs:List V) (H:Hp) (Q:VK):Prop
 | mk:∀ (x:Addr) (m t:Int),(vs=[.ref x])→(LayAt a.cLayout H x m t)→(Q (.int (2 * t - 1)) H)→spMost' a vs H Q
def zKe (_:PySem.W.Frag) (a:Ad):Sp:=fun vs H Q _=>spMost' a vs H Q
theorem zDm (F:Fun K "most_node" "Layout.most_node" zj f fd) (T:Txt K mg a)  : FnOk P w K mg base CX0 1 f fd ["self"] (zKe K a):=by
 have nd:=sc_Layout_most_node.nd
 refine F.ok sc_Layout_most_node (fun vs H Q E h=>?_) (fun cdv A outer s H vs Q E hr h=>?_)
 ·obtain ⟨x,m,t,rfl,_⟩:=h
  rfl
 obtain ⟨x,m,t,rfl,⟨dx,hx⟩,q⟩:=h
 refine ⟨_,(zG (zV (zO zAg (zO zFi zM (zS (K:=K) rfl (pv 0) rfl)) zM))),?_⟩
 exact ⟨_,rfl,x,a.cLayout,dx,_,_,rfl,hx,T.clLayout,T.n_tables,rfl,_,_,rfl,rfl,.inl ⟨by decide,by decide⟩,_,_,rfl,rfl,q⟩
end
end K14
end
section
namespace K14
open PySem L2 BK
section
variable {P:Program}{w:World}{K:PySem.W.Frag}{mg:Str→Option Value}{base:Heap}{f:Addr}{fd:FuncData}{a:Ad}
def zDp:List Int:=List.replicate 16 0
inductive spHome' (K:PySem.W.Frag) (a:Ad) (vs:List V) (H:Hp) (Q:VK):Prop
 | mk:∀ (d kr:Addr) (S:DS) (v:V),(vs=[.ref d,v])→(zDk a.cDisk H d kr S)→(Kd K H v)→(Q (.bl (zg v 17 ((S.R.length:Int) - 1))) H)→spHome' K a vs H Q
def zH4 (K:PySem.W.Frag) (a:Ad):Sp:=fun vs H Q _=>spHome' K a vs H Q
theorem zLh (F:Fun K "is_home" "is_home" zCg f fd) (T:Txt K mg a) (D_is_whole:Df P w K mg base CX0 1 "is_whole" ["thing", "least", "most"] (zCa K a)) (M_Disk_blocks:Mf P w K mg base (CXE P w) 1 a.f_blocks ["self"] (zE0 K a)):FnOk P w K mg base (CXE P w) 2 f fd ["disk", "block"] (zH4 K a):=by
 obtain ⟨_,_,Gis_whole,bis_whole,kis_whole,mis_whole⟩:=D_is_whole
 obtain ⟨_,G_blocks,b_blocks⟩:=M_Disk_blocks
 have nd:=sc_is_home.nd
 refine F.okE sc_is_home (fun vs H Q E h=>?_) (fun cdv A outer s H vs Q E hr hA h=>?_)
 ·obtain ⟨d,kr,S,v,rfl,_⟩:=h
  rfl
 obtain ⟨d,kr,S,v,rfl,D,kd,q⟩:=h
 obtain ⟨dx,h1⟩:=D.at
 refine ⟨_,(zG (zV (zH Gis_whole (hr.mono (by decide)) rfl mis_whole kis_whole bis_whole .nil zw (zA (pv 1) (zA (zK (v:=.int 17) rfl T.cMAPS_AT.choose_spec ⟨_,rfl⟩) (zA (zO zAg (zBq (pv 0) T.clDisk T.m_blocks G_blocks (hr.mono (by decide)) b_blocks .nil (zE (fun _ _ _ h=>h)) (hcm:=(.inr hA))) zM) zC)))))),?_⟩
 exact ⟨_,rfl,_,rfl,d,dx,_,rfl,h1,rfl,d,kr,S.R,S.n,S.l,rfl,D,_,_,rfl,rfl,v,17,_,rfl,kd,q⟩
def beh (h:Option Int) (i:Int):Bool:=match h with
 | some j=>decide (i≤j)
 | none=>false
def zEc (m:Int):Option Int→List (V × V × Bool)→Option Bool
 | _,[]=>none
 | h,(v,_,ok) :: r=>match v with
  | .int i=>if (decide (17≤i) && decide (i≤m - 1))=true then (if beh h i=true then some true else if ok=true then zEc m (some i) r else some false) else some true
  | _=>some true
abbrev zPu (K:PySem.W.Frag):Hp→Addr→List (V × V × Bool)→Prop:=zSo K (RowA K)
inductive spRefuseP' (K:PySem.W.Frag) (a:Ad) (vs:List V) (H:Hp) (Q:VK) (E:XK):Prop
 | mk:∀ (d kr ps:Addr) (S:DS) (L:List (V × V × Bool)),(vs=[.ref d,.ref ps])→(zDk a.cDisk H d kr S)→(zPu K H ps L)→((15 < L.length→E (.ref a.cTooMuch) none H))→((L.length≤15→∀ H',Same H H'→match zEc S.R.length none L with | none=>Q .non H' | some true=>E (.ref a.cNoBlock) none H' | some false=>E (.ref a.cBadRow) none H'))→spRefuseP' K a vs H Q E
def zE8 (K:PySem.W.Frag) (a:Ad):Sp:=fun vs H Q E=>spRefuseP' K a vs H Q E
theorem zPv {m:Int}{h:Option Int}{v r:V}{ok:Bool}{L:List (V × V × Bool)}(hw:zg v 17 (m - 1)=false):zEc m h ((v,r,ok) :: L)=some true:=by
 cases v with
 | int i =>
  have hw':(decide (17≤i) && decide (i≤m - 1))=false:=hw
  show (if (decide (17≤i) && decide (i≤m - 1))=true then _ else _)=_
  rw [hw',if_neg (by decide)]
 | _=>rfl
theorem zLx {m:Int}{h:Option Int}{i:Int}{r:V}{ok:Bool}{L:List (V × V × Bool)}(hw:zg (.int i) 17 (m - 1)=true):zEc m h ((.int i,r,ok) :: L)=(if beh h i=true then some true else if ok=true then zEc m (some i) L else some false):=by
 have hw':(decide (17≤i) && decide (i≤m - 1))=true:=hw
 show (if (decide (17≤i) && decide (i≤m - 1))=true then _ else _)=_
 rw [hw',if_pos rfl]
theorem zH0 {v:V}{lo hi:Int}(h:zg v lo hi=true):∃ i,v=.int i∧lo≤i∧i≤hi:=by
 cases v with
 | int i =>
  have h':(decide (lo≤i) && decide (i≤hi))=true:=h
  rw [Bool.and_eq_true,decide_eq_true_eq,decide_eq_true_eq] at h'
  exact ⟨i,rfl,h'.1,h'.2⟩
 | _=>cases h
theorem ok_refuse_wrong_pairs (F:Fun K "refuse_wrong_pairs" "refuse_wrong_pairs" zd f fd) (T:Txt K mg a) (D_is_home:Df P w K mg base (CXE P w) 2 "is_home" ["disk", "block"] (zH4 K a)) (D_is_row:Df P w K mg base CX0 4 "is_row" ["thing"] (zEh K a)):FnOk P w K mg base (CXE P w) 5 f fd ["disk", "pairs"] (zE8 K a):=by
 obtain ⟨_,_,Gis_home,bis_home,kis_home,mis_home⟩:=D_is_home
 obtain ⟨_,_,Gis_row,bis_row,kis_row,mis_row⟩:=D_is_row
 have nd:=sc_refuse_wrong_pairs.nd
 refine F.okE sc_refuse_wrong_pairs (fun vs H Q E h=>?_) (fun cdv A outer s H vs Q E hr hA h=>?_)
 ·obtain ⟨d,kr,ps,S,L,rfl,_⟩:=h
  rfl
 obtain ⟨d,kr,ps,S,L,rfl,D,⟨ts,h1,h2,h3⟩,q1,q2⟩:=h
 refine ⟨_,(pss_cons (zAp (zf zIe (zQ (zX (K:=K) rfl) rfl T.len zA0 (zA (pv 1) zC)) (zK (v:=.int 15) rfl T.cMOST_HOMES.choose_spec ⟨_,rfl⟩) (zu _)) (zG (za (zAl (fun _ _ _ h=>h)) rfl hA rfl T.mTooMuch T.xTooMuch (zA zAr zC))) zU)
  (pss_cons (ps_set (i:=2) nd rfl (by first|exact Or.inl rfl|exact Or.inr rfl) zKm)
  (zG (zCk PassesOwn.leaving rfl (zBt (K:=K) rfl (pv 1)) (zFg hA (zAq (zx (i:=3) nd rfl (by first|exact Or.inl rfl|exact Or.inr rfl)) (zAq (zx (i:=4) nd rfl (by first|exact Or.inl rfl|exact Or.inr rfl)) zDl))) (pss_cons (zAp (zBs (zBa (zH Gis_home (hr.mono (by decide)) rfl mis_home kis_home bis_home .nil (zE (fun _ _ _ h=>h)) (zA (pv 0) (zA (pv 3) zC)) (hcm:=(.inr hA))))) (zG (za (zAl (fun _ _ _ h=>h)) rfl hA rfl T.mNoBlock T.xNoBlock (zA zAr zC))) zU)
  (pss_cons (zAp (PW.pt (zPn (zf zQh (pv 2) zKm (zu _)) (zMm (zf zLd (pv 3) (pv 2) (zu _))))) (zG (za (zAl (fun _ _ _ h=>h)) rfl hA rfl T.mNoBlock T.xNoBlock (zA zAr zC))) zU)
  (pss_cons (zAp (zBs (zBa (zH Gis_row (hr.mono (by decide)) rfl mis_row kis_row bis_row .nil zw (zA (pv 4) zC)))) (zG (za (zAl (fun _ _ _ h=>h)) rfl hA rfl T.mBadRow T.xBadRow (zA zAr zC))) zU)
  (zG (ps_set (i:=2) nd rfl (by first|exact Or.inl rfl|exact Or.inr rfl) (pv 3)))))))))),?_⟩
 refine ⟨_,rfl,ps,_,rfl,.inl (SqL.of h1),_,_,rfl,rfl,_,rfl,?_⟩
 rw [List.length_map,h2]
 by_cases hl:15 < L.length
 ·exact iteT' (decide_eq_true (by omega)) ⟨(by show 1≤1000;decide),q1 hl⟩
 refine iteF' (decide_eq_false (by omega)) ?_
 have q3:=q2 (by omega)
 refine ⟨_,rfl,ps,rfl,⟨_,SqL.of h1⟩,zCy (xs:=ts.map V.ref) (fun i σ' H'=>∃ (hd:Option Int) (o3 o4:Option V),σ'=[some (.ref d),some (.ref ps),some (lv hd),o3,o4]∧Same H H'∧zEc S.R.length none L=zEc S.R.length hd (L.drop i)) ⟨none,none,none,rfl,Same.refl _,rfl⟩ (fun i σ2 H2 _ ⟨_,_,_,_,s2,_⟩=>SqL.of (s2 _ _ h1)) ?_ ?_⟩
 ·rintro i v σ2 H2 hv ⟨hd,o3,o4,rfl,s2,ew⟩
  have hi:i < L.length:=by
   have:=(List.getElem?_eq_some_iff.mp hv).1
   rw [List.length_map,h2] at this
   exact this
  have ht:ts[i]? = some (ts[i]'(by omega)):=List.getElem?_eq_getElem (by omega)
  rw [List.getElem?_map,ht] at hv
  cases hv
  obtain ⟨p1,p2,p3⟩:=h3 i _ _ ht (List.getElem?_eq_getElem hi)
  rw [List.drop_eq_getElem_cons hi] at ew
  generalize L[i]=x at p1 p2 p3 ew
  obtain ⟨v,r,ok⟩:=x
  have D2:=D.same s2
  refine ⟨_,_,rfl,SqT.of (s2 _ _ p1),rfl,_,_,rfl,_,_,rfl,rfl,?_⟩
  refine ⟨_,rfl,_,rfl,d,kr,S,v,rfl,D2,p2.same s2,_,rfl,?_⟩
  have q4:=fun H' s'=>q3 H' s'
  rw [ew] at q4
  by_cases hw:zg v 17 ((S.R.length:Int) - 1)=true
  case neg =>
   have hw':=Bool.eq_false_iff.mpr hw
   rw [zPv hw'] at q4
   exact iteT' (by rw [hw'];rfl) ⟨(by show 1≤1000;decide),q4 H2 s2⟩
  refine iteF' (by rw [hw];rfl) ?_
  obtain ⟨j,rfl,hj1,hj2⟩:=zH0 hw
  rw [zLx hw] at q4 ew
  have fin:beh hd j=false→zOd (zTp (zTo (tB (zL8 (zEh K a) [] E0 (zK7 (zLw 4) zPm)))) (zPl E a.cBadRow (zK7 (tC (.str "a row is a list of 16 words")) zPm)) zRg) (zRm (zLw 3) (zLr 2)) { nx:=fun σ' H'=>∃ (hd:Option Int) (o3 o4:Option V),σ'=[some (.ref d),some (.ref ps),some (lv hd),o3,o4]∧Same H H'∧zEc S.R.length none L=zEc S.R.length hd (L.drop (i + 1)),rt:=Q } [some (.ref d),some (.ref ps),some (lv hd),some (.int j),some r] H2:=by
   intro hn
   rw [hn,if_neg (by decide)] at q4 ew
   refine ⟨_,rfl,r,ok,rfl,p3.same s2,fun H3 s3=>⟨_,rfl,?_⟩⟩
   cases ok with
   | false =>
    rw [if_neg (by decide)] at q4
    exact iteT ⟨(by show 1≤1000;decide),q4 H3 (s2.trans s3)⟩
   | true =>
    rw [if_pos rfl] at ew
    exact iteF ⟨_,rfl,some j,_,_,rfl,s2.trans s3,ew⟩
  cases hd with
  | none=>exact ⟨_,rfl,rfl,_,rfl,iteF' (by rfl) (iteF (fin rfl))⟩
  | some k =>
   refine ⟨_,rfl,rfl,_,rfl,iteT' (by rfl) ⟨_,rfl,_,rfl,_,_,rfl,rfl,_,rfl,?_⟩⟩
   by_cases hk:j≤k
   ·refine iteT' (decide_eq_true hk) ⟨(by show 1≤1000;decide),?_⟩
    have e:beh (some k) j=true:=decide_eq_true hk
    rw [e,if_pos rfl] at q4
    exact q4 H2 s2
   ·exact iteF' (decide_eq_false hk) (fin (decide_eq_false hk))
 ·rintro σ2 H2 ⟨hd,o3,o4,rfl,s2,ew⟩
  have q4:=q3 H2 s2
  rw [ew,List.length_map,h2,List.drop_length] at q4
  exact q4
inductive spWHomes' (a:Ad) (vs:List V) (H:Hp) (Q:VK) (E:XK):Prop
 | mk:∀ (d kr ps:Addr) (S:DS) (L:List (Nat × List Int)),(vs=[.ref d,.ref ps])→(zDk a.cDisk H d kr S)→(PairsAt H ps L)→((∀ x ∈ L,x.1 < S.R.length∧zY x.2))→(∀ H',Chg [d,kr] H H'→zDk a.cDisk H' d kr (zAk S (L ++ [(1,zDp)])).1→(∀ u,H u≠none→NoRowAt H kr u→NoRowAt H' kr u)→if (zAk S (L ++ [(1,zDp)])).2=true then E (.ref a.cStopped) none H' else Q .non H')→spWHomes' a vs H Q E
def zG4 (K:PySem.W.Frag) (a:Ad):Sp:=fun vs H Q E=>spWHomes' a vs H Q E
theorem zCc {H:Hp}{d kr p:Addr}{S:DS}{b:Nat}{row:List Int}{Q:VK}{E:XK}(D:zDk a.cDisk H d kr S) (hb:b < S.R.length) (hp:H p=some (.lst (row.map V.int))) (g:zY row)
  (hs:S.stop=true→∀ H',Same H H'→E (.ref a.cStopped) none H')
  (hn:¬ S.stop=true→∀ H',Chg [d,kr] H H'→zDk a.cDisk H' d kr (S.put (b,row))→(∀ u,H u≠none→NoRowAt H kr u→NoRowAt H' kr u)→Q .non H') :
  zCr K a [.ref d,.int b,.ref p] H Q E:=by
 unfold zCr
 refine ⟨d,kr,S.R,S.n,S.l,.int b,.ref p,true,rfl,D,.int _,zBe hp g,?_⟩
 by_cases h:S.stop=true
 ·exact .inr (.inr (.inl ⟨zGx hb,rfl,stop_iff h,hs h⟩))
 ·exact .inr (.inr (.inr ⟨b,p,row,rfl,hb,rfl,hp,g,stop_not h,hn h⟩))
theorem zMn (S:DS) (x:Nat × List Int):(S.put x).R.length=S.R.length:=List.length_set
theorem chg_ne {S:List Addr}{H H':Hp}{u:Addr}(c:Chg S H H') (n:∀ b ∈ S,H' b≠none) (hu:H u≠none):H' u≠none:=by
 cases e:H u with
 | none=>exact absurd e hu
 | some o =>
  by_cases hm:u ∈ S
  ·exact n u hm
  ·rw [c u o e hm];simp
theorem zLt {H:Hp}{C d kr:Addr}{S:DS}(D:zDk C H d kr S):∀ b ∈ [d,kr],H b≠none:=by
 obtain ⟨dx,rs,g1,g2,_⟩:=D.ex
 intro b hb
 simp only [List.mem_cons,List.not_mem_nil,or_false] at hb
 rcases hb with e | e
 ·rw [e,g1];simp
 ·rw [e,g2];simp
theorem zFy (F:Fun K "write_homes" "write_homes" zAu f fd) (T:Txt K mg a) (M_Disk_write:Mf P w K mg base (CXE P w) 5 a.f_write ["self", "block", "row"] (zCr K a)) (D_empty_row:Df P w K mg base CX0 1 "empty_row" [] (spEmpty K a)):FnOk P w K mg base (CXE P w) 6 f fd ["disk", "pairs"] (zG4 K a):=by
 obtain ⟨_,G_write,b_write⟩:=M_Disk_write
 obtain ⟨_,_,Gempty_row,bempty_row,kempty_row,mempty_row⟩:=D_empty_row
 have nd:=sc_write_homes.nd
 refine F.okE sc_write_homes (fun vs H Q E h=>?_) (fun cdv A outer s H vs Q E hr hA h=>?_)
 ·obtain ⟨d,kr,ps,S,L,rfl,_⟩:=h
  rfl
 obtain ⟨d,kr,ps,S,L,rfl,D,PA,gL,q⟩:=h
 refine ⟨_,(pss_cons (zCk PassesOwn.leaving rfl (zBt (K:=K) rfl (pv 1)) (zFg hA (zAq (zx (i:=2) nd rfl (by first|exact Or.inl rfl|exact Or.inr rfl)) (zAq (zx (i:=3) nd rfl (by first|exact Or.inl rfl|exact Or.inr rfl)) zDl))) (zG (zT (zy (pv 0) T.clDisk T.m_write G_write (hr.mono (by decide)) b_write .nil (zE (fun _ _ _ h=>h)) (zA (pv 2) (zA (pv 3) zC)) (hcm:=(.inr hA))))))
  (zG (zT (zy (pv 0) T.clDisk T.m_write G_write (hr.mono (by decide)) b_write .nil (zE (fun _ _ _ h=>h)) (zA (zK (v:=.int 1) rfl T.cLOG_HEAD_AT.choose_spec ⟨_,rfl⟩) (zA (zDx Gempty_row (hr.mono (by decide)) rfl mempty_row kempty_row bempty_row .nil zw) zC)) (hcm:=(.inr hA)))))),?_⟩
 obtain ⟨ts,rs,PT⟩:=PA
 obtain ⟨h1,h2,h2',h3⟩:=id PT
 have gR:∀ x ∈ L,zY x.2:=fun x hx=>(gL x hx).2
 have hlo:=D.lo
 refine ⟨_,rfl,ps,rfl,⟨_,SqL.of h1⟩,zCy (xs:=ts.map V.ref) (fun i σ' H'=>∃ (o2 o3:Option V),σ'=[some (.ref d),some (.ref ps),o2,o3]∧Chg [d,kr] H H'∧(zAk S (L.take i)).2=false∧zDk a.cDisk H' d kr (zAk S (L.take i)).1∧(∀ u,H u≠none→NoRowAt H kr u→NoRowAt H' kr u)) ⟨none,none,rfl,Chg.of (Same.refl _),rfl,D,fun _ _ h=>h⟩ (fun i σ2 H2 _ ⟨_,_,_,c2,_⟩=>SqL.of (PT.chg D gR c2).1) ?_ ?_⟩
 ·rintro i v σ2 H2 hv ⟨o2,o3,rfl,c2,ns,D2,nr2⟩
  have hi:i < L.length:=by
   have:=(List.getElem?_eq_some_iff.mp hv).1
   rw [List.length_map,h2] at this
   exact this
  have ht:ts[i]? = some (ts[i]'(by omega)):=List.getElem?_eq_getElem (by omega)
  rw [List.getElem?_map,ht] at hv
  cases hv
  obtain ⟨p1,p2⟩:=(PT.chg D gR c2).2.2.2 i (by omega) (by omega) hi
  have hm:L[i] ∈ L:=List.getElem_mem hi
  have tk:L.take (i + 1)=L.take i ++ [L[i]]:=by rw [List.take_add_one,List.getElem?_eq_getElem hi];rfl
  have er:zAk S (L.take (i + 1))=zAk (zAk S (L.take i)).1 [L[i]]:=by rw [tk,zCu,ns,if_neg (by decide)]
  obtain ⟨dx,d1⟩:=D2.at
  refine ⟨_,_,rfl,SqT.of p1,rfl,_,_,rfl,_,_,rfl,rfl,?_⟩
  refine ⟨_,rfl,d,dx,_,rfl,d1,rfl,_,rfl,_,rfl,zCc D2 (by rw [zCt];exact (gL _ hm).1) p2 (gL _ hm).2 (fun hs H3 s3=>?_) (fun hs H3 c3 D3 nr3=>?_)⟩
  ·have es:zAk S (L ++ [(1,zDp)])=((zAk S (L.take i)).1,true):=by
    have e1:zAk (zAk S (L.take i)).1 ([L[i]] ++ (L.drop (i + 1) ++ [(1,zDp)]))=((zAk S (L.take i)).1,true):=if_pos hs
    rw [show L ++ [(1,zDp)]=L.take i ++ ([L[i]] ++ (L.drop (i + 1) ++ [(1,zDp)])) by rw [← List.append_assoc [L[i]],← List.append_assoc,show L.take i ++ ([L[i]] ++ L.drop (i + 1))=L by rw [← List.append_assoc,← tk,List.take_append_drop]],zCu,ns,if_neg (by decide),e1]
   have:=q H3 (c2.trans (Chg.of s3)) (by rw [es];exact D2.same s3) (fun u hu nu=>(nr2 u hu nu).chg D2 (Chg.of s3 (S:=[])) (by simp))
   rw [es,if_pos rfl] at this
   exact this
  ·have e1:zAk (zAk S (L.take i)).1 [L[i]]=((zAk S (L.take i)).1.put L[i],false):=if_neg hs
   refine ⟨_,_,rfl,c2.trans c3,by rw [er,e1],by rw [er,e1];exact D3,fun u hu nu=>nr3 u (chg_ne c2 (zLt D2) hu) (nr2 u hu nu)⟩
 ·rintro σ2 H2 ⟨o2,o3,rfl,c2,ns,D2,nr2⟩
  rw [List.length_map,h2,List.take_length] at ns D2
  obtain ⟨dx,d1⟩:=D2.at
  have es:zAk S (L ++ [(1,zDp)])=zAk (zAk S L).1 [(1,zDp)]:=by rw [zCu,ns,if_neg (by decide)]
  refine ⟨_,rfl,d,dx,_,rfl,d1,rfl,rfl,fun p H3 np s3 hp=>?_⟩
  refine zCc (b:=1) (D2.same s3) (by rw [zCt];omega) hp good_zero (fun hs H4 s4=>?_) (fun hs H4 c4 D4 nr4=>?_)
  ·have e1:zAk (zAk S L).1 [(1,zDp)]=((zAk S L).1,true):=if_pos hs
   have:=q H4 (c2.trans (Chg.of (s3.trans s4))) (by rw [es,e1];exact D2.same (s3.trans s4)) (fun u hu nu=>(nr2 u hu nu).chg D2 (Chg.of (s3.trans s4) (S:=[])) (by simp))
   rw [es,e1,if_pos rfl] at this
   exact this
  ·have e1:zAk (zAk S L).1 [(1,zDp)]=((zAk S L).1.put (1,zDp),false):=if_neg hs
   have:=q H4 ((c2.trans (Chg.of s3)).trans c4) (by rw [es,e1];exact D4) (fun u hu nu=>nr4 u (by
    have z:=chg_ne c2 (zLt D2) hu
    cases e:H2 u with
    | none=>exact absurd e z
    | some o=>rw [s3 _ _ e];simp) ((nr2 u hu nu).chg D2 (Chg.of s3 (S:=[])) (by simp)))
   rw [es,e1] at this
   exact this
def headOf (L:List (Nat × List Int)):List Int:=[(L.length:Int)] ++ (L.map fun x=>(x.1:Int)) ++ List.replicate (15 - L.length) 0
def zA9 (L:List (Nat × List Int)) (i:Nat):List (Nat × List Int):=(List.range i).map fun j=>(2 + j,(L.getD j (0,[])).2)
def zDn (L:List (Nat × List Int)):List (Nat × List Int):=zA9 L L.length ++ [(1,headOf L)]
inductive spWLog' (a:Ad) (vs:List V) (H:Hp) (Q:VK) (E:XK):Prop
 | mk:∀ (d kr ps:Addr) (S:DS) (L:List (Nat × List Int)),(vs=[.ref d,.ref ps])→(zDk a.cDisk H d kr S)→(PairsAt H ps L)→(L.length≤15)→((∀ x ∈ L,x.1 < S.R.length∧zY x.2))→(∀ H',Chg [d,kr] H H'→zDk a.cDisk H' d kr (zAk S (zDn L)).1→(∀ u,H u≠none→NoRowAt H kr u→NoRowAt H' kr u)→if (zAk S (zDn L)).2=true then E (.ref a.cStopped) none H' else Q .non H')→spWLog' a vs H Q E
def zMa (K:PySem.W.Frag) (a:Ad):Sp:=fun vs H Q E=>spWLog' a vs H Q E
theorem zNh {L:List (Nat × List Int)}(hl:L.length≤15) {m:Nat}(hm:m≤96) (g:∀ x ∈ L,x.1 < m):zY (headOf L):=by
 refine ⟨by unfold headOf;simp;omega,fun x hx=>?_⟩
 unfold headOf at hx
 simp only [List.mem_append,List.mem_singleton,List.mem_map] at hx
 rcases hx with (e | ⟨y,hy,e⟩) | e
 ·subst e;omega
 ·have:=g y hy;subst e;omega
 ·rw [List.eq_of_mem_replicate e];decide
theorem zFe {L:List (Nat × List Int)}{i:Nat}(hi:i < L.length):zA9 L (i + 1)=zA9 L i ++ [(2 + i,L[i].2)]:=by
 unfold zA9
 rw [List.range_succ,List.map_append]
 simp [List.getD_eq_getElem?_getD,List.getElem?_eq_getElem hi]
theorem zFm {H:Hp}{C d kr u:Addr}{S:DS}(D:zDk C H d kr S) (n:NoRowAt H kr u) {p:Addr}(hp:p≠kr) (o:HO):NoRowAt (L2.upd H p o) kr u:=fun rs hrs=>by
 rw [upd_ne (Ne.symm hp)] at hrs
 exact n rs hrs
theorem ok_write_log (F:Fun K "write_log" "write_log" zBi f fd) (T:Txt K mg a) (M_Disk_write:Mf P w K mg base (CXE P w) 5 a.f_write ["self", "block", "row"] (zCr K a)) (D_changed:Df P w K mg base CX0 1 "changed" ["row", "at", "words"] (zBr K a)) (D_empty_row:Df P w K mg base CX0 1 "empty_row" [] (spEmpty K a)):FnOk P w K mg base (CXE P w) 6 f fd ["disk", "pairs"] (zMa K a):=by
 obtain ⟨_,G_write,b_write⟩:=M_Disk_write
 obtain ⟨_,_,Gchanged,bchanged,kchanged,mchanged⟩:=D_changed
 obtain ⟨_,_,Gempty_row,bempty_row,kempty_row,mempty_row⟩:=D_empty_row
 have nd:=sc_write_log.nd
 refine F.okE sc_write_log (fun vs H Q E h=>?_) (fun cdv A outer s H vs Q E hr hA h=>?_)
 ·obtain ⟨d,kr,ps,S,L,rfl,_⟩:=h
  rfl
 obtain ⟨d,kr,ps,S,L,rfl,D,PA,hl,gL,q⟩:=h
 refine ⟨_,(pss_cons (ps_set (i:=2) nd rfl (by first|exact Or.inl rfl|exact Or.inr rfl) (zBb zC))
  (pss_cons (zCk PassesOwn.leaving rfl (zBt (K:=K) rfl (pv 1)) (zFg hA (zAq (zx (i:=3) nd rfl (by first|exact Or.inl rfl|exact Or.inr rfl)) (zAq (zx (i:=4) nd rfl (by first|exact Or.inl rfl|exact Or.inr rfl)) zDl))) (pss_cons (zT (zy (pv 0) T.clDisk T.m_write G_write (hr.mono (by decide)) b_write .nil (zE (fun _ _ _ h=>h)) (zA (zO zm (zK (v:=.int 2) rfl T.cLOG_ROWS_AT.choose_spec ⟨_,rfl⟩) (zQ (zX (K:=K) rfl) rfl T.len zA0 (zA (pv 2) zC))) (zA (pv 4) zC)) (hcm:=(.inr hA))))
  (zG (zT (zIa (K:=K) rfl PySem.F.plainAttrs_list PySem.F.slot_list_append PySem.F.type_list_append zD3 (pv 2) (zA (pv 3) zC))))))
  (zG (zT (zy (pv 0) T.clDisk T.m_write G_write (hr.mono (by decide)) b_write .nil (zE (fun _ _ _ h=>h)) (zA (zK (v:=.int 1) rfl T.cLOG_HEAD_AT.choose_spec ⟨_,rfl⟩) (zA (zH Gchanged (hr.mono (by decide)) rfl mchanged kchanged bchanged .nil zw (zA (zDx Gempty_row (hr.mono (by decide)) rfl mempty_row kempty_row bempty_row .nil zw) (zA zM (zA (zO zCn (zBb (zA (zQ (zX (K:=K) rfl) rfl T.len zA0 (zA (pv 2) zC)) zC)) (pv 2)) zC)))) zC)) (hcm:=(.inr hA))))))),?_⟩
 obtain ⟨ts,rs,PT⟩:=PA
 obtain ⟨h1,h2,h2',h3⟩:=id PT
 have gR:∀ x ∈ L,zY x.2:=fun x hx=>(gL x hx).2
 have hlo:=D.lo
 have hhi:=D.hi
 refine ⟨(by show 0≤sizeLine;decide),fun hm nhm=>?_⟩
 have s0:=zF nhm (.lst [])
 obtain ⟨dx0,rs0,y1,y2,_⟩:=D.ex
 have hmd:hm≠d:=Ne.symm (zJ y1 nhm)
 have hmk:hm≠kr:=Ne.symm (zJ y2 nhm)
 refine ⟨_,rfl,ps,rfl,⟨_,SqL.of (s0 _ _ h1)⟩,zCy (xs:=ts.map V.ref) (fun i σ' H'=>∃ (o3 o4:Option V),σ'=[some (.ref d),some (.ref ps),some (.ref hm),o3,o4]∧Chg [d,kr] H H'∧H' hm=some (.lst ((L.take i).map fun x=>V.int x.1))∧(zAk S (zA9 L i)).2=false∧zDk a.cDisk H' d kr (zAk S (zA9 L i)).1∧NoRowAt H' kr hm∧(∀ u,H u≠none→NoRowAt H kr u→NoRowAt H' kr u))
  ⟨none,none,rfl,Chg.of s0,zB,rfl,D.same s0,(D.noRow nhm).chg D (Chg.of s0 (S:=[])) (by simp),fun u hu nu=>nu.chg D (Chg.of s0 (S:=[])) (by simp)⟩ (fun i σ2 H2 _ ⟨_,_,_,c2,_⟩=>SqL.of (PT.chg D gR c2).1) ?_ ?_⟩
 ·rintro i v σ2 H2 hv ⟨o3,o4,rfl,c2,hh2,ns,D2,nh2,nr2⟩
  have hi:i < L.length:=by
   have:=(List.getElem?_eq_some_iff.mp hv).1
   rw [List.length_map,h2] at this
   exact this
  have ht:ts[i]? = some (ts[i]'(by omega)):=List.getElem?_eq_getElem (by omega)
  rw [List.getElem?_map,ht] at hv
  cases hv
  obtain ⟨p1,p2⟩:=(PT.chg D gR c2).2.2.2 i (by omega) (by omega) hi
  have hm':L[i] ∈ L:=List.getElem_mem hi
  obtain ⟨dx,d1⟩:=D2.at
  refine ⟨_,_,rfl,SqT.of p1,rfl,_,_,rfl,_,_,rfl,rfl,?_⟩
  refine ⟨_,rfl,d,dx,_,rfl,d1,rfl,_,rfl,hm,_,rfl,.inl (SqL.of hh2),_,_,rfl,rfl,_,rfl,?_⟩
  dsimp only
  rw [show (2:Int) + (((L.take i).map fun x=>V.int x.1).length:Int)=((2 + i:Nat):Int) by rw [List.length_map,List.length_take];omega]
  have er:=zFe hi
  refine zCc (b:=2 + i) D2 (by rw [zCt];omega) p2 (gL _ hm').2 (fun hs H3 s3=>?_) (fun hs H3 c3 D3 nr3=>?_)
  ·have es:zAk S (zDn L)=((zAk S (zA9 L i)).1,true):=by
    have hsp:∀ k,i + 1 + k≤L.length→∃ Z,zA9 L (i + 1 + k)=zA9 L (i + 1) ++ Z:=fun k=>by
     induction k with
     | zero=>exact fun _=>⟨[],by simp⟩
     | succ k ih =>
      intro hk
      obtain ⟨Z,hZ⟩:=ih (by omega)
      exact ⟨Z ++ [(2 + (i + 1 + k),L[i + 1 + k].2)],by rw [show i + 1 + (k + 1)=(i + 1 + k) + 1 by omega,zFe (by omega),hZ,List.append_assoc]⟩
    obtain ⟨Z,hZ⟩:=hsp (L.length - (i + 1)) (by omega)
    rw [show i + 1 + (L.length - (i + 1))=L.length by omega,er] at hZ
    have e1:zAk (zAk S (zA9 L i)).1 ([(2 + i,L[i].2)] ++ (Z ++ [(1,headOf L)]))=((zAk S (zA9 L i)).1,true):=if_pos hs
    unfold zDn
    rw [hZ,List.append_assoc,List.append_assoc,zCu,ns,if_neg (by decide),e1]
   have:=q H3 (c2.trans (Chg.of s3)) (by rw [es];exact D2.same s3) (fun u hu nu=>(nr2 u hu nu).chg D2 (Chg.of s3 (S:=[])) (by simp))
   rw [es,if_pos rfl] at this
   exact this
  ·have e1:zAk S (zA9 L (i + 1))=((zAk S (zA9 L i)).1.put (2 + i,L[i].2),false):=by
    rw [er,zCu,ns,if_neg (by decide)];exact if_neg hs
   have hh3:H3 hm=some (.lst ((L.take i).map fun x=>V.int x.1)):=c3 _ _ hh2 (by simp [hmd,hmk])
   refine ⟨_,rfl,.inl ⟨rfl,_,SqL.of hh3⟩,_,rfl,hm,_,_,rfl,rfl,hh3,small1000 (by rw [List.length_map,List.length_take];omega),?_⟩
   have nh3:NoRowAt H3 kr hm:=nr3 hm (by rw [hh2];simp) nh2
   refine ⟨_,_,rfl,(c2.trans c3).upd0 nhm _,?_,by rw [e1],by rw [e1];exact D3.off nh3 hmd hmk _,zFm D3 nh3 hmk _,fun u hu nu=>zFm D3 (nr3 u (chg_ne c2 (zLt D2) hu) (nr2 u hu nu)) hmk _⟩
   rw [zB,List.take_add_one,List.getElem?_eq_getElem hi,List.map_append]
   rfl
 ·rintro σ2 H2 ⟨o3,o4,rfl,c2,hh2,ns,D2,nh2,nr2⟩
  rw [List.length_map,h2] at hh2 ns D2
  rw [List.take_length] at hh2
  obtain ⟨dx,d1⟩:=D2.at
  have es:zAk S (zDn L)=zAk (zAk S (zA9 L L.length)).1 [(1,headOf L)]:=by unfold zDn;rw [zCu,ns,if_neg (by decide)]
  refine ⟨_,rfl,d,dx,_,rfl,d1,rfl,rfl,fun p H3 np s3 hp=>?_⟩
  have hh3:=s3 _ _ hh2
  refine ⟨_,rfl,hm,_,rfl,.inl (SqL.of hh3),(by show 1≤sizeLine;decide),fun l1 m1=>?_⟩
  have t1:=zF m1 (.lst [.int ((L.map fun x=>V.int x.1).length:Int)])
  refine ⟨_,rfl,l1,hm,_,_,rfl,rfl,zB,t1 _ _ hh3,small (by rw [List.length_map];simp;omega),fun l2 m2=>?_⟩
  have t2:=t1.trans (zF m2 (.lst ([.int ((L.map fun x=>V.int x.1).length:Int)] ++ L.map fun x=>V.int x.1)))
  refine ⟨p,l2,_,_,0,rfl,t2 _ _ hp,zB,by simp,by simp;omega,fun p5 H5 n5 s5 h5=>?_⟩
  have sA:=s3.trans (t2.trans s5)
  have hrow:H5 p5=some (.lst ((headOf L).map V.int)):=by
   rw [h5]
   have e0:((List.replicate 16 (0:Int)).map V.int).drop (0 + ([V.int ((L.map fun x=>V.int x.1).length:Int)] ++ L.map fun x=>V.int x.1).length)=(List.replicate (15 - L.length) (0:Int)).map V.int:=by
    rw [List.map_replicate,List.map_replicate,List.drop_replicate]
    congr 1
    simp
   rw [e0,List.take_zero,List.nil_append]
   unfold headOf
   rw [List.map_append,List.map_append,List.length_map,List.map_map]
   rfl
  refine zCc (b:=1) (D2.same sA) (by rw [zCt];omega) hrow (zNh hl hhi fun x hx=>(gL x hx).1) (fun hs H6 s6=>?_) (fun hs H6 c6 D6 nr6=>?_)
  ·have e1:zAk (zAk S (zA9 L L.length)).1 [(1,headOf L)]=((zAk S (zA9 L L.length)).1,true):=if_pos hs
   have:=q H6 (c2.trans (Chg.of (sA.trans s6))) (by rw [es,e1];exact D2.same (sA.trans s6)) (fun u hu nu=>(nr2 u hu nu).chg D2 (Chg.of (sA.trans s6) (S:=[])) (by simp))
   rw [es,e1,if_pos rfl] at this
   exact this
  ·have e1:zAk (zAk S (zA9 L L.length)).1 [(1,headOf L)]=((zAk S (zA9 L L.length)).1.put (1,headOf L),false):=if_neg hs
   have:=q H6 ((c2.trans (Chg.of sA)).trans c6) (by rw [es,e1];exact D6) (fun u hu nu=>nr6 u (by
    have z:=chg_ne c2 (zLt D2) hu
    cases e:H2 u with
    | none=>exact absurd e z
    | some o=>rw [sA _ _ e];simp) ((nr2 u hu nu).chg D2 (Chg.of sA (S:=[])) (by simp)))
   rw [es,e1] at this
   exact this
def allOf (L:List (Nat × List Int)):List (Nat × List Int):=if L=[] then [] else zDn L ++ (L ++ [(1,zDp)])
inductive spCommit' (K:PySem.W.Frag) (a:Ad) (vs:List V) (H:Hp) (Q:VK) (E:XK):Prop
  | mk:∀ (d kr ps:Addr) (S:DS),(vs=[.ref d,.ref ps])→(zDk a.cDisk H d kr S)→(((∃ L:List (V × V × Bool),zPu K H ps L∧((15 < L.length∧E (.ref a.cTooMuch) none H)∨(L.length≤15∧zEc S.R.length none L=some true∧∀ H',Same H H'→E (.ref a.cNoBlock) none H')∨(L.length≤15∧zEc S.R.length none L=some false∧∀ H',Same H H'→E (.ref a.cBadRow) none H'))) ∨
   (∃ G:List (Nat × List Int),PairsAt H ps G∧G.length≤15∧Rises S.R.length none G∧(∀ x ∈ G,zY x.2) ∧
     ∀ H',Chg [d,kr] H H'→zDk a.cDisk H' d kr (zAk S (allOf G)).1→(∀ u,H u≠none→NoRowAt H kr u→NoRowAt H' kr u)→if (zAk S (allOf G)).2=true then E (.ref a.cStopped) none H' else Q .non H')))→spCommit' K a vs H Q E
def zHa (K:PySem.W.Frag) (a:Ad):Sp:=fun vs H Q E=>spCommit' K a vs H Q E
theorem zLp {m:Int}{h:Option Int}{G:List (Nat × List Int)}(r:Rises m h G) (rs:List Addr) (hl:rs.length=G.length):zEc m h (List.zipWith (fun (x:Nat × List Int) r=>(V.int x.1,V.ref r,true)) G rs)=none:=by
 induction G generalizing h rs with
 | nil=>rfl
 | cons x G ih =>
  cases rs with
  | nil=>cases hl
  | cons p rs =>
   obtain ⟨r1,r2,r3,r4⟩:=r
   show zEc m h ((V.int x.1,V.ref p,true) :: List.zipWith _ G rs)=none
   rw [zLx (by show (decide (17≤(x.1:Int)) && decide ((x.1:Int)≤m - 1))=true;rw [decide_eq_true (by omega),decide_eq_true r2];rfl)]
   have e:beh h (x.1:Int)=false:=by
    cases h with
    | none=>rfl
    | some j=>exact decide_eq_false (by have:=r3 j rfl;omega)
   rw [e,if_neg (by decide),if_pos rfl]
   exact ih r4 rs (by simpa using hl)
theorem zMy (F:Fun K "commit" "commit" zDd f fd) (T:Txt K mg a) (D_refuse_wrong_pairs:Df P w K mg base (CXE P w) 5 "refuse_wrong_pairs" ["disk", "pairs"] (zE8 K a)) (D_write_log:Df P w K mg base (CXE P w) 6 "write_log" ["disk", "pairs"] (zMa K a)) (D_write_homes:Df P w K mg base (CXE P w) 6 "write_homes" ["disk", "pairs"] (zG4 K a)):FnOk P w K mg base (CXE P w) 7 f fd ["disk", "pairs"] (zHa K a):=by
 obtain ⟨_,_,Grefuse_wrong_pairs,brefuse_wrong_pairs,krefuse_wrong_pairs,mrefuse_wrong_pairs⟩:=D_refuse_wrong_pairs
 obtain ⟨_,_,Gwrite_log,bwrite_log,kwrite_log,mwrite_log⟩:=D_write_log
 obtain ⟨_,_,Gwrite_homes,bwrite_homes,kwrite_homes,mwrite_homes⟩:=D_write_homes
 have nd:=sc_commit.nd
 refine F.okE sc_commit (fun vs H Q E h=>?_) (fun cdv A outer s H vs Q E hr hA h=>?_)
 ·obtain ⟨d,kr,ps,S,rfl,_⟩:=h
  rfl
 obtain ⟨d,kr,ps,S,rfl,D,hq⟩:=h
 refine ⟨_,(pss_cons (zT (zH Grefuse_wrong_pairs (hr.mono (by decide)) rfl mrefuse_wrong_pairs krefuse_wrong_pairs brefuse_wrong_pairs .nil (zE (fun _ _ _ h=>h)) (zA (pv 0) (zA (pv 1) zC)) (hcm:=(.inr hA))))
  (zG (zAp (zf zIe (zQ (zX (K:=K) rfl) rfl T.len zA0 (zA (pv 1) zC)) zM (zu _)) (pss_cons (zT (zH Gwrite_log (hr.mono (by decide)) rfl mwrite_log kwrite_log bwrite_log .nil (zE (fun _ _ _ h=>h)) (zA (pv 0) (zA (pv 1) zC)) (hcm:=(.inr hA))))
  (zG (zT (zH Gwrite_homes (hr.mono (by decide)) rfl mwrite_homes kwrite_homes bwrite_homes .nil (zE (fun _ _ _ h=>h)) (zA (pv 0) (zA (pv 1) zC)) (hcm:=(.inr hA)))))) zU))),?_⟩
 rcases hq with ⟨L,PK,hq⟩ | ⟨G,PA,hl,ri,gG,q⟩
 ·refine ⟨_,rfl,_,rfl,d,kr,ps,S,L,rfl,D,PK,fun h=>?_,fun h H' s'=>?_⟩
  ·rcases hq with ⟨_,q⟩ | ⟨z,_⟩ | ⟨z,_⟩
   ·exact q
   ·omega
   ·omega
  ·rcases hq with ⟨z,_⟩ | ⟨_,e,q⟩ | ⟨_,e,q⟩
   ·omega
   ·rw [e];exact q H' s'
   ·rw [e];exact q H' s'
 ·obtain ⟨ts,rs,PT⟩:=id PA
  obtain ⟨h1,h2,h2',h3⟩:=id PT
  have lz:(List.zipWith (fun (x:Nat × List Int) r=>(V.int x.1,V.ref r,true)) G rs).length=G.length:=by rw [List.length_zipWith,h2'];omega
  refine ⟨_,rfl,_,rfl,d,kr,ps,S,List.zipWith (fun (x:Nat × List Int) r=>(V.int x.1,V.ref r,true)) G rs,rfl,D,⟨ts,h1,by rw [lz];exact h2,fun i t x e1 e2=>?_⟩,fun h=>absurd h (by rw [lz];omega),fun h H1 s1=>?_⟩
  ·obtain ⟨hi,rfl⟩:=List.getElem?_eq_some_iff.mp e1
   obtain ⟨hj,rfl⟩:=List.getElem?_eq_some_iff.mp e2
   rw [List.getElem_zipWith]
   obtain ⟨p1,p2⟩:=h3 i hi (by omega) (by omega)
   exact ⟨p1,.int _,zBe p2 (gG _ (List.getElem_mem _))⟩
  ·rw [zLp ri rs h2']
   have D1:=D.same s1
   have PA1:=PA.same s1
   refine ⟨_,rfl,ps,_,rfl,.inl (SqL.of (s1 _ _ h1)),_,_,rfl,rfl,_,rfl,?_⟩
   rw [List.length_map,h2]
   have gb:∀ x ∈ G,x.1 < S.R.length∧zY x.2:=fun x hx=>⟨by have:=ri.all x hx;omega,gG x hx⟩
   have nrs:∀ u,H u≠none→NoRowAt H kr u→H1 u≠none∧NoRowAt H1 kr u:=fun u hu nu=>⟨by
    cases e:H u with
    | none=>exact absurd e hu
    | some o=>rw [s1 _ _ e];simp,nu.chg D (Chg.of s1 (S:=[])) (by simp)⟩
   by_cases hG:G=[]
   ·subst hG
    refine iteF' (by simp) ?_
    have:=q H1 (Chg.of s1) D1 (fun u hu nu=>(nrs u hu nu).2)
    exact this
   ·have hpos:0 < G.length:=List.length_pos_iff.mpr hG
    refine iteT' (decide_eq_true (by omega)) ⟨_,rfl,_,rfl,d,kr,ps,S,G,rfl,D1,PA1,hl,gb,fun H2 c2 D2 nr2=>?_⟩
    have ea:zAk S (allOf G)=if (zAk S (zDn G)).2=true then zAk S (zDn G) else zAk (zAk S (zDn G)).1 (G ++ [(1,zDp)]):=by
     unfold allOf;rw [if_neg hG,zCu]
    by_cases hst:(zAk S (zDn G)).2=true
    ·rw [if_pos hst] at ea ⊢
     have:=q H2 ((Chg.of s1).trans c2) (by rw [ea];exact D2) (fun u hu nu=>nr2 u (nrs u hu nu).1 (nrs u hu nu).2)
     rw [ea,if_pos hst] at this
     exact this
    ·rw [if_neg hst] at ea ⊢
     refine ⟨_,rfl,_,rfl,d,kr,ps,(zAk S (zDn G)).1,G,rfl,D2,?_,fun x hx=>⟨by rw [zCt];exact (gb x hx).1,(gb x hx).2⟩,fun H3 c3 D3 nr3=>?_⟩
     ·obtain ⟨ts1,rs1,PT1⟩:=PA1
      exact ⟨ts1,rs1,PT1.chg D1 gG c2⟩
     ·have:=q H3 (((Chg.of s1).trans c2).trans c3) (by rw [ea];exact D3) (fun u hu nu=>nr3 u (chg_ne c2 (zLt D2) (nrs u hu nu).1) (nr2 u (nrs u hu nu).1 (nrs u hu nu).2))
      rw [ea] at this
      split at this
      ·rename_i z;rw [if_pos z];exact this
      ·rename_i z;rw [if_neg z];exact this
end
end K14
end
section
namespace K14
open PySem L2 BK
section
variable {P:Program}{w:World}{K:PySem.W.Frag}{mg:Str→Option Value}{base:Heap}{f:Addr}{fd:FuncData}{a:Ad}
inductive spBInit' (a:Ad) (vs:List V) (H:Hp) (Q:VK):Prop
 | mk:∀ (x dx d:Addr),(vs=[.ref x,.ref d])→(H x=some (.ins a.cBatch dx []))→(∀ nr H',H nr=none→Chg [x] H H'→(∀ (m:Int) (ρ:Int→List Int),Bat a.cBatch H' x d nr m [] ρ)→Q .non H')→spBInit' a vs H Q
def zFb (K:PySem.W.Frag) (a:Ad):Sp:=fun vs H Q _=>spBInit' a vs H Q
theorem zEn (F:Fun K "__init__" "Batch.__init__" zAa f fd) (T:Txt K mg a)  : FnOk P w K mg base (CXE P w) 1 f fd ["self", "disk"] (zFb K a):=by
 have nd:=sc_Batch___init__.nd
 refine F.okE sc_Batch___init__ (fun vs H Q E h=>?_) (fun cdv A outer s H vs Q E hr hA h=>?_)
 ·obtain ⟨x,dx,d,rfl,_⟩:=h
  rfl
 obtain ⟨x,dx,d,rfl,hx,q⟩:=h
 refine ⟨_,(pss_cons (zCl (pv 0) (pv 1) rfl)
  (zG (zCl (pv 0) zKo rfl))),?_⟩
 refine ⟨_,rfl,_,rfl,x,a.cBatch,dx,_,rfl,hx,T.clBatch,T.n_disk,(by show 0 < 1000;decide),fun nr nnr=>?_⟩
 have hx1:=zF nnr (.dK []) _ _ (zB (H:=H) (a:=x) (o:=.ins a.cBatch dx [("disk", .ref d)]))
 refine ⟨_,rfl,x,a.cBatch,dx,_,rfl,hx1,T.clBatch,T.n_new_rows,(by show 1 < 1000;decide),?_⟩
 have nxn:nr≠x:=Ne.symm (zJ (zB (H:=H) (a:=x) (o:=.ins a.cBatch dx [("disk", .ref d)])) nnr)
 have nH:H nr=none:=by rw [upd_ne nxn] at nnr;exact nnr
 refine q nr _ nH (((Chg.of (Same.refl _)).upd (by simp) _).new nnr _ |>.upd (by simp) _) fun m ρ=>⟨⟨dx,zB⟩,zIt ?_⟩
 rw [upd_ne nxn,zB]
def zAt (R:List (List Int)) (ks:List Int) (ρ:Int→List Int):V→Option (List Int)
 | .int i=>if i ∈ ks then some (ρ i) else if 0≤i then R[i.toNat]? else none
 | _=>none
inductive spBRead' (K:PySem.W.Frag) (a:Ad) (vs:List V) (H:Hp) (Q:VK) (E:XK):Prop
 | mk:∀ (b d kr nr:Addr) (S:DS) (ks:List Int) (ρ:Int→List Int) (v:V),(vs=[.ref b,v])→(Bat a.cBatch H b d nr S.R.length ks ρ)→(zDk a.cDisk H d kr S)→(Kd K H v)→(((∃ row,zAt S.R ks ρ v=some row∧∀ p H',H p=none→Same H H'→H' p=some (.lst (row.map V.int))→Q (.ref p) H')∨(zAt S.R ks ρ v=none∧E (.ref a.cNoBlock) none H)))→spBRead' K a vs H Q E
def zCb (K:PySem.W.Frag) (a:Ad):Sp:=fun vs H Q E=>spBRead' K a vs H Q E
theorem zHn (F:Fun K "read" "Batch.read" zA8 f fd) (T:Txt K mg a) (M_Disk_read:Mf P w K mg base (CXE P w) 3 a.f_read ["self", "block"] (zKd K a)) (D_is_home:Df P w K mg base (CXE P w) 2 "is_home" ["disk", "block"] (zH4 K a)):FnOk P w K mg base (CXE P w) 4 f fd ["self", "block"] (zCb K a):=by
 obtain ⟨_,G_read,b_read⟩:=M_Disk_read
 obtain ⟨_,_,Gis_home,bis_home,kis_home,mis_home⟩:=D_is_home
 have nd:=sc_Batch_read.nd
 refine F.okE sc_Batch_read (fun vs H Q E h=>?_) (fun cdv A outer s H vs Q E hr hA h=>?_)
 ·obtain ⟨b,d,kr,nr,S,ks,ρ,v,rfl,_⟩:=h
  rfl
 obtain ⟨b,d,kr,nr,S,ks,ρ,v,rfl,B,D,kd,hq⟩:=h
 obtain ⟨bx,hb⟩:=B.ex
 obtain ⟨dx,hd⟩:=D.at
 refine ⟨_,(pss_cons (zAp (PW.pt (zPn (zBa (zH Gis_home (hr.mono (by decide)) rfl mis_home kis_home bis_home .nil (zE (fun _ _ _ h=>h)) (zA (zS (K:=K) rfl (pv 0) rfl) (zA (pv 1) zC)) (hcm:=(.inr hA)))) (zMm (zRv (zR1 (zHr hr) (pv 1) (zS (K:=K) rfl (pv 0) rfl)))))) (zG (zV (zCm (zCq (K:=K) rfl) rfl T.list bt_list (zA (zEl (zHr hr) (zS (K:=K) rfl (pv 0) rfl) (pv 1) (fun _ _=>rfl)) zC)))) zU)
  (zG (zV (zy (zS (K:=K) rfl (pv 0) rfl) T.clDisk T.m_read G_read (hr.mono (by decide)) b_read .nil (zE (fun _ _ _ h=>h)) (zA (pv 1) zC) (hcm:=(.inr hA)))))),?_⟩
 have cls:=T.clBatch
 refine ⟨_,rfl,b,a.cBatch,bx,_,_,rfl,hb,cls,T.n_disk,rfl,_,rfl,d,kr,S,v,rfl,D,kd,_,rfl,?_⟩
 have fin:(∀ k,v=.int k→k ∉ ks)→zTn (zPz a.cDisk "read" (zKd K a) [] E (zRh K (zLw 0) "disk") (zK7 (zLw 1) zPm)) { nx:=fun _ H'=>Q .non H',rt:=Q } (zE7 ["self", "block"] [.ref b,v]) H:=by
  intro hk
  refine ⟨_,rfl,b,a.cBatch,bx,_,_,rfl,hb,cls,T.n_disk,rfl,d,dx,_,rfl,hd,rfl,_,rfl,d,kr,S.R,S.n,S.l,v,rfl,D,kd,?_⟩
  cases hv:zg v 0 ((S.R.length:Int) - 1) with
  | true =>
   obtain ⟨n,rfl,hn⟩:=zLy hv
   have es:zAt S.R ks ρ (.int n)=some S.R[n]:=by
    show (if (n:Int) ∈ ks then some (ρ n) else if (0:Int)≤n then S.R[(n:Int).toNat]? else none)=_
    rw [if_neg (hk n rfl),if_pos (by omega),show (n:Int).toNat=n by omega,List.getElem?_eq_getElem hn]
   rcases hq with ⟨row,e,q⟩ | ⟨e,_⟩
   ·rw [es] at e;cases e
    exact .inl ⟨n,_,rfl,List.getElem?_eq_getElem hn,q⟩
   ·rw [es] at e;cases e
  | false =>
   have es:zAt S.R ks ρ v=none:=by
    cases v with
    | int i =>
     have hv':(decide ((0:Int)≤i) && decide (i≤(S.R.length:Int) - 1))=false:=hv
     show (if i ∈ ks then some (ρ i) else if (0:Int)≤i then S.R[i.toNat]? else none)=none
     rw [if_neg (hk i rfl)]
     split
     ·rename_i h0
      rw [decide_eq_true h0,Bool.true_and] at hv'
      have:=of_decide_eq_false hv'
      exact List.getElem?_eq_none (by omega)
     ·rfl
    | _=>rfl
   rcases hq with ⟨row,e,_⟩ | ⟨_,q⟩
   ·rw [es] at e;cases e
   ·exact .inr ⟨rfl,q⟩
 by_cases hw:zg v 17 ((S.R.length:Int) - 1)=true
 ·obtain ⟨k,rfl,h1,h2⟩:=zH0 hw
  refine iteT' hw ?_
  by_cases hk:k ∈ ks
  ·obtain ⟨r,g,hr0⟩:=B.ho.get hk
   refine ⟨_,rfl,_,rfl,b,a.cBatch,bx,_,_,rfl,hb,cls,T.n_new_rows,rfl,nr,_,rfl,g,_,rfl,iteT' (by rfl) ?_⟩
   refine ⟨_,rfl,b,a.cBatch,bx,_,_,rfl,hb,cls,T.n_new_rows,rfl,_,rfl,nr,_,rfl,g,r,_,rfl,.inl (SqL.of hr0),fun p np=>?_⟩
   have es:zAt S.R ks ρ (.int k)=some (ρ k):=if_pos hk
   rcases hq with ⟨row,e,q⟩ | ⟨e,_⟩
   ·rw [es] at e;cases e
    exact q p _ np (zF np _) zB
   ·rw [es] at e;cases e
  ·refine ⟨_,rfl,_,rfl,b,a.cBatch,bx,_,_,rfl,hb,cls,T.n_new_rows,rfl,nr,_,rfl,B.ho.getN hk,_,rfl,iteF' (by rfl) ?_⟩
   exact fin fun j e=>by cases e;exact hk
 ·refine iteF' (Bool.eq_false_iff.mpr hw) ?_
  refine iteF (fin fun k e hk=>?_)
  subst e
  obtain ⟨z1,z2⟩:=B.ho.inn k hk
  exact hw (by show (decide ((17:Int)≤k) && decide (k≤(S.R.length:Int) - 1))=true;rw [decide_eq_true z1,decide_eq_true z2];rfl)
inductive spBWrite' (K:PySem.W.Frag) (a:Ad) (vs:List V) (H:Hp) (Q:VK) (E:XK):Prop
  | mk:∀ (b d kr nr:Addr) (S:DS) (ks:List Int) (ρ:Int→List Int) (v r:V) (ok:Bool),(vs=[.ref b,v,r])→(Bat a.cBatch H b d nr S.R.length ks ρ)→(zDk a.cDisk H d kr S)→(Kd K H v)→(RowA K H r ok)→(ks.length < 900)→(((zg v 17 ((S.R.length:Int) - 1)=false∧E (.ref a.cNoBlock) none H) ∨
   (zg v 17 ((S.R.length:Int) - 1)=true∧ok=false∧∀ H',Same H H'→E (.ref a.cBadRow) none H') ∨
   (∃ (k:Int) (p:Addr) (row:List Int),v=.int k∧17≤k∧k≤(S.R.length:Int) - 1∧r=.ref p∧H p=some (.lst (row.map V.int))∧zY row ∧
     ∀ H',Chg [nr] H H'→Bat a.cBatch H' b d nr S.R.length (insK ks k) (fun j=>if j=k then row else ρ j)→zDk a.cDisk H' d kr S→(∀ u,H u≠none→OffD H nr u→OffD H' nr u)→Q .non H')))→spBWrite' K a vs H Q E
def zCs (K:PySem.W.Frag) (a:Ad):Sp:=fun vs H Q E=>spBWrite' K a vs H Q E
theorem zF2 (F:Fun K "write" "Batch.write" zAy f fd) (T:Txt K mg a) (D_is_home:Df P w K mg base (CXE P w) 2 "is_home" ["disk", "block"] (zH4 K a)) (D_is_row:Df P w K mg base CX0 4 "is_row" ["thing"] (zEh K a)):FnOk P w K mg base (CXE P w) 5 f fd ["self", "block", "row"] (zCs K a):=by
 obtain ⟨_,_,Gis_home,bis_home,kis_home,mis_home⟩:=D_is_home
 obtain ⟨_,_,Gis_row,bis_row,kis_row,mis_row⟩:=D_is_row
 have nd:=sc_Batch_write.nd
 refine F.okE sc_Batch_write (fun vs H Q E h=>?_) (fun cdv A outer s H vs Q E hr hA h=>?_)
 ·obtain ⟨b,d,kr,nr,S,ks,ρ,v,r,ok,rfl,_⟩:=h
  rfl
 obtain ⟨b,d,kr,nr,S,ks,ρ,v,r,ok,rfl,B,D,kd,rA,hz,hq⟩:=h
 obtain ⟨bx,hb⟩:=B.ex
 refine ⟨_,(pss_cons (zAp (zBs (zBa (zH Gis_home (hr.mono (by decide)) rfl mis_home kis_home bis_home .nil (zE (fun _ _ _ h=>h)) (zA (zS (K:=K) rfl (pv 0) rfl) (zA (pv 1) zC)) (hcm:=(.inr hA))))) (zG (za (zAl (fun _ _ _ h=>h)) rfl hA rfl T.mNoBlock T.xNoBlock (zA zAr zC))) zU)
  (pss_cons (zAp (zBs (zBa (zH Gis_row (hr.mono (by decide)) rfl mis_row kis_row bis_row .nil zw (zA (pv 2) zC)))) (zG (za (zAl (fun _ _ _ h=>h)) rfl hA rfl T.mBadRow T.xBadRow (zA zAr zC))) zU)
  (zG (zMq (zHr hr) (zS (K:=K) rfl (pv 0) rfl) (pv 1) (zCm (zCq (K:=K) rfl) rfl T.list bt_list (zA (pv 2) zC)) rfl)))),?_⟩
 refine ⟨_,rfl,b,a.cBatch,bx,_,_,rfl,hb,T.clBatch,T.n_disk,rfl,_,rfl,d,kr,S,v,rfl,D,kd,_,rfl,?_⟩
 rcases hq with ⟨hw,q⟩ | ⟨hw,rfl,q⟩ | ⟨k,p,row,rfl,h1,h2,rfl,hp,g,q⟩
 ·exact iteT' (by rw [hw];rfl) ⟨(by show 1≤1000;decide),q⟩
 ·refine iteF' (by rw [hw];rfl) ⟨_,rfl,r,false,rfl,rA,fun H1 s1=>⟨_,rfl,iteT' (by rfl) ⟨(by show 1≤1000;decide),q H1 s1⟩⟩⟩
 ·have hw:zg (.int k) 17 ((S.R.length:Int) - 1)=true:=by show (decide ((17:Int)≤k) && decide (k≤(S.R.length:Int) - 1))=true;rw [decide_eq_true h1,decide_eq_true h2];rfl
  refine iteF' (by rw [hw];rfl) ⟨_,rfl,.ref p,true,rfl,zBe hp g,fun H1 s1=>⟨_,rfl,iteF' (by rfl) ?_⟩⟩
  refine ⟨_,rfl,p,_,rfl,.inl (SqL.of (s1 _ _ hp)),fun r1 n1=>?_⟩
  have s2:=s1.trans (zF n1 (.lst (row.map V.int)))
  have B2:=B.same s2
  obtain ⟨H3,dp,c3,Ho3,of3⟩:=B2.ho.put2 hz h1 h2 (r:=r1) (row:=row) zB g
  refine ⟨_,rfl,b,a.cBatch,bx,_,_,rfl,s2 _ _ hb,T.clBatch,T.n_new_rows,rfl,_,rfl,nr,H3,rfl,dp,?_⟩
  obtain ⟨kvs,en⟩:=B2.ho.at
  have c:Chg [nr] H H3:=(Chg.of s2).trans c3
  have nbn:b ∉ [nr]:=by simp only [List.mem_singleton];exact ze (s2 _ _ hb) en (fun z=>by cases z)
  refine q H3 c ⟨⟨bx,c3 _ _ (s2 _ _ hb) nbn⟩,Ho3⟩ (zFv (D.same s2) ⟨kvs,en⟩ c3) fun u hu ou=>of3 u (ou.same B.ho s2) fun z=>?_
  subst z
  exact hu (s1.free n1)
inductive spBPairs' (a:Ad) (vs:List V) (H:Hp) (Q:VK):Prop
 | mk:∀ (b d nr:Addr) (m:Int) (ks:List Int) (ρ:Int→List Int),(vs=[.ref b])→(Bat a.cBatch H b d nr m ks ρ)→(ks.length < 64)→(∀ (p:Addr) (ts rs:List Addr) (ns:List Int) (H':Hp),H p=none→Same H H'→zK3 ks ns→PairsTs H' p ts rs (zn ns ρ)→(∀ r ∈ rs,H r=none)→(∀ t ∈ ts,H t=none)→Q (.ref p) H')→spBPairs' a vs H Q
def zHb (K:PySem.W.Frag) (a:Ad):Sp:=fun vs H Q _=>spBPairs' a vs H Q
theorem zLc {H2 H0:Hp}{acc:Addr}{vs:List V}{ns ks:List Int}{ρ:Int→List Int}{m:Int}(hacc:H2 acc=some (.lst vs)) (hlv:vs.length=ns.length) (inn:∀ k ∈ ns,17≤k∧k≤m - 1)
  (hg:∀ i v,vs[i]? = some v→∃ t r,v=.ref t∧H2 t=some (.tup [.int (ns.getD i 0),.ref r])∧H2 r=some (.lst ((ρ (ns.getD i 0)).map V.int))∧H0 r=none∧H0 t=none) :
  ∃ ts rs,PairsTs H2 acc ts rs (zn ns ρ)∧(∀ r ∈ rs,H0 r=none)∧∀ t ∈ ts,H0 t=none:=by
 obtain ⟨ts,rs,c1,c2,c3⟩:=zNz (P:=fun i t r=>vs[i]? = some (.ref t)∧H2 t=some (.tup [.int (ns.getD i 0),.ref r])∧H2 r=some (.lst ((ρ (ns.getD i 0)).map V.int))∧H0 r=none∧H0 t=none) ns.length fun i hi=>by
  obtain ⟨t,r,z1,z4,z5,z6⟩:=hg i _ (List.getElem?_eq_getElem (by omega))
  exact ⟨t,r,by rw [← z1];exact List.getElem?_eq_getElem (by omega),z4,z5,z6⟩
 have ev:vs=ts.map V.ref:=List.ext_getElem? fun i=>by
  rw [List.getElem?_map]
  by_cases hi:i < ns.length
  ·rw [(c3 i (by omega) (by omega)).1,List.getElem?_eq_getElem (by omega)];rfl
  ·rw [List.getElem?_eq_none (by omega),List.getElem?_eq_none (by omega)];rfl
 subst ev
 refine ⟨ts,rs,⟨hacc,by unfold zn;rw [List.length_map];exact c1,by unfold zn;rw [List.length_map];exact c2,fun i b1 b2 b3=>?_⟩,fun r hr=>?_,fun t ht=>?_⟩
 ·obtain ⟨_,z4,z5,_⟩:=c3 i b1 b2
  have hi:i < ns.length:=by omega
  have eg:ns.getD i 0=ns[i]:=by rw [List.getD_eq_getElem?_getD,List.getElem?_eq_getElem hi];rfl
  rw [eg] at z4 z5
  have eb:(zn ns ρ)[i]=(ns[i].toNat,ρ ns[i]):=by simp [zn]
  rw [eb]
  have:=inn _ (List.getElem_mem hi)
  exact ⟨by rw [z4];show _=some (HO.tup [V.int ((ns[i].toNat:Nat):Int),_]);rw [show ((ns[i].toNat:Nat):Int)=ns[i] by omega],z5⟩
 ·obtain ⟨i,hi,e⟩:=List.mem_iff_getElem.mp hr
  rw [← e];exact (c3 i (by omega) hi).2.2.2.1
 ·obtain ⟨i,hi,e⟩:=List.mem_iff_getElem.mp ht
  rw [← e];exact (c3 i hi (by omega)).2.2.2.2
theorem zF3 (F:Fun K "pairs" "Batch.pairs" zAz f fd) (T:Txt K mg a)  : FnOk P w K mg base CX0 1 f fd ["self"] (zHb K a):=by
 have nd:=sc_Batch_pairs.nd
 refine F.ok sc_Batch_pairs (fun vs H Q E h=>?_) (fun cdv A outer s H vs Q E hr h=>?_)
 ·obtain ⟨b,d,nr,m,ks,ρ,rfl,_⟩:=h
  rfl
 obtain ⟨b,d,nr,m,ks,ρ,rfl,B,hz,q⟩:=h
 obtain ⟨bx,hb⟩:=B.ex
 refine ⟨_,(zG (zV (zJk (cl:=[("self", s.heap.objs.size + 1)]) (fj:=[("self", 0)]) (by exact LcOk.of ["self"] rfl (by decide +kernel) rfl (by decide +kernel) rfl (fun p h=>(by rw [List.mem_singleton.mp h];rfl)) rfl (by decide +kernel) (fun p h=>(by rw [List.mem_singleton.mp h];exact ⟨rfl,rfl,.inl rfl⟩)) (by decide +kernel)) rfl (zBt (K:=K) rfl (zQ zHw rfl T.sorted zIz (zA (zS (K:=K) rfl (pv 0) rfl) zC))) (fun _ _ _=>zGj) (fun _ _ _=>(zMt (zA (pv 0) (zA (zCm (zCq (K:=K) rfl) rfl T.list bt_list (zA (zEl (zHr hr) (zS (K:=K) rfl (pv 1) rfl) (pv 0) (fun _ _=>rfl)) zC)) zC))))))),?_⟩
 obtain ⟨kvs,e1,e2,e3⟩:=B.ho.ex
 have hlen:kvs.length=ks.length:=by have:=congrArg List.length e2;simpa using this
 refine ⟨_,rfl,b,a.cBatch,bx,_,_,rfl,hb,T.clBatch,T.n_new_rows,rfl,nr,kvs,ks,rfl,e1,e2,by omega,fun l ns nl perm srt=>⟨l,rfl,⟨_,SqL.of zB⟩,?_⟩⟩
 have s2:=zF nl (.lst (ns.map V.int))
 have mem:∀ k,k ∈ ns→k ∈ ks:=fun k hk=>perm.mem_iff.mp hk
 have pw:=zF4 srt (perm.nodup_iff.mpr B.ho.nd)
 have hl':ns.length=ks.length:=perm.length_eq
 refine zOy (xs:=ns.map V.int) (by rw [List.length_map];omega) zB (fun acc H' i v=>∃ t r,v=.ref t∧t≠acc∧r≠acc∧H' t=some (.tup [.int (ns.getD i 0),.ref r])∧H' r=some (.lst ((ρ (ns.getD i 0)).map V.int))∧H r=none∧H t=none) ?_ ?_ ?_
 ·rintro acc H H' i v k ⟨t,r,z1,z2,z3,z4,z5,z6⟩
  exact ⟨t,r,z1,z2,z3,k _ _ z2 z4,k _ _ z3 z5,z6⟩
 ·intro acc i v H2 Qf hx h0 s3 ha k
  obtain ⟨hi,ev⟩:=List.getElem?_eq_some_iff.mp hx
  rw [List.length_map] at hi
  rw [List.getElem_map] at ev
  subst ev
  have eg:ns.getD i 0=ns[i]:=by rw [List.getD_eq_getElem?_getD,List.getElem?_eq_getElem hi];rfl
  have s4:=s2.trans s3
  obtain ⟨r0,g,hr0⟩:=(B.ho.same s4).get (mem _ (List.getElem_mem hi))
  refine ⟨_,rfl,_,rfl,b,a.cBatch,bx,_,_,rfl,s4 _ _ hb,T.clBatch,T.n_new_rows,rfl,_,rfl,nr,_,rfl,g,r0,_,rfl,.inl (SqL.of hr0),fun r nr'=>⟨(by show 2≤sizeLine;decide),fun t nt=>?_⟩⟩
  have y1:=zF nr' (.lst ((ρ ns[i]).map V.int))
  refine k _ _ (y1.trans (zF nt _)) ⟨t,r,rfl,fun z=>ha (by rw [← z];exact y1.free nt),fun z=>ha (by rw [← z];exact nr'),by rw [zB,eg],by rw [eg];exact zF nt _ _ _ zB,s4.free nr',s4.free (y1.free nt)⟩
 ·intro acc vs H2 h0 s3 hacc hlv hg
  rw [List.length_map] at hlv
  obtain ⟨ts,rs,PT,n1,n2⟩:=zLc (H0:=H) (ns:=ns) (ks:=ks) (ρ:=ρ) (m:=m) hacc hlv (fun k hk=>B.ho.inn k (mem k hk)) fun i v hv=>by
   obtain ⟨t,r,z1,_,_,z4,z5,z6,z7⟩:=hg i v hv
   exact ⟨t,r,z1,z4,z5,z6,z7⟩
  exact q acc ts rs ns H2 (s2.free h0) (s2.trans s3) ⟨perm,pw⟩ PT n1 n2
inductive spBFinish' (a:Ad) (vs:List V) (H:Hp) (Q:VK) (E:XK):Prop
  | mk:∀ (b d kr nr:Addr) (S:DS) (ks:List Int) (ρ:Int→List Int),(vs=[.ref b])→(Bat a.cBatch H b d nr S.R.length ks ρ)→(zDk a.cDisk H d kr S)→(ks.length < 64)→(S.l=none)→(((15 < ks.length∧∀ H',Same H H'→E (.ref a.cTooMuch) none H') ∨
   (ks.length≤15∧∀ (ns:List Int) (nr':Addr) (H':Hp),zK3 ks ns→H nr'=none→Chg [d,kr,b] H H'→zDk a.cDisk H' d kr (zAk S (allOf (zn ns ρ))).1→(∀ (m:Int) (ρ':Int→List Int),Bat a.cBatch H' b d nr' m [] ρ')→(∀ u,H u≠none→NoRowAt H kr u→NoRowAt H' kr u)→Q .non H')))→spBFinish' a vs H Q E
def zDv (K:PySem.W.Frag) (a:Ad):Sp:=fun vs H Q E=>spBFinish' a vs H Q E
theorem zFl (F:Fun K "finish" "Batch.finish" zAo f fd) (T:Txt K mg a) (D_commit:Df P w K mg base (CXE P w) 7 "commit" ["disk", "pairs"] (zHa K a)) (M_Batch_pairs:Mf P w K mg base CX0 1 a.f_pairs ["self"] (zHb K a)):FnOk P w K mg base (CXE P w) 8 f fd ["self"] (zDv K a):=by
 obtain ⟨_,_,Gcommit,bcommit,kcommit,mcommit⟩:=D_commit
 obtain ⟨_,G_pairs,b_pairs⟩:=M_Batch_pairs
 have nd:=sc_Batch_finish.nd
 refine F.okE sc_Batch_finish (fun vs H Q E h=>?_) (fun cdv A outer s H vs Q E hr hA h=>?_)
 ·obtain ⟨b,d,kr,nr,S,ks,ρ,rfl,_⟩:=h
  rfl
 obtain ⟨b,d,kr,nr,S,ks,ρ,rfl,B,D,hz,hl,hq⟩:=h
 obtain ⟨bx,hb⟩:=B.ex
 refine ⟨_,(pss_cons (zT (zH Gcommit (hr.mono (by decide)) rfl mcommit kcommit bcommit .nil (zE (fun _ _ _ h=>h)) (zA (zS (K:=K) rfl (pv 0) rfl) (zA (zBq (pv 0) T.clBatch T.m_pairs G_pairs (hr.mono (by decide)) b_pairs .nil zw) zC)) (hcm:=(.inr hA))))
  (zG (zCl (pv 0) zKo rfl))),?_⟩
 refine ⟨_,rfl,b,a.cBatch,bx,_,_,rfl,hb,T.clBatch,T.n_disk,rfl,_,rfl,b,bx,_,rfl,hb,rfl,b,d,nr,S.R.length,ks,ρ,rfl,B,hz,fun p ts rs ns H1 np s1 so PT n1 n2=>?_⟩
 have D1:=D.same s1
 have B1:=B.same s1
 have mem:∀ k,k ∈ ns→k ∈ ks:=fun k hk=>so.1.mem_iff.mp hk
 have hln:ns.length=ks.length:=so.1.length_eq
 have lb:(zn ns ρ).length=ns.length:=by unfold zn;simp
 have gb:∀ x ∈ zn ns ρ,zY x.2:=fun x hx=>by
  unfold zn at hx
  obtain ⟨k,hk,rfl⟩:=List.mem_map.mp hx
  exact B.ho.good k (mem k hk)
 refine ⟨d,kr,p,S,rfl,D1,?_⟩
 rcases hq with ⟨h15,q⟩ | ⟨h15,q⟩
 ·obtain ⟨h1,h2,h2',h3⟩:=id PT
  have lz:(List.zipWith (fun (x:Nat × List Int) r=>(V.int x.1,V.ref r,true)) (zn ns ρ) rs).length=ns.length:=by rw [List.length_zipWith,h2',lb];omega
  refine .inl ⟨List.zipWith (fun (x:Nat × List Int) r=>(V.int x.1,V.ref r,true)) (zn ns ρ) rs,⟨ts,h1,by rw [lz,← lb];exact h2,fun i t x e1 e2=>?_⟩,.inl ⟨by rw [lz];omega,q H1 s1⟩⟩
  obtain ⟨hi,rfl⟩:=List.getElem?_eq_some_iff.mp e1
  obtain ⟨hj,rfl⟩:=List.getElem?_eq_some_iff.mp e2
  rw [List.getElem_zipWith]
  obtain ⟨p1,p2⟩:=h3 i hi (by omega) (by omega)
  exact ⟨p1,.int _,zBe p2 (gb _ (List.getElem_mem _))⟩
 ·have ri:Rises S.R.length none (zn ns ρ):=zKh so.2 (fun k hk=>B.ho.inn k (mem k hk)) (fun j e=>by cases e)
  refine .inr ⟨zn ns ρ,⟨ts,rs,PT⟩,by omega,ri,gb,fun H2 c2 D2 nr2=>?_⟩
  have hf:(zAk S (allOf (zn ns ρ))).2=false:=by rw [zC6 hl]
  rw [hf,if_neg (by decide)]
  have B2:=B1.disk D1 c2
  obtain ⟨bx2,hb2⟩:=B2.ex
  refine fun nr' nnr=>⟨_,rfl,b,a.cBatch,bx2,_,rfl,zF nnr _ _ _ hb2,T.clBatch,T.n_new_rows,(by show 2 < 1000;decide),?_⟩
  have nbn:nr'≠b:=Ne.symm (zJ hb2 nnr)
  have cA:Chg [d,kr,b] H H2:=((Chg.of s1).trans c2).mono (by simp)
  have nH:H nr'=none:=by
   cases e:H nr' with
   | none=>rfl
   | some o =>
    exfalso
    have:=chg_ne ((Chg.of s1).trans c2) (zLt D2) (u:=nr') (by rw [e];simp)
    exact this nnr
  obtain ⟨_,_,g1,g2,_⟩:=D2.ex
  have D3:=D2.same (zF nnr (.dK []))
  have nob:NoRowAt (upd H2 nr' (.dK [])) kr b:=fun rs' hrs' hm=>by
   obtain ⟨_,rs2,_,z2,z3⟩:=D3.ex
   rw [z2] at hrs'
   have er:rs2=rs':=zDe (by injection hrs' with z;injection z)
   subst er
   obtain ⟨row,_,e⟩:=z3.all hm
   rw [zF nnr _ _ _ hb2] at e;cases e
  have nbd:b≠d:=by
   intro z
   have hB:=B2
   subst z
   rw [hb2] at g1
   injection g1 with g1
   injection g1 with _ _ g1
   injection g1 with g1
   injection g1 with g1
   exact absurd g1 (by decide)
  have nbk:b≠kr:=ze hb2 g2 (fun z=>by cases z)
  refine q ns nr' _ so nH ((cA.new nnr _).upd (by simp) _) (D3.off nob nbd nbk _) (fun m ρ'=>⟨⟨bx2,zB⟩,zIt (by rw [upd_ne nbn,zB])⟩) (fun u hu nu=>?_)
  refine zFm D3 ?_ nbk _
  refine (nr2 u ?_ (nu.chg D (Chg.of s1 (S:=[])) (by simp))).chg D2 (Chg.of (zF nnr _) (S:=[])) (by simp)
  cases e:H u with
  | none=>exact absurd e hu
  | some o=>rw [s1 _ _ e];simp
end
end K14
end
section
namespace K14
open PySem L2 BK
section
variable {K:PySem.W.Frag}{a:Ad}
theorem zFc {R:List (List Int)}{ks:List Int}{ρ:Int→List Int}{n:Nat}(hn:n < R.length):zAt R ks ρ (.int n)=some (if (n:Int) ∈ ks then ρ n else R[n]):=by
 show (if (n:Int) ∈ ks then some (ρ n) else if (0:Int)≤n then R[(n:Int).toNat]? else none)=_
 by_cases h:(n:Int) ∈ ks
 ·rw [if_pos h,if_pos h]
 ·rw [if_neg h,if_neg h,if_pos (by omega),show (n:Int).toNat=n by omega,List.getElem?_eq_getElem hn]
structure Mp (a:Ad) (H:Hp) (b d kr nr y:Addr) (S:DS) (ks:List Int) (ρ:Int→List Int) (m t:Int):Prop where
 bat:Bat a.cBatch H b d nr S.R.length ks ρ
 dk:zDk a.cDisk H d kr S
 lay:LayAt a.cLayout H y m t
 good:zFw m t
 len:(S.R.length:Int)=m
 few:ks.length < 800
theorem Mp.same {H H':Hp}{b d kr nr y:Addr}{S:DS}{ks:List Int}{ρ:Int→List Int}{m t:Int}(x:Mp a H b d kr nr y S ks ρ m t) (s:Same H H'):Mp a H' b d kr nr y S ks ρ m t:=⟨x.bat.same s,x.dk.same s,x.lay.same s,x.good,x.len,x.few⟩
theorem Mp.at {H:Hp}{b d kr nr y:Addr}{S:DS}{ks:List Int}{ρ:Int→List Int}{m t:Int}(x:Mp a H b d kr nr y S ks ρ m t) {j:Nat}(hj:j < S.R.length):∃ row,zAt S.R ks ρ (.int j)=some row∧zY row:=by
 have es:=zFc (ks:=ks) (ρ:=ρ) hj
 refine ⟨_,es,?_⟩
 split
 ·rename_i h;exact x.bat.ho.good _ h
 ·exact x.dk.good _ (List.getElem_mem hj)
def Ofs (nr:Addr) (H H':Hp):Prop:=∀ u,H u≠none→OffD H nr u→OffD H' nr u∧H' u≠none
theorem Ofs.refl {nr:Addr}{H:Hp}:Ofs nr H H:=fun _ h o=>⟨o,h⟩
theorem Ofs.trans {nr:Addr}{H H1 H2:Hp}(x:Ofs nr H H1) (y:Ofs nr H1 H2):Ofs nr H H2:=fun u h o=>let ⟨o1,h1⟩:=x u h o;y u h1 o1
theorem zMh {H H':Hp}{u:Addr}(s:Same H H') (h:H u≠none):H' u≠none:=by
 cases e:H u with
 | none=>exact absurd e h
 | some o=>rw [s _ _ e];simp
theorem Mp.ofs {H H':Hp}{b d kr nr y:Addr}{S:DS}{ks:List Int}{ρ:Int→List Int}{m t:Int}(x:Mp a H b d kr nr y S ks ρ m t) (s:Same H H'):Ofs nr H H':=fun u h o=>⟨o.same x.bat.ho s,zMh s h⟩
theorem zGm {H H':Hp}{b d nr:Addr}{C:Addr}{m:Int}{ks:List Int}{ρ:Int→List Int}(c:Chg [nr] H H') (B:Bat C H' b d nr m ks ρ) (of:∀ u,H u≠none→OffD H nr u→OffD H' nr u):Ofs nr H H':=fun u h o=>⟨of u h o,by
 by_cases e:u=nr
 ·obtain ⟨kvs,z⟩:=B.ho.at
  rw [e,z];simp
 ·cases q:H u with
  | none=>exact absurd q h
  | some o'=>rw [c _ _ q (by simpa using e)];simp⟩
theorem Mp.ofsU {H:Hp}{b d kr nr y:Addr}{S:DS}{ks:List Int}{ρ:Int→List Int}{m t:Int}(x:Mp a H b d kr nr y S ks ρ m t) {p:Addr}{xs:List V}(hp:H p=some (.lst xs)) (o':HO):Ofs nr H (upd H p o'):=fun u h o=>by
 obtain ⟨kvs,z⟩:=x.bat.ho.at
 refine ⟨o.chg x.bat.ho ((Chg.of (Same.refl _) (S:=[p])).upd (by simp) _) (by simp only [List.mem_singleton];exact Ne.symm (ze hp z (fun q=>by cases q))),?_⟩
 by_cases e:u=p
 ·rw [e,zB];simp
 ·rw [upd_ne e];exact h
end
end K14
end
section
namespace K14
open PySem L2 BK
section
variable {P:Program}{w:World}{K:PySem.W.Frag}{mg:Str→Option Value}{base:Heap}{f:Addr}{fd:FuncData}{a:Ad}
def mw (R:List (List Int)) (ks:List Int) (ρ:Int→List Int) (i:Nat):Int:=((zAt R ks ρ (.int ((17 + i / 16:Nat):Int))).getD []).getD (i % 16) 0
theorem Mp.row {H:Hp}{b d kr nr y:Addr}{S:DS}{ks:List Int}{ρ:Int→List Int}{m t:Int}(x:Mp a H b d kr nr y S ks ρ m t) {i:Nat}(hi:(i:Int) < m):∃ row,zAt S.R ks ρ (.int ((17 + i / 16:Nat):Int))=some row∧zY row∧row[i % 16]? = some (mw S.R ks ρ i)∧17 + i / 16 < S.R.length:=by
 obtain ⟨g1,g2,g3,g4,g5⟩:=x.good
 have hl:=x.len
 have hlt:17 + i / 16 < S.R.length:=by
  unfold zI zP at g5
  omega
 have es:=zFc (ks:=ks) (ρ:=ρ) hlt
 have gr:zY (if ((17 + i / 16:Nat):Int) ∈ ks then ρ ((17 + i / 16:Nat):Int) else S.R[17 + i / 16]):=by
  split
  ·rename_i h;exact x.bat.ho.good _ h
  ·exact x.dk.good _ (List.getElem_mem hlt)
 generalize (if ((17 + i / 16:Nat):Int) ∈ ks then ρ ((17 + i / 16:Nat):Int) else S.R[17 + i / 16])=r at es gr
 have h16:i % 16 < r.length:=by rw [gr.1];omega
 refine ⟨_,es,gr,?_,hlt⟩
 unfold mw
 rw [es]
 show r[i % 16]? = some (r.getD (i % 16) 0)
 rw [List.getD_eq_getElem?_getD,List.getElem?_eq_getElem h16]
 rfl
inductive spIsFree' (K:PySem.W.Frag) (a:Ad) (vs:List V) (H:Hp) (Q:VK) (E:XK):Prop
 | mk:∀ (b d kr nr y:Addr) (S:DS) (ks:List Int) (ρ:Int→List Int) (m t:Int) (v:V),(vs=[.ref b,.ref y,v])→(Mp a H b d kr nr y S ks ρ m t)→(Kd K H v)→(((∃ i:Nat,v=.int i∧(i:Int) < m∧∀ H',Same H H'→Q (.bl (decide (mw S.R ks ρ i=0))) H')∨(zg v 0 (m - 1)=false∧E (.ref a.cNoBlock) none H)))→spIsFree' K a vs H Q E
def zEz (K:PySem.W.Frag) (a:Ad):Sp:=fun vs H Q E=>spIsFree' K a vs H Q E
theorem zLi (F:Fun K "is_free" "is_free" zCh f fd) (T:Txt K mg a) (M_Batch_read:Mf P w K mg base (CXE P w) 4 a.f_Batch_read ["self", "block"] (zCb K a)) (D_is_whole:Df P w K mg base CX0 1 "is_whole" ["thing", "least", "most"] (zCa K a)):FnOk P w K mg base (CXE P w) 5 f fd ["batch", "layout", "block"] (zEz K a):=by
 obtain ⟨_,G_Batch_read,b_Batch_read⟩:=M_Batch_read
 obtain ⟨_,_,Gis_whole,bis_whole,kis_whole,mis_whole⟩:=D_is_whole
 have nd:=sc_is_free.nd
 refine F.okE sc_is_free (fun vs H Q E h=>?_) (fun cdv A outer s H vs Q E hr hA h=>?_)
 ·obtain ⟨b,d,kr,nr,y,S,ks,ρ,m,t,v,rfl,_⟩:=h
  rfl
 obtain ⟨b,d,kr,nr,y,S,ks,ρ,m,t,v,rfl,X,kd,hq⟩:=h
 obtain ⟨yx,hy⟩:=X.lay
 refine ⟨_,(pss_cons (zAp (zBs (zBa (zH Gis_whole (hr.mono (by decide)) rfl mis_whole kis_whole bis_whole .nil zw (zA (pv 2) (zA zM (zA (zO zAg (zS (K:=K) rfl (pv 1) rfl) zM) zC)))))) (zG (za (zAl (fun _ _ _ h=>h)) rfl hA rfl T.mNoBlock T.xNoBlock (zA zAr zC))) zU)
  (pss_cons (ps_set (i:=3) nd rfl (by first|exact Or.inl rfl|exact Or.inr rfl) (zy (pv 0) T.clBatch T.m_Batch_read G_Batch_read (hr.mono (by decide)) b_Batch_read .nil (zE (fun _ _ _ h=>h)) (zA (zO zm (zS (K:=K) rfl (pv 1) rfl) (zO zBg (pv 2) (zK (v:=.int 16) rfl T.cROW_WORDS.choose_spec ⟨_,rfl⟩))) zC) (hcm:=(.inr hA))))
  (zG (zV (zHg zOt (zC7 (zAb (K:=K) rfl) (pv 3) (zO zB7 (pv 2) (zK (v:=.int 16) rfl T.cROW_WORDS.choose_spec ⟨_,rfl⟩)) (fun _ _=>rfl)) (zK (v:=.int 0) rfl T.cFREE.choose_spec ⟨_,rfl⟩) (zu _)))))),?_⟩
 refine ⟨_,rfl,_,rfl,y,a.cLayout,yx,_,_,rfl,hy,T.clLayout,T.n_many,rfl,_,_,rfl,rfl,v,0,_,rfl,kd,_,rfl,?_⟩
 rcases hq with ⟨i,rfl,hi,q⟩ | ⟨hw,q⟩
 ·refine iteF' (by rw [zDa (by omega) (by show (i:Int)≤m - 1;omega)];rfl) ?_
  obtain ⟨row,es,gr,hg,hlt⟩:=X.row hi
  obtain ⟨bx,hb⟩:=X.bat.ex
  refine ⟨_,rfl,b,bx,_,rfl,hb,rfl,_,rfl,y,a.cLayout,yx,_,_,rfl,hy,T.clLayout,T.n_maps_at,rfl,_,rfl,_,_,rfl,rfl,⟨by decide,by decide⟩,_,_,rfl,rfl,?_⟩
  try dsimp (config:={ proj:=false,iota:=false,eta:=false,zeta:=false }) only
  rw [show (17:Int) + (i:Int) / 16=((17 + i / 16:Nat):Int) by omega]
  refine ⟨b,d,kr,nr,S,ks,ρ,_,rfl,X.bat,X.dk,.int _,.inl ⟨row,es,fun p H1 np s1 hp=>?_⟩⟩
  refine ⟨_,rfl,_,rfl,_,_,rfl,rfl,(by show (0:Int) < 16;decide),p,_,_,.int (mw S.R ks ρ i),rfl,rfl,SqL.of hp,?_,rfl,?_⟩
  ·rw [show (i:Int) % 16=((i % 16:Nat):Int) by omega]
   exact zC0 (by rw [List.getElem?_map,hg];rfl)
  ·rw [zLu];exact q H1 s1
 ·exact iteT' (by rw [hw];rfl) ⟨(by show 1≤1000;decide),q⟩
def freeL (R:List (List Int)) (ks:List Int) (ρ:Int→List Int) (m:Nat):List Nat:=(List.range m).filter fun i=>decide (mw R ks ρ i=0)
inductive spFreeBlocks' (a:Ad) (vs:List V) (H:Hp) (Q:VK):Prop
 | mk:∀ (b d kr nr y:Addr) (S:DS) (ks:List Int) (ρ:Int→List Int) (m t:Int),(vs=[.ref b,.ref y])→(Mp a H b d kr nr y S ks ρ m t)→(∀ p H',H p=none→Same H H'→H' p=some (.lst ((freeL S.R ks ρ m.toNat).map fun i:Nat=>V.int (i:Int)))→Q (.ref p) H')→spFreeBlocks' a vs H Q
def zB5 (_:PySem.W.Frag) (a:Ad):Sp:=fun vs H Q _=>spFreeBlocks' a vs H Q
theorem zFz (F:Fun K "free_blocks" "free_blocks" zAv f fd) (T:Txt K mg a) (D_is_free:Df P w K mg base (CXE P w) 5 "is_free" ["batch", "layout", "block"] (zEz K a)):FnOk P w K mg base (CXE P w) 6 f fd ["batch", "layout"] (zB5 K a):=by
 obtain ⟨_,_,Gis_free,bis_free,kis_free,mis_free⟩:=D_is_free
 have nd:=sc_free_blocks.nd
 refine F.okE sc_free_blocks (fun vs H Q E h=>?_) (fun cdv A outer s H vs Q E hr hA h=>?_)
 ·obtain ⟨b,d,kr,nr,y,S,ks,ρ,m,t,rfl,_⟩:=h
  rfl
 obtain ⟨b,d,kr,nr,y,S,ks,ρ,m,t,rfl,X,q⟩:=h
 obtain ⟨yx,hy⟩:=X.lay
 obtain ⟨g1,g2,_⟩:=X.good
 refine ⟨_,(zG (zV (zJk (cl:=[("layout", s.heap.objs.size + 2),("batch", s.heap.objs.size + 1)]) (fj:=[("batch", 0),("layout", 1)]) (by exact LcOk.of ["layout", "batch"] rfl (by decide +kernel) rfl (by decide +kernel) rfl (fun p h=>(by simp only [List.mem_cons,List.not_mem_nil,or_false] at h;rcases h with rfl | rfl <;> rfl)) rfl (by decide +kernel) (fun p h=>(by simp only [List.mem_cons,List.not_mem_nil,or_false] at h;rcases h with rfl | rfl <;> exact ⟨rfl,rfl,.inl rfl⟩)) (by decide +kernel)) rfl (zDw rfl T.range (zA (zS (K:=K) rfl (pv 1) rfl) zC)) (fun _ _ _=>(zRx (zBa (zH Gis_free (hr.mono (by decide)) rfl mis_free kis_free bis_free .nil zOr (zA (pv 1) (zA (pv 2) (zA (pv 0) zC))) (hcm:=(.inr hA)))))) (fun _ _ _=>(pv 0))))),?_⟩
 refine ⟨_,rfl,y,a.cLayout,yx,_,_,rfl,hy,T.clLayout,T.n_many,rfl,_,rfl,by omega,by omega,?_⟩
 refine zM8 (lo:=0) (n:=m.toNat) (by omega) (fun i=>decide (mw S.R ks ρ i=0)) (fun i:Nat=>V.int (i:Int)) (fun i H2 Qb hi s2 k=>?_) (fun i H2 Qf hi hg s2 k=>?_) fun acc H2 na s2 hacc=>q acc H2 na s2 hacc
 ·refine ⟨_,rfl,_,rfl,_,rfl,b,d,kr,nr,y,S,ks,ρ,m,t,_,rfl,X.same s2,.int _,.inl ⟨i,by rw [Int.zero_add],by omega,fun H3 s3=>⟨_,rfl,k H3 s3⟩⟩⟩
 ·refine ⟨_,rfl,?_⟩
  rw [Int.zero_add];exact k H2 (Same.refl _)
def zLb (R:List (List Int)) (ks:List Int) (ρ:Int→List Int) (i:Nat) (x:Int):Int→List Int:=fun j=>if j=((17 + i / 16:Nat):Int) then ((zAt R ks ρ (.int ((17 + i / 16:Nat):Int))).getD []).set (i % 16) x else ρ j
theorem zSa {R:List (List Int)}{ks:List Int}{ρ:Int→List Int}{i j:Nat}{x:Int}(hi:17 + i / 16 < R.length) (hl:((zAt R ks ρ (.int ((17 + i / 16:Nat):Int))).getD []).length=16):mw R (insK ks ((17 + i / 16:Nat):Int)) (zLb R ks ρ i x) j=if j=i then x else mw R ks ρ j:=by
 by_cases hb:j / 16=i / 16
 ·have e1:zAt R (insK ks ((17 + i / 16:Nat):Int)) (zLb R ks ρ i x) (.int ((17 + j / 16:Nat):Int))=some (((zAt R ks ρ (.int ((17 + i / 16:Nat):Int))).getD []).set (i % 16) x):=by
   rw [hb]
   show (if ((17 + i / 16:Nat):Int) ∈ insK ks ((17 + i / 16:Nat):Int) then _ else _)=_
   rw [if_pos (insK_mem.mpr (.inr rfl))]
   unfold zLb
   rw [if_pos rfl]
  unfold mw
  rw [e1,hb]
  show (List.set _ (i % 16) x).getD (j % 16) 0=_
  rw [List.getD_eq_getElem?_getD,List.getElem?_set]
  by_cases hj:j=i
  ·subst hj
   rw [if_pos rfl,if_pos (by rw [hl];omega),if_pos rfl];rfl
  ·rw [if_neg (by omega),if_neg hj,List.getD_eq_getElem?_getD]
 ·have hne:((17 + j / 16:Nat):Int)≠((17 + i / 16:Nat):Int):=by omega
  have e1:zAt R (insK ks ((17 + i / 16:Nat):Int)) (zLb R ks ρ i x) (.int ((17 + j / 16:Nat):Int))=zAt R ks ρ (.int ((17 + j / 16:Nat):Int)):=by
   show (if ((17 + j / 16:Nat):Int) ∈ insK ks ((17 + i / 16:Nat):Int) then some (zLb R ks ρ i x _) else _)=(if ((17 + j / 16:Nat):Int) ∈ ks then _ else _)
   by_cases hk:((17 + j / 16:Nat):Int) ∈ ks
   ·rw [if_pos (insK_mem.mpr (.inl hk)),if_pos hk]
    unfold zLb;rw [if_neg hne]
   ·rw [if_neg (fun z=>(insK_mem.mp z).elim hk hne),if_neg hk]
  unfold mw
  rw [e1,if_neg (fun z=>hb (by rw [z]))]
inductive spMark' (a:Ad) (vs:List V) (H:Hp) (Q:VK):Prop
 | mk:∀ (b d kr nr y:Addr) (S:DS) (ks:List Int) (ρ:Int→List Int) (m t x:Int) (i:Nat),(vs=[.ref b,.ref y,.int i,.int x])→(Mp a H b d kr nr y S ks ρ m t)→((i:Int) < m)→(0≤x)→(x≤1)→(ks.length < 700)→(∀ H',Chg [nr] H H'→Mp a H' b d kr nr y S (insK ks ((17 + i / 16:Nat):Int)) (zLb S.R ks ρ i x) m t→(∀ u,H u≠none→OffD H nr u→OffD H' nr u)→Q .non H')→spMark' a vs H Q
def zKf (K:PySem.W.Frag) (a:Ad):Sp:=fun vs H Q _=>spMark' a vs H Q
theorem zQk (F:Fun K "mark" "mark" zGf f fd) (T:Txt K mg a) (M_Batch_write:Mf P w K mg base (CXE P w) 5 a.f_Batch_write ["self", "block", "row"] (zCs K a)) (D_changed:Df P w K mg base CX0 1 "changed" ["row", "at", "words"] (zBr K a)) (M_Batch_read:Mf P w K mg base (CXE P w) 4 a.f_Batch_read ["self", "block"] (zCb K a)):FnOk P w K mg base (CXE P w) 6 f fd ["batch", "layout", "block", "word"] (zKf K a):=by
 obtain ⟨_,G_Batch_write,b_Batch_write⟩:=M_Batch_write
 obtain ⟨_,_,Gchanged,bchanged,kchanged,mchanged⟩:=D_changed
 obtain ⟨_,G_Batch_read,b_Batch_read⟩:=M_Batch_read
 have nd:=sc_mark.nd
 refine F.okE sc_mark (fun vs H Q E h=>?_) (fun cdv A outer s H vs Q E hr hA h=>?_)
 ·obtain ⟨b,d,kr,nr,y,S,ks,ρ,m,t,x,i,rfl,_⟩:=h
  rfl
 obtain ⟨b,d,kr,nr,y,S,ks,ρ,m,t,x,i,rfl,X,hi,hx0,hx1,few,q⟩:=h
 obtain ⟨yx,hy⟩:=X.lay
 obtain ⟨bx,hb⟩:=X.bat.ex
 obtain ⟨row,es,gr,hg,hlt⟩:=X.row hi
 refine ⟨_,(pss_cons (ps_set (i:=4) nd rfl (by first|exact Or.inl rfl|exact Or.inr rfl) (zO zm (zS (K:=K) rfl (pv 1) rfl) (zO zBg (pv 2) (zK (v:=.int 16) rfl T.cROW_WORDS.choose_spec ⟨_,rfl⟩))))
  (zG (zT (zy (pv 0) T.clBatch T.m_Batch_write G_Batch_write (hr.mono (by decide)) b_Batch_write .nil (zE (fun _ _ _ h=>h)) (zA (pv 4) (zA (zH Gchanged (hr.mono (by decide)) rfl mchanged kchanged bchanged .nil zw (zA (zy (pv 0) T.clBatch T.m_Batch_read G_Batch_read (hr.mono (by decide)) b_Batch_read .nil (zE (fun _ _ _ h=>h)) (zA (pv 4) zC) (hcm:=(.inr hA))) (zA (zO zB7 (pv 2) (zK (v:=.int 16) rfl T.cROW_WORDS.choose_spec ⟨_,rfl⟩)) (zA (zBb (zA (pv 3) zC)) zC)))) zC)) (hcm:=(.inr hA)))))),?_⟩
 refine ⟨_,rfl,y,a.cLayout,yx,_,_,rfl,hy,T.clLayout,T.n_maps_at,rfl,_,rfl,_,_,rfl,rfl,⟨by decide,by decide⟩,_,_,rfl,rfl,?_⟩
 try dsimp (config:={ proj:=false,iota:=false,eta:=false,zeta:=false }) only
 rw [show (17:Int) + (i:Int) / 16=((17 + i / 16:Nat):Int) by omega]
 refine ⟨_,rfl,b,bx,_,rfl,hb,rfl,_,rfl,_,rfl,b,bx,_,rfl,hb,rfl,_,rfl,b,d,kr,nr,S,ks,ρ,_,rfl,X.bat,X.dk,.int _,.inl ⟨row,es,fun p H1 np s1 hp=>?_⟩⟩
 refine ⟨_,rfl,_,_,rfl,rfl,(by show (0:Int) < 16;decide),_,rfl,(by show 1≤sizeLine;decide),fun l1 m1=>?_⟩
 have t1:=zF m1 (.lst [V.int x])
 try dsimp (config:={ proj:=false,iota:=false,eta:=false,zeta:=false }) only
 rw [show (i:Int) % 16=((i % 16:Nat):Int) by omega]
 refine ⟨p,l1,_,_,i % 16,rfl,t1 _ _ hp,zB,by rw [List.length_map,gr.1];decide,(by show 1≤300;decide),fun p2 H2 n2 s2 hp2=>?_⟩
 have sA:=s1.trans (t1.trans s2)
 have er:(row.map V.int).take (i % 16) ++ [V.int x] ++ (row.map V.int).drop (i % 16 + [V.int x].length)=(row.set (i % 16) x).map V.int:=by
  rw [List.map_set,List.set_eq_take_append_cons_drop,if_pos (by rw [List.length_map,gr.1];omega)]
  simp
 rw [er] at hp2
 have gs:zY (row.set (i % 16) x):=⟨by rw [List.length_set];exact gr.1,fun z hz=>by
  rcases List.mem_or_eq_of_mem_set hz with e | e
  ·exact gr.2 z e
  ·subst e;omega⟩
 have X2:=X.same sA
 refine ⟨b,d,kr,nr,S,ks,ρ,_,_,true,rfl,X2.bat,X2.dk,.int _,zBe hp2 gs,by omega,.inr (.inr ⟨((17 + i / 16:Nat):Int),p2,_,rfl,by omega,by omega,rfl,hp2,gs,fun H3 c3 B3 D3 of3=>?_⟩)⟩
 obtain ⟨kvs,en⟩:=X2.bat.ho.at
 have ll:=zDh (ks:=ks) (k:=((17 + i / 16:Nat):Int))
 have eρ:zLb S.R ks ρ i x=fun j=>if j=((17 + i / 16:Nat):Int) then row.set (i % 16) x else ρ j:=by
  unfold zLb;rw [es];rfl
 rw [eρ] at q
 refine q H3 ((Chg.of sA).trans c3) ⟨B3,D3,X2.lay.chg c3 ?_,X.good,X.len,by omega⟩ fun u hu ou=>of3 u ?_ (ou.same X.bat.ho sA)
 ·obtain ⟨yx2,hy2⟩:=X2.lay
  simp only [List.mem_singleton];exact ze hy2 en (fun z=>by cases z)
 ·cases e:H u with
  | none=>exact absurd e hu
  | some o=>rw [sA _ _ e];simp
inductive spTake' (a:Ad) (vs:List V) (H:Hp) (Q:VK) (E:XK):Prop
  | mk:∀ (b d kr nr y:Addr) (S:DS) (ks:List Int) (ρ:Int→List Int) (m t:Int),(vs=[.ref b,.ref y])→(Mp a H b d kr nr y S ks ρ m t)→(ks.length < 700)→(((freeL S.R ks ρ m.toNat=[]∧∀ H',Same H H'→E (.ref a.cNoRoom) none H') ∨
   (∃ i l,freeL S.R ks ρ m.toNat=i :: l∧∀ H',Chg [nr] H H'→Mp a H' b d kr nr y S (insK ks ((17 + i / 16:Nat):Int)) (zLb S.R ks ρ i 1) m t→(∀ u,H u≠none→OffD H nr u→OffD H' nr u)→Q (.int i) H')))→spTake' a vs H Q E
def zMb (K:PySem.W.Frag) (a:Ad):Sp:=fun vs H Q E=>spTake' a vs H Q E
theorem zJx {R:List (List Int)}{ks:List Int}{ρ:Int→List Int}{m:Nat}:∀ i ∈ freeL R ks ρ m,i < m:=fun i hi=>by
 unfold freeL at hi
 have:=(List.mem_filter.mp hi).1
 simpa using this
theorem zQj (F:Fun K "take" "take" zGe f fd) (T:Txt K mg a) (D_free_blocks:Df P w K mg base (CXE P w) 6 "free_blocks" ["batch", "layout"] (zB5 K a)) (D_mark:Df P w K mg base (CXE P w) 6 "mark" ["batch", "layout", "block", "word"] (zKf K a)):FnOk P w K mg base (CXE P w) 7 f fd ["batch", "layout"] (zMb K a):=by
 obtain ⟨_,_,Gfree_blocks,bfree_blocks,kfree_blocks,mfree_blocks⟩:=D_free_blocks
 obtain ⟨_,_,Gmark,bmark,kmark,mmark⟩:=D_mark
 have nd:=sc_take.nd
 refine F.okE sc_take (fun vs H Q E h=>?_) (fun cdv A outer s H vs Q E hr hA h=>?_)
 ·obtain ⟨b,d,kr,nr,y,S,ks,ρ,m,t,rfl,_⟩:=h
  rfl
 obtain ⟨b,d,kr,nr,y,S,ks,ρ,m,t,rfl,X,few,hq⟩:=h
 refine ⟨_,(pss_cons (ps_set (i:=2) nd rfl (by first|exact Or.inl rfl|exact Or.inr rfl) (zH Gfree_blocks (hr.mono (by decide)) rfl mfree_blocks kfree_blocks bfree_blocks .nil (zE (fun _ _ _ h=>h)) (zA (pv 0) (zA (pv 1) zC)) (hcm:=(.inr hA))))
  (pss_cons (zAp (zf zOt (zQ (zX (K:=K) rfl) rfl T.len zA0 (zA (pv 2) zC)) zM (zu _)) (zG (za (zAl (fun _ _ _ h=>h)) rfl hA rfl T.mNoRoom T.xNoRoom (zA zAr zC))) zU)
  (pss_cons (zT (zH Gmark (hr.mono (by decide)) rfl mmark kmark bmark .nil (zE (fun _ _ _ h=>h)) (zA (pv 0) (zA (pv 1) (zA (zC7 (zAb (K:=K) rfl) (pv 2) zM (fun _ _=>rfl)) (zA (zK (v:=.int 1) rfl T.cUSED.choose_spec ⟨_,rfl⟩) zC)))) (hcm:=(.inr hA))))
  (zG (zV (zC7 (zAb (K:=K) rfl) (pv 2) zM (fun _ _=>rfl))))))),?_⟩
 refine ⟨_,rfl,_,rfl,b,d,kr,nr,y,S,ks,ρ,m,t,rfl,X,fun p H1 np s1 hp=>?_⟩
 refine ⟨_,rfl,p,_,rfl,.inl (SqL.of hp),rfl,_,rfl,?_⟩
 rw [List.length_map]
 rcases hq with ⟨e,q⟩ | ⟨i,l,e,q⟩
 ·refine iteT' (by rw [e];rfl) ⟨(by show 1≤1000;decide),q H1 s1⟩
 ·have hi:=zJx i (by rw [e];simp)
  rw [e] at hp ⊢
  have hat:atI ((i :: l).map fun i:Nat=>V.int (i:Int)) 0=some (.int i):=zC0 (j:=0) rfl
  refine iteF' (by rw [zLu];exact decide_eq_false (by simp;omega)) ?_
  refine ⟨_,rfl,_,rfl,_,rfl,p,_,0,_,rfl,rfl,SqL.of hp,hat,?_⟩
  refine ⟨b,d,kr,nr,y,S,ks,ρ,m,t,1,i,rfl,X.same s1,by have:=X.good.1;omega,by decide,by decide,few,fun H2 c2 X2 of2=>?_⟩
  obtain ⟨kvs,en⟩:=(X.bat.ho.same s1).at
  have hp2:H2 p=some (.lst ((i :: l).map fun i:Nat=>V.int (i:Int))):=c2 _ _ hp (by simp only [List.mem_singleton];exact ze hp en (fun z=>by cases z))
  refine ⟨_,rfl,p,_,0,_,rfl,rfl,SqL.of hp2,hat,?_⟩
  exact q H2 ((Chg.of s1).trans c2) X2 fun u hu ou=>of2 u (by
   cases e:H u with
   | none=>exact absurd e hu
   | some o=>rw [s1 _ _ e];simp) (ou.same X.bat.ho s1)
inductive spGive' (K:PySem.W.Frag) (a:Ad) (vs:List V) (H:Hp) (Q:VK) (E:XK):Prop
  | mk:∀ (b d kr nr y:Addr) (S:DS) (ks:List Int) (ρ:Int→List Int) (m t:Int) (v:V),(vs=[.ref b,.ref y,v])→(Mp a H b d kr nr y S ks ρ m t)→(Kd K H v)→(ks.length < 700)→(((zg v (zI m t) (m - 1)=false∧E (.ref a.cNoBlock) none H) ∨
   (∃ i:Nat,v=.int i∧zI m t≤(i:Int)∧(i:Int) < m∧((mw S.R ks ρ i=0∧∀ H',Same H H'→E (.ref a.cNoBlock) none H') ∨
     (mw S.R ks ρ i≠0∧∀ H',Chg [nr] H H'→Mp a H' b d kr nr y S (insK ks ((17 + i / 16:Nat):Int)) (zLb S.R ks ρ i 0) m t→(∀ u,H u≠none→OffD H nr u→OffD H' nr u)→Q .non H')))))→spGive' K a vs H Q E
def zMd (K:PySem.W.Frag) (a:Ad):Sp:=fun vs H Q E=>spGive' K a vs H Q E
theorem zQl (F:Fun K "give" "give" zGg f fd) (T:Txt K mg a) (D_is_free:Df P w K mg base (CXE P w) 5 "is_free" ["batch", "layout", "block"] (zEz K a)) (D_mark:Df P w K mg base (CXE P w) 6 "mark" ["batch", "layout", "block", "word"] (zKf K a)) (D_is_whole:Df P w K mg base CX0 1 "is_whole" ["thing", "least", "most"] (zCa K a)):FnOk P w K mg base (CXE P w) 7 f fd ["batch", "layout", "block"] (zMd K a):=by
 obtain ⟨_,_,Gis_free,bis_free,kis_free,mis_free⟩:=D_is_free
 obtain ⟨_,_,Gmark,bmark,kmark,mmark⟩:=D_mark
 obtain ⟨_,_,Gis_whole,bis_whole,kis_whole,mis_whole⟩:=D_is_whole
 have nd:=sc_give.nd
 refine F.okE sc_give (fun vs H Q E h=>?_) (fun cdv A outer s H vs Q E hr hA h=>?_)
 ·obtain ⟨b,d,kr,nr,y,S,ks,ρ,m,t,v,rfl,_⟩:=h
  rfl
 obtain ⟨b,d,kr,nr,y,S,ks,ρ,m,t,v,rfl,X,kd,few,hq⟩:=h
 obtain ⟨yx,hy⟩:=X.lay
 refine ⟨_,(pss_cons (zAp (zBs (zBa (zH Gis_whole (hr.mono (by decide)) rfl mis_whole kis_whole bis_whole .nil zw (zA (pv 2) (zA (zS (K:=K) rfl (pv 1) rfl) (zA (zO zAg (zS (K:=K) rfl (pv 1) rfl) zM) zC)))))) (zG (za (zAl (fun _ _ _ h=>h)) rfl hA rfl T.mNoBlock T.xNoBlock (zA zAr zC))) zU)
  (pss_cons (zAp (zBa (zH Gis_free (hr.mono (by decide)) rfl mis_free kis_free bis_free .nil (zE (fun _ _ _ h=>h)) (zA (pv 0) (zA (pv 1) (zA (pv 2) zC))) (hcm:=(.inr hA)))) (zG (za (zAl (fun _ _ _ h=>h)) rfl hA rfl T.mNoBlock T.xNoBlock (zA zAr zC))) zU)
  (zG (zT (zH Gmark (hr.mono (by decide)) rfl mmark kmark bmark .nil (zE (fun _ _ _ h=>h)) (zA (pv 0) (zA (pv 1) (zA (pv 2) (zA (zK (v:=.int 0) rfl T.cFREE.choose_spec ⟨_,rfl⟩) zC)))) (hcm:=(.inr hA))))))),?_⟩
 refine ⟨_,rfl,_,rfl,y,a.cLayout,yx,_,_,rfl,hy,T.clLayout,T.n_data_at,rfl,_,rfl,y,a.cLayout,yx,_,_,rfl,hy,T.clLayout,T.n_many,rfl,_,_,rfl,rfl,v,_,_,rfl,kd,_,rfl,?_⟩
 rcases hq with ⟨hw,q⟩ | ⟨i,rfl,h1,h2,hq⟩
 ·exact iteT' (by rw [hw];rfl) ⟨(by show 1≤1000;decide),q⟩
 ·refine iteF' (by rw [zDa h1 (by show (i:Int)≤m - 1;omega)];rfl) ?_
  refine ⟨_,rfl,_,rfl,_,rfl,b,d,kr,nr,y,S,ks,ρ,m,t,_,rfl,X,.int _,.inl ⟨i,rfl,h2,fun H1 s1=>⟨_,rfl,?_⟩⟩⟩
  rcases hq with ⟨e,q⟩ | ⟨e,q⟩
  ·exact iteT' (decide_eq_true e) ⟨(by show 1≤1000;decide),q H1 s1⟩
  ·refine iteF' (decide_eq_false e) ?_
   refine ⟨_,rfl,_,rfl,_,rfl,b,d,kr,nr,y,S,ks,ρ,m,t,0,i,rfl,X.same s1,h2,by decide,by decide,few,fun H2 c2 X2 of2=>?_⟩
   exact q H2 ((Chg.of s1).trans c2) X2 fun u hu ou=>of2 u (by
    cases e:H u with
    | none=>exact absurd e hu
    | some o=>rw [s1 _ _ e];simp) (ou.same X.bat.ho s1)
end
end K14
end
section
namespace K14
open PySem L2 BK
section
variable {P:Program}{w:World}{K:PySem.W.Frag}{mg:Str→Option Value}{base:Heap}{f:Addr}{fd:FuncData}{a:Ad}
def mapsN (m:Int):Nat:=((m + 16 - 1) / 16).toNat
def newW (m t:Int):List Int:=List.replicate (zI m t).toNat 1 ++ List.replicate (m - zI m t).toNat 0 ++ List.replicate (16 * (mapsN m:Int) - m).toNat 1
def zB8 (m t:Int) (j:Nat):List Int:=((newW m t).drop (16 * j)).take 16
theorem zHo {m t:Int}(g:zFw m t):(newW m t).length=16 * mapsN m:=by
 obtain ⟨g1,g2,g3,g4,g5⟩:=g
 unfold newW mapsN
 simp only [List.length_append,List.length_replicate]
 unfold zI zP at *
 omega
theorem zQm {m t:Int}(g:zFw m t) {i:Nat}(hi:i < 16 * mapsN m):(newW m t)[i]? = some (if zI m t≤(i:Int)∧(i:Int) < m then 0 else 1):=by
 have hl:=zHo g
 obtain ⟨g1,g2,g3,g4,g5⟩:=g
 have hd:0≤zI m t:=by unfold zI zP;omega
 unfold newW at hl ⊢
 simp only [List.length_append,List.length_replicate] at hl
 by_cases h1:(i:Int) < zI m t
 ·rw [List.getElem?_append_left (by simp only [List.length_append,List.length_replicate];omega),List.getElem?_append_left (by rw [List.length_replicate];omega),List.getElem?_replicate,if_pos (by omega),if_neg (by omega)]
 ·by_cases h2:(i:Int) < m
  ·rw [List.getElem?_append_left (by simp only [List.length_append,List.length_replicate];omega),List.getElem?_append_right (by rw [List.length_replicate];omega),List.getElem?_replicate,if_pos (by rw [List.length_replicate];omega),if_pos ⟨by omega,h2⟩]
  ·rw [List.getElem?_append_right (by simp only [List.length_append,List.length_replicate];omega),List.getElem?_replicate,if_pos (by simp only [List.length_append,List.length_replicate];omega),if_neg (by omega)]
theorem zJs {m t:Int}(g:zFw m t) {j:Nat}(hj:j < mapsN m):zY (zB8 m t j):=by
 have hl:=zHo g
 refine ⟨by unfold zB8;rw [List.length_take,List.length_drop,hl];omega,fun x hx=>?_⟩
 have hx':x ∈ newW m t:=List.mem_of_mem_drop (List.mem_of_mem_take hx)
 unfold newW at hx'
 rcases List.mem_append.mp hx' with z | z
 ·rcases List.mem_append.mp z with z | z
  ·rw [List.eq_of_mem_replicate z];decide
  ·rw [List.eq_of_mem_replicate z];decide
 ·rw [List.eq_of_mem_replicate z];decide
inductive spNewMaps' (a:Ad) (vs:List V) (H:Hp) (Q:VK):Prop
 | mk:∀ (y:Addr) (m t:Int),(vs=[.ref y])→(LayAt a.cLayout H y m t)→(zFw m t)→(∀ p rs H',H p=none→Same H H'→H' p=some (.lst (rs.map V.ref))→RowsAt H' rs ((List.range (mapsN m)).map (zB8 m t))→(∀ r ∈ rs,H r=none)→rs.Nodup→Q (.ref p) H')→spNewMaps' a vs H Q
def zFa (_:PySem.W.Frag) (a:Ad):Sp:=fun vs H Q _=>spNewMaps' a vs H Q
theorem zHt (n:Nat) (x:Int):(List.replicate n [V.int x]).flatten=(List.replicate n x).map V.int:=by
 induction n with
 | zero=>rfl
 | succ n ih=>rw [List.replicate_succ,List.flatten_cons,ih,List.replicate_succ];rfl
theorem zOz {It0:It}{fj:List (Str × Nat)}{te:TE}{σ:L2.St}{H:Hp}{Q:Addr→Hp→Prop}{n:Nat}(hn:n≤1000) (xv:Nat→V) (hgo:∀ i H,i < n→It0.go i H) (hstop:∀ H,It0.stop n H) (hy:∀ i H x H',It0.yld i H x H'→H'=H∧x=xv i)
  (g:Nat→List Int)
  (hs:∀ (i:Nat) (H':Hp) (Qf:VK),i < n→Same H H'→(∀ r,H' r=none→Qf (.ref r) (upd H' r (.lst ((g i).map V.int))))→te (some (xv i) :: zAj σ fj) H' Qf)
  (hd:∀ acc rs H',H acc=none→Same H H'→H' acc=some (.lst (rs.map V.ref))→RowsAt H' rs ((List.range n).map g)→(∀ r ∈ rs,H r=none)→rs.Nodup→Q acc H') :
  ∀ acc,H acc=none→∃ W:Nat→Nat→List V→Hp→Prop,(∃ m,W 0 m [] (upd H acc (.lst [])))∧∀ i m ys H,W i m ys H →
   (It0.stop i H∧Q acc H)∨(It0.go i H∧∀ x H',It0.yld i H x H'→zOc (some x :: zAj σ fj) H' fun b H2 =>
    if b=true then te (some x :: zAj σ fj) H2 fun v H3=>H3 acc=some (.lst ys)∧ys.length < sizeLine∧∃ m',m' < m∧W (i + 1) m' (ys ++ [v]) (upd H3 acc (.lst (ys ++ [v])))
    else ∃ m',m' < m∧W (i + 1) m' ys H2):=by
 intro acc hacc
 refine ⟨fun i m ys H'=>m=n - i∧i≤n∧∃ rs:List Addr,ys=rs.map V.ref∧rs.length=i∧H' acc=some (.lst ys)∧Same H H'∧RowsAt H' rs ((List.range i).map g)∧(∀ r ∈ rs,H r=none∧H' r≠none∧r≠acc)∧rs.Nodup,⟨n,rfl,Nat.zero_le _,[],rfl,rfl,zB,zF hacc _,⟨rfl,fun i r row e1 _=>by simp at e1⟩,fun r hr=>(by cases hr),List.nodup_nil⟩,?_⟩
 rintro i m ys H' ⟨rfl,hi,rs,rfl,h0,h1,s1,hR,hN,nd⟩
 by_cases hlt:i < n
 ·refine .inr ⟨hgo i H' hlt,fun x H2 y=>?_⟩
  obtain ⟨rfl,rfl⟩:=hy i H' x H2 y
  refine hs i _ _ hlt s1 fun r nr=>?_
  have nra:r≠acc:=fun z=>by rw [z,h1] at nr;cases nr
  have nrr:r ∉ rs:=fun z=>(hN r z).2.1 nr
  have h1':(upd H2 r (.lst ((g i).map V.int))) acc=some (.lst (rs.map V.ref)):=by rw [upd_ne (Ne.symm nra)];exact h1
  refine ⟨h1',small1000 (by rw [List.length_map];omega),n - (i + 1),by omega,rfl,hlt,rs ++ [r],by simp,by simp [h0],zB,zB6 hacc (s1.trans (zF nr _)) _,⟨by simp [h0],fun j u row e1 e2=>?_⟩,fun u hu=>?_,?_⟩
  ·by_cases hj:j < rs.length
   ·rw [List.getElem?_append_left hj] at e1
    rw [List.range_succ,List.map_append,List.getElem?_append_left (by simp;omega)] at e2
    have hu:=List.mem_of_getElem? e1
    rw [upd_ne (hN u hu).2.2,upd_ne (fun z=>nrr (by rw [← z];exact hu))]
    exact hR.2 j u row e1 e2
   ·rw [List.getElem?_append_right (by omega)] at e1
    have ej:j=i:=by
     rcases Nat.lt_or_ge (j - rs.length) 1 with z | z
     ·omega
     ·rw [List.getElem?_eq_none (by simpa using z)] at e1;cases e1
    subst ej
    rw [show j - rs.length=0 by omega] at e1
    rw [List.getElem?_map,List.getElem?_range (by omega)] at e2
    cases e1;cases e2
    rw [upd_ne nra,zB]
  ·rcases List.mem_append.mp hu with z | z
   ·obtain ⟨z1,z2,z3⟩:=hN u z
    refine ⟨z1,?_,z3⟩
    rw [upd_ne z3,upd_ne (fun e=>nrr (by rw [← e];exact z))]
    exact z2
   ·rw [List.mem_singleton.mp z]
    exact ⟨s1.free nr,by rw [upd_ne nra,zB];simp,nra⟩
  ·rw [List.nodup_append]
   exact ⟨nd,by simp,fun x hx y hy z=>nrr (by rw [List.mem_singleton.mp hy] at z;rw [← z];exact hx)⟩
 ·have e:i=n:=by omega
  subst e
  exact .inl ⟨hstop H',hd acc rs H' hacc s1 h1 hR (fun r hr=>(hN r hr).1) nd⟩
theorem zJo (F:Fun K "new_maps" "new_maps" zB1 f fd) (T:Txt K mg a)  : FnOk P w K mg base (CXE P w) 1 f fd ["layout"] (zFa K a):=by
 have nd:=sc_new_maps.nd
 refine F.okE sc_new_maps (fun vs H Q E h=>?_) (fun cdv A outer s H vs Q E hr hA h=>?_)
 ·obtain ⟨y,m,t,rfl,_⟩:=h
  rfl
 obtain ⟨y,m,t,rfl,⟨yx,hy⟩,g,q⟩:=h
 obtain ⟨g1,g2,g3,g4,g5⟩:=id g
 refine ⟨_,(pss_cons (ps_set (i:=1) nd rfl (by first|exact Or.inl rfl|exact Or.inr rfl) (zO zFi (zK (v:=.int 16) rfl T.cROW_WORDS.choose_spec ⟨_,rfl⟩) (zO zAg (zS (K:=K) rfl (pv 0) rfl) (zS (K:=K) rfl (pv 0) rfl))))
  (pss_cons (ps_set (i:=2) nd rfl (by first|exact Or.inl rfl|exact Or.inr rfl) (zO zEt (zBb (zA (zK (v:=.int 0) rfl T.cFREE.choose_spec ⟨_,rfl⟩) zC)) (zO zAg (zS (K:=K) rfl (pv 0) rfl) (zS (K:=K) rfl (pv 0) rfl))))
  (pss_cons (ps_set (i:=3) nd rfl (by first|exact Or.inl rfl|exact Or.inr rfl) (zO zCn (zO zCn (zO zEt (zBb (zA (zK (v:=.int 1) rfl T.cUSED.choose_spec ⟨_,rfl⟩) zC)) (zS (K:=K) rfl (pv 0) rfl)) (pv 2)) (zO zEt (zBb (zA (zK (v:=.int 1) rfl T.cUSED.choose_spec ⟨_,rfl⟩) zC)) (zO zAg (pv 1) (zS (K:=K) rfl (pv 0) rfl)))))
  (zG (zV (zJk (cl:=[("words", s.heap.objs.size + 1)]) (fj:=[("words", 3)]) (by exact LcOk.of ["words"] rfl (by decide +kernel) rfl (by decide +kernel) rfl (fun p h=>(by rw [List.mem_singleton.mp h];rfl)) rfl (by decide +kernel) (fun p h=>(by rw [List.mem_singleton.mp h];exact ⟨rfl,rfl,.inl rfl⟩)) (by decide +kernel)) rfl (L2.pi_range3 rfl T.range (zA zM (zA (pv 1) (zA (zK (v:=.int 16) rfl T.cROW_WORDS.choose_spec ⟨_,rfl⟩) zC)))) (fun _ _ _=>zGj) (fun _ _ _=>(zk (zi (K:=K) rfl) (pv 1) (zh (pv 0)) (zh (zO zm (pv 0) (zK (v:=.int 16) rfl T.cROW_WORDS.choose_spec ⟨_,rfl⟩))))))))))),?_⟩
 have ek:zP m - 17=(mapsN m:Int):=by unfold zP mapsN;omega
 have hk:(mapsN m:Int)≤6:=by unfold mapsN;omega
 have hk16:m≤16 * (mapsN m:Int):=by unfold mapsN;omega
 have hd0:0≤zI m t:=by unfold zI zP;omega
 refine ⟨_,rfl,y,a.cLayout,yx,_,_,rfl,hy,T.clLayout,T.n_nodes_at,rfl,_,rfl,y,a.cLayout,yx,_,_,rfl,hy,T.clLayout,T.n_maps_at,rfl,_,_,rfl,rfl,_,_,rfl,rfl,.inl ⟨by decide,by decide⟩,?_⟩
 try dsimp (config:={ proj:=false,iota:=false,eta:=false,zeta:=false }) only
 rw [ek]
 refine ⟨(by show 1≤sizeLine;decide),fun l1 m1=>?_⟩
 have t1:=zF m1 (.lst [.int 0])
 refine ⟨_,rfl,y,a.cLayout,yx,_,_,rfl,t1 _ _ hy,T.clLayout,T.n_many,rfl,_,rfl,y,a.cLayout,yx,_,_,rfl,t1 _ _ hy,T.clLayout,T.n_data_at,rfl,_,_,rfl,rfl,l1,m - zI m t,[.int 0],rfl,rfl,zB,by omega,by omega,small (by show 1 * (m - zI m t).toNat≤1000;omega),fun l2 m2=>?_⟩
 rw [zHt]
 have t2:=t1.trans (zF m2 (.lst ((List.replicate (m - zI m t).toNat (0:Int)).map V.int)))
 have hl2:=zB (H:=upd H l1 (.lst [.int 0])) (a:=l2) (o:=.lst ((List.replicate (m - zI m t).toNat (0:Int)).map V.int))
 generalize upd (upd H l1 (.lst [.int 0])) l2 (.lst ((List.replicate (m - zI m t).toNat (0:Int)).map V.int))=H2 at t2 hl2 ⊢
 refine ⟨(by show 1≤sizeLine;decide),fun l3 m3=>?_⟩
 have u3:=zF m3 (.lst [.int 1])
 refine ⟨_,rfl,y,a.cLayout,yx,_,_,rfl,(t2.trans u3) _ _ hy,T.clLayout,T.n_data_at,rfl,l3,zI m t,[.int 1],rfl,rfl,zB,by omega,by omega,small (by show 1 * (zI m t).toNat≤1000;omega),fun l4 m4=>?_⟩
 rw [zHt]
 have u4:=u3.trans (zF m4 (.lst ((List.replicate (zI m t).toNat (1:Int)).map V.int)))
 refine ⟨_,rfl,l4,l2,_,_,rfl,rfl,zB,u4 _ _ hl2,small (by simp only [List.length_map,List.length_replicate];omega),fun l5 m5=>?_⟩
 have u5:=u4.trans (zF m5 (.lst ((List.replicate (zI m t).toNat (1:Int)).map V.int ++ (List.replicate (m - zI m t).toNat (0:Int)).map V.int)))
 refine ⟨(by show 1≤sizeLine;decide),fun l6 m6=>?_⟩
 have w6:=zF m6 (.lst [.int 1])
 have hl5:=w6 _ _ (zB (a:=l5) (o:=.lst ((List.replicate (zI m t).toNat (1:Int)).map V.int ++ (List.replicate (m - zI m t).toNat (0:Int)).map V.int)))
 have u6:=u5.trans w6
 refine ⟨_,rfl,_,rfl,y,a.cLayout,yx,_,_,rfl,(t2.trans u6) _ _ hy,T.clLayout,T.n_many,rfl,_,_,rfl,rfl,l6,16 * (mapsN m:Int) - m,[.int 1],rfl,rfl,zB,by omega,by omega,small (by show 1 * (16 * (mapsN m:Int) - m).toNat≤1000;omega),fun l7 m7=>?_⟩
 rw [zHt]
 have w7:=zF m7 (.lst ((List.replicate (16 * (mapsN m:Int) - m).toNat (1:Int)).map V.int))
 refine ⟨l5,l7,_,_,rfl,rfl,w7 _ _ hl5,zB,small (by simp only [List.length_append,List.length_map,List.length_replicate];omega),fun l8 m8=>?_⟩
 have eW:(List.replicate (zI m t).toNat (1:Int)).map V.int ++ (List.replicate (m - zI m t).toNat (0:Int)).map V.int ++ (List.replicate (16 * (mapsN m:Int) - m).toNat (1:Int)).map V.int=(newW m t).map V.int:=by
  unfold newW;rw [List.map_append,List.map_append]
 rw [eW]
 have u8:=(t2.trans u6).trans (w7.trans (zF m8 (.lst ((newW m t).map V.int))))
 have hW:=zB (H:=upd (upd (upd (upd (upd H2 l3 (.lst [.int 1])) l4 (.lst ((List.replicate (zI m t).toNat (1:Int)).map V.int))) l5 (.lst ((List.replicate (zI m t).toNat (1:Int)).map V.int ++ (List.replicate (m - zI m t).toNat (0:Int)).map V.int))) l6 (.lst [.int 1])) l7 (.lst ((List.replicate (16 * (mapsN m:Int) - m).toNat (1:Int)).map V.int))) (a:=l8) (o:=.lst ((newW m t).map V.int))
 generalize upd (upd (upd (upd (upd (upd H2 l3 (.lst [.int 1])) l4 (.lst ((List.replicate (zI m t).toNat (1:Int)).map V.int))) l5 (.lst ((List.replicate (zI m t).toNat (1:Int)).map V.int ++ (List.replicate (m - zI m t).toNat (0:Int)).map V.int))) l6 (.lst [.int 1])) l7 (.lst ((List.replicate (16 * (mapsN m:Int) - m).toNat (1:Int)).map V.int))) l8 (.lst ((newW m t).map V.int))=H8 at u8 hW ⊢
 obtain ⟨sm,rz⟩:=zOh (a:=0) (b:=16 * (mapsN m:Int)) (c:=16) (by decide) (by decide) (by decide) (by decide) (by omega) (by omega)
 rw [show ((16 * (mapsN m:Int) - 0 + 16 - 1) / 16).toNat=mapsN m by omega] at rz
 refine ⟨_,rfl,0,16 * (mapsN m:Int),16,mapsN m,rfl,by decide,by decide,sm,rz,?_⟩
 refine zOz (n:=mapsN m) (by omega) (fun i=>.int (0 + (i:Int) * 16)) (fun i H h=>h) (fun H=>Nat.le_refl _) (fun i H x H' h=>h) (zB8 m t) (fun i H9 Qf hi s9 k=>?_) fun acc rs H9 h0 s9 hacc hR nn nd=>q acc rs H9 (u8.free h0) (u8.trans s9) hacc hR (fun r hr=>u8.free (nn r hr)) nd
 refine ⟨_,rfl,_,rfl,_,rfl,_,rfl,_,_,rfl,rfl,_,rfl,l8,_,rfl,SqL.of (s9 _ _ hW),fun r nr=>?_⟩
 have hl:=zHo g
 have e:zHx ((newW m t).map V.int) (some (0 + (i:Int) * 16)) (some (0 + (i:Int) * 16 + 16))=(zB8 m t i).map V.int:=by
  rw [show (0:Int) + (i:Int) * 16=((16 * i:Nat):Int) by omega,show ((16 * i:Nat):Int) + 16=((16 * i + 16:Nat):Int) by omega]
  unfold zHx
  rw [HT.sIx_nat,HT.sIx_nat,List.length_map,hl,Nat.min_eq_left (by omega),Nat.min_eq_left (by omega),show 16 * i + 16 - 16 * i=16 by omega]
  unfold zB8
  rw [List.map_take,List.map_drop]
 rw [e]
 exact k r nr
end
end K14
end
section
namespace K14
open PySem L2 BK
section
variable {P:Program}{w:World}{K:PySem.W.Frag}{mg:Str→Option Value}{base:Heap}{f:Addr}{fd:FuncData}{a:Ad}
def nAt (m:Int) (n:Nat):Nat:=(zP m).toNat + n / 2
def zb (R:List (List Int)) (ks:List Int) (ρ:Int→List Int) (m:Int) (n:Nat):List Int:=(((zAt R ks ρ (.int (nAt m n))).getD []).drop (n % 2 * 8)).take 8
theorem zR9 {m t:Int}(g:zFw m t) (n:Nat):(nAt m n:Int)=zP m + (n:Int) * 8 / 16:=by
 obtain ⟨g1,g2,_⟩:=g
 unfold nAt zP
 omega
theorem zC1 {m t:Int}(g:zFw m t) {n:Nat}(hn:(n:Int)≤2 * t - 1):17≤nAt m n∧(nAt m n:Int) < zI m t∧(nAt m n:Int) < m∧(zP m≤(nAt m n:Int)):=by
 obtain ⟨g1,g2,g3,g4,g5⟩:=g
 unfold nAt
 unfold zI zP at *
 omega
theorem Mp.node {H:Hp}{b d kr nr y:Addr}{S:DS}{ks:List Int}{ρ:Int→List Int}{m t:Int}(x:Mp a H b d kr nr y S ks ρ m t) {n:Nat}(hn:(n:Int)≤2 * t - 1):∃ row,zAt S.R ks ρ (.int (nAt m n))=some row∧zY row∧zb S.R ks ρ m n=(row.drop (n % 2 * 8)).take 8∧nAt m n < S.R.length:=by
 have h:=zC1 x.good hn
 have hl:=x.len
 obtain ⟨row,es,gr⟩:=x.at (j:=nAt m n) (by omega)
 exact ⟨row,es,gr,by unfold zb;rw [es];rfl,by omega⟩
theorem Mp.nodeLen {H:Hp}{b d kr nr y:Addr}{S:DS}{ks:List Int}{ρ:Int→List Int}{m t:Int}(x:Mp a H b d kr nr y S ks ρ m t) {n:Nat}(hn:(n:Int)≤2 * t - 1):(zb S.R ks ρ m n).length=8∧∀ z ∈ zb S.R ks ρ m n,0≤z∧z≤999999999:=by
 obtain ⟨row,es,gr,e,_⟩:=x.node hn
 rw [e]
 refine ⟨by rw [List.length_take,List.length_drop,gr.1];omega,fun z hz=>gr.2 z (List.mem_of_mem_drop (List.mem_of_mem_take hz))⟩
inductive spRefuseN' (K:PySem.W.Frag) (a:Ad) (vs:List V) (H:Hp) (Q:VK) (E:XK):Prop
 | mk:∀ (y:Addr) (m t:Int) (v:V),(vs=[.ref y,v])→(LayAt a.cLayout H y m t)→(Kd K H v)→(((zg v 1 (2 * t - 1)=false∧E (.ref a.cNoNode) none H)∨(zg v 1 (2 * t - 1)=true∧Q .non H)))→spRefuseN' K a vs H Q E
def zDs (K:PySem.W.Frag) (a:Ad):Sp:=fun vs H Q E=>spRefuseN' K a vs H Q E
theorem zEm (F:Fun K "refuse_no_node" "refuse_no_node" zz f fd) (T:Txt K mg a) (D_is_whole:Df P w K mg base CX0 1 "is_whole" ["thing", "least", "most"] (zCa K a)) (M_Layout_most_node:Mf P w K mg base CX0 1 a.f_most_node ["self"] (zKe K a)):FnOk P w K mg base (CXE P w) 2 f fd ["layout", "node"] (zDs K a):=by
 obtain ⟨_,_,Gis_whole,bis_whole,kis_whole,mis_whole⟩:=D_is_whole
 obtain ⟨_,G_most_node,b_most_node⟩:=M_Layout_most_node
 have nd:=sc_refuse_no_node.nd
 refine F.okE sc_refuse_no_node (fun vs H Q E h=>?_) (fun cdv A outer s H vs Q E hr hA h=>?_)
 ·obtain ⟨y,m,t,v,rfl,_⟩:=h
  rfl
 obtain ⟨y,m,t,v,rfl,L,kd,hq⟩:=h
 obtain ⟨yx,hy⟩:=id L
 refine ⟨_,(zG (zAp (zBs (zBa (zH Gis_whole (hr.mono (by decide)) rfl mis_whole kis_whole bis_whole .nil zw (zA (pv 1) (zA zM (zA (zBq (pv 0) T.clLayout T.m_most_node G_most_node (hr.mono (by decide)) b_most_node .nil zw) zC)))))) (zG (za (zAl (fun _ _ _ h=>h)) rfl hA rfl T.mNoNode T.xNoNode (zA zAr zC))) zU)),?_⟩
 refine ⟨_,rfl,_,rfl,y,yx,_,rfl,hy,rfl,y,m,t,rfl,L,v,1,_,rfl,kd,_,rfl,?_⟩
 rcases hq with ⟨hw,q⟩ | ⟨hw,q⟩
 ·exact iteT' (by rw [hw];rfl) ⟨(by show 1≤1000;decide),q⟩
 ·exact iteF' (by rw [hw];rfl) q
inductive spBlockOf' (a:Ad) (vs:List V) (H:Hp) (Q:VK):Prop
 | mk:∀ (y:Addr) (m t:Int) (n:Nat),(vs=[.ref y,.int n])→(LayAt a.cLayout H y m t)→(zFw m t)→(Q (.int (nAt m n)) H)→spBlockOf' a vs H Q
def zDu (_:PySem.W.Frag) (a:Ad):Sp:=fun vs H Q _=>spBlockOf' a vs H Q
theorem zJq (F:Fun K "block_of" "block_of" zB3 f fd) (T:Txt K mg a)  : FnOk P w K mg base CX0 1 f fd ["layout", "node"] (zDu K a):=by
 have nd:=sc_block_of.nd
 refine F.ok sc_block_of (fun vs H Q E h=>?_) (fun cdv A outer s H vs Q E hr h=>?_)
 ·obtain ⟨y,m,t,n,rfl,_⟩:=h
  rfl
 obtain ⟨y,m,t,n,rfl,⟨yx,hy⟩,g,q⟩:=h
 refine ⟨_,(zG (zV (zO zm (zS (K:=K) rfl (pv 0) rfl) (zO zBg (zO zFi (pv 1) (zK (v:=.int 8) rfl T.cNODE_WORDS.choose_spec ⟨_,rfl⟩)) (zK (v:=.int 16) rfl T.cROW_WORDS.choose_spec ⟨_,rfl⟩))))),?_⟩
 rw [zR9 g] at q
 exact ⟨_,rfl,y,a.cLayout,yx,_,_,rfl,hy,T.clLayout,T.n_nodes_at,rfl,_,rfl,_,_,rfl,rfl,.inr ⟨by decide,by decide⟩,_,_,rfl,rfl,⟨by decide,by decide⟩,_,_,rfl,rfl,q⟩
inductive spFirst' (vs:List V) (H:Hp) (Q:VK):Prop
 | mk:∀ (n:Nat),(vs=[.int n])→(Q (.int ((n % 2 * 8:Nat):Int)) H)→spFirst' vs H Q
def zG7 (_:PySem.W.Frag) (_:Ad):Sp:=fun vs H Q _=>spFirst' vs H Q
theorem zEu (F:Fun K "first_word_of" "first_word_of" zAd f fd) (T:Txt K mg a)  : FnOk P w K mg base CX0 1 f fd ["node"] (zG7 K a):=by
 have nd:=sc_first_word_of.nd
 refine F.ok sc_first_word_of (fun vs H Q E h=>?_) (fun cdv A outer s H vs Q E hr h=>?_)
 ·obtain ⟨n,rfl,_⟩:=h
  rfl
 obtain ⟨n,rfl,q⟩:=h
 refine ⟨_,(zG (zV (zO zB7 (zO zFi (pv 0) (zK (v:=.int 8) rfl T.cNODE_WORDS.choose_spec ⟨_,rfl⟩)) (zK (v:=.int 16) rfl T.cROW_WORDS.choose_spec ⟨_,rfl⟩)))),?_⟩
 rw [show ((n % 2 * 8:Nat):Int)=(n:Int) * 8 % 16 by omega] at q
 exact ⟨_,rfl,_,_,rfl,rfl,.inr ⟨by decide,by decide⟩,_,_,rfl,rfl,(by show (0:Int) < 16;decide),q⟩
inductive spNodeOf' (K:PySem.W.Frag) (a:Ad) (vs:List V) (H:Hp) (Q:VK) (E:XK):Prop
  | mk:∀ (b d kr nr y:Addr) (S:DS) (ks:List Int) (ρ:Int→List Int) (m t:Int) (v:V),(vs=[.ref b,.ref y,v])→(Mp a H b d kr nr y S ks ρ m t)→(Kd K H v)→(((zg v 1 (2 * t - 1)=false∧E (.ref a.cNoNode) none H) ∨
   (∃ n:Nat,v=.int n∧1≤n∧(n:Int)≤2 * t - 1∧∀ p H',H p=none→Same H H'→H' p=some (.lst ((zb S.R ks ρ m n).map V.int))→Q (.ref p) H')))→spNodeOf' K a vs H Q E
def zB4 (K:PySem.W.Frag) (a:Ad):Sp:=fun vs H Q E=>spNodeOf' K a vs H Q E
theorem zJ1 (xs:List V) (i j:Nat) (h:i + j≤xs.length):zHx xs (some (i:Int)) (some ((i + j:Nat):Int))=(xs.drop i).take j:=by
 unfold zHx
 rw [HT.sIx_nat,HT.sIx_nat,Nat.min_eq_left (by omega),Nat.min_eq_left (by omega),show i + j - i=j by omega]
theorem zLf (F:Fun K "node_of" "node_of" zCe f fd) (T:Txt K mg a) (D_refuse_no_node:Df P w K mg base (CXE P w) 2 "refuse_no_node" ["layout", "node"] (zDs K a)) (D_first_word_of:Df P w K mg base CX0 1 "first_word_of" ["node"] (zG7 K a)) (M_Batch_read:Mf P w K mg base (CXE P w) 4 a.f_Batch_read ["self", "block"] (zCb K a)) (D_block_of:Df P w K mg base CX0 1 "block_of" ["layout", "node"] (zDu K a)):FnOk P w K mg base (CXE P w) 5 f fd ["batch", "layout", "node"] (zB4 K a):=by
 obtain ⟨_,_,Grefuse_no_node,brefuse_no_node,krefuse_no_node,mrefuse_no_node⟩:=D_refuse_no_node
 obtain ⟨_,_,Gfirst_word_of,bfirst_word_of,kfirst_word_of,mfirst_word_of⟩:=D_first_word_of
 obtain ⟨_,G_Batch_read,b_Batch_read⟩:=M_Batch_read
 obtain ⟨_,_,Gblock_of,bblock_of,kblock_of,mblock_of⟩:=D_block_of
 have nd:=sc_node_of.nd
 refine F.okE sc_node_of (fun vs H Q E h=>?_) (fun cdv A outer s H vs Q E hr hA h=>?_)
 ·obtain ⟨b,d,kr,nr,y,S,ks,ρ,m,t,v,rfl,_⟩:=h
  rfl
 obtain ⟨b,d,kr,nr,y,S,ks,ρ,m,t,v,rfl,X,kd,hq⟩:=h
 refine ⟨_,(pss_cons (zT (zH Grefuse_no_node (hr.mono (by decide)) rfl mrefuse_no_node krefuse_no_node brefuse_no_node .nil (zE (fun _ _ _ h=>h)) (zA (pv 1) (zA (pv 2) zC)) (hcm:=(.inr hA))))
  (pss_cons (ps_set (i:=3) nd rfl (by first|exact Or.inl rfl|exact Or.inr rfl) (zH Gfirst_word_of (hr.mono (by decide)) rfl mfirst_word_of kfirst_word_of bfirst_word_of .nil zw (zA (pv 2) zC)))
  (zG (zV (zk (zi (K:=K) rfl) (zy (pv 0) T.clBatch T.m_Batch_read G_Batch_read (hr.mono (by decide)) b_Batch_read .nil (zE (fun _ _ _ h=>h)) (zA (zH Gblock_of (hr.mono (by decide)) rfl mblock_of kblock_of bblock_of .nil zw (zA (pv 1) (zA (pv 2) zC))) zC) (hcm:=(.inr hA))) (zh (pv 3)) (zh (zO zm (pv 3) (zK (v:=.int 8) rfl T.cNODE_WORDS.choose_spec ⟨_,rfl⟩)))))))),?_⟩
 rcases hq with ⟨hw,q⟩ | ⟨n,rfl,h1,h2,q⟩
 ·exact ⟨_,rfl,_,rfl,y,m,t,v,rfl,X.lay,kd,.inl ⟨hw,q⟩⟩
 ·obtain ⟨row,es,gr,en,hlt⟩:=X.node h2
  obtain ⟨bx,hb⟩:=X.bat.ex
  refine ⟨_,rfl,_,rfl,y,m,t,_,rfl,X.lay,.int _,.inr ⟨zDa (by omega) h2,?_⟩⟩
  refine ⟨_,rfl,n,rfl,?_⟩
  refine ⟨_,rfl,b,bx,_,rfl,hb,rfl,_,rfl,_,rfl,y,m,t,n,rfl,X.lay,X.good,b,d,kr,nr,S,ks,ρ,_,rfl,X.bat,X.dk,.int _,.inl ⟨row,es,fun p H1 np s1 hp=>?_⟩⟩
  refine ⟨_,rfl,_,rfl,_,rfl,_,_,rfl,rfl,_,rfl,p,_,rfl,SqL.of hp,fun p2 n2=>?_⟩
  rw [show ((n % 2 * 8:Nat):Int) + 8=((n % 2 * 8 + 8:Nat):Int) by omega,zJ1 _ _ _ (by rw [List.length_map,gr.1];omega),← List.map_drop,← List.map_take,← en]
  exact q p2 _ (s1.free n2) (s1.trans (zF n2 _)) zB
def setN (R:List (List Int)) (ks:List Int) (ρ:Int→List Int) (m:Int) (n:Nat) (ws:List Int):Int→List Int:=fun j=>if j=(nAt m n:Int) then ((zAt R ks ρ (.int (nAt m n))).getD []).take (n % 2 * 8) ++ ws ++ ((zAt R ks ρ (.int (nAt m n))).getD []).drop (n % 2 * 8 + 8) else ρ j
theorem zE1 {R:List (List Int)}{ks:List Int}{ρ':Int→List Int}{k:Int}:zAt R (insK ks k) ρ' (.int k)=some (ρ' k):=by
 show (if k ∈ insK ks k then some (ρ' k) else _)=_
 rw [if_pos (insK_mem.mpr (.inr rfl))]
theorem zOj {R:List (List Int)}{ks:List Int}{ρ ρ':Int→List Int}{k j:Int}(h:j≠k) (e:ρ' j=ρ j):zAt R (insK ks k) ρ' (.int j)=zAt R ks ρ (.int j):=by
 show (if j ∈ insK ks k then some (ρ' j) else _)=(if j ∈ ks then some (ρ j) else _)
 by_cases hk:j ∈ ks
 ·rw [if_pos (insK_mem.mpr (.inl hk)),if_pos hk,e]
 ·rw [if_neg (fun z=>(insK_mem.mp z).elim hk h),if_neg hk]
theorem zIm {R:List (List Int)}{ks:List Int}{ρ:Int→List Int}{m:Int}{n j:Nat}{ws:List Int}(hl:((zAt R ks ρ (.int (nAt m n))).getD []).length=16) (hw:ws.length=8):zb R (insK ks (nAt m n)) (setN R ks ρ m n ws) m j=if j=n then ws else zb R ks ρ m j:=by
 by_cases hb:nAt m j=nAt m n
 ·unfold zb
  rw [hb,zE1]
  unfold setN
  rw [if_pos rfl]
  generalize (zAt R ks ρ (.int (nAt m n))).getD []=row at hl
  have hbb:j / 2=n / 2:=by unfold nAt at hb;omega
  show ((row.take (n % 2 * 8) ++ ws ++ row.drop (n % 2 * 8 + 8)).drop (j % 2 * 8)).take 8=_
  by_cases hj:j=n
  ·subst hj
   rw [if_pos rfl,List.append_assoc,List.drop_append_of_le_length (by rw [List.length_take,hl];omega),List.drop_eq_nil_of_le (by rw [List.length_take];omega),List.nil_append,List.take_append_of_le_length (by omega),List.take_of_length_le (by omega)]
  ·rw [if_neg hj]
   apply List.ext_getElem?
   intro i
   rw [List.getElem?_take,List.getElem?_take,List.getElem?_drop,List.getElem?_drop]
   by_cases hi:i < 8
   ·rw [if_pos hi,if_pos hi]
    rcases (show (n % 2=0∧j % 2=1)∨(n % 2=1∧j % 2=0) by omega) with ⟨z1,z2⟩ | ⟨z1,z2⟩
    ·rw [z1,z2]
     show (row.take 0 ++ ws ++ row.drop 8)[8 + i]? = row[8 + i]?
     rw [List.take_zero,List.nil_append,List.getElem?_append_right (by omega),List.getElem?_drop,hw,show 8 + (8 + i - 8)=8 + i by omega]
    ·rw [z1,z2]
     show (row.take 8 ++ ws ++ row.drop 16)[0 + i]? = row[0 + i]?
     rw [List.append_assoc,List.getElem?_append_left (by rw [List.length_take,hl];omega),List.getElem?_take,if_pos (by omega)]
   ·rw [if_neg hi,if_neg hi]
 ·have hne:(nAt m j:Int)≠(nAt m n:Int):=by omega
  unfold zb
  rw [zOj hne (by unfold setN;rw [if_neg hne]),if_neg (fun z=>hb (by rw [z]))]
def zPt (K:PySem.W.Frag) (H:Hp) (v:V) (b:Bool):Prop:=Kd K H v∧((isL H v=false∧b=false)∨∃ a xs,v=.ref a∧H a=some (.lst xs)∧xs.length≤1000∧(∀ x ∈ xs,Kd K H x)∧b=(decide (xs.length=8) && xs.all zEp))
def zN6 (ws:List Int):Prop:=ws.length=8∧∀ z ∈ ws,0≤z∧z≤999999999
theorem zE5 {H:Hp}{p:Addr}{ws:List Int}(hp:H p=some (.lst (ws.map V.int))) (g:zN6 ws):zPt K H (.ref p) true:=by
 refine ⟨.lst hp,.inr ⟨p,_,rfl,hp,by rw [List.length_map,g.1];decide,fun x hx=>?_,?_⟩⟩
 ·obtain ⟨i,_,rfl⟩:=List.mem_map.mp hx;exact .int i
 ·rw [List.length_map,g.1,zCo ws g.2];rfl
theorem zP4 {row ws:List Int}(gr:zY row) (g:zN6 ws) {k:Nat}(hk:k + 8≤16):zY (row.take k ++ ws ++ row.drop (k + 8)):=by
 refine ⟨by simp only [List.length_append,List.length_take,List.length_drop,gr.1,g.1];omega,fun z hz=>?_⟩
 rcases List.mem_append.mp hz with h | h
 ·rcases List.mem_append.mp h with h | h
  ·exact gr.2 z (List.mem_of_mem_take h)
  ·exact g.2 z h
 ·exact gr.2 z (List.mem_of_mem_drop h)
inductive spPutNode' (K:PySem.W.Frag) (a:Ad) (vs:List V) (H:Hp) (Q:VK) (E:XK):Prop
  | mk:∀ (b d kr nr y:Addr) (S:DS) (ks:List Int) (ρ:Int→List Int) (m t:Int) (v r:V) (ok:Bool),(vs=[.ref b,.ref y,v,r])→(Mp a H b d kr nr y S ks ρ m t)→(Kd K H v)→(zPt K H r ok)→(ks.length < 700)→(((zg v 1 (2 * t - 1)=false∧E (.ref a.cNoNode) none H) ∨
   (zg v 1 (2 * t - 1)=true∧ok=false∧∀ H',Same H H'→E (.ref a.cBadRow) none H') ∨
   (∃ (n:Nat) (p:Addr) (ws:List Int),v=.int n∧1≤n∧(n:Int)≤2 * t - 1∧r=.ref p∧H p=some (.lst (ws.map V.int))∧zN6 ws ∧
     ∀ H',Chg [nr] H H'→Mp a H' b d kr nr y S (insK ks (nAt m n)) (setN S.R ks ρ m n ws) m t→(∀ u,H u≠none→OffD H nr u→OffD H' nr u)→Q .non H')))→spPutNode' K a vs H Q E
def zDt (K:PySem.W.Frag) (a:Ad):Sp:=fun vs H Q E=>spPutNode' K a vs H Q E
theorem zJn (F:Fun K "put_node" "put_node" zB0 f fd) (T:Txt K mg a) (D_refuse_no_node:Df P w K mg base (CXE P w) 2 "refuse_no_node" ["layout", "node"] (zDs K a)) (D_block_of:Df P w K mg base CX0 1 "block_of" ["layout", "node"] (zDu K a)) (M_Batch_write:Mf P w K mg base (CXE P w) 5 a.f_Batch_write ["self", "block", "row"] (zCs K a)) (D_changed:Df P w K mg base CX0 1 "changed" ["row", "at", "words"] (zBr K a)) (D_are_words:Df P w K mg base CX0 3 "are_words" ["thing"] (zMg K a)) (M_Batch_read:Mf P w K mg base (CXE P w) 4 a.f_Batch_read ["self", "block"] (zCb K a)) (D_first_word_of:Df P w K mg base CX0 1 "first_word_of" ["node"] (zG7 K a)):FnOk P w K mg base (CXE P w) 6 f fd ["batch", "layout", "node", "words"] (zDt K a):=by
 obtain ⟨_,_,Grefuse_no_node,brefuse_no_node,krefuse_no_node,mrefuse_no_node⟩:=D_refuse_no_node
 obtain ⟨_,_,Gblock_of,bblock_of,kblock_of,mblock_of⟩:=D_block_of
 obtain ⟨_,G_Batch_write,b_Batch_write⟩:=M_Batch_write
 obtain ⟨_,_,Gchanged,bchanged,kchanged,mchanged⟩:=D_changed
 obtain ⟨_,_,Gare_words,bare_words,kare_words,mare_words⟩:=D_are_words
 obtain ⟨_,G_Batch_read,b_Batch_read⟩:=M_Batch_read
 obtain ⟨_,_,Gfirst_word_of,bfirst_word_of,kfirst_word_of,mfirst_word_of⟩:=D_first_word_of
 have nd:=sc_put_node.nd
 refine F.okE sc_put_node (fun vs H Q E h=>?_) (fun cdv A outer s H vs Q E hr hA h=>?_)
 ·obtain ⟨b,d,kr,nr,y,S,ks,ρ,m,t,v,r,ok,rfl,_⟩:=h
  rfl
 obtain ⟨b,d,kr,nr,y,S,ks,ρ,m,t,v,r,ok,rfl,X,kd,wA,few,hq⟩:=h
 refine ⟨_,(pss_cons (zT (zH Grefuse_no_node (hr.mono (by decide)) rfl mrefuse_no_node krefuse_no_node brefuse_no_node .nil (zE (fun _ _ _ h=>h)) (zA (pv 1) (zA (pv 2) zC)) (hcm:=(.inr hA))))
  (pss_cons (zAp (PW.pt (zOo (zBs (zBa (zH Gare_words (hr.mono (by decide)) rfl mare_words kare_words bare_words .nil zw (zA (pv 3) zC)))) (zMl (zf zTa (zQ (zX (K:=K) rfl) rfl T.len zA0 (zA (pv 3) zC)) (zK (v:=.int 8) rfl T.cNODE_WORDS.choose_spec ⟨_,rfl⟩) (zu _))))) (zG (za (zAl (fun _ _ _ h=>h)) rfl hA rfl T.mBadRow T.xBadRow (zA zAr zC))) zU)
  (pss_cons (ps_set (i:=4) nd rfl (by first|exact Or.inl rfl|exact Or.inr rfl) (zH Gblock_of (hr.mono (by decide)) rfl mblock_of kblock_of bblock_of .nil zw (zA (pv 1) (zA (pv 2) zC))))
  (zG (zT (zy (pv 0) T.clBatch T.m_Batch_write G_Batch_write (hr.mono (by decide)) b_Batch_write .nil (zE (fun _ _ _ h=>h)) (zA (pv 4) (zA (zH Gchanged (hr.mono (by decide)) rfl mchanged kchanged bchanged .nil zw (zA (zy (pv 0) T.clBatch T.m_Batch_read G_Batch_read (hr.mono (by decide)) b_Batch_read .nil (zE (fun _ _ _ h=>h)) (zA (pv 4) zC) (hcm:=(.inr hA))) (zA (zH Gfirst_word_of (hr.mono (by decide)) rfl mfirst_word_of kfirst_word_of bfirst_word_of .nil zw (zA (pv 2) zC)) (zA (pv 3) zC)))) zC)) (hcm:=(.inr hA)))))))),?_⟩
 rcases hq with ⟨hw,q⟩ | ⟨hw,rfl,q⟩ | ⟨n,p,ws,rfl,h1,h2,rfl,hp,gw,q⟩
 ·exact ⟨_,rfl,_,rfl,y,m,t,v,rfl,X.lay,kd,.inl ⟨hw,q⟩⟩
 ·refine ⟨_,rfl,_,rfl,y,m,t,v,rfl,X.lay,kd,.inr ⟨hw,?_⟩⟩
  obtain ⟨kr',hA⟩:=wA
  rcases hA with ⟨hl,_⟩ | ⟨p,xs,rfl,hp,hz,hk,e⟩
  ·exact ⟨_,rfl,_,rfl,kr',.inl ⟨hl,_,rfl,iteT' (by rfl) ⟨(by show 1≤1000;decide),q H (Same.refl _)⟩⟩⟩
  ·refine ⟨_,rfl,_,rfl,kr',.inr ⟨p,xs,rfl,hp,hz,hk,fun H1 s1=>⟨_,rfl,?_⟩⟩⟩
   by_cases hg:xs.all zEp=true
   ·refine iteF' (by rw [hg];rfl) ⟨_,rfl,p,xs,rfl,.inl (SqL.of (s1 _ _ hp)),rfl,_,rfl,iteT' ?_ ⟨(by show 1≤1000;decide),q H1 s1⟩⟩
    rw [hg,Bool.and_true] at e
    have:¬ xs.length=8:=of_decide_eq_false e.symm
    rw [zLu,decide_eq_false (by omega)];rfl
   ·exact iteT' (by rw [Bool.eq_false_iff.mpr hg];rfl) ⟨(by show 1≤1000;decide),q H1 s1⟩
 ·obtain ⟨row,es,gr,en,hlt⟩:=X.node h2
  have hb17:=zC1 X.good h2
  have hlen:=X.len
  refine ⟨_,rfl,_,rfl,y,m,t,_,rfl,X.lay,.int _,.inr ⟨zDa (by omega) h2,?_⟩⟩
  refine ⟨_,rfl,_,rfl,.lst hp,.inr ⟨p,_,rfl,hp,by rw [List.length_map,gw.1];decide,fun x hx=>(by obtain ⟨i,_,rfl⟩:=List.mem_map.mp hx;exact .int i),fun H1 s1=>⟨_,rfl,iteF' (by rw [zCo ws gw.2];rfl) ⟨_,rfl,p,_,rfl,.inl (SqL.of (s1 _ _ hp)),rfl,_,rfl,iteF' (by rw [List.length_map,gw.1];rfl) ?_⟩⟩⟩⟩
  have X1:=X.same s1
  obtain ⟨bx,hb⟩:=X1.bat.ex
  refine ⟨_,rfl,_,rfl,y,m,t,n,rfl,X1.lay,X1.good,?_⟩
  refine ⟨_,rfl,b,bx,_,rfl,hb,rfl,_,rfl,_,rfl,b,bx,_,rfl,hb,rfl,_,rfl,b,d,kr,nr,S,ks,ρ,_,rfl,X1.bat,X1.dk,.int _,.inl ⟨row,es,fun p2 H2 np2 s2 hp2=>?_⟩⟩
  refine ⟨_,rfl,n,rfl,_,rfl,?_⟩
  refine ⟨p2,p,_,_,n % 2 * 8,rfl,hp2,s2 _ _ (s1 _ _ hp),by rw [List.length_map,gr.1];decide,by rw [List.length_map,gw.1];decide,fun p3 H3 np3 s3 hp3=>?_⟩
  have sA:=s1.trans (s2.trans s3)
  rw [List.length_map,gw.1,← List.map_take,← List.map_drop,← List.map_append,← List.map_append] at hp3
  have gs:=zP4 gr gw (k:=n % 2 * 8) (by omega)
  have X3:=X.same sA
  refine ⟨b,d,kr,nr,S,ks,ρ,_,_,true,rfl,X3.bat,X3.dk,.int _,zBe hp3 gs,by omega,.inr (.inr ⟨(nAt m n:Int),p3,_,rfl,by omega,by omega,rfl,hp3,gs,fun H4 c4 B4 D4 of4=>?_⟩)⟩
  obtain ⟨kvs,ek⟩:=X3.bat.ho.at
  have ll:=zDh (ks:=ks) (k:=(nAt m n:Int))
  have eρ:setN S.R ks ρ m n ws=fun j=>if j=(nAt m n:Int) then row.take (n % 2 * 8) ++ ws ++ row.drop (n % 2 * 8 + 8) else ρ j:=by
   unfold setN;rw [es];rfl
  rw [eρ] at q
  refine q H4 ((Chg.of sA).trans c4) ⟨B4,D4,X3.lay.chg c4 ?_,X.good,X.len,by omega⟩ fun u hu ou=>of4 u ?_ (ou.same X.bat.ho sA)
  ·obtain ⟨yx3,hy3⟩:=X3.lay
   simp only [List.mem_singleton];exact ze hy3 ek (fun z=>by cases z)
  ·cases e:H u with
   | none=>exact absurd e hu
   | some o=>rw [sA _ _ e];simp
theorem zKz (n:Nat) (x:Int):(List.replicate n [V.int x]).flatten=(List.replicate n x).map V.int:=by
 induction n with
 | zero=>rfl
 | succ n ih=>rw [List.replicate_succ,List.flatten_cons,ih,List.replicate_succ];rfl
inductive spTakeNode' (a:Ad) (vs:List V) (H:Hp) (Q:VK) (E:XK):Prop
  | mk:∀ (b d kr nr y:Addr) (S:DS) (ks:List Int) (ρ:Int→List Int) (m t kind:Int),(vs=[.ref b,.ref y,.int kind])→(Mp a H b d kr nr y S ks ρ m t)→(0≤kind)→(kind≤999999999)→(ks.length < 700)→((((∀ n:Nat,1≤n→(n:Int)≤2 * t - 1→(zb S.R ks ρ m n).getD 0 0≠0)∧∀ H',Same H H'→E (.ref a.cNoNodes) none H') ∨
   (∃ n:Nat,1≤n∧(n:Int)≤2 * t - 1∧(zb S.R ks ρ m n).getD 0 0=0∧(∀ j:Nat,1≤j→j < n→(zb S.R ks ρ m j).getD 0 0≠0) ∧
     ∀ H',Chg [nr] H H'→Mp a H' b d kr nr y S (insK ks (nAt m n)) (setN S.R ks ρ m n (kind :: List.replicate 7 0)) m t→(∀ u,H u≠none→OffD H nr u→OffD H' nr u)→Q (.int n) H')))→spTakeNode' a vs H Q E
def zEf (K:PySem.W.Frag) (a:Ad):Sp:=fun vs H Q E=>spTakeNode' a vs H Q E
theorem zIf (F:Fun K "take_node" "take_node" zBj f fd) (T:Txt K mg a) (M_Layout_most_node:Mf P w K mg base CX0 1 a.f_most_node ["self"] (zKe K a)) (D_put_node:Df P w K mg base (CXE P w) 6 "put_node" ["batch", "layout", "node", "words"] (zDt K a)) (D_node_of:Df P w K mg base (CXE P w) 5 "node_of" ["batch", "layout", "node"] (zB4 K a)):FnOk P w K mg base (CXE P w) 7 f fd ["batch", "layout", "kind"] (zEf K a):=by
 obtain ⟨_,G_most_node,b_most_node⟩:=M_Layout_most_node
 obtain ⟨_,_,Gput_node,bput_node,kput_node,mput_node⟩:=D_put_node
 obtain ⟨_,_,Gnode_of,bnode_of,knode_of,mnode_of⟩:=D_node_of
 have nd:=sc_take_node.nd
 refine F.okE sc_take_node (fun vs H Q E h=>?_) (fun cdv A outer s H vs Q E hr hA h=>?_)
 ·obtain ⟨b,d,kr,nr,y,S,ks,ρ,m,t,kind,rfl,_⟩:=h
  rfl
 obtain ⟨b,d,kr,nr,y,S,ks,ρ,m,t,kind,rfl,X,k0,k9,few,hq⟩:=h
 obtain ⟨yx,hy⟩:=X.lay
 obtain ⟨g1,g2,g3,g4,g5⟩:=X.good
 refine ⟨_,(pss_cons (zCk PassesOwn.leaving rfl (zFf rfl T.range (zA zM (zA (zO zm (zBq (pv 1) T.clLayout T.m_most_node G_most_node (hr.mono (by decide)) b_most_node .nil zw) zM) zC))) (zx (i:=3) nd rfl (by first|exact Or.inl rfl|exact Or.inr rfl)) (zG (zAp (zf zOt (zC7 (zAb (K:=K) rfl) (zH Gnode_of (hr.mono (by decide)) rfl mnode_of knode_of bnode_of .nil (zE (fun _ _ _ h=>h)) (zA (pv 0) (zA (pv 1) (zA (pv 3) zC))) (hcm:=(.inr hA))) (zK (v:=.int 0) rfl T.cKIND_AT.choose_spec ⟨_,rfl⟩) (fun _ _=>rfl)) (zK (v:=.int 0) rfl T.cUNUSED.choose_spec ⟨_,rfl⟩) (zu _)) (pss_cons (zT (zH Gput_node (hr.mono (by decide)) rfl mput_node kput_node bput_node .nil (zE (fun _ _ _ h=>h)) (zA (pv 0) (zA (pv 1) (zA (pv 3) (zA (zO zCn (zBb (zA (pv 2) zC)) (zO zEt (zBb (zA zM zC)) (zO zAg (zK (v:=.int 8) rfl T.cNODE_WORDS.choose_spec ⟨_,rfl⟩) zM))) zC)))) (hcm:=(.inr hA))))
  (zG (zV (pv 3)))) zU)))
  (zG (za (zAl (fun _ _ _ h=>h)) rfl hA rfl T.mNoNodes T.xNoNodes (zA zAr zC)))),?_⟩
 refine ⟨_,rfl,y,yx,_,rfl,hy,rfl,y,m,t,rfl,X.lay,_,_,rfl,rfl,_,_,rfl,⟨by decide,by decide,(by show -(2 ^ 62)≤2 * t - 1 + 1;omega),(by show 2 * t - 1 + 1 < 2 ^ 62;omega)⟩,?_⟩
 try dsimp (config:={ proj:=false,iota:=false,eta:=false,zeta:=false }) only
 refine zD7 (lo:=1) (n:=(2 * t - 1 + 1 - 1).toNat) (fun i σ' H'=>∃ o3:Option V,σ'=[some (.ref b),some (.ref y),some (.int kind),o3]∧Same H H'∧∀ j:Nat,1≤j→j < 1 + i→(zb S.R ks ρ m j).getD 0 0≠0)
  ⟨none,rfl,Same.refl _,fun j h1 h2=>absurd h2 (by omega)⟩ ?_ ?_
 ·rintro i σ' H1 hi ⟨o3,rfl,s1,hz⟩
  rw [show (1:Int) + (i:Int)=((1 + i:Nat):Int) by omega]
  have X1:=X.same s1
  have hn:((1 + i:Nat):Int)≤2 * t - 1:=by omega
  have nl:=(X.nodeLen hn).1
  refine ⟨_,rfl,_,rfl,_,rfl,b,d,kr,nr,y,S,ks,ρ,m,t,_,rfl,X1,.int _,.inr ⟨1 + i,rfl,by omega,hn,fun p H2 np s2 hp=>?_⟩⟩
  have hat:atI ((zb S.R ks ρ m (1 + i)).map V.int) 0=some (.int ((zb S.R ks ρ m (1 + i)).getD 0 0)):=zC0 (j:=0) (by
   rw [List.getElem?_map,List.getD_eq_getElem?_getD,List.getElem?_eq_getElem (by omega)];rfl)
  refine ⟨p,_,0,_,rfl,rfl,SqL.of hp,hat,rfl,_,rfl,?_⟩
  have sA:=s1.trans s2
  by_cases e0:(zb S.R ks ρ m (1 + i)).getD 0 0=0
  ·refine iteT' (by rw [zLu];exact decide_eq_true e0) ?_
   have hq':∀ H',Chg [nr] H H'→Mp a H' b d kr nr y S (insK ks (nAt m (1 + i))) (setN S.R ks ρ m (1 + i) (kind :: List.replicate 7 0)) m t→(∀ u,H u≠none→OffD H nr u→OffD H' nr u)→Q (.int ((1 + i:Nat):Int)) H':=by
    rcases hq with ⟨no,_⟩ | ⟨n,n1,n2,n3,n4,q⟩
    ·exact absurd e0 (no _ (by omega) hn)
    ·have en:n=1 + i:=by
      rcases Nat.lt_trichotomy n (1 + i) with z | z | z
      ·exact absurd n3 (hz n n1 z)
      ·exact z
      ·exact absurd e0 (n4 _ (by omega) z)
     subst en;exact q
   refine ⟨_,rfl,_,rfl,_,rfl,_,rfl,(by show 1≤sizeLine;decide),fun l1 m1=>⟨(by show 1≤sizeLine;decide),fun l2 m2=>?_⟩⟩
   have u1:=zF m1 (.lst [.int kind])
   have u2:=u1.trans (zF m2 (.lst [.int 0]))
   refine ⟨_,_,rfl,rfl,l2,7,[.int 0],rfl,rfl,zB,by decide,by decide,(by show 1 * 7≤sizeLine;decide),fun l3 m3=>?_⟩
   rw [show (7:Int).toNat=7 from rfl,zKz]
   have w3:=zF m3 (.lst ((List.replicate 7 (0:Int)).map V.int))
   have hl1:=((zF m2 (.lst [.int 0])).trans w3) _ _ (zB (H:=H2) (a:=l1) (o:=.lst [.int kind]))
   refine ⟨l1,l3,_,_,rfl,rfl,hl1,zB,small (by simp),fun l4 m4=>?_⟩
   have el:[V.int kind] ++ (List.replicate 7 (0:Int)).map V.int=(kind :: List.replicate 7 0).map V.int:=rfl
   rw [el]
   have sB:=sA.trans ((u2.trans w3).trans (zF m4 (.lst ((kind :: List.replicate 7 0).map V.int))))
   have gw:zN6 (kind :: List.replicate 7 0):=⟨by simp,fun z hz=>by
    rcases List.mem_cons.mp hz with e | e
    ·rw [e];exact ⟨k0,k9⟩
    ·rw [List.eq_of_mem_replicate e];decide⟩
   have hl4:=zB (H:=upd (upd (upd H2 l1 (.lst [.int kind])) l2 (.lst [.int 0])) l3 (.lst ((List.replicate 7 (0:Int)).map V.int))) (a:=l4) (o:=.lst ((kind :: List.replicate 7 0).map V.int))
   generalize upd (upd (upd (upd H2 l1 (.lst [.int kind])) l2 (.lst [.int 0])) l3 (.lst ((List.replicate 7 (0:Int)).map V.int))) l4 (.lst ((kind :: List.replicate 7 0).map V.int))=H4 at sB hl4 ⊢
   refine ⟨b,d,kr,nr,y,S,ks,ρ,m,t,_,_,true,rfl,X.same sB,.int _,zE5 hl4 gw,few,.inr (.inr ⟨1 + i,l4,_,rfl,by omega,hn,rfl,hl4,gw,fun H5 c5 X5 of5=>?_⟩)⟩
   refine ⟨_,rfl,hq' H5 ((Chg.of sB).trans c5) X5 fun u hu ou=>of5 u ?_ (ou.same X.bat.ho sB)⟩
   cases e:H u with
   | none=>exact absurd e hu
   | some o=>rw [sB _ _ e];simp
  ·refine iteF' (by rw [zLu];exact decide_eq_false e0) ?_
   refine ⟨_,rfl,sA,fun j h1 h2=>?_⟩
   by_cases ej:j=1 + i
   ·subst ej;exact e0
   ·exact hz j h1 (by omega)
 ·rintro σ' H1 ⟨o3,rfl,s1,hz⟩
  rcases hq with ⟨_,q⟩ | ⟨n,n1,n2,n3,_⟩
  ·exact ⟨(by show 1≤1000;decide),q H1 s1⟩
  ·exact absurd n3 (hz n n1 (by omega))
end
end K14
end
section
namespace K14
open PySem L2 BK
section
variable {P:Program}{w:World}{K:PySem.W.Frag}{mg:Str→Option Value}{base:Heap}{f:Addr}{fd:FuncData}{a:Ad}
theorem zv {T:List Addr}{H H1 H2:Hp}(s:Same H H1) (c:Chg T H1 H2) (n:∀ p ∈ T,H p=none):Same H H2:=fun b o e=>c b o (s b o e) fun z=>by rw [n b z] at e;cases e
inductive spCount' (vs:List V) (H:Hp) (Q:VK):Prop
 | mk:∀ (sz:Nat),(vs=[.int sz])→(Q (.int (((sz + 15) / 16:Nat):Int)) H)→spCount' vs H Q
def zG9 (_:PySem.W.Frag) (_:Ad):Sp:=fun vs H Q _=>spCount' vs H Q
theorem zD0 (F:Fun K "count_of_blocks" "count_of_blocks" zq f fd) (T:Txt K mg a)  : FnOk P w K mg base CX0 1 f fd ["size"] (zG9 K a):=by
 have nd:=sc_count_of_blocks.nd
 refine F.ok sc_count_of_blocks (fun vs H Q E h=>?_) (fun cdv A outer s H vs Q E hr h=>?_)
 ·obtain ⟨sz,rfl,_⟩:=h
  rfl
 obtain ⟨sz,rfl,q⟩:=h
 refine ⟨_,(zG (zV (zO zBg (zO zAg (zO zm (pv 0) (zK (v:=.int 16) rfl T.cROW_WORDS.choose_spec ⟨_,rfl⟩)) zM) (zK (v:=.int 16) rfl T.cROW_WORDS.choose_spec ⟨_,rfl⟩)))),?_⟩
 rw [show (((sz + 15) / 16:Nat):Int)=((sz:Int) + 16 - 1) / 16 by omega] at q
 exact ⟨_,rfl,_,_,rfl,rfl,_,_,rfl,rfl,_,_,rfl,rfl,⟨by decide,by decide⟩,q⟩
structure Span (R:List (List Int)) (ks:List Int) (ρ:Int→List Int) (m t:Int) (n sz:Nat) (B:List Int) (fr:Int):Prop where
 n1:1≤n
 n2:(n:Int)≤2 * t - 1
 ex:∃ kind links a1 a2 a3 a4:Int,zb R ks ρ m n=[kind,links,(sz:Int),a1,a2,a3,a4,fr]∧[a1,a2,a3,a4].take B.length=B.take 4
 len:B.length=(sz + 15) / 16
 few:sz≤320
 far:4 < B.length→∃ row,zAt R ks ρ (.int fr)=some row∧row.take (B.length - 4)=B.drop 4
inductive spBlocksOf' (a:Ad) (vs:List V) (H:Hp) (Q:VK):Prop
 | mk:∀ (b d kr nr y:Addr) (S:DS) (ks:List Int) (ρ:Int→List Int) (m t:Int) (n sz:Nat) (B:List Int) (fr:Int),(vs=[.ref b,.ref y,.int n])→(Mp a H b d kr nr y S ks ρ m t)→(Span S.R ks ρ m t n sz B fr)→(∀ p H',H p=none→Same H H'→H' p=some (.lst (B.map V.int))→Q (.ref p) H')→spBlocksOf' a vs H Q
def zBx (_:PySem.W.Frag) (a:Ad):Sp:=fun vs H Q _=>spBlocksOf' a vs H Q
theorem zIi (F:Fun K "blocks_of" "blocks_of" zBm f fd) (T:Txt K mg a) (D_node_of:Df P w K mg base (CXE P w) 5 "node_of" ["batch", "layout", "node"] (zB4 K a)) (D_count_of_blocks:Df P w K mg base CX0 1 "count_of_blocks" ["size"] (zG9 K a)) (M_Batch_read:Mf P w K mg base (CXE P w) 4 a.f_Batch_read ["self", "block"] (zCb K a)):FnOk P w K mg base (CXE P w) 6 f fd ["batch", "layout", "node"] (zBx K a):=by
 obtain ⟨_,_,Gnode_of,bnode_of,knode_of,mnode_of⟩:=D_node_of
 obtain ⟨_,_,Gcount_of_blocks,bcount_of_blocks,kcount_of_blocks,mcount_of_blocks⟩:=D_count_of_blocks
 obtain ⟨_,G_Batch_read,b_Batch_read⟩:=M_Batch_read
 have nd:=sc_blocks_of.nd
 refine F.okE sc_blocks_of (fun vs H Q E h=>?_) (fun cdv A outer s H vs Q E hr hA h=>?_)
 ·obtain ⟨b,d,kr,nr,y,S,ks,ρ,m,t,n,sz,B,fr,rfl,_⟩:=h
  rfl
 obtain ⟨b,d,kr,nr,y,S,ks,ρ,m,t,n,sz,B,fr,rfl,X,G,q⟩:=h
 obtain ⟨kind,links,a1,a2,a3,a4,en,ht⟩:=G.ex
 have hlen:=G.len
 have few:=G.few
 refine ⟨_,(pss_cons (ps_set (i:=3) nd rfl (by first|exact Or.inl rfl|exact Or.inr rfl) (zH Gnode_of (hr.mono (by decide)) rfl mnode_of knode_of bnode_of .nil (zE (fun _ _ _ h=>h)) (zA (pv 0) (zA (pv 1) (zA (pv 2) zC))) (hcm:=(.inr hA))))
  (pss_cons (ps_set (i:=4) nd rfl (by first|exact Or.inl rfl|exact Or.inr rfl) (zH Gcount_of_blocks (hr.mono (by decide)) rfl mcount_of_blocks kcount_of_blocks bcount_of_blocks .nil zw (zA (zC7 (zAb (K:=K) rfl) (pv 3) (zK (v:=.int 2) rfl T.cSIZE_AT.choose_spec ⟨_,rfl⟩) (fun _ _=>rfl)) zC)))
  (pss_cons (ps_set (i:=5) nd rfl (by first|exact Or.inl rfl|exact Or.inr rfl) (zk (zi (K:=K) rfl) (pv 3) (zh (zK (v:=.int 3) rfl T.cPLACES_AT.choose_spec ⟨_,rfl⟩)) (zh (zK (v:=.int 7) rfl T.cFAR_AT.choose_spec ⟨_,rfl⟩))))
  (pss_cons (zAp (zf zLd (pv 4) (zK (v:=.int 4) rfl T.cNEAR_BLOCKS.choose_spec ⟨_,rfl⟩) (zu _)) (zG (zV (zk (zi (K:=K) rfl) (pv 5) zBf (zh (pv 4))))) zU)
  (zG (zV (zO zCn (pv 5) (zk (zi (K:=K) rfl) (zy (pv 0) T.clBatch T.m_Batch_read G_Batch_read (hr.mono (by decide)) b_Batch_read .nil (zE (fun _ _ _ h=>h)) (zA (zC7 (zAb (K:=K) rfl) (pv 3) (zK (v:=.int 7) rfl T.cFAR_AT.choose_spec ⟨_,rfl⟩) (fun _ _=>rfl)) zC) (hcm:=(.inr hA))) zBf (zh (zO zAg (pv 4) (zK (v:=.int 4) rfl T.cNEAR_BLOCKS.choose_spec ⟨_,rfl⟩))))))))))),?_⟩
 refine ⟨_,rfl,_,rfl,_,rfl,b,d,kr,nr,y,S,ks,ρ,m,t,_,rfl,X,.int _,.inr ⟨n,rfl,G.n1,G.n2,fun p H1 np s1 hp=>?_⟩⟩
 rw [en] at hp
 refine ⟨_,rfl,p,_,2,_,rfl,rfl,SqL.of hp,rfl,sz,rfl,?_⟩
 rw [← hlen]
 refine ⟨_,rfl,_,rfl,_,rfl,p,_,rfl,SqL.of hp,fun p2 n2=>?_⟩
 have w2:=zF n2 (.lst ([a1,a2,a3,a4].map V.int))
 have hp2:=zB (H:=H1) (a:=p2) (o:=.lst ([a1,a2,a3,a4].map V.int))
 show zOd _ _ _ _ (upd H1 p2 (.lst ([a1,a2,a3,a4].map V.int)))
 have s2:=s1.trans w2
 have hpp:=w2 _ _ hp
 generalize upd H1 p2 (.lst ([a1,a2,a3,a4].map V.int))=H2 at w2 hp2 s2 hpp ⊢
 refine ⟨_,rfl,_,_,rfl,rfl,_,rfl,?_⟩
 by_cases h4:(B.length:Int)≤4
 ·refine iteT' (decide_eq_true h4) ?_
  refine ⟨_,rfl,_,rfl,_,rfl,p2,_,rfl,SqL.of hp2,fun p3 n3=>?_⟩
  rw [zD9,← List.map_take,ht,List.take_of_length_le (by omega)]
  exact q p3 _ (s2.free n3) (s2.trans (zF n3 _)) zB
 ·refine iteF' (decide_eq_false h4) ?_
  obtain ⟨row,er,hrow⟩:=G.far (by omega)
  have X2:=X.same s2
  obtain ⟨bx,hb⟩:=X2.bat.ex
  refine ⟨_,rfl,_,rfl,b,bx,_,rfl,hb,rfl,_,rfl,p,_,7,_,rfl,rfl,SqL.of hpp,rfl,b,d,kr,nr,S,ks,ρ,_,rfl,X2.bat,X2.dk,.int _,.inl ⟨row,er,fun p3 H3 np3 s3 hp3=>?_⟩⟩
  refine ⟨_,rfl,_,_,rfl,rfl,_,rfl,p3,_,rfl,SqL.of hp3,fun p4 n4=>?_⟩
  try dsimp (config:={ proj:=false,iota:=false,eta:=false,zeta:=false }) only
  rw [show (B.length:Int) - 4=((B.length - 4:Nat):Int) by omega,zD9,← List.map_take,hrow]
  have w4:=zF n4 (.lst ((B.drop 4).map V.int))
  refine ⟨p2,p4,_,_,rfl,rfl,(s3.trans w4) _ _ hp2,zB,small (by simp only [List.length_map,List.length_drop];simp;omega),fun p5 n5=>?_⟩
  have e4:[a1,a2,a3,a4]=B.take 4:=by
   rw [← ht,List.take_of_length_le (by simp;omega)]
  rw [← List.map_append,e4,List.take_append_drop]
  have sA:=s2.trans (s3.trans w4)
  exact q p5 _ (sA.free n5) (sA.trans (zF n5 _)) zB
def usedL (B:List Int) (fr:Int):List Int:=if B.length≤4 then B else B.take 4 ++ [fr] ++ B.drop 4
inductive spUsedBy' (a:Ad) (vs:List V) (H:Hp) (Q:VK):Prop
 | mk:∀ (b d kr nr y:Addr) (S:DS) (ks:List Int) (ρ:Int→List Int) (m t:Int) (n sz:Nat) (B:List Int) (fr:Int),(vs=[.ref b,.ref y,.int n])→(Mp a H b d kr nr y S ks ρ m t)→(Span S.R ks ρ m t n sz B fr)→(∀ p H',H p=none→Same H H'→H' p=some (.lst ((usedL B fr).map V.int))→Q (.ref p) H')→spUsedBy' a vs H Q
def zEx (_:PySem.W.Frag) (a:Ad):Sp:=fun vs H Q _=>spUsedBy' a vs H Q
theorem zLe (F:Fun K "used_by" "used_by" zCd f fd) (T:Txt K mg a) (D_blocks_of:Df P w K mg base (CXE P w) 6 "blocks_of" ["batch", "layout", "node"] (zBx K a)) (D_node_of:Df P w K mg base (CXE P w) 5 "node_of" ["batch", "layout", "node"] (zB4 K a)):FnOk P w K mg base (CXE P w) 7 f fd ["batch", "layout", "node"] (zEx K a):=by
 obtain ⟨_,_,Gblocks_of,bblocks_of,kblocks_of,mblocks_of⟩:=D_blocks_of
 obtain ⟨_,_,Gnode_of,bnode_of,knode_of,mnode_of⟩:=D_node_of
 have nd:=sc_used_by.nd
 refine F.okE sc_used_by (fun vs H Q E h=>?_) (fun cdv A outer s H vs Q E hr hA h=>?_)
 ·obtain ⟨b,d,kr,nr,y,S,ks,ρ,m,t,n,sz,B,fr,rfl,_⟩:=h
  rfl
 obtain ⟨b,d,kr,nr,y,S,ks,ρ,m,t,n,sz,B,fr,rfl,X,G,q⟩:=h
 obtain ⟨kind,links,a1,a2,a3,a4,en,ht⟩:=G.ex
 have hlen:=G.len
 have few:=G.few
 refine ⟨_,(pss_cons (ps_set (i:=3) nd rfl (by first|exact Or.inl rfl|exact Or.inr rfl) (zH Gblocks_of (hr.mono (by decide)) rfl mblocks_of kblocks_of bblocks_of .nil (zE (fun _ _ _ h=>h)) (zA (pv 0) (zA (pv 1) (zA (pv 2) zC))) (hcm:=(.inr hA))))
  (pss_cons (zAp (zf zLd (zQ (zX (K:=K) rfl) rfl T.len zA0 (zA (pv 3) zC)) (zK (v:=.int 4) rfl T.cNEAR_BLOCKS.choose_spec ⟨_,rfl⟩) (zu _)) (zG (zV (pv 3))) zU)
  (pss_cons (ps_set (i:=4) nd rfl (by first|exact Or.inl rfl|exact Or.inr rfl) (zC7 (zAb (K:=K) rfl) (zH Gnode_of (hr.mono (by decide)) rfl mnode_of knode_of bnode_of .nil (zE (fun _ _ _ h=>h)) (zA (pv 0) (zA (pv 1) (zA (pv 2) zC))) (hcm:=(.inr hA))) (zK (v:=.int 7) rfl T.cFAR_AT.choose_spec ⟨_,rfl⟩) (fun _ _=>rfl)))
  (zG (zV (zO zCn (zO zCn (zk (zi (K:=K) rfl) (pv 3) zBf (zh (zK (v:=.int 4) rfl T.cNEAR_BLOCKS.choose_spec ⟨_,rfl⟩))) (zBb (zA (pv 4) zC))) (zk (zi (K:=K) rfl) (pv 3) (zh (zK (v:=.int 4) rfl T.cNEAR_BLOCKS.choose_spec ⟨_,rfl⟩)) zBf))))))),?_⟩
 refine ⟨_,rfl,_,rfl,_,rfl,b,d,kr,nr,y,S,ks,ρ,m,t,n,sz,B,fr,rfl,X,G,fun p H1 np s1 hp=>?_⟩
 refine ⟨_,rfl,p,_,rfl,.inl (SqL.of hp),_,_,rfl,rfl,_,rfl,?_⟩
 rw [List.length_map]
 by_cases h4:(B.length:Int)≤4
 ·refine iteT' (decide_eq_true h4) ⟨_,rfl,q p H1 np s1 ?_⟩
  unfold usedL
  rw [if_pos (by omega)];exact hp
 ·refine iteF' (decide_eq_false h4) ?_
  have X1:=X.same s1
  refine ⟨_,rfl,_,rfl,_,rfl,b,d,kr,nr,y,S,ks,ρ,m,t,_,rfl,X1,.int _,.inr ⟨n,rfl,G.n1,G.n2,fun p2 H2 np2 s2 hp2=>?_⟩⟩
  rw [en] at hp2
  refine ⟨p2,_,7,_,rfl,rfl,SqL.of hp2,rfl,?_⟩
  have hpp:=s2 _ _ hp
  refine ⟨_,rfl,_,rfl,p,_,rfl,SqL.of hpp,fun x1 m1=>?_⟩
  rw [show zHx (B.map V.int) none (some (4:Int))=(B.take 4).map V.int by rw [show (4:Int)=((4:Nat):Int) from rfl,zD9,List.map_take]]
  have u1:=zF m1 (.lst ((B.take 4).map V.int))
  refine ⟨_,rfl,(by show 1≤sizeLine;decide),fun x2 m2=>?_⟩
  have u2:=u1.trans (zF m2 (.lst [.int fr]))
  refine ⟨x1,x2,_,_,rfl,rfl,zF m2 _ _ _ zB,zB,small (by simp;omega),fun x3 m3=>?_⟩
  have u3:=u2.trans (zF m3 (.lst ((B.take 4).map V.int ++ [.int fr])))
  refine ⟨_,rfl,_,rfl,p,_,rfl,SqL.of (u3 _ _ hpp),fun x4 m4=>?_⟩
  rw [show zHx (B.map V.int) (some (4:Int)) none=(B.drop 4).map V.int by rw [show (4:Int)=((4:Nat):Int) from rfl,zEa,List.map_drop]]
  have u4:=u3.trans (zF m4 (.lst ((B.drop 4).map V.int)))
  refine ⟨x3,x4,_,_,rfl,rfl,zF m4 _ _ _ zB,zB,small (by simp;omega),fun x5 m5=>?_⟩
  have sA:=(s1.trans s2).trans u4
  refine q x5 _ (sA.free m5) (sA.trans (zF m5 _)) ?_
  unfold usedL
  rw [zB,if_neg (by omega),List.map_append,List.map_append];rfl
inductive spRefuseO' (a:Ad) (vs:List V) (H:Hp) (Q:VK) (E:XK):Prop
 | mk:∀ (b d kr nr y:Addr) (S:DS) (ks:List Int) (ρ:Int→List Int) (m t:Int) (n sz:Nat) (B:List Int) (fr bg c:Int),(vs=[.ref b,.ref y,.int n,.int bg,.int c])→(Mp a H b d kr nr y S ks ρ m t)→(Span S.R ks ρ m t n sz B fr)→((((bg < 0∨c < 0∨(sz:Int) < bg + c)∧∀ H',Same H H'→E (.ref a.cOutOfPlace) none H')∨(0≤bg∧0≤c∧bg + c≤(sz:Int)∧∀ H',Same H H'→Q .non H')))→spRefuseO' a vs H Q E
def zC3 (_:PySem.W.Frag) (a:Ad):Sp:=fun vs H Q E=>spRefuseO' a vs H Q E
theorem zC2 (F:Fun K "refuse_out_of_place" "refuse_out_of_place" zZ f fd) (T:Txt K mg a) (D_node_of:Df P w K mg base (CXE P w) 5 "node_of" ["batch", "layout", "node"] (zB4 K a)):FnOk P w K mg base (CXE P w) 6 f fd ["batch", "layout", "node", "begin", "count"] (zC3 K a):=by
 obtain ⟨_,_,Gnode_of,bnode_of,knode_of,mnode_of⟩:=D_node_of
 have nd:=sc_refuse_out_of_place.nd
 refine F.okE sc_refuse_out_of_place (fun vs H Q E h=>?_) (fun cdv A outer s H vs Q E hr hA h=>?_)
 ·obtain ⟨b,d,kr,nr,y,S,ks,ρ,m,t,n,sz,B,fr,bg,c,rfl,_⟩:=h
  rfl
 obtain ⟨b,d,kr,nr,y,S,ks,ρ,m,t,n,sz,B,fr,bg,c,rfl,X,G,hq⟩:=h
 obtain ⟨kind,links,a1,a2,a3,a4,en,ht⟩:=G.ex
 refine ⟨_,(pss_cons (ps_set (i:=5) nd rfl (by first|exact Or.inl rfl|exact Or.inr rfl) (zC7 (zAb (K:=K) rfl) (zH Gnode_of (hr.mono (by decide)) rfl mnode_of knode_of bnode_of .nil (zE (fun _ _ _ h=>h)) (zA (pv 0) (zA (pv 1) (zA (pv 2) zC))) (hcm:=(.inr hA))) (zK (v:=.int 2) rfl T.cSIZE_AT.choose_spec ⟨_,rfl⟩) (fun _ _=>rfl)))
  (zG (zAp (PW.pt (zOo (zf zId (pv 3) zM (zu _)) (zOo (zf zId (pv 4) zM (zu _)) (zMl (zf zIe (zO zm (pv 3) (pv 4)) (pv 5) (zu _)))))) (zG (za (zAl (fun _ _ _ h=>h)) rfl hA rfl T.mOutOfPlace T.xOutOfPlace (zA zAr zC))) zU))),?_⟩
 refine ⟨_,rfl,_,rfl,_,rfl,b,d,kr,nr,y,S,ks,ρ,m,t,_,rfl,X,.int _,.inr ⟨n,rfl,G.n1,G.n2,fun p H1 np s1 hp=>?_⟩⟩
 rw [en] at hp
 refine ⟨p,_,2,_,rfl,rfl,SqL.of hp,rfl,?_⟩
 have bad:(bg < 0∨c < 0∨(sz:Int) < bg + c)→E (.ref a.cOutOfPlace) none H1:=fun hb=>by
  rcases hq with ⟨_,q⟩ | ⟨h1,h2,h3,_⟩
  ·exact q H1 s1
  ·omega
 refine ⟨_,rfl,_,_,rfl,rfl,_,rfl,?_⟩
 by_cases h0:bg < 0
 ·exact iteT' (decide_eq_true h0) (iteT' (by rfl) ⟨(by show 1≤1000;decide),bad (.inl h0)⟩)
 refine iteF' (decide_eq_false h0) ⟨_,rfl,_,_,rfl,rfl,_,rfl,?_⟩
 by_cases h1:c < 0
 ·exact iteT' (decide_eq_true h1) (iteT' (by rfl) ⟨(by show 1≤1000;decide),bad (.inr (.inl h1))⟩)
 refine iteF' (decide_eq_false h1) ⟨_,rfl,_,rfl,_,_,rfl,rfl,_,rfl,_,_,rfl,rfl,_,rfl,?_⟩
 by_cases h2:(sz:Int) < bg + c
 ·exact iteT' (decide_eq_true h2) ⟨(by show 1≤1000;decide),bad (.inr (.inr h2))⟩
 refine iteF' (decide_eq_false h2) ?_
 rcases hq with ⟨h,_⟩ | ⟨_,_,_,q⟩
 ·omega
 ·exact q H1 s1
def zBc (at' e:Nat):List (Nat × Nat):=if h:at' < e then (at',min (16 - at' % 16) (e - at')) :: zBc (at' + min (16 - at' % 16) (e - at')) e else []
termination_by e - at'
decreasing_by omega
theorem zDy {at' e:Nat}(h:at' < e):zBc at' e=(at',min (16 - at' % 16) (e - at')) :: zBc (at' + min (16 - at' % 16) (e - at')) e:=by
 rw [zBc,dif_pos h]
theorem zDz {at' e:Nat}(h:¬ at' < e):zBc at' e=[]:=by rw [zBc,dif_neg h]
def zN5 (H:Hp) (ts:List Addr) (L:List (Nat × Nat)):Prop:=ts.length=L.length∧∀ (i:Nat) (t:Addr) (x:Nat × Nat),ts[i]? = some t→L[i]? = some x→H t=some (.tup [.int x.1,.int x.2])
inductive spParts' (vs:List V) (H:Hp) (Q:VK):Prop
 | mk:∀ (bg c:Nat),(vs=[.int bg,.int c])→(c≤900)→(∀ p ts H',H p=none→Same H H'→H' p=some (.lst (ts.map V.ref))→zN5 H' ts (zBc bg (bg + c))→Q (.ref p) H')→spParts' vs H Q
def zG5 (_:PySem.W.Frag) (_:Ad):Sp:=fun vs H Q _=>spParts' vs H Q
theorem zOv (F:Fun K "parts" "parts" zEj f fd) (T:Txt K mg a)  : FnOk P w K mg base (CXE P w) 1 f fd ["begin", "count"] (zG5 K a):=by
 have nd:=sc_parts.nd
 refine F.okE sc_parts (fun vs H Q E h=>?_) (fun cdv A outer s H vs Q E hr hA h=>?_)
 ·obtain ⟨bg,c,rfl,_⟩:=h
  rfl
 obtain ⟨bg,c,rfl,hc,q⟩:=h
 refine ⟨_,(pss_cons (ps_set (i:=2) nd rfl (by first|exact Or.inl rfl|exact Or.inr rfl) (zO zm (pv 0) (pv 1)))
  (pss_cons (ps_set (i:=3) nd rfl (by first|exact Or.inl rfl|exact Or.inr rfl) (zBb zC))
  (pss_cons (ps_set (i:=4) nd rfl (by first|exact Or.inl rfl|exact Or.inr rfl) (pv 0))
  (pss_cons (zKl PassesOwn.leaving (zf zId (pv 4) (pv 2) (zu _)) (pss_cons (ps_set (i:=5) nd rfl (by first|exact Or.inl rfl|exact Or.inr rfl) (zQ (zEb hA) rfl T.min zK2 (zA (zO zAg (zK (v:=.int 16) rfl T.cROW_WORDS.choose_spec ⟨_,rfl⟩) (zO zB7 (pv 4) (zK (v:=.int 16) rfl T.cROW_WORDS.choose_spec ⟨_,rfl⟩))) (zA (zO zAg (pv 2) (pv 4)) zC))))
  (pss_cons (zT (zIa (K:=K) rfl PySem.F.plainAttrs_list PySem.F.slot_list_append PySem.F.type_list_append zD3 (pv 3) (zA (zMt (zA (pv 4) (zA (pv 5) zC))) zC)))
  (zG (ps_set (i:=4) nd rfl (by first|exact Or.inl rfl|exact Or.inr rfl) (zO zm (pv 4) (pv 5)))))))
  (zG (zV (pv 3))))))),?_⟩
 refine ⟨_,rfl,_,rfl,_,_,rfl,rfl,?_⟩
 try dsimp (config:={ proj:=false,iota:=false,eta:=false,zeta:=false }) only
 rw [show (bg:Int) + (c:Int)=((bg + c:Nat):Int) by omega]
 refine ⟨(by show 0≤sizeLine;decide),fun cu ncu=>⟨_,rfl,?_⟩⟩
 refine ⟨fun k σ' H'=>∃ (at':Nat) (ts:List Addr) (L:List (Nat × Nat)) (o5:Option V),k=bg + c - at'∧σ'=[some (.int bg),some (.int c),some (.int ((bg + c:Nat):Int)),some (.ref cu),some (.int at'),o5]∧Same H H'∧H' cu=some (.lst (ts.map V.ref))∧zN5 H' ts L∧L ++ zBc at' (bg + c)=zBc bg (bg + c)∧L.length + bg≤at'∧at'≤bg + c∧∀ t ∈ ts,t≠cu,
  ⟨_,bg,[],[],none,rfl,rfl,zF ncu _,zB,⟨rfl,fun i t x e1 _=>by simp at e1⟩,rfl,by simp,by omega,fun t ht=>(by cases ht)⟩,?_⟩
 rintro k σ' H1 ⟨at',ts,L,o5,rfl,rfl,s1,hcu,hP,hL,hl,hae,hn⟩
 refine ⟨_,rfl,_,rfl,_,_,rfl,rfl,_,rfl,?_⟩
 by_cases h:at' < bg + c
 ·refine iteT' (decide_eq_true (by omega)) ⟨_,fun σ' H' h=>h,?_⟩
  obtain ⟨st,est⟩ : ∃ st:Nat,min (16 - at' % 16) (bg + c - at')=st:=⟨_,rfl⟩
  refine ⟨_,rfl,_,_,rfl,rfl,(by show (0:Int) < 16;decide),_,_,rfl,rfl,_,rfl,_,rfl,_,_,rfl,rfl,_,_,rfl,?_⟩
  try dsimp (config:={ proj:=false,iota:=false,eta:=false,zeta:=false }) only
  rw [show (if ((bg + c:Nat):Int) - (at':Int) < 16 - (at':Int) % 16 then ((bg + c:Nat):Int) - (at':Int) else 16 - (at':Int) % 16)=(st:Int) by split <;> omega]
  refine ⟨_,rfl,.inl ⟨rfl,_,SqL.of hcu⟩,_,rfl,_,rfl,(by show 2≤sizeLine;decide),fun tp ntp=>?_⟩
  have w2:=zF ntp (.tup [.int at',.int st])
  have ntc:tp≠cu:=Ne.symm (zJ hcu ntp)
  refine ⟨cu,_,_,rfl,rfl,w2 _ _ hcu,small1000 (by rw [List.length_map,hP.1];omega),?_⟩
  have ets:ts.map V.ref ++ [V.ref tp]=(ts ++ [tp]).map V.ref:=by simp
  rw [ets]
  refine ⟨_,rfl,_,rfl,_,_,rfl,rfl,?_⟩
  try dsimp (config:={ proj:=false,iota:=false,eta:=false,zeta:=false }) only
  rw [show (at':Int) + (st:Int)=((at' + st:Nat):Int) by omega]
  refine ⟨_,?_,at' + st,ts ++ [tp],L ++ [(at',st)],_,rfl,rfl,zv (s1.trans w2) ((Chg.of (Same.refl _) (S:=[cu])).upd (by simp) _) (by simp [ncu]),zB,?_,?_,by rw [List.length_append];simp;omega,by omega,fun t ht=>?_⟩
  ·omega
  ·refine ⟨by simp [hP.1],fun i t x e1 e2=>?_⟩
   have hl:=hP.1
   by_cases hi:i < ts.length
   ·rw [List.getElem?_append_left hi] at e1
    rw [List.getElem?_append_left (by omega)] at e2
    rw [upd_ne (hn t (List.mem_of_getElem? e1))]
    exact w2 _ _ (hP.2 i t x e1 e2)
   ·rw [List.getElem?_append_right (by omega)] at e1
    rw [List.getElem?_append_right (by omega),← hl] at e2
    rcases Nat.lt_or_ge (i - ts.length) 1 with z | z
    ·rw [show i - ts.length=0 by omega] at e1 e2
     cases e1;cases e2
     rw [upd_ne ntc,zB]
    ·rw [List.getElem?_eq_none (by simpa using z)] at e1;cases e1
  ·rw [zDy h,est] at hL
   rw [List.append_assoc];exact hL
  ·rcases List.mem_append.mp ht with z | z
   ·exact hn t z
   ·rw [List.mem_singleton.mp z];exact ntc
 ·refine iteF' (decide_eq_false (by omega)) ⟨_,rfl,?_⟩
  rw [zDz h,List.append_nil] at hL
  rw [hL] at hP
  exact q cu ts H1 ncu s1 hcu hP
end
end K14
end
section
namespace K14
open PySem L2 BK
section
variable {P:Program}{w:World}{K:PySem.W.Frag}{mg:Str→Option Value}{base:Heap}{f:Addr}{fd:FuncData}{a:Ad}
def wAt (R:List (List Int)) (ks:List Int) (ρ:Int→List Int) (B:List Int) (i:Nat):Int:=((zAt R ks ρ (.int (B.getD (i / 16) 0))).getD []).getD (i % 16) 0
def zAs (R:List (List Int)) (ks:List Int) (ρ:Int→List Int) (B:List Int) (g k:Nat):List Int:=(List.range k).map fun i=>wAt R ks ρ B (g + i)
theorem zQw {x m:Int}(h0:0≤x) (h1:x < m) {l:Nat}(hl:(l:Int)=m):∃ j:Nat,x=(j:Int)∧j < l:=⟨x.toNat,by omega,by omega⟩
theorem Mp.blk {H:Hp}{b d kr nr y:Addr}{S:DS}{ks:List Int}{ρ:Int→List Int}{m t:Int}(X:Mp a H b d kr nr y S ks ρ m t) {B:List Int}(hB:∀ x ∈ B,0≤x∧x < m) {i:Nat}(hi:i < 16 * B.length):∃ row,B[i / 16]? = some (B.getD (i / 16) 0)∧zAt S.R ks ρ (.int (B.getD (i / 16) 0))=some row∧zY row∧B.getD (i / 16) 0 ∈ B:=by
 have h:i / 16 < B.length:=by omega
 have e:B.getD (i / 16) 0=B[i / 16]:=by rw [List.getD_eq_getElem?_getD,List.getElem?_eq_getElem h];rfl
 obtain ⟨h1,h2⟩:=hB _ (List.getElem_mem h)
 obtain ⟨j,ej,hj⟩:=zQw h1 h2 X.len
 obtain ⟨row,es,gr⟩:=X.at hj
 rw [e,ej]
 exact ⟨row,by rw [List.getElem?_eq_getElem h,ej],es,gr,by rw [← ej];exact List.getElem_mem h⟩
theorem zK4 {R:List (List Int)}{ks:List Int}{ρ:Int→List Int}{B:List Int}{at' st:Nat}{row:List Int}(es:zAt R ks ρ (.int (B.getD (at' / 16) 0))=some row) (gr:row.length=16) (hs:at' % 16 + st≤16):(row.drop (at' % 16)).take st=zAs R ks ρ B at' st:=by
 unfold zAs
 apply List.ext_getElem?
 intro i
 rw [List.getElem?_take,List.getElem?_map]
 by_cases hi:i < st
 ·rw [if_pos hi,List.getElem?_range hi,List.getElem?_drop]
  show _=some (wAt R ks ρ B (at' + i))
  unfold wAt
  rw [show (at' + i) / 16=at' / 16 by omega,es,show (at' + i) % 16=at' % 16 + i by omega]
  show _=some (row.getD (at' % 16 + i) 0)
  rw [List.getD_eq_getElem?_getD,List.getElem?_eq_getElem (by omega)];rfl
 ·rw [if_neg hi,List.getElem?_eq_none (by simpa using hi)];rfl
theorem zK5 {R:List (List Int)}{ks:List Int}{ρ:Int→List Int}{B:List Int}{g k st:Nat}:zAs R ks ρ B g k ++ zAs R ks ρ B (g + k) st=zAs R ks ρ B g (k + st):=by
 unfold zAs
 rw [List.range_add,List.map_append,List.map_map]
 congr 1
 refine List.map_congr_left fun i _=>?_
 show _=wAt R ks ρ B (g + (k + i))
 rw [Nat.add_assoc]
theorem zGa {R:List (List Int)}{ks:List Int}{ρ:Int→List Int}{B:List Int}{g k:Nat}:(zAs R ks ρ B g k).length=k:=by unfold zAs;simp
theorem zIc:∀ (k at' e:Nat),e - at'≤k→(zBc at' e).length≤e - at'
 | 0,at',e,h=>by rw [zDz (by omega)];simp
 | k + 1,at',e,h=>by
  by_cases hl:at' < e
  ·rw [zDy hl,List.length_cons]
   have:=zIc k (at' + min (16 - at' % 16) (e - at')) e (by omega)
   omega
  ·rw [zDz hl];simp
theorem zGl {L:List (Nat × Nat)}{at' e i:Nat}(hd:L.drop i=zBc at' e) {x:Nat × Nat}(hx:L[i]? = some x):at' < e∧x=(at',min (16 - at' % 16) (e - at'))∧L.drop (i + 1)=zBc (at' + min (16 - at' % 16) (e - at')) e:=by
 obtain ⟨hi,ex⟩:=List.getElem?_eq_some_iff.mp hx
 have hc:L.drop i=L[i] :: L.drop (i + 1):=List.drop_eq_getElem_cons hi
 rw [hc] at hd
 by_cases hl:at' < e
 ·rw [zDy hl] at hd
  injection hd with h1 h2
  exact ⟨hl,by rw [← ex,h1],h2⟩
 ·rw [zDz hl] at hd;cases hd
inductive spWordsOf' (a:Ad) (vs:List V) (H:Hp) (Q:VK) (E:XK):Prop
  | mk:∀ (b d kr nr y:Addr) (S:DS) (ks:List Int) (ρ:Int→List Int) (m t:Int) (n sz:Nat) (B:List Int) (fr bg c:Int),(vs=[.ref b,.ref y,.int n,.int bg,.int c])→(Mp a H b d kr nr y S ks ρ m t)→(Span S.R ks ρ m t n sz B fr)→((∀ x ∈ B,0≤x∧x < m))→((((bg < 0∨c < 0∨(sz:Int) < bg + c)∧∀ H',Same H H'→E (.ref a.cOutOfPlace) none H') ∨
   (∃ g k:Nat,bg=g∧c=k∧g + k≤sz∧∀ p H',H p=none→Same H H'→H' p=some (.lst ((zAs S.R ks ρ B g k).map V.int))→Q (.ref p) H')))→spWordsOf' a vs H Q E
def zDr (_:PySem.W.Frag) (a:Ad):Sp:=fun vs H Q E=>spWordsOf' a vs H Q E
theorem zJl (F:Fun K "words_of" "words_of" zBy f fd) (T:Txt K mg a) (D_refuse_out_of_place:Df P w K mg base (CXE P w) 6 "refuse_out_of_place" ["batch", "layout", "node", "begin", "count"] (zC3 K a)) (D_blocks_of:Df P w K mg base (CXE P w) 6 "blocks_of" ["batch", "layout", "node"] (zBx K a)) (D_parts:Df P w K mg base (CXE P w) 1 "parts" ["begin", "count"] (zG5 K a)) (M_Batch_read:Mf P w K mg base (CXE P w) 4 a.f_Batch_read ["self", "block"] (zCb K a)):FnOk P w K mg base (CXE P w) 7 f fd ["batch", "layout", "node", "begin", "count"] (zDr K a):=by
 obtain ⟨_,_,Grefuse_out_of_place,brefuse_out_of_place,krefuse_out_of_place,mrefuse_out_of_place⟩:=D_refuse_out_of_place
 obtain ⟨_,_,Gblocks_of,bblocks_of,kblocks_of,mblocks_of⟩:=D_blocks_of
 obtain ⟨_,_,Gparts,bparts,kparts,mparts⟩:=D_parts
 obtain ⟨_,G_Batch_read,b_Batch_read⟩:=M_Batch_read
 have nd:=sc_words_of.nd
 refine F.okE sc_words_of (fun vs H Q E h=>?_) (fun cdv A outer s H vs Q E hr hA h=>?_)
 ·obtain ⟨b,d,kr,nr,y,S,ks,ρ,m,t,n,sz,B,fr,bg,c,rfl,_⟩:=h
  rfl
 obtain ⟨b,d,kr,nr,y,S,ks,ρ,m,t,n,sz,B,fr,bg,c,rfl,X,G,hB,hq⟩:=h
 refine ⟨_,(pss_cons (zT (zH Grefuse_out_of_place (hr.mono (by decide)) rfl mrefuse_out_of_place krefuse_out_of_place brefuse_out_of_place .nil (zE (fun _ _ _ h=>h)) (zA (pv 0) (zA (pv 1) (zA (pv 2) (zA (pv 3) (zA (pv 4) zC))))) (hcm:=(.inr hA))))
  (pss_cons (ps_set (i:=5) nd rfl (by first|exact Or.inl rfl|exact Or.inr rfl) (zH Gblocks_of (hr.mono (by decide)) rfl mblocks_of kblocks_of bblocks_of .nil (zE (fun _ _ _ h=>h)) (zA (pv 0) (zA (pv 1) (zA (pv 2) zC))) (hcm:=(.inr hA))))
  (pss_cons (ps_set (i:=6) nd rfl (by first|exact Or.inl rfl|exact Or.inr rfl) (zBb zC))
  (pss_cons (zCk PassesOwn.leaving rfl (zBt (K:=K) rfl (zH Gparts (hr.mono (by decide)) rfl mparts kparts bparts .nil (zE (fun _ _ _ h=>h)) (zA (pv 3) (zA (pv 4) zC)) (hcm:=(.inr hA)))) (zFg hA (zAq (zx (i:=7) nd rfl (by first|exact Or.inl rfl|exact Or.inr rfl)) (zAq (zx (i:=8) nd rfl (by first|exact Or.inl rfl|exact Or.inr rfl)) zDl))) (pss_cons (ps_set (i:=9) nd rfl (by first|exact Or.inl rfl|exact Or.inr rfl) (zO zB7 (pv 7) (zK (v:=.int 16) rfl T.cROW_WORDS.choose_spec ⟨_,rfl⟩)))
  (zG (zT (zIa (K:=K) rfl PySem.F.plainAttrs_list PySem.F.slot_list_extend PySem.F.type_list_extend zIn (pv 6) (zA (zk (zi (K:=K) rfl) (zy (pv 0) T.clBatch T.m_Batch_read G_Batch_read (hr.mono (by decide)) b_Batch_read .nil (zE (fun _ _ _ h=>h)) (zA (zC7 (zAb (K:=K) rfl) (pv 5) (zO zBg (pv 7) (zK (v:=.int 16) rfl T.cROW_WORDS.choose_spec ⟨_,rfl⟩)) (fun _ _=>rfl)) zC) (hcm:=(.inr hA))) (zh (pv 9)) (zh (zO zm (pv 9) (pv 8)))) zC))))))
  (zG (zV (pv 6))))))),?_⟩
 have hlen:=G.len
 have few:=G.few
 rcases hq with ⟨hb,q⟩ | ⟨g,k,rfl,rfl,hgk,q⟩
 ·exact ⟨_,rfl,_,rfl,_,rfl,_,rfl,_,rfl,b,d,kr,nr,y,S,ks,ρ,m,t,n,sz,B,fr,bg,c,rfl,X,G,.inl ⟨hb,q⟩⟩
 refine ⟨_,rfl,_,rfl,_,rfl,_,rfl,_,rfl,b,d,kr,nr,y,S,ks,ρ,m,t,n,sz,B,fr,_,_,rfl,X,G,.inr ⟨by omega,by omega,by omega,fun H1 s1=>?_⟩⟩
 refine ⟨_,rfl,_,rfl,_,rfl,b,d,kr,nr,y,S,ks,ρ,m,t,n,sz,B,fr,rfl,X.same s1,G,fun p H2 np s2 hp=>?_⟩
 refine ⟨(by show 0≤sizeLine;decide),fun wd nwd=>?_⟩
 have w3:=zF nwd (.lst [])
 have hwd:=zB (H:=H2) (a:=wd) (o:=.lst [])
 have s3:=(s1.trans s2).trans w3
 have hp3:=w3 _ _ hp
 have npw:p≠wd:=zJ hp nwd
 have nwH:H wd=none:=(s1.trans s2).free nwd
 generalize upd H2 wd (.lst [])=H3 at w3 hwd s3 hp3 ⊢
 refine ⟨_,rfl,_,rfl,g,k,rfl,by omega,fun ps ts H4 nps s4 hps hP=>?_⟩
 have hwd4:=s4 _ _ hwd
 have nsw:ps≠wd:=Ne.symm (zJ hwd nps)
 have s5:=s3.trans s4
 refine ⟨ps,rfl,⟨_,SqL.of hps⟩,zCy (xs:=ts.map V.ref) (fun i σ' H'=>∃ (at':Nat) (o7 o8 o9:Option V),σ'=[some (.ref b),some (.ref y),some (.int n),some (.int g),some (.int k),some (.ref p),some (.ref wd),o7,o8,o9]∧Chg [wd] H4 H'∧(zBc g (g + k)).drop i=zBc at' (g + k)∧g≤at'∧at'≤g + k∧H' wd=some (.lst ((zAs S.R ks ρ B g (at' - g)).map V.int)))
  ⟨g,_,_,_,rfl,Chg.of (Same.refl _),rfl,Nat.le_refl _,by omega,by rw [hwd4,Nat.sub_self];rfl⟩ (fun i σ' H' _ ⟨_,_,_,_,_,c',_⟩=>SqL.of (c' _ _ hps (by simp only [List.mem_singleton];exact nsw))) ?_ ?_⟩
 ·rintro i v σ' H5 hv ⟨at',o7,o8,o9,rfl,c5,hd,h1,h2,hw⟩
  obtain ⟨hi,ev⟩:=List.getElem?_eq_some_iff.mp hv
  rw [List.length_map] at hi
  rw [List.getElem_map] at ev
  subst ev
  have hi':i < (zBc g (g + k)).length:=by rw [← hP.1];exact hi
  obtain ⟨hlt,ex,hd'⟩:=zGl hd (List.getElem?_eq_getElem hi')
  have ht:=hP.2 i _ _ (List.getElem?_eq_getElem hi) (List.getElem?_eq_getElem hi')
  rw [ex] at ht
  generalize hst:min (16 - at' % 16) (g + k - at')=st at ht hd'
  have sm:Same H H5:=zv s5 c5 (by simp [nwH])
  have X5:=X.same sm
  obtain ⟨bx,hb⟩:=X5.bat.ex
  obtain ⟨row,eB,es,gr,_⟩:=X.blk hB (i:=at') (by omega)
  have hat:atI (B.map V.int) ((at':Int) / 16)=some (.int (B.getD (at' / 16) 0)):=by
   rw [show (at':Int) / 16=((at' / 16:Nat):Int) by omega]
   exact zC0 (by rw [List.getElem?_map,eB];rfl)
  have hp5:H5 p=some (.lst (B.map V.int)):=c5 _ _ (s4 _ _ hp3) (by simp only [List.mem_singleton];exact npw)
  refine ⟨_,_,rfl,SqT.of (c5 _ _ ht (by simp only [List.mem_singleton];exact ze ht hwd4 (fun z=>by cases z))),rfl,_,_,rfl,_,_,rfl,rfl,?_⟩
  refine ⟨_,rfl,_,_,rfl,rfl,(by show (0:Int) < 16;decide),?_⟩
  try dsimp (config:={ proj:=false,iota:=false,eta:=false,zeta:=false }) only
  rw [show (at':Int) % 16=((at' % 16:Nat):Int) by omega]
  refine ⟨_,rfl,.inl ⟨rfl,_,SqL.of hw⟩,_,rfl,b,bx,_,rfl,hb,rfl,_,rfl,_,rfl,_,_,rfl,rfl,⟨by decide,by decide⟩,p,_,_,_,rfl,rfl,SqL.of hp5,hat,b,d,kr,nr,S,ks,ρ,_,rfl,X5.bat,X5.dk,.int _,.inl ⟨row,es,fun p6 H6 np6 s6 hp6=>?_⟩⟩
  refine ⟨_,rfl,_,rfl,_,rfl,_,rfl,_,_,rfl,rfl,_,rfl,p6,_,rfl,SqL.of hp6,fun p7 n7=>?_⟩
  try dsimp (config:={ proj:=false,iota:=false,eta:=false,zeta:=false }) only
  rw [show ((at' % 16:Nat):Int) + (st:Int)=((at' % 16 + st:Nat):Int) by omega,zJ1 _ _ _ (by rw [List.length_map,gr.1];omega),← List.map_drop,← List.map_take,zK4 es gr.1 (by omega)]
  have w7:=zF n7 (.lst ((zAs S.R ks ρ B at' st).map V.int))
  refine ⟨wd,p7,_,_,rfl,rfl,(s6.trans w7) _ _ hw,zB,small (by rw [List.length_map,List.length_map,zGa,zGa];omega),?_⟩
  refine ⟨at' + st,_,_,_,rfl,(c5.trans (Chg.of (s6.trans w7))).upd (by simp) _,hd',by omega,by omega,?_⟩
  rw [zB,← List.map_append,show at' + st - g=at' - g + st by omega,← zK5,show g + (at' - g)=at' by omega]
 ·rintro σ' H5 ⟨at',o7,o8,o9,rfl,c5,hd,h1,h2,hw⟩
  have hL:(zBc g (g + k)).drop (ts.map V.ref).length=[]:=List.drop_eq_nil_of_le (by rw [List.length_map,hP.1];exact Nat.le_refl _)
  rw [hL] at hd
  have he:at'=g + k:=by
   by_cases hl:at' < g + k
   ·rw [zDy hl] at hd;cases hd
   ·omega
  rw [he,show g + k - g=k by omega] at hw
  exact ⟨_,rfl,q wd H5 nwH (zv s5 c5 (by simp [nwH])) hw⟩
def WdsA (K:PySem.W.Frag) (H:Hp) (v:V) (ok:Bool) (k:Nat):Prop:=Kd K H v∧((isL H v=false∧ok=false∧k=0)∨∃ p xs,v=.ref p∧H p=some (.lst xs)∧xs.length≤1000∧(∀ x ∈ xs,Kd K H x)∧ok=xs.all zEp∧k=xs.length)
theorem WdsA.same {H H':Hp}{v:V}{b:Bool}{k:Nat}(h:WdsA K H v b k) (s:Same H H'):WdsA K H' v b k:=by
 obtain ⟨kd,h⟩:=h
 refine ⟨kd.same s,?_⟩
 rcases h with ⟨h1,h2⟩ | ⟨p,xs,h1,h2,h3,h4,h5⟩
 ·obtain ⟨t,ty,_⟩:=kd
  exact .inl ⟨by rw [zHp s ty];exact h1,h2⟩
 ·exact .inr ⟨p,xs,h1,s _ _ h2,h3,fun x hx=>(h4 x hx).same s,h5⟩
inductive spPutWords' (K:PySem.W.Frag) (a:Ad) (vs:List V) (H:Hp) (Q:VK) (E:XK):Prop
  | mk:∀ (b d kr nr y:Addr) (S:DS) (ks:List Int) (ρ:Int→List Int) (m t:Int) (n sz:Nat) (B:List Int) (fr bg:Int) (v:V) (ok:Bool) (k:Nat),(vs=[.ref b,.ref y,.int n,.int bg,v])→(Mp a H b d kr nr y S ks ρ m t)→(Span S.R ks ρ m t n sz B fr)→(WdsA K H v ok k)→((((bg < 0∨(sz:Int) < bg + k)∧∀ H',Same H H'→E (.ref a.cOutOfPlace) none H') ∨
   (0≤bg∧bg + k≤(sz:Int)∧ok=false∧∀ H',Same H H'→E (.ref a.cBadRow) none H') ∨
   (∃ (g:Nat) (p:Addr) (ws:List Int),bg=g∧v=.ref p∧H p=some (.lst (ws.map V.int))∧(∀ z ∈ ws,0≤z∧z≤999999999)∧g + ws.length≤sz∧B.Nodup∧(∀ x ∈ B,17≤x∧x < m)∧ks.length < 400 ∧
     ∀ ks' ρ' H',Chg [nr] H H'→Ofs nr H H'→Mp a H' b d kr nr y S ks' ρ' m t→(∀ j:Int,j ∉ B→zAt S.R ks' ρ' (.int j)=zAt S.R ks ρ (.int j))→(∀ i,i < 16 * B.length→wAt S.R ks' ρ' B i=if g≤i∧i < g + ws.length then ws.getD (i - g) 0 else wAt S.R ks ρ B i)→(∀ x ∈ ks',x ∈ ks∨∃ i,g≤i∧i < g + ws.length∧x=B.getD (i / 16) 0)→Q .non H')))→spPutWords' K a vs H Q E
def zEg (K:PySem.W.Frag) (a:Ad):Sp:=fun vs H Q E=>spPutWords' K a vs H Q E
theorem zC5 {R:List (List Int)}{ks:List Int}{ρ ρ':Int→List Int}{k j:Int}(h:j≠k) (e:ρ' j=ρ j):zAt R (insK ks k) ρ' (.int j)=zAt R ks ρ (.int j):=by
 show (if j ∈ insK ks k then some (ρ' j) else _)=(if j ∈ ks then some (ρ j) else _)
 by_cases hk:j ∈ ks
 ·rw [if_pos (insK_mem.mpr (.inl hk)),if_pos hk,e]
 ·rw [if_neg (fun z=>(insK_mem.mp z).elim hk h),if_neg hk]
theorem zIg (F:Fun K "put_words" "put_words" zBk f fd) (T:Txt K mg a) (D_refuse_out_of_place:Df P w K mg base (CXE P w) 6 "refuse_out_of_place" ["batch", "layout", "node", "begin", "count"] (zC3 K a)) (D_blocks_of:Df P w K mg base (CXE P w) 6 "blocks_of" ["batch", "layout", "node"] (zBx K a)) (D_parts:Df P w K mg base (CXE P w) 1 "parts" ["begin", "count"] (zG5 K a)) (D_are_words:Df P w K mg base CX0 3 "are_words" ["thing"] (zMg K a)) (M_Batch_write:Mf P w K mg base (CXE P w) 5 a.f_Batch_write ["self", "block", "row"] (zCs K a)) (D_changed:Df P w K mg base CX0 1 "changed" ["row", "at", "words"] (zBr K a)) (M_Batch_read:Mf P w K mg base (CXE P w) 4 a.f_Batch_read ["self", "block"] (zCb K a)):FnOk P w K mg base (CXE P w) 7 f fd ["batch", "layout", "node", "begin", "words"] (zEg K a):=by
 obtain ⟨_,_,Grefuse_out_of_place,brefuse_out_of_place,krefuse_out_of_place,mrefuse_out_of_place⟩:=D_refuse_out_of_place
 obtain ⟨_,_,Gblocks_of,bblocks_of,kblocks_of,mblocks_of⟩:=D_blocks_of
 obtain ⟨_,_,Gparts,bparts,kparts,mparts⟩:=D_parts
 obtain ⟨_,_,Gare_words,bare_words,kare_words,mare_words⟩:=D_are_words
 obtain ⟨_,G_Batch_write,b_Batch_write⟩:=M_Batch_write
 obtain ⟨_,_,Gchanged,bchanged,kchanged,mchanged⟩:=D_changed
 obtain ⟨_,G_Batch_read,b_Batch_read⟩:=M_Batch_read
 have nd:=sc_put_words.nd
 refine F.okE sc_put_words (fun vs H Q E h=>?_) (fun cdv A outer s H vs Q E hr hA h=>?_)
 ·obtain ⟨b,d,kr,nr,y,S,ks,ρ,m,t,n,sz,B,fr,bg,v,ok,k,rfl,_⟩:=h
  rfl
 obtain ⟨b,d,kr,nr,y,S,ks,ρ,m,t,n,sz,B,fr,bg,v,ok,k,rfl,X,G,wA,hq⟩:=h
 refine ⟨_,(pss_cons (ps_set (i:=5) nd rfl (by first|exact Or.inl rfl|exact Or.inr rfl) (zKn (zBa (zQ (zB9 (K:=K) (T := "list") rfl) rfl T.isinstance zBu (zA (pv 4) (zA (zHh (v:=.ty "list") rfl T.list bt_list rfl) zC)))) (zQ (zX (K:=K) rfl) rfl T.len zA0 (zA (pv 4) zC)) zM))
  (pss_cons (zT (zH Grefuse_out_of_place (hr.mono (by decide)) rfl mrefuse_out_of_place krefuse_out_of_place brefuse_out_of_place .nil (zE (fun _ _ _ h=>h)) (zA (pv 0) (zA (pv 1) (zA (pv 2) (zA (pv 3) (zA (pv 5) zC))))) (hcm:=(.inr hA))))
  (pss_cons (zAp (zBs (zBa (zH Gare_words (hr.mono (by decide)) rfl mare_words kare_words bare_words .nil zw (zA (pv 4) zC)))) (zG (za (zAl (fun _ _ _ h=>h)) rfl hA rfl T.mBadRow T.xBadRow (zA zAr zC))) zU)
  (pss_cons (ps_set (i:=6) nd rfl (by first|exact Or.inl rfl|exact Or.inr rfl) (zH Gblocks_of (hr.mono (by decide)) rfl mblocks_of kblocks_of bblocks_of .nil (zE (fun _ _ _ h=>h)) (zA (pv 0) (zA (pv 1) (zA (pv 2) zC))) (hcm:=(.inr hA))))
  (zG (zCk PassesOwn.leaving rfl (zBt (K:=K) rfl (zH Gparts (hr.mono (by decide)) rfl mparts kparts bparts .nil (zE (fun _ _ _ h=>h)) (zA (pv 3) (zA (pv 5) zC)) (hcm:=(.inr hA)))) (zFg hA (zAq (zx (i:=7) nd rfl (by first|exact Or.inl rfl|exact Or.inr rfl)) (zAq (zx (i:=8) nd rfl (by first|exact Or.inl rfl|exact Or.inr rfl)) zDl))) (pss_cons (ps_set (i:=9) nd rfl (by first|exact Or.inl rfl|exact Or.inr rfl) (zC7 (zAb (K:=K) rfl) (pv 6) (zO zBg (pv 7) (zK (v:=.int 16) rfl T.cROW_WORDS.choose_spec ⟨_,rfl⟩)) (fun _ _=>rfl)))
  (pss_cons (ps_set (i:=10) nd rfl (by first|exact Or.inl rfl|exact Or.inr rfl) (zk (zi (K:=K) rfl) (pv 4) (zh (zO zAg (pv 7) (pv 3))) (zh (zO zm (zO zAg (pv 7) (pv 3)) (pv 8)))))
  (zG (zT (zy (pv 0) T.clBatch T.m_Batch_write G_Batch_write (hr.mono (by decide)) b_Batch_write .nil (zE (fun _ _ _ h=>h)) (zA (pv 9) (zA (zH Gchanged (hr.mono (by decide)) rfl mchanged kchanged bchanged .nil zw (zA (zy (pv 0) T.clBatch T.m_Batch_read G_Batch_read (hr.mono (by decide)) b_Batch_read .nil (zE (fun _ _ _ h=>h)) (zA (pv 9) zC) (hcm:=(.inr hA))) (zA (zO zB7 (pv 7) (zK (v:=.int 16) rfl T.cROW_WORDS.choose_spec ⟨_,rfl⟩)) (zA (pv 10) zC)))) zC)) (hcm:=(.inr hA))))))))))))),?_⟩
 have hlen:=G.len
 have few:=G.few
 obtain ⟨⟨t0,ty,_,_,e3⟩,hAl⟩:=id wA
 refine ⟨_,rfl,_,t0,_,rfl,ty,e3,_,rfl,?_⟩
 generalize hTL:zOd (zRi (zL8 (zC3 K a) _ _ _)) _=TL
 have main:TL { nx:=fun _ H'=>Q .non H',rt:=Q } [some (.ref b),some (.ref y),some (.int n),some (.int bg),some v,some (.int k),none,none,none,none,none] H:=by
  rw [← hTL]
  have kd:=wA.1
  rcases hq with ⟨hb,q⟩ | ⟨h0,h1,hok,q⟩ | ⟨g,p,ws,rfl,rfl,hp,hws,hgs,nd,hB,hks,q⟩
  ·exact ⟨_,rfl,_,rfl,_,rfl,_,rfl,_,rfl,b,d,kr,nr,y,S,ks,ρ,m,t,n,sz,B,fr,bg,k,rfl,X,G,.inl ⟨by omega,q⟩⟩
  ·refine ⟨_,rfl,_,rfl,_,rfl,_,rfl,_,rfl,b,d,kr,nr,y,S,ks,ρ,m,t,n,sz,B,fr,bg,k,rfl,X,G,.inr ⟨h0,by omega,h1,fun H1 s1=>?_⟩⟩
   have hAl1:=(wA.same s1).2
   rcases hAl1 with ⟨hL,_⟩ | ⟨p,xs,rfl,hp,hz,hk,eok,_⟩
   ·exact ⟨_,rfl,v,rfl,kd.same s1,.inl ⟨hL,_,rfl,iteT' (by rfl) ⟨(by show 1≤1000;decide),q H1 s1⟩⟩⟩
   ·refine ⟨_,rfl,_,rfl,kd.same s1,.inr ⟨p,xs,rfl,hp,hz,hk,fun H2 s2=>⟨_,rfl,iteT' (by rw [← eok,hok];rfl) ⟨(by show 1≤1000;decide),q H2 (s1.trans s2)⟩⟩⟩⟩
  have ek:k=ws.length:=by
   rcases hAl with ⟨hL,_⟩ | ⟨p',xs,e,hp',_,_,_,ek⟩
   ·rw [show isL H (.ref p)=true by show zGo (H p)=_;rw [hp];rfl] at hL;cases hL
   ·cases e;rw [hp] at hp';cases hp';rw [ek,List.length_map]
  subst ek
  refine ⟨_,rfl,_,rfl,_,rfl,_,rfl,_,rfl,b,d,kr,nr,y,S,ks,ρ,m,t,n,sz,B,fr,_,_,rfl,X,G,.inr ⟨by omega,by omega,by omega,fun H1 s1=>?_⟩⟩
  refine ⟨_,rfl,_,rfl,.lst (s1 _ _ hp),.inr ⟨p,_,rfl,s1 _ _ hp,by rw [List.length_map];omega,fun x hx=>(by obtain ⟨i,_,rfl⟩:=List.mem_map.mp hx;exact .int i),fun H2 s2=>⟨_,rfl,iteF' (by rw [zCo ws hws];rfl) ?_⟩⟩⟩
  have s12:=s1.trans s2
  refine ⟨_,rfl,_,rfl,_,rfl,b,d,kr,nr,y,S,ks,ρ,m,t,n,sz,B,fr,rfl,X.same s12,G,fun bp H3 nbp s3 hbp=>?_⟩
  refine ⟨_,rfl,_,rfl,g,ws.length,rfl,by omega,fun ps ts H4 nps s4 hps hP=>?_⟩
  have s5:=(s12.trans s3).trans s4
  have X4:=X.same s5
  obtain ⟨kvs,en⟩:=X4.bat.ho.at
  have lst:∀ {H':Hp}{u:Addr}{o:HO},Chg [nr] H4 H'→H4 u=some o→(∀ kvs,o≠.dK kvs)→H' u=some o:=fun c hu no=>c _ _ hu (by simp only [List.mem_singleton];exact ze hu en (no _))
  have hB0:∀ x ∈ B,0≤x∧x < m:=fun x hx=>by have:=hB x hx;omega
  have pl:=zIc _ g (g + ws.length) (Nat.le_refl _)
  refine ⟨ps,rfl,⟨_,SqL.of hps⟩,zCy (xs:=ts.map V.ref) (fun i σ' H'=>∃ (at':Nat) (ks':List Int) (ρ':Int→List Int) (o7 o8 o9 o10:Option V),σ'=[some (.ref b),some (.ref y),some (.int n),some (.int g),some (.ref p),some (.int ws.length),some (.ref bp),o7,o8,o9,o10]∧Chg [nr] H4 H'∧Ofs nr H4 H'∧Mp a H' b d kr nr y S ks' ρ' m t∧ks'.length≤ks.length + i∧(zBc g (g + ws.length)).drop i=zBc at' (g + ws.length)∧g≤at'∧at'≤g + ws.length∧(∀ j:Int,j ∉ B→zAt S.R ks' ρ' (.int j)=zAt S.R ks ρ (.int j))∧(∀ i,i < 16 * B.length→wAt S.R ks' ρ' B i=if g≤i∧i < at' then ws.getD (i - g) 0 else wAt S.R ks ρ B i)∧∀ x ∈ ks',x ∈ ks∨∃ i,g≤i∧i < g + ws.length∧x=B.getD (i / 16) 0)
   ⟨g,ks,ρ,_,_,_,_,rfl,Chg.of (Same.refl _),Ofs.refl,X4,Nat.le_refl _,rfl,Nat.le_refl _,by omega,fun j _=>rfl,fun i _=>by rw [if_neg (by omega)],fun x hx=>.inl hx⟩ (fun i σ' H' _ ⟨_,_,_,_,_,_,_,_,c',_⟩=>SqL.of (lst c' hps fun _ z=>by cases z)) ?_ ?_⟩
  ·rintro i v σ' H5 hv ⟨at',ks',ρ',o7,o8,o9,o10,rfl,c5,of5,X5,hl5,hd,h1,h2,hoff,hon,hsub⟩
   obtain ⟨hi,ev⟩:=List.getElem?_eq_some_iff.mp hv
   rw [List.length_map] at hi
   rw [List.getElem_map] at ev
   subst ev
   have hi':i < (zBc g (g + ws.length)).length:=by rw [← hP.1];exact hi
   obtain ⟨hlt,ex,hd'⟩:=zGl hd (List.getElem?_eq_getElem hi')
   have ht:=hP.2 i _ _ (List.getElem?_eq_getElem hi) (List.getElem?_eq_getElem hi')
   rw [ex] at ht
   generalize hst:min (16 - at' % 16) (g + ws.length - at')=st at ht hd'
   obtain ⟨row,eB,es,gr,hmem⟩:=X5.blk hB0 (i:=at') (by omega)
   have hat:atI (B.map V.int) ((at':Int) / 16)=some (.int (B.getD (at' / 16) 0)):=by
    rw [show (at':Int) / 16=((at' / 16:Nat):Int) by omega]
    exact zC0 (by rw [List.getElem?_map,eB];rfl)
   have hbp5:=lst c5 (s4 _ _ hbp) fun _ z=>by cases z
   have hp5:=lst c5 (s5 _ _ hp) fun _ z=>by cases z
   obtain ⟨bx,hb⟩:=X5.bat.ex
   refine ⟨_,_,rfl,SqT.of (lst c5 ht fun _ z=>by cases z),rfl,_,_,rfl,_,_,rfl,rfl,?_⟩
   refine ⟨_,rfl,_,rfl,_,_,rfl,rfl,⟨by decide,by decide⟩,bp,_,_,_,rfl,rfl,SqL.of hbp5,hat,?_⟩
   have hBd:17≤B.getD (at' / 16) 0∧B.getD (at' / 16) 0 < m:=hB _ hmem
   refine ⟨_,rfl,_,rfl,_,rfl,_,_,rfl,rfl,_,rfl,_,rfl,_,rfl,_,_,rfl,rfl,_,rfl,_,_,rfl,rfl,_,rfl,p,_,rfl,SqL.of hp5,fun p6 n6=>?_⟩
   try dsimp (config:={ proj:=false,iota:=false,eta:=false,zeta:=false }) only
   rw [show (at':Int) - (g:Int)=((at' - g:Nat):Int) by omega,show ((at' - g:Nat):Int) + (st:Int)=((at' - g + st:Nat):Int) by omega,zJ1 _ _ _ (by rw [List.length_map];omega),← List.map_drop,← List.map_take]
   have gp:∀ z ∈ (ws.drop (at' - g)).take st,0≤z∧z≤999999999:=fun z hz=>hws z (List.mem_of_mem_drop (List.mem_of_mem_take hz))
   have lp:((ws.drop (at' - g)).take st).length=st:=by rw [List.length_take,List.length_drop];omega
   have hpart:∀ i,i < st→((ws.drop (at' - g)).take st)[i]? = some (ws.getD (at' - g + i) 0):=fun i hi=>by
    rw [List.getElem?_take,if_pos hi,List.getElem?_drop,List.getD_eq_getElem?_getD,List.getElem?_eq_getElem (by omega)];rfl
   have w6:=zF n6 (.lst (((ws.drop (at' - g)).take st).map V.int))
   have hp6:=zB (H:=H5) (a:=p6) (o:=.lst (((ws.drop (at' - g)).take st).map V.int))
   generalize upd H5 p6 (.lst (((ws.drop (at' - g)).take st).map V.int))=H6 at w6 hp6 ⊢
   generalize (ws.drop (at' - g)).take st=part at hp6 gp lp hpart
   have X6:=X5.same w6
   refine ⟨_,rfl,b,bx,_,rfl,w6 _ _ hb,rfl,_,rfl,_,rfl,b,bx,_,rfl,w6 _ _ hb,rfl,_,rfl,b,d,kr,nr,S,ks',ρ',_,rfl,X6.bat,X6.dk,.int _,.inl ⟨row,es,fun p7 H7 np7 s7 hp7=>?_⟩⟩
   refine ⟨_,rfl,_,_,rfl,rfl,(by show (0:Int) < 16;decide),_,rfl,?_⟩
   try dsimp (config:={ proj:=false,iota:=false,eta:=false,zeta:=false }) only
   rw [show (at':Int) % 16=((at' % 16:Nat):Int) by omega]
   refine ⟨p7,p6,_,_,at' % 16,rfl,hp7,s7 _ _ hp6,by rw [List.length_map,gr.1];decide,by rw [List.length_map,lp];omega,fun p8 H8 np8 s8 hp8=>?_⟩
   rw [List.length_map,lp,← List.map_take,← List.map_drop,← List.map_append,← List.map_append] at hp8
   have gs:zY (row.take (at' % 16) ++ part ++ row.drop (at' % 16 + st)):=by
    refine ⟨by simp only [List.length_append,List.length_take,List.length_drop,gr.1,lp];omega,fun z hz=>?_⟩
    rcases List.mem_append.mp hz with h | h
    ·rcases List.mem_append.mp h with h | h
     ·exact gr.2 z (List.mem_of_mem_take h)
     ·exact gp z h
    ·exact gr.2 z (List.mem_of_mem_drop h)
   have hrow:∀ i,i < 16→(row.take (at' % 16) ++ part ++ row.drop (at' % 16 + st)).getD i 0=if at' % 16≤i∧i < at' % 16 + st then ws.getD (at' - g + (i - at' % 16)) 0 else row.getD i 0:=fun i hi=>by
    have lt:(row.take (at' % 16)).length=at' % 16:=by rw [List.length_take,gr.1];omega
    rw [List.getD_eq_getElem?_getD]
    by_cases hA:i < at' % 16
    ·rw [if_neg (by omega),List.append_assoc,List.getElem?_append_left (by omega),List.getElem?_take,if_pos hA,List.getD_eq_getElem?_getD]
    ·by_cases hC:i < at' % 16 + st
     ·rw [if_pos ⟨by omega,hC⟩,List.getElem?_append_left (by rw [List.length_append,lt,lp];exact hC),List.getElem?_append_right (by omega),lt,hpart _ (by omega)];rfl
     ·rw [if_neg (by omega),List.getElem?_append_right (by rw [List.length_append,lt,lp];omega),List.length_append,lt,lp,List.getElem?_drop,show at' % 16 + st + (i - (at' % 16 + st))=i by omega,List.getD_eq_getElem?_getD]
   generalize row.take (at' % 16) ++ part ++ row.drop (at' % 16 + st)=row' at hp8 gs hrow
   have s68:=w6.trans (s7.trans s8)
   have X8:=X5.same s68
   have hlm:=X.len
   refine ⟨b,d,kr,nr,S,ks',ρ',_,_,true,rfl,X8.bat,X8.dk,.int _,zBe hp8 gs,by omega,.inr (.inr ⟨B.getD (at' / 16) 0,p8,row',rfl,hBd.1,by omega,rfl,hp8,gs,fun H9 c9 B9 D9 of9=>?_⟩)⟩
   have ll:=zDh (ks:=ks') (k:=B.getD (at' / 16) 0)
   have M9:Mp a H9 b d kr nr y S (insK ks' (B.getD (at' / 16) 0)) (fun j=>if j=B.getD (at' / 16) 0 then row' else ρ' j) m t:=by
    obtain ⟨kv8,en8⟩:=X8.bat.ho.at
    refine ⟨B9,D9,X8.lay.chg c9 ?_,X.good,X.len,by omega⟩
    obtain ⟨yx8,hy8⟩:=X8.lay
    simp only [List.mem_singleton];exact ze hy8 en8 (fun z=>by cases z)
   refine ⟨at' + st,_,_,_,_,_,_,rfl,(c5.trans (Chg.of s68)).trans c9,(of5.trans (X5.ofs s68)).trans (zGm c9 B9 of9),M9,by omega,hd',by omega,by omega,fun j hj=>?_,fun i' hi''=>?_,fun x hx=>?_⟩
   ·have hne:j≠B.getD (at' / 16) 0:=fun z=>hj (by rw [z];exact hmem)
    rw [zC5 hne (if_neg hne)]
    exact hoff j hj
   ·by_cases hbl:i' / 16=at' / 16
    ·have e1:wAt S.R (insK ks' (B.getD (at' / 16) 0)) (fun j=>if j=B.getD (at' / 16) 0 then row' else ρ' j) B i'=row'.getD (i' % 16) 0:=by
      unfold wAt
      rw [hbl,zE1,if_pos rfl];rfl
     have e2:wAt S.R ks' ρ' B i'=row.getD (i' % 16) 0:=by
      unfold wAt
      rw [hbl,es];rfl
     have e3:=hon i' hi''
     rw [e2] at e3
     rw [e1,hrow _ (by omega)]
     by_cases hin:at' % 16≤i' % 16∧i' % 16 < at' % 16 + st
     ·rw [if_pos hin,if_pos (by omega),show at' - g + (i' % 16 - at' % 16)=i' - g by omega]
     ·rw [if_neg hin,e3]
      by_cases hq:g≤i'∧i' < at'
      ·rw [if_pos hq,if_pos (by omega)]
      ·rw [if_neg hq,if_neg (by omega)]
    ·have hne:B.getD (i' / 16) 0≠B.getD (at' / 16) 0:=fun z=>hbl (by
      have h1':i' / 16 < B.length:=by omega
      have h2':at' / 16 < B.length:=by omega
      rw [List.getD_eq_getElem?_getD,List.getD_eq_getElem?_getD,List.getElem?_eq_getElem h1',List.getElem?_eq_getElem h2'] at z
      have z':B[i' / 16]=B[at' / 16]:=z
      rcases Nat.lt_trichotomy (i' / 16) (at' / 16) with q | q | q
      ·exact absurd z' ((List.pairwise_iff_getElem.mp nd) _ _ h1' h2' q)
      ·exact q
      ·exact absurd z'.symm ((List.pairwise_iff_getElem.mp nd) _ _ h2' h1' q))
     have e1:wAt S.R (insK ks' (B.getD (at' / 16) 0)) (fun j=>if j=B.getD (at' / 16) 0 then row' else ρ' j) B i'=wAt S.R ks' ρ' B i':=by
      unfold wAt
      rw [zC5 hne (if_neg hne)]
     rw [e1,hon i' hi'']
     by_cases hq:g≤i'∧i' < at'
     ·rw [if_pos hq,if_pos (by omega)]
     ·rw [if_neg hq,if_neg (by omega)]
   ·rcases insK_mem.mp hx with z | z
    ·exact hsub x z
    ·exact .inr ⟨at',h1,by omega,z⟩
  ·rintro σ' H5 ⟨at',ks',ρ',o7,o8,o9,o10,rfl,c5,of5,X5,hl5,hd,h1,h2,hoff,hon,hsub⟩
   have hL:(zBc g (g + ws.length)).drop (ts.map V.ref).length=[]:=List.drop_eq_nil_of_le (by rw [List.length_map,hP.1];exact Nat.le_refl _)
   rw [hL] at hd
   have he:at'=g + ws.length:=by
    by_cases hl:at' < g + ws.length
    ·rw [zDy hl] at hd;cases hd
    ·omega
   subst he
   exact q ks' ρ' H5 ((Chg.of s5).trans c5) ((X.ofs s5).trans of5) X5 hoff hon hsub
 rcases hAl with ⟨hL,_,rfl⟩ | ⟨p,xs,rfl,hp,_,_,_,rfl⟩
 ·exact iteF' hL main
 ·exact iteT' (by show zGo (H p)=true;rw [hp];rfl) ⟨_,rfl,p,xs,rfl,.inl (SqL.of hp),main⟩
end
end K14
end
section
namespace K14
open PySem L2 BK
section
variable {P:Program}{w:World}{K:PySem.W.Frag}{mg:Str→Option Value}{base:Heap}{f:Addr}{fd:FuncData}{a:Ad}
theorem zTi {lo:Int}:∀ (n:Nat) (l:List Int),l.Nodup→(∀ x ∈ l,lo≤x∧x < lo + n)→l.length≤n
 | 0,l,_,h=>by
  cases l with
  | nil=>exact Nat.le_refl _
  | cons x r=>have:=h x (by simp);omega
 | n + 1,l,nd,h=>by
  have ih:=zTi (lo:=lo) n (l.erase (lo + n)) (nd.erase _) fun x hx=>by
   obtain ⟨h1,h2⟩:=nd.mem_erase_iff.mp hx
   have:=h x h2
   omega
  rw [List.length_erase] at ih
  split at ih <;> omega
theorem Mp.ks {H:Hp}{b d kr nr y:Addr}{S:DS}{ks:List Int}{ρ:Int→List Int}{m t:Int}(x:Mp a H b d kr nr y S ks ρ m t):ks.length≤79:=by
 obtain ⟨g1,g2,_⟩:=x.good
 have hl:=x.len
 refine zTi (lo:=17) 79 ks x.bat.ho.nd fun k hk=>?_
 have:=x.bat.ho.inn k hk
 omega
structure MapCh (R:List (List Int)) (ks:List Int) (ρ:Int→List Int) (ks':List Int) (ρ':Int→List Int) (m:Int) (g:Nat→Int):Prop where
 wd:∀ i:Nat,mw R ks' ρ' i=g i
 off:∀ j:Int,j < 17∨zP m≤j→zAt R ks' ρ' (.int j)=zAt R ks ρ (.int j)
 kk:∀ x ∈ ks',x ∈ ks∨17≤x∧x < zP m
theorem MapCh.refl {R:List (List Int)}{ks:List Int}{ρ:Int→List Int}{m:Int}:MapCh R ks ρ ks ρ m (mw R ks ρ):=⟨fun _=>rfl,fun _ _=>rfl,fun _ h=>.inl h⟩
theorem MapCh.set {H:Hp}{b d kr nr y:Addr}{S:DS}{ks ks':List Int}{ρ ρ':Int→List Int}{m t:Int}{g:Nat→Int}(X:Mp a H b d kr nr y S ks' ρ' m t) (h:MapCh S.R ks ρ ks' ρ' m g) {i:Nat}(hi:(i:Int) < m) (x:Int):MapCh S.R ks ρ (insK ks' ((17 + i / 16:Nat):Int)) (zLb S.R ks' ρ' i x) m (fun j=>if j=i then x else g j):=by
 obtain ⟨row,es,gr,hg,hlt⟩:=X.row hi
 refine ⟨fun j=>?_,fun j hj=>?_,fun z hz=>(insK_mem.mp hz).elim (fun q=>h.kk z q) fun q=>.inr (by rw [q];unfold zP;omega)⟩
 ·rw [zSa hlt (by rw [es];exact gr.1),h.wd j]
 ·have hne:j≠((17 + i / 16:Nat):Int):=by unfold zP at hj;omega
  rw [zC5 hne (by unfold zLb;rw [if_neg hne])]
  exact h.off j hj
def fitL (U F:List Nat) (c:Nat):List Nat:=U.take c ++ F.take (c - U.length)
theorem Mp.own {H H':Hp}{b d kr nr y:Addr}{S:DS}{ks:List Int}{ρ:Int→List Int}{m t:Int}(x:Mp a H b d kr nr y S ks ρ m t) {u:Addr}{xs:List V}(hu:H u=some (.lst xs)) (of:OffD H nr u) (no:NoRowAt H kr u) (nk:u≠kr) (c:Chg [u] H H'):Mp a H' b d kr nr y S ks ρ m t:=by
 obtain ⟨bx,hb⟩:=x.bat.ex
 obtain ⟨yx,hy⟩:=x.lay
 obtain ⟨kvs,en⟩:=x.bat.ho.at
 obtain ⟨dx,drs,g1,g2,g3⟩:=x.dk.ex
 have off:∀ {r:Addr}{o:HO},H r=some o→(∀ xs,o≠.lst xs)→r ∉ [u]:=fun e no=>by
  simp only [List.mem_singleton];exact ze e hu (no _)
 exact ⟨x.bat.chg c (off hb fun _ z=>by cases z) (off en fun _ z=>by cases z) fun v hv=>by rw [List.mem_singleton.mp hv];exact of,x.dk.offs c (off g1 fun _ z=>by cases z) (by simp only [List.mem_singleton];exact Ne.symm nk) fun v hv=>by rw [List.mem_singleton.mp hv];exact no,x.lay.chg c (off hy fun _ z=>by cases z),x.good,x.len,x.few⟩
theorem zJv {R:List (List Int)}{ks:List Int}{ρ:Int→List Int}{m:Nat}:(freeL R ks ρ m).Pairwise (· < ·):=List.pairwise_lt_range.filter _
theorem zO7 {R:List (List Int)}{ks ks':List Int}{ρ ρ':Int→List Int}{m:Nat}{i:Nat}{l:List Nat}(hl:freeL R ks ρ m=i :: l) (h:∀ j,mw R ks' ρ' j=if j=i then 1 else mw R ks ρ j):freeL R ks' ρ' m=l:=by
 have e:freeL R ks' ρ' m=(freeL R ks ρ m).filter fun j=>decide (j≠i):=by
  unfold freeL
  rw [List.filter_filter]
  refine List.filter_congr fun j _=>?_
  rw [h j]
  by_cases e:j=i
  ·simp [e]
  ·simp [e]
 have pw:=zJv (R:=R) (ks:=ks) (ρ:=ρ) (m:=m)
 rw [e,hl]
 rw [hl] at pw
 rw [List.filter_cons,if_neg (by simp),List.filter_eq_self]
 intro j hj
 have:=(List.pairwise_cons.mp pw).1 j hj
 exact decide_eq_true (by omega)
inductive spFitted' (a:Ad) (vs:List V) (H:Hp) (Q:VK) (E:XK):Prop
  | mk:∀ (b d kr nr y up:Addr) (S:DS) (ks:List Int) (ρ:Int→List Int) (m t:Int) (U:List Nat) (c:Nat),(vs=[.ref b,.ref y,.ref up,.int c])→(Mp a H b d kr nr y S ks ρ m t)→(H up=some (.lst (U.map fun i:Nat=>V.int (i:Int))))→(U.Nodup)→((∀ i ∈ U,zI m t≤(i:Int)∧(i:Int) < m∧mw S.R ks ρ i≠0))→(c≤100)→(U.length≤100)→(((U.length < c∧(freeL S.R ks ρ m.toNat).length < c - U.length∧∀ ks' ρ' H',Chg [nr] H H'→Mp a H' b d kr nr y S ks' ρ' m t→E (.ref a.cNoRoom) none H') ∨
   ((c≤U.length∨c - U.length≤(freeL S.R ks ρ m.toNat).length)∧∀ p ks' ρ' H',H p=none→Chg [nr] H H'→Ofs nr H H'→Mp a H' b d kr nr y S ks' ρ' m t→MapCh S.R ks ρ ks' ρ' m (fun j=>if j ∈ U.drop c then 0 else if j ∈ (freeL S.R ks ρ m.toNat).take (c - U.length) then 1 else mw S.R ks ρ j)→H' p=some (.lst ((fitL U (freeL S.R ks ρ m.toNat) c).map fun i:Nat=>V.int (i:Int)))→Q (.ref p) H')))→spFitted' a vs H Q E
def zG6 (K:PySem.W.Frag) (a:Ad):Sp:=fun vs H Q E=>spFitted' a vs H Q E
theorem zMx (F:Fun K "fitted" "fitted" zDc f fd) (T:Txt K mg a) (D_give:Df P w K mg base (CXE P w) 7 "give" ["batch", "layout", "block"] (zMd K a)) (D_take:Df P w K mg base (CXE P w) 7 "take" ["batch", "layout"] (zMb K a)):FnOk P w K mg base (CXE P w) 8 f fd ["batch", "layout", "used", "count"] (zG6 K a):=by
 obtain ⟨_,_,Ggive,bgive,kgive,mgive⟩:=D_give
 obtain ⟨_,_,Gtake,btake,ktake,mtake⟩:=D_take
 have nd:=sc_fitted.nd
 refine F.okE sc_fitted (fun vs H Q E h=>?_) (fun cdv A outer s H vs Q E hr hA h=>?_)
 ·obtain ⟨b,d,kr,nr,y,up,S,ks,ρ,m,t,U,c,rfl,_⟩:=h
  rfl
 obtain ⟨b,d,kr,nr,y,up,S,ks,ρ,m,t,U,c,rfl,X,hup,ndU,hU,hc,hUl,hq⟩:=h
 refine ⟨_,(pss_cons (zCk PassesOwn.leaving rfl (zBt (K:=K) rfl (zk (zi (K:=K) rfl) (pv 2) (zh (pv 3)) zBf)) (zx (i:=4) nd rfl (by first|exact Or.inl rfl|exact Or.inr rfl)) (zG (zT (zH Ggive (hr.mono (by decide)) rfl mgive kgive bgive .nil (zE (fun _ _ _ h=>h)) (zA (pv 0) (zA (pv 1) (zA (pv 4) zC))) (hcm:=(.inr hA))))))
  (pss_cons (ps_set (i:=5) nd rfl (by first|exact Or.inl rfl|exact Or.inr rfl) (zk (zi (K:=K) rfl) (pv 2) zBf (zh (pv 3))))
  (pss_cons (zKl PassesOwn.leaving (zf zId (zQ (zX (K:=K) rfl) rfl T.len zA0 (zA (pv 5) zC)) (pv 3) (zu _)) (zG (zT (zIa (K:=K) rfl PySem.F.plainAttrs_list PySem.F.slot_list_append PySem.F.type_list_append zD3 (pv 5) (zA (zH Gtake (hr.mono (by decide)) rfl mtake ktake btake .nil (zE (fun _ _ _ h=>h)) (zA (pv 0) (zA (pv 1) zC)) (hcm:=(.inr hA))) zC)))))
  (zG (zV (pv 5)))))),?_⟩
 have hm0:=X.good.1
 refine ⟨_,rfl,_,rfl,_,rfl,up,_,rfl,SqL.of hup,fun sl nsl=>?_⟩
 rw [zEa,← List.map_drop]
 have w1:=zF nsl (.lst ((U.drop c).map fun i:Nat=>V.int (i:Int)))
 have hsl:=zB (H:=H) (a:=sl) (o:=.lst ((U.drop c).map fun i:Nat=>V.int (i:Int)))
 have X1:=X.same w1
 have hup1:=w1 _ _ hup
 generalize upd H sl (.lst ((U.drop c).map fun i:Nat=>V.int (i:Int)))=H1 at w1 hsl X1 hup1 ⊢
 obtain ⟨kvs,en⟩:=X1.bat.ho.at
 have lst:∀ {H':Hp}{u:Addr}{xs:List V},Chg [nr] H1 H'→H1 u=some (.lst xs)→H' u=some (.lst xs):=fun c hu=>c _ _ hu (by simp only [List.mem_singleton];exact ze hu en (fun z=>by cases z))
 have ndD:(U.drop c).Nodup:=ndU.sublist (List.drop_sublist _ _)
 refine ⟨sl,rfl,⟨_,SqL.of hsl⟩,zCy (xs:=(U.drop c).map fun i:Nat=>V.int (i:Int)) (fun i σ' H'=>∃ (ks':List Int) (ρ':Int→List Int) (o4:Option V),σ'=[some (.ref b),some (.ref y),some (.ref up),some (.int c),o4,none]∧Chg [nr] H1 H'∧Ofs nr H1 H'∧Mp a H' b d kr nr y S ks' ρ' m t∧MapCh S.R ks ρ ks' ρ' m (fun j=>if j ∈ (U.drop c).take i then 0 else mw S.R ks ρ j))
  ⟨ks,ρ,_,rfl,Chg.of (Same.refl _),Ofs.refl,X1,by simpa using MapCh.refl⟩ (fun i σ' H' _ ⟨_,_,_,_,c',_⟩=>SqL.of (lst c' hsl)) ?_ ?_⟩
 ·rintro i v σ' H2 hv ⟨ks',ρ',o4,rfl,c2,of2,X2,M2⟩
  obtain ⟨hi,ev⟩:=List.getElem?_eq_some_iff.mp hv
  rw [List.length_map] at hi
  rw [List.getElem_map] at ev
  subst ev
  have hmem:(U.drop c)[i] ∈ U:=List.mem_of_mem_drop (List.getElem_mem hi)
  obtain ⟨u1,u2,u3⟩:=hU _ hmem
  have hnt:(U.drop c)[i] ∉ (U.drop c).take i:=fun z=>by
   obtain ⟨j,hj,e⟩:=List.mem_iff_getElem.mp z
   rw [List.getElem_take] at e
   rw [List.length_take] at hj
   exact (List.pairwise_iff_getElem.mp ndD) j i (by omega) hi (by omega) e
  have few:=X2.ks
  refine ⟨_,rfl,_,rfl,_,rfl,b,d,kr,nr,y,S,ks',ρ',m,t,_,rfl,X2,.int _,by omega,.inr ⟨(U.drop c)[i],rfl,u1,u2,.inr ⟨?_,fun H3 c3 X3 of3=>?_⟩⟩⟩
  ·rw [M2.wd,if_neg hnt];exact u3
  ·refine ⟨_,_,_,rfl,c2.trans c3,of2.trans (zGm c3 X3.bat of3),X3,?_⟩
   have:=M2.set X2 u2 0
   refine ⟨fun j=>?_,this.off,this.kk⟩
   rw [this.wd j,List.take_add_one,List.getElem?_eq_getElem hi]
   by_cases e:j=(U.drop c)[i]
   ·rw [if_pos e,if_pos (by simp [e])]
   ·rw [if_neg e]
    by_cases hj:j ∈ (U.drop c).take i
    ·rw [if_pos hj,if_pos (by simp [hj])]
    ·rw [if_neg hj,if_neg (fun z=>by
      rcases List.mem_append.mp z with z | z
      ·exact hj z
      ·exact e (by simpa using z))]
 rintro σ' H2 ⟨ks',ρ',o4,rfl,c2,of2,X2,M2⟩
 rw [List.length_map,List.take_length] at M2
 have hup2:=lst c2 hup1
 refine ⟨_,rfl,_,rfl,_,rfl,up,_,rfl,SqL.of hup2,fun kp nkp=>?_⟩
 rw [zD9,← List.map_take]
 have w3:=zF nkp (.lst ((U.take c).map fun i:Nat=>V.int (i:Int)))
 have hkp:=zB (H:=H2) (a:=kp) (o:=.lst ((U.take c).map fun i:Nat=>V.int (i:Int)))
 have X3:=X2.same w3
 have c3:Chg [nr] H1 _:=c2.trans (Chg.of w3)
 have nkpH:H kp=none:=by
  cases e:H kp with
  | none=>rfl
  | some o =>
   exfalso
   by_cases z:kp=nr
   ·obtain ⟨k2,e2⟩:=X2.bat.ho.at
    rw [z,e2] at nkp;cases nkp
   ·rw [c2 _ _ (w1 _ _ e) (by simpa using z)] at nkp;cases nkp
 generalize upd H2 kp (.lst ((U.take c).map fun i:Nat=>V.int (i:Int)))=H3 at w3 hkp X3 c3 ⊢
 have cH3:Chg [nr] H H3:=(Chg.of w1).trans c3
 have ofH3:Ofs nr H H3:=((X.ofs w1).trans of2).trans (X2.ofs w3)
 have of3:OffD H3 nr kp:=(X2.bat.ho.new nkp).same X2.bat.ho w3
 have no3:NoRowAt H3 kr kp:=(X2.dk.noRow nkp).chg X2.dk (Chg.of w3 (S:=[])) (by simp)
 have nkk:kp≠kr:=by
  obtain ⟨_,_,_,z2,_⟩:=X2.dk.ex
  exact Ne.symm (zJ z2 nkp)
 by_cases hcU:c≤U.length
 ·
  have hq':∀ p ks' ρ' H',H p=none→Chg [nr] H H'→Ofs nr H H'→Mp a H' b d kr nr y S ks' ρ' m t→MapCh S.R ks ρ ks' ρ' m (fun j=>if j ∈ U.drop c then 0 else if j ∈ (freeL S.R ks ρ m.toNat).take (c - U.length) then 1 else mw S.R ks ρ j)→H' p=some (.lst ((fitL U (freeL S.R ks ρ m.toNat) c).map fun i:Nat=>V.int (i:Int)))→Q (.ref p) H':=by
   rcases hq with ⟨z,_⟩ | ⟨_,q⟩
   ·omega
   ·exact q
  refine ⟨fun k σ' H'=>σ'=[some (.ref b),some (.ref y),some (.ref up),some (.int c),o4,some (.ref kp)]∧H'=H3,⟨0,rfl,rfl⟩,?_⟩
  rintro k σ' H' ⟨rfl,rfl⟩
  refine ⟨_,rfl,kp,_,rfl,.inl (SqL.of hkp),_,rfl,_,_,rfl,rfl,_,rfl,iteF' (decide_eq_false (by rw [List.length_map,List.length_take];omega)) ⟨_,rfl,?_⟩⟩
  refine hq' kp ks' ρ' _ nkpH cH3 ofH3 X3 ⟨fun j=>?_,M2.off,M2.kk⟩ ?_
  ·rw [M2.wd j,show c - U.length=0 by omega];simp
  ·unfold fitL
   rw [show c - U.length=0 by omega,List.take_zero,List.append_nil];exact hkp
 ·
  have hd0:U.drop c=[]:=List.drop_eq_nil_of_le (by omega)
  have hu0:U.take c=U:=List.take_of_length_le (by omega)
  rw [hu0] at hkp
  have M3:MapCh S.R ks ρ ks' ρ' m (fun j=>if j ∈ (freeL S.R ks ρ m.toNat).take 0 then 1 else mw S.R ks ρ j):=⟨fun j=>by rw [M2.wd j,hd0];simp,M2.off,M2.kk⟩
  have F3:freeL S.R ks' ρ' m.toNat=(freeL S.R ks ρ m.toNat).drop 0:=by
   rw [List.drop_zero]
   unfold freeL
   refine List.filter_congr fun j _=>?_
   rw [M3.wd j];simp
  have fpw:=zJv (R:=S.R) (ks:=ks) (ρ:=ρ) (m:=m.toNat)
  have flt:∀ i ∈ freeL S.R ks ρ m.toNat,(i:Int) < m:=fun i hi=>by have:=zJx i hi;omega
  have fz:∀ i ∈ freeL S.R ks ρ m.toNat,mw S.R ks ρ i=0:=fun i hi=>by
   unfold freeL at hi
   exact of_decide_eq_true (List.mem_filter.mp hi).2
  generalize hF:freeL S.R ks ρ m.toNat=F at *
  refine ⟨fun n σ' H'=>∃ (k:Nat) (ks':List Int) (ρ':Int→List Int),n=c - U.length - k∧k≤c - U.length∧k≤F.length∧σ'=[some (.ref b),some (.ref y),some (.ref up),some (.int c),o4,some (.ref kp)]∧Chg [nr] H H'∧Ofs nr H H'∧Mp a H' b d kr nr y S ks' ρ' m t∧OffD H' nr kp∧NoRowAt H' kr kp∧H' kp=some (.lst ((U ++ F.take k).map fun i:Nat=>V.int (i:Int)))∧MapCh S.R ks ρ ks' ρ' m (fun j=>if j ∈ F.take k then 1 else mw S.R ks ρ j)∧freeL S.R ks' ρ' m.toNat=F.drop k,
   ⟨_,0,ks',ρ',rfl,Nat.zero_le _,Nat.zero_le _,rfl,cH3,ofH3,X3,of3,no3,by simpa using hkp,M3,F3⟩,?_⟩
  rintro n σ' H4 ⟨k,ks4,ρ4,rfl,hk1,hk2,rfl,c4,ofH4,X4,of4,no4,hkp4,M4,F4⟩
  refine ⟨_,rfl,kp,_,rfl,.inl (SqL.of hkp4),_,rfl,_,_,rfl,rfl,_,rfl,?_⟩
  have hlk:(((U ++ F.take k).map fun i:Nat=>V.int (i:Int)).length:Int)=(U.length + k:Nat):=by
   rw [List.length_map,List.length_append,List.length_take,Nat.min_eq_left hk2]
  try dsimp (config:={ proj:=false,iota:=false,eta:=false,zeta:=false }) only
  rw [hlk]
  by_cases hk:U.length + k < c
  ·refine iteT' (decide_eq_true (by omega)) ⟨_,fun σ' H' h=>h,?_⟩
   have few:=X4.ks
   refine ⟨_,rfl,.inl ⟨rfl,_,SqL.of hkp4⟩,_,rfl,_,rfl,b,d,kr,nr,y,S,ks4,ρ4,m,t,rfl,X4,by omega,?_⟩
   by_cases hkF:k < F.length
   ·have hFd:F.drop k=F[k] :: F.drop (k + 1):=List.drop_eq_getElem_cons hkF
    refine .inr ⟨F[k],F.drop (k + 1),by rw [F4,hFd],fun H5 c5 X5 of5=>?_⟩
    have hkp5:H5 kp=some (.lst ((U ++ F.take k).map fun i:Nat=>V.int (i:Int))):=c5 _ _ hkp4 (by
     obtain ⟨k4,e4⟩:=X4.bat.ho.at
     simp only [List.mem_singleton];exact ze hkp4 e4 (fun z=>by cases z))
    refine ⟨kp,_,_,rfl,rfl,hkp5,small1000 (by rw [List.length_map,List.length_append,List.length_take];omega),?_⟩
    have ek:(U ++ F.take k).map (fun i:Nat=>V.int (i:Int)) ++ [V.int (F[k] : Int)]=(U ++ F.take (k + 1)).map fun i:Nat=>V.int (i:Int):=by
     rw [List.take_add_one,List.getElem?_eq_getElem hkF,← List.append_assoc]
     conv=>rhs;rw [List.map_append]
     rfl
    rw [ek]
    have M5:=M4.set X4 (flt _ (List.getElem_mem hkF)) 1
    have cu:Chg [kp] H5 (upd H5 kp (.lst ((U ++ F.take (k + 1)).map fun i:Nat=>V.int (i:Int)))):=(Chg.of (Same.refl _)).upd (by simp) _
    have of5':OffD H5 nr kp:=of5 kp (by rw [hkp4];simp) of4
    obtain ⟨k4,e4⟩:=X4.bat.ho.at
    obtain ⟨k5,e5⟩:=X5.bat.ho.at
    have no5:NoRowAt H5 kr kp:=no4.chg X4.dk c5 (by
     obtain ⟨_,_,_,z2,_⟩:=X4.dk.ex
     simp only [List.mem_singleton];exact ze z2 e4 (fun z=>by cases z))
    refine ⟨_,?_,k + 1,_,_,rfl,by omega,by omega,rfl,(c4.trans c5).upd0 nkpH _,(ofH4.trans (zGm c5 X5.bat of5)).trans (X5.ofsU hkp5 _),X5.own hkp5 of5' no5 nkk cu,of5'.chg X5.bat.ho cu (by simp only [List.mem_singleton];exact Ne.symm (ze hkp5 e5 (fun z=>by cases z))),no5.chg X5.dk cu (by simp only [List.mem_singleton];exact Ne.symm nkk),zB,⟨fun j=>?_,M5.off,M5.kk⟩,?_⟩
    ·omega
    ·rw [M5.wd j,List.take_add_one,List.getElem?_eq_getElem hkF]
     by_cases e:j=F[k]
     ·rw [if_pos e,if_pos (List.mem_append.mpr (.inr (by rw [e];exact List.mem_singleton.mpr rfl)))]
     ·rw [if_neg e]
      by_cases hj:j ∈ F.take k
      ·rw [if_pos hj,if_pos (List.mem_append.mpr (.inl hj))]
      ·rw [if_neg hj,if_neg (fun z=>by
        rcases List.mem_append.mp z with z | z
        ·exact hj z
        ·exact e (List.mem_singleton.mp z))]
    ·refine zO7 (i:=F[k]) (l:=F.drop (k + 1)) (by rw [F4,hFd]) fun j=>?_
     rw [M5.wd j]
     by_cases e:j=F[k]
     ·rw [if_pos e,if_pos e]
     ·rw [if_neg e,if_neg e,M4.wd j]
   ·refine .inl ⟨by rw [F4];exact List.drop_eq_nil_of_le (by omega),fun H5 s5=>?_⟩
    rcases hq with ⟨_,_,q⟩ | ⟨z,_⟩
    ·exact q ks4 ρ4 H5 (c4.trans (Chg.of s5)) (X4.same s5)
    ·omega
  ·refine iteF' (decide_eq_false (by omega)) ⟨_,rfl,?_⟩
   have ek:k=c - U.length:=by omega
   rcases hq with ⟨_,z,_⟩ | ⟨_,q⟩
   ·omega
   ·refine q kp ks4 ρ4 H4 nkpH c4 ofH4 X4 ⟨fun j=>?_,M4.off,M4.kk⟩ ?_
    ·rw [M4.wd j,hd0,ek];simp
    ·unfold fitL
     rw [hu0,← ek];exact hkp4
end
end K14
end
section
namespace K14
open PySem L2 BK
section
variable {P:Program}{w:World}{K:PySem.W.Frag}{mg:Str→Option Value}{base:Heap}{f:Addr}{fd:FuncData}{a:Ad}
def cuN (sz:Nat):Nat:=if (sz + 15) / 16≤4 then (sz + 15) / 16 else (sz + 15) / 16 + 1
inductive spCountU' (vs:List V) (H:Hp) (Q:VK):Prop
 | mk:∀ (sz:Nat),(vs=[.int sz])→(Q (.int (cuN sz)) H)→spCountU' vs H Q
def zG8 (_:PySem.W.Frag) (_:Ad):Sp:=fun vs H Q _=>spCountU' vs H Q
theorem zEv (F:Fun K "count_of_used" "count_of_used" zAe f fd) (T:Txt K mg a) (D_count_of_blocks:Df P w K mg base CX0 1 "count_of_blocks" ["size"] (zG9 K a)):FnOk P w K mg base CX0 2 f fd ["size"] (zG8 K a):=by
 obtain ⟨_,_,Gcount_of_blocks,bcount_of_blocks,kcount_of_blocks,mcount_of_blocks⟩:=D_count_of_blocks
 have nd:=sc_count_of_used.nd
 refine F.ok sc_count_of_used (fun vs H Q E h=>?_) (fun cdv A outer s H vs Q E hr h=>?_)
 ·obtain ⟨sz,rfl,_⟩:=h
  rfl
 obtain ⟨sz,rfl,q⟩:=h
 refine ⟨_,(pss_cons (ps_set (i:=1) nd rfl (by first|exact Or.inl rfl|exact Or.inr rfl) (zH Gcount_of_blocks (hr.mono (by decide)) rfl mcount_of_blocks kcount_of_blocks bcount_of_blocks .nil zw (zA (pv 0) zC)))
  (zG (zV (zKn (zf zLd (pv 1) (zK (v:=.int 4) rfl T.cNEAR_BLOCKS.choose_spec ⟨_,rfl⟩) (zu _)) (pv 1) (zO zm (pv 1) zM))))),?_⟩
 refine ⟨_,rfl,sz,rfl,?_⟩
 refine ⟨_,rfl,_,_,rfl,rfl,_,rfl,?_⟩
 by_cases h4:(((sz + 15) / 16:Nat):Int)≤4
 ·refine iteT' (decide_eq_true h4) ⟨_,rfl,?_⟩
  rw [show cuN sz=(sz + 15) / 16 by unfold cuN;rw [if_pos (by omega)]] at q
  exact q
 ·refine iteF' (decide_eq_false h4) ⟨_,rfl,_,_,rfl,rfl,?_⟩
  rw [show ((cuN sz:Nat):Int)=(((sz + 15) / 16:Nat):Int) + 1 by unfold cuN;rw [if_neg (by omega)];omega] at q
  exact q
theorem five (kind links z:Int) (L:List Int):[kind,links,z,(0:Int),0,0,0,0].take 3 ++ L.take 5 ++ [kind,links,z,(0:Int),0,0,0,0].drop (3 + (L.take 5).length)=[kind,links,z,L.getD 0 0,L.getD 1 0,L.getD 2 0,L.getD 3 0,L.getD 4 0]:=by
 match L with
 | []=>rfl
 | [_]=>rfl
 | [_,_]=>rfl
 | [_,_,_]=>rfl
 | [_,_,_,_]=>rfl
 | _ :: _ :: _ :: _ :: _ :: _=>rfl
def zC8 (L:List Int):List Int:=L.drop 5 ++ List.replicate (16 - (L.drop 5).length) 0
structure PutU (R:List (List Int)) (ks:List Int) (ρ:Int→List Int) (ks':List Int) (ρ':Int→List Int) (m:Int) (n:Nat) (sz:Int) (L:List Int):Prop where
 nd:∃ kind links:Int,(zb R ks ρ m n).take 2=[kind,links]∧zb R ks' ρ' m n=[kind,links,sz,L.getD 0 0,L.getD 1 0,L.getD 2 0,L.getD 3 0,L.getD 4 0]
 ot:∀ j:Nat,j≠n→(4 < L.length→(nAt m j:Int)≠L.getD 4 0)→zb R ks' ρ' m j=zb R ks ρ m j
 fr:4 < L.length→zAt R ks' ρ' (.int (L.getD 4 0))=some (zC8 L)
 off:∀ j:Int,j≠(nAt m n:Int)→(4 < L.length→j≠L.getD 4 0)→zAt R ks' ρ' (.int j)=zAt R ks ρ (.int j)
 kk:∀ x ∈ ks',x ∈ ks∨x=(nAt m n:Int)∨4 < L.length∧x=L.getD 4 0
inductive spPutUsed' (a:Ad) (vs:List V) (H:Hp) (Q:VK):Prop
 | mk:∀ (b d kr nr y up:Addr) (S:DS) (ks:List Int) (ρ:Int→List Int) (m t:Int) (n:Nat) (sz:Int) (L:List Int),(vs=[.ref b,.ref y,.int n,.int sz,.ref up])→(Mp a H b d kr nr y S ks ρ m t)→(1≤n)→((n:Int)≤2 * t - 1)→(0≤sz)→(sz≤320)→(H up=some (.lst (L.map V.int)))→(L.length≤21)→((∀ x ∈ L,zI m t≤x∧x < m))→(∀ ks' ρ' H',Chg [nr] H H'→Ofs nr H H'→Mp a H' b d kr nr y S ks' ρ' m t→PutU S.R ks ρ ks' ρ' m n sz L→Q .non H')→spPutUsed' a vs H Q
def zE9 (K:PySem.W.Frag) (a:Ad):Sp:=fun vs H Q _=>spPutUsed' a vs H Q
theorem zJm (F:Fun K "put_used" "put_used" zBz f fd) (T:Txt K mg a) (D_changed:Df P w K mg base CX0 1 "changed" ["row", "at", "words"] (zBr K a)) (D_put_node:Df P w K mg base (CXE P w) 6 "put_node" ["batch", "layout", "node", "words"] (zDt K a)) (D_node_of:Df P w K mg base (CXE P w) 5 "node_of" ["batch", "layout", "node"] (zB4 K a)) (M_Batch_write:Mf P w K mg base (CXE P w) 5 a.f_Batch_write ["self", "block", "row"] (zCs K a)) (D_empty_row:Df P w K mg base CX0 1 "empty_row" [] (spEmpty K a)):FnOk P w K mg base (CXE P w) 7 f fd ["batch", "layout", "node", "size", "used"] (zE9 K a):=by
 obtain ⟨_,_,Gchanged,bchanged,kchanged,mchanged⟩:=D_changed
 obtain ⟨_,_,Gput_node,bput_node,kput_node,mput_node⟩:=D_put_node
 obtain ⟨_,_,Gnode_of,bnode_of,knode_of,mnode_of⟩:=D_node_of
 obtain ⟨_,G_Batch_write,b_Batch_write⟩:=M_Batch_write
 obtain ⟨_,_,Gempty_row,bempty_row,kempty_row,mempty_row⟩:=D_empty_row
 have nd:=sc_put_used.nd
 refine F.okE sc_put_used (fun vs H Q E h=>?_) (fun cdv A outer s H vs Q E hr hA h=>?_)
 ·obtain ⟨b,d,kr,nr,y,up,S,ks,ρ,m,t,n,sz,L,rfl,_⟩:=h
  rfl
 obtain ⟨b,d,kr,nr,y,up,S,ks,ρ,m,t,n,sz,L,rfl,X,n1,n2,z0,z1,hup,hLl,hL,q⟩:=h
 refine ⟨_,(pss_cons (ps_set (i:=5) nd rfl (by first|exact Or.inl rfl|exact Or.inr rfl) (zH Gchanged (hr.mono (by decide)) rfl mchanged kchanged bchanged .nil zw (zA (zH Gnode_of (hr.mono (by decide)) rfl mnode_of knode_of bnode_of .nil (zE (fun _ _ _ h=>h)) (zA (pv 0) (zA (pv 1) (zA (pv 2) zC))) (hcm:=(.inr hA))) (zA (zK (v:=.int 2) rfl T.cSIZE_AT.choose_spec ⟨_,rfl⟩) (zA (zO zCn (zBb (zA (pv 3) zC)) (zO zEt (zBb (zA zM zC)) (zO zm (zK (v:=.int 4) rfl T.cNEAR_BLOCKS.choose_spec ⟨_,rfl⟩) zM))) zC)))))
  (pss_cons (zT (zH Gput_node (hr.mono (by decide)) rfl mput_node kput_node bput_node .nil (zE (fun _ _ _ h=>h)) (zA (pv 0) (zA (pv 1) (zA (pv 2) (zA (zH Gchanged (hr.mono (by decide)) rfl mchanged kchanged bchanged .nil zw (zA (pv 5) (zA (zK (v:=.int 3) rfl T.cPLACES_AT.choose_spec ⟨_,rfl⟩) (zA (zk (zi (K:=K) rfl) (pv 4) zBf (zh (zO zm (zK (v:=.int 4) rfl T.cNEAR_BLOCKS.choose_spec ⟨_,rfl⟩) zM))) zC)))) zC)))) (hcm:=(.inr hA))))
  (zG (zAp (zf zIe (zQ (zX (K:=K) rfl) rfl T.len zA0 (zA (pv 4) zC)) (zK (v:=.int 4) rfl T.cNEAR_BLOCKS.choose_spec ⟨_,rfl⟩) (zu _)) (zG (zT (zy (pv 0) T.clBatch T.m_Batch_write G_Batch_write (hr.mono (by decide)) b_Batch_write .nil (zE (fun _ _ _ h=>h)) (zA (zC7 (zAb (K:=K) rfl) (pv 4) (zK (v:=.int 4) rfl T.cNEAR_BLOCKS.choose_spec ⟨_,rfl⟩) (fun _ _=>rfl)) (zA (zH Gchanged (hr.mono (by decide)) rfl mchanged kchanged bchanged .nil zw (zA (zDx Gempty_row (hr.mono (by decide)) rfl mempty_row kempty_row bempty_row .nil zw) (zA zM (zA (zk (zi (K:=K) rfl) (pv 4) (zh (zO zm (zK (v:=.int 4) rfl T.cNEAR_BLOCKS.choose_spec ⟨_,rfl⟩) zM)) zBf) zC)))) zC)) (hcm:=(.inr hA))))) zU)))),?_⟩
 obtain ⟨n8,ng⟩:=X.nodeLen n2
 obtain ⟨kind,links,x2,x3,x4,x5,x6,x7,en⟩ : ∃ kind links x2 x3 x4 x5 x6 x7:Int,zb S.R ks ρ m n=[kind,links,x2,x3,x4,x5,x6,x7]:=by
  match zb S.R ks ρ m n,n8 with
  | [a0,a1,a2,a3,a4,a5,a6,a7],_=>exact ⟨a0,a1,a2,a3,a4,a5,a6,a7,rfl⟩
 obtain ⟨row,es,gr,_,hlt⟩:=X.node n2
 have hb:=zC1 X.good n2
 have hlm:=X.len
 have gg:=X.good
 have hd17:17≤zI m t∧m≤96:=by obtain ⟨g1,g2,g3,g4,g5⟩:=gg;unfold zI zP;omega
 refine ⟨_,rfl,_,rfl,_,rfl,b,d,kr,nr,y,S,ks,ρ,m,t,_,rfl,X,.int _,.inr ⟨n,rfl,n1,n2,fun p H1 np s1 hp=>?_⟩⟩
 rw [en] at hp
 refine ⟨_,rfl,(by show 1≤sizeLine;decide),fun l1 m1=>⟨(by show 1≤sizeLine;decide),fun l2 m2=>?_⟩⟩
 have u1:=zF m1 (.lst [.int sz])
 have v2:=zF m2 (.lst [.int 0])
 refine ⟨_,_,rfl,rfl,l2,5,[.int 0],rfl,rfl,zB,by decide,by decide,(by show 1 * 5≤sizeLine;decide),fun l3 m3=>?_⟩
 rw [show (5:Int).toNat=5 from rfl,zKz]
 have v3:=zF m3 (.lst ((List.replicate 5 (0:Int)).map V.int))
 have hl1:=(v2.trans v3) _ _ (zB (H:=H1) (a:=l1) (o:=.lst [.int sz]))
 refine ⟨l1,l3,_,_,rfl,rfl,hl1,zB,small (by simp),fun l4 m4=>?_⟩
 have el:[V.int sz] ++ (List.replicate 5 (0:Int)).map V.int=[sz,0,0,0,0,0].map V.int:=rfl
 rw [el]
 have v4:=zF m4 (.lst ([sz,0,0,0,0,0].map V.int))
 have hl4:=zB (H:=upd (upd (upd H1 l1 (.lst [.int sz])) l2 (.lst [.int 0])) l3 (.lst ((List.replicate 5 (0:Int)).map V.int))) (a:=l4) (o:=.lst ([sz,0,0,0,0,0].map V.int))
 have u4:=u1.trans (v2.trans (v3.trans v4))
 have hp4:=u4 _ _ hp
 generalize upd (upd (upd (upd H1 l1 (.lst [.int sz])) l2 (.lst [.int 0])) l3 (.lst ((List.replicate 5 (0:Int)).map V.int))) l4 (.lst ([sz,0,0,0,0,0].map V.int))=H4 at u4 hl4 hp4 ⊢
 refine ⟨p,l4,_,_,2,rfl,hp4,hl4,by simp,by simp,fun w1 H5 nw1 s5 hw1=>?_⟩
 have hw1':H5 w1=some (.lst ([kind,links,sz,0,0,0,0,0].map V.int)):=hw1
 have s45:=(s1.trans u4).trans s5
 have hup5:=s45 _ _ hup
 refine ⟨_,rfl,_,rfl,_,rfl,_,rfl,_,rfl,_,_,rfl,rfl,_,rfl,up,_,rfl,SqL.of hup5,fun u6 n6=>?_⟩
 rw [show zHx (L.map V.int) none (some (4 + 1:Int))=(L.take 5).map V.int by rw [show (4 + 1:Int)=((5:Nat):Int) from rfl,zD9,List.map_take]]
 have w6:=zF n6 (.lst ((L.take 5).map V.int))
 refine ⟨w1,u6,_,_,3,rfl,w6 _ _ hw1',zB,by simp,by rw [List.length_map,List.length_take];omega,fun w7 H7 nw7 s7 hw7=>?_⟩
 have e5:=five kind links sz L
 rw [← List.map_take,List.length_map,← List.map_drop,← List.map_append,← List.map_append,e5] at hw7
 have hg:∀ i,0≤L.getD i 0∧L.getD i 0≤999999999:=fun i=>by
  rw [List.getD_eq_getElem?_getD]
  cases e:L[i]? with
  | none=>exact ⟨Int.le_refl _,by decide⟩
  | some x =>
   have:=hL x (List.mem_of_getElem? e)
   show 0≤x∧x≤999999999
   omega
 have gw:zN6 [kind,links,sz,L.getD 0 0,L.getD 1 0,L.getD 2 0,L.getD 3 0,L.getD 4 0]:=by
  refine ⟨rfl,fun z hz=>?_⟩
  have hk:=ng kind (by rw [en];simp)
  have hl:=ng links (by rw [en];simp)
  simp only [List.mem_cons,List.not_mem_nil,or_false] at hz
  rcases hz with e | e | e | e | e | e | e | e
  ·rw [e];exact hk
  ·rw [e];exact hl
  ·rw [e];omega
  ·rw [e];exact hg 0
  ·rw [e];exact hg 1
  ·rw [e];exact hg 2
  ·rw [e];exact hg 3
  ·rw [e];exact hg 4
 have s57:=s45.trans (w6.trans s7)
 have X7:=X.same s57
 have few:=X.ks
 refine ⟨b,d,kr,nr,y,S,ks,ρ,m,t,_,_,true,rfl,X7,.int _,zE5 hw7 gw,by omega,.inr (.inr ⟨n,w7,_,rfl,n1,n2,rfl,hw7,gw,fun H8 c8 X8 of8=>?_⟩)⟩
 have hup8:H8 up=some (.lst (L.map V.int)):=c8 _ _ (s57 _ _ hup) (by
  obtain ⟨k7,e7⟩:=X7.bat.ho.at
  simp only [List.mem_singleton];exact ze (s57 _ _ hup) e7 (fun z=>by cases z))
 have cH8:Chg [nr] H H8:=(Chg.of s57).trans c8
 have ofH8:Ofs nr H H8:=(X.ofs s57).trans (zGm c8 X8.bat of8)
 have nw:∀ j,zb S.R (insK ks (nAt m n)) (setN S.R ks ρ m n [kind,links,sz,L.getD 0 0,L.getD 1 0,L.getD 2 0,L.getD 3 0,L.getD 4 0]) m j=if j=n then [kind,links,sz,L.getD 0 0,L.getD 1 0,L.getD 2 0,L.getD 3 0,L.getD 4 0] else zb S.R ks ρ m j:=fun j=>zIm (by rw [es];exact gr.1) rfl
 have so:∀ j:Int,j≠(nAt m n:Int)→zAt S.R (insK ks (nAt m n)) (setN S.R ks ρ m n [kind,links,sz,L.getD 0 0,L.getD 1 0,L.getD 2 0,L.getD 3 0,L.getD 4 0]) (.int j)=zAt S.R ks ρ (.int j):=fun j hj=>zC5 hj (by unfold setN;rw [if_neg hj])
 have kk8:∀ x ∈ insK ks (nAt m n),x ∈ ks∨x=(nAt m n:Int):=fun x hx=>insK_mem.mp hx
 generalize insK ks (nAt m n)=ks8 at X8 nw so kk8
 generalize setN S.R ks ρ m n [kind,links,sz,L.getD 0 0,L.getD 1 0,L.getD 2 0,L.getD 3 0,L.getD 4 0]=ρ8 at X8 nw so
 refine ⟨_,rfl,up,_,rfl,.inl (SqL.of hup8),_,_,rfl,rfl,_,rfl,?_⟩
 rw [List.length_map]
 by_cases h4:(4:Int) < (L.length:Int)
 ·refine iteT' (decide_eq_true h4) ?_
  have e4:L.getD 4 0=L[4]'(by omega):=by rw [List.getD_eq_getElem?_getD,List.getElem?_eq_getElem (by omega)];rfl
  have hat:atI (L.map V.int) 4=some (.int (L.getD 4 0)):=zC0 (j:=4) (by rw [List.getElem?_map,e4,List.getElem?_eq_getElem (by omega)];rfl)
  have h4m:=hL (L.getD 4 0) (by rw [e4];exact List.getElem_mem _)
  obtain ⟨bx8,hb8⟩:=X8.bat.ex
  refine ⟨_,rfl,b,bx8,_,rfl,hb8,rfl,_,rfl,up,_,4,_,rfl,rfl,SqL.of hup8,hat,rfl,fun e9 H9 ne9 s9 he9=>?_⟩
  have hup9:=s9 _ _ hup8
  refine ⟨_,rfl,_,_,rfl,rfl,_,rfl,up,_,rfl,SqL.of hup9,fun u10 n10=>?_⟩
  rw [show zHx (L.map V.int) (some (4 + 1:Int)) none=(L.drop 5).map V.int by rw [show (4 + 1:Int)=((5:Nat):Int) from rfl,zEa,List.map_drop]]
  have w10:=zF n10 (.lst ((L.drop 5).map V.int))
  refine ⟨e9,u10,_,_,0,rfl,w10 _ _ he9,zB,by simp,by rw [List.length_map,List.length_drop];omega,fun p11 H11 np11 s11 hp11=>?_⟩
  have efr:((List.replicate 16 (0:Int)).map V.int).take 0 ++ (L.drop 5).map V.int ++ ((List.replicate 16 (0:Int)).map V.int).drop (0 + ((L.drop 5).map V.int).length)=(zC8 L).map V.int:=by
   unfold zC8
   rw [List.take_zero,List.nil_append,List.length_map,Nat.zero_add,← List.map_drop,List.drop_replicate,List.map_append]
  rw [efr] at hp11
  have gs:zY (zC8 L):=by
   refine ⟨by unfold zC8;rw [List.length_append,List.length_replicate,List.length_drop];omega,fun z hz=>?_⟩
   unfold zC8 at hz
   rcases List.mem_append.mp hz with h | h
   ·have:=hL z (List.mem_of_mem_drop h);omega
   ·rw [List.eq_of_mem_replicate h];decide
  have sB:=s9.trans (w10.trans s11)
  have X11:=X8.same sB
  have few11:=X8.ks
  refine ⟨b,d,kr,nr,S,ks8,ρ8,_,_,true,rfl,X11.bat,X11.dk,.int _,zBe hp11 gs,by omega,.inr (.inr ⟨L.getD 4 0,p11,_,rfl,by omega,by omega,rfl,hp11,gs,fun H12 c12 B12 D12 of12=>?_⟩)⟩
  obtain ⟨k11,e11⟩:=X11.bat.ho.at
  have ll:=zDh (ks:=ks8) (k:=L.getD 4 0)
  have X12:Mp a H12 b d kr nr y S (insK ks8 (L.getD 4 0)) (fun j=>if j=L.getD 4 0 then zC8 L else ρ8 j) m t:=by
   refine ⟨B12,D12,X11.lay.chg c12 ?_,X.good,X.len,by omega⟩
   obtain ⟨yx,hy⟩:=X11.lay
   simp only [List.mem_singleton];exact ze hy e11 (fun z=>by cases z)
  have so12:∀ j:Int,j≠L.getD 4 0→zAt S.R (insK ks8 (L.getD 4 0)) (fun j=>if j=L.getD 4 0 then zC8 L else ρ8 j) (.int j)=zAt S.R ks8 ρ8 (.int j):=fun j hj=>zC5 hj (if_neg hj)
  have nn:(nAt m n:Int)≠L.getD 4 0:=by omega
  refine q _ _ H12 (cH8.trans ((Chg.of sB).trans c12)) (ofH8.trans ((X8.ofs sB).trans (zGm c12 B12 of12))) X12 ⟨⟨kind,links,by rw [en];rfl,?_⟩,fun j hj hf=>?_,fun _=>?_,fun j hj hf=>?_,fun x hx=>(insK_mem.mp hx).elim (fun q=>(kk8 x q).imp id .inl) fun q=>.inr (.inr ⟨by omega,q⟩)⟩
  ·have:=nw n
   rw [if_pos rfl] at this
   rw [← this]
   unfold zb
   rw [so12 _ nn]
  ·have:=nw j
   rw [if_neg hj] at this
   rw [← this]
   unfold zb
   rw [so12 _ (hf (by omega))]
  ·rw [zE1,if_pos rfl]
  ·rw [so12 j (hf (by omega)),so j hj]
 ·refine iteF' (decide_eq_false h4) ?_
  refine q _ _ H8 cH8 ofH8 X8 ⟨⟨kind,links,by rw [en];rfl,by rw [nw n,if_pos rfl]⟩,fun j hj _=>by rw [nw j,if_neg hj],fun z=>absurd z (by omega),fun j hj _=>so j hj,fun x hx=>(kk8 x hx).imp id .inl⟩
inductive spClear' (a:Ad) (vs:List V) (H:Hp) (Q:VK):Prop
 | mk:∀ (b d kr nr y bl:Addr) (S:DS) (ks:List Int) (ρ:Int→List Int) (m t:Int) (B:List Int) (g:Nat),(vs=[.ref b,.ref bl,.int g])→(Mp a H b d kr nr y S ks ρ m t)→(H bl=some (.lst (B.map V.int)))→(B.Nodup)→((∀ x ∈ B,17≤x∧x < m))→(B.length≤21)→(g≤320)→(∀ ks' ρ' H',Chg [nr] H H'→Ofs nr H H'→Mp a H' b d kr nr y S ks' ρ' m t→(∀ j:Int,j ∉ B→zAt S.R ks' ρ' (.int j)=zAt S.R ks ρ (.int j))→(∀ i,i < 16 * B.length→wAt S.R ks' ρ' B i=if i < g then wAt S.R ks ρ B i else 0)→(∀ x ∈ ks',x ∈ ks∨∃ j,g / 16≤j∧j < B.length∧x=B.getD j 0)→Q .non H')→spClear' a vs H Q
def zJg (K:PySem.W.Frag) (a:Ad):Sp:=fun vs H Q _=>spClear' a vs H Q
theorem zFj (F:Fun K "clear_behind" "clear_behind" zAm f fd) (T:Txt K mg a) (M_Batch_read:Mf P w K mg base (CXE P w) 4 a.f_Batch_read ["self", "block"] (zCb K a)) (M_Batch_write:Mf P w K mg base (CXE P w) 5 a.f_Batch_write ["self", "block", "row"] (zCs K a)) (D_changed:Df P w K mg base CX0 1 "changed" ["row", "at", "words"] (zBr K a)) (D_empty_row:Df P w K mg base CX0 1 "empty_row" [] (spEmpty K a)):FnOk P w K mg base (CXE P w) 6 f fd ["batch", "blocks", "first"] (zJg K a):=by
 obtain ⟨_,G_Batch_read,b_Batch_read⟩:=M_Batch_read
 obtain ⟨_,G_Batch_write,b_Batch_write⟩:=M_Batch_write
 obtain ⟨_,_,Gchanged,bchanged,kchanged,mchanged⟩:=D_changed
 obtain ⟨_,_,Gempty_row,bempty_row,kempty_row,mempty_row⟩:=D_empty_row
 have nd:=sc_clear_behind.nd
 refine F.okE sc_clear_behind (fun vs H Q E h=>?_) (fun cdv A outer s H vs Q E hr hA h=>?_)
 ·obtain ⟨b,d,kr,nr,y,bl,S,ks,ρ,m,t,B,g,rfl,_⟩:=h
  rfl
 obtain ⟨b,d,kr,nr,y,bl,S,ks,ρ,m,t,B,g,rfl,X,hbl,ndB,hB,hBl,hg,q⟩:=h
 refine ⟨_,(zG (zCk PassesOwn.leaving rfl (zFf rfl T.range (zA (zO zBg (pv 2) (zK (v:=.int 16) rfl T.cROW_WORDS.choose_spec ⟨_,rfl⟩)) (zA (zQ (zX (K:=K) rfl) rfl T.len zA0 (zA (pv 1) zC)) zC))) (zx (i:=3) nd rfl (by first|exact Or.inl rfl|exact Or.inr rfl)) (pss_cons (ps_set (i:=4) nd rfl (by first|exact Or.inl rfl|exact Or.inr rfl) (zQ (zIw hA) rfl T.max zPr (zA zM (zA (zO zAg (pv 2) (zO zFi (pv 3) (zK (v:=.int 16) rfl T.cROW_WORDS.choose_spec ⟨_,rfl⟩))) zC))))
  (pss_cons (ps_set (i:=5) nd rfl (by first|exact Or.inl rfl|exact Or.inr rfl) (zy (pv 0) T.clBatch T.m_Batch_read G_Batch_read (hr.mono (by decide)) b_Batch_read .nil (zE (fun _ _ _ h=>h)) (zA (zC7 (zAb (K:=K) rfl) (pv 1) (pv 3) (fun _ _=>rfl)) zC) (hcm:=(.inr hA))))
  (zG (zT (zy (pv 0) T.clBatch T.m_Batch_write G_Batch_write (hr.mono (by decide)) b_Batch_write .nil (zE (fun _ _ _ h=>h)) (zA (zC7 (zAb (K:=K) rfl) (pv 1) (pv 3) (fun _ _=>rfl)) (zA (zH Gchanged (hr.mono (by decide)) rfl mchanged kchanged bchanged .nil zw (zA (zDx Gempty_row (hr.mono (by decide)) rfl mempty_row kempty_row bempty_row .nil zw) (zA zM (zA (zk (zi (K:=K) rfl) (pv 5) zBf (zh (pv 4))) zC)))) zC)) (hcm:=(.inr hA))))))))),?_⟩
 have hB0:∀ x ∈ B,0≤x∧x < m:=fun x hx=>by have:=hB x hx;omega
 have hlm:=X.len
 obtain ⟨kvs,en⟩:=X.bat.ho.at
 refine ⟨_,rfl,_,_,rfl,rfl,⟨by decide,by decide⟩,_,rfl,bl,_,rfl,.inl (SqL.of hbl),_,_,rfl,⟨by omega,by omega,by rw [List.length_map];omega,by rw [List.length_map];omega⟩,?_⟩
 rw [List.length_map,show (((B.length:Int)) - (g:Int) / 16).toNat=B.length - g / 16 by omega]
 refine zD7 (lo:=(g:Int) / 16) (n:=B.length - g / 16) (fun i σ' H'=>∃ (ks':List Int) (ρ':Int→List Int) (o3 o4 o5:Option V),σ'=[some (.ref b),some (.ref bl),some (.int g),o3,o4,o5]∧Chg [nr] H H'∧Ofs nr H H'∧Mp a H' b d kr nr y S ks' ρ' m t∧(∀ j:Int,j ∉ B→zAt S.R ks' ρ' (.int j)=zAt S.R ks ρ (.int j))∧(∀ k,k < 16 * B.length→wAt S.R ks' ρ' B k=if k < g∨16 * (g / 16 + i)≤k then wAt S.R ks ρ B k else 0)∧∀ x ∈ ks',x ∈ ks∨∃ j,g / 16≤j∧j < B.length∧x=B.getD j 0)
  ⟨ks,ρ,_,_,_,rfl,Chg.of (Same.refl _),Ofs.refl,X,fun _ _=>rfl,fun k _=>by rw [if_pos (by omega)],fun x hx=>.inl hx⟩ ?_ ?_
 ·rintro i σ' H1 hi ⟨ks',ρ',o3,o4,o5,rfl,c1,of1,X1,hoff,hon,hkk⟩
  rw [show (g:Int) / 16 + (i:Int)=((g / 16 + i:Nat):Int) by omega]
  have hbl1:H1 bl=some (.lst (B.map V.int)):=c1 _ _ hbl (by simp only [List.mem_singleton];exact ze hbl en (fun z=>by cases z))
  obtain ⟨pl,epl⟩ : ∃ pl:Nat,g / 16 + i=pl:=⟨_,rfl⟩
  rw [epl]
  have hpl:pl < B.length:=by omega
  obtain ⟨row,eB,es,gr,hmem⟩:=X1.blk hB0 (i:=16 * pl) (by omega)
  rw [show 16 * pl / 16=pl by omega] at eB es hmem
  have hat:atI (B.map V.int) (pl:Int)=some (.int (B.getD pl 0)):=zC0 (by rw [List.getElem?_map,eB];rfl)
  have hBd:=hB _ hmem
  refine ⟨_,rfl,_,rfl,_,_,rfl,rfl,.inr ⟨by decide,by decide⟩,_,_,rfl,rfl,_,_,rfl,?_⟩
  try dsimp (config:={ proj:=false,iota:=false,eta:=false,zeta:=false }) only
  obtain ⟨kk,ekk⟩ : ∃ kk:Nat,g - 16 * pl=kk:=⟨_,rfl⟩
  rw [show (if (0:Int) < (g:Int) - (pl:Int) * 16 then (g:Int) - (pl:Int) * 16 else 0)=(kk:Int) by split <;> omega]
  have hk16:kk≤16:=by omega
  obtain ⟨bx1,hb1⟩:=X1.bat.ex
  refine ⟨_,rfl,b,bx1,_,rfl,hb1,rfl,_,rfl,_,rfl,bl,_,_,_,rfl,rfl,SqL.of hbl1,hat,b,d,kr,nr,S,ks',ρ',_,rfl,X1.bat,X1.dk,.int _,.inl ⟨row,es,fun p2 H2 np2 s2 hp2=>?_⟩⟩
  refine ⟨_,rfl,b,bx1,_,rfl,s2 _ _ hb1,rfl,_,rfl,_,rfl,bl,_,_,_,rfl,rfl,SqL.of (s2 _ _ hbl1),hat,rfl,fun e3 H3 ne3 s3 he3=>?_⟩
  refine ⟨_,rfl,_,rfl,_,rfl,p2,_,rfl,SqL.of (s3 _ _ hp2),fun u4 n4=>?_⟩
  rw [zD9,← List.map_take]
  have w4:=zF n4 (.lst ((row.take kk).map V.int))
  have lk:(row.take kk).length=kk:=by rw [List.length_take,gr.1];omega
  refine ⟨e3,u4,_,_,0,rfl,w4 _ _ he3,zB,by simp,by rw [List.length_map,lk];omega,fun p5 H5 np5 s5 hp5=>?_⟩
  have erow:((List.replicate 16 (0:Int)).map V.int).take 0 ++ (row.take kk).map V.int ++ ((List.replicate 16 (0:Int)).map V.int).drop (0 + ((row.take kk).map V.int).length)=(row.take kk ++ List.replicate (16 - kk) 0).map V.int:=by
   rw [List.take_zero,List.nil_append,List.length_map,lk,Nat.zero_add,← List.map_drop,List.drop_replicate,List.map_append]
  rw [erow] at hp5
  have gs:zY (row.take kk ++ List.replicate (16 - kk) 0):=by
   refine ⟨by rw [List.length_append,lk,List.length_replicate];omega,fun z hz=>?_⟩
   rcases List.mem_append.mp hz with h | h
   ·exact gr.2 z (List.mem_of_mem_take h)
   ·rw [List.eq_of_mem_replicate h];decide
  have hrow:∀ k,k < 16→(row.take kk ++ List.replicate (16 - kk) 0).getD k 0=if k < kk then row.getD k 0 else 0:=fun k hk=>by
   rw [List.getD_eq_getElem?_getD]
   by_cases h:k < kk
   ·rw [if_pos h,List.getElem?_append_left (by omega),List.getElem?_take,if_pos h,List.getD_eq_getElem?_getD]
   ·rw [if_neg h,List.getElem?_append_right (by omega),List.getElem?_replicate,if_pos (by omega)];rfl
  generalize row.take kk ++ List.replicate (16 - kk) 0=row' at hp5 gs hrow
  have sB:=s2.trans (s3.trans (w4.trans s5))
  have X5:=X1.same sB
  have few:=X1.ks
  refine ⟨b,d,kr,nr,S,ks',ρ',_,_,true,rfl,X5.bat,X5.dk,.int _,zBe hp5 gs,by omega,.inr (.inr ⟨B.getD pl 0,p5,row',rfl,hBd.1,by omega,rfl,hp5,gs,fun H6 c6 B6 D6 of6=>?_⟩)⟩
  have ll:=zDh (ks:=ks') (k:=B.getD pl 0)
  have X6:Mp a H6 b d kr nr y S (insK ks' (B.getD pl 0)) (fun j=>if j=B.getD pl 0 then row' else ρ' j) m t:=by
   obtain ⟨k5,e5⟩:=X5.bat.ho.at
   refine ⟨B6,D6,X5.lay.chg c6 ?_,X.good,X.len,by omega⟩
   obtain ⟨yx,hy⟩:=X5.lay
   simp only [List.mem_singleton];exact ze hy e5 (fun z=>by cases z)
  refine ⟨_,_,_,_,_,rfl,(c1.trans (Chg.of sB)).trans c6,(of1.trans (X1.ofs sB)).trans (zGm c6 B6 of6),X6,fun j hj=>?_,fun k hk=>?_,fun x hx=>(insK_mem.mp hx).elim (fun q=>hkk x q) fun q=>.inr ⟨pl,by omega,hpl,q⟩⟩
  ·have hne:j≠B.getD pl 0:=fun z=>hj (by rw [z];exact hmem)
   rw [zC5 hne (if_neg hne)]
   exact hoff j hj
  ·by_cases hbk:k / 16=pl
   ·have e1:wAt S.R (insK ks' (B.getD pl 0)) (fun j=>if j=B.getD pl 0 then row' else ρ' j) B k=row'.getD (k % 16) 0:=by
     unfold wAt
     rw [hbk,zE1,if_pos rfl];rfl
    have e2:wAt S.R ks' ρ' B k=row.getD (k % 16) 0:=by
     unfold wAt
     rw [hbk,es];rfl
    have e3:=hon k hk
    rw [e2,if_pos (by omega)] at e3
    rw [e1,hrow _ (by omega),e3]
    by_cases h:k % 16 < kk
    ·rw [if_pos h,if_pos (by omega)]
    ·rw [if_neg h,if_neg (by omega)]
   ·have hne:B.getD (k / 16) 0≠B.getD pl 0:=fun z=>hbk (by
     have h1':k / 16 < B.length:=by omega
     rw [List.getD_eq_getElem?_getD,List.getD_eq_getElem?_getD,List.getElem?_eq_getElem h1',List.getElem?_eq_getElem hpl] at z
     have z':B[k / 16]=B[pl]:=z
     rcases Nat.lt_trichotomy (k / 16) pl with q | q | q
     ·exact absurd z' ((List.pairwise_iff_getElem.mp ndB) _ _ h1' hpl q)
     ·exact q
     ·exact absurd z'.symm ((List.pairwise_iff_getElem.mp ndB) _ _ hpl h1' q))
    have e1:wAt S.R (insK ks' (B.getD pl 0)) (fun j=>if j=B.getD pl 0 then row' else ρ' j) B k=wAt S.R ks' ρ' B k:=by
     unfold wAt
     rw [zC5 hne (if_neg hne)]
    rw [e1,hon k hk]
    by_cases h:k < g∨16 * (g / 16 + i)≤k
    ·rw [if_pos h,if_pos (by omega)]
    ·rw [if_neg h,if_neg (by omega)]
 ·rintro σ' H1 ⟨ks',ρ',o3,o4,o5,rfl,c1,of1,X1,hoff,hon,hkk⟩
  refine q ks' ρ' H1 c1 of1 X1 hoff (fun i hi=>?_) hkk
  rw [hon i hi]
  by_cases h:i < g
  ·rw [if_pos h,if_pos (.inl h)]
  ·rw [if_neg h,if_neg (by omega)]
end
end K14
end
section
namespace K14
open PySem L2 BK
section
variable {P:Program}{w:World}{K:PySem.W.Frag}{mg:Str→Option Value}{base:Heap}{f:Addr}{fd:FuncData}{a:Ad}
def zAc (L:List Int):List Int:=if L.length≤4 then L else L.take 4 ++ L.drop 5
theorem zEr {L:List Int}(h:L.length≠5):(zAc L).length=if L.length≤4 then L.length else L.length - 1:=by
 unfold zAc
 split
 ·rfl
 ·rw [List.length_append,List.length_take,List.length_drop];omega
theorem zN2 {L:List Int}{x:Int}(h:x ∈ zAc L):x ∈ L:=by
 unfold zAc at h
 split at h
 ·exact h
 ·rcases List.mem_append.mp h with z | z
  ·exact List.mem_of_mem_take z
  ·exact List.mem_of_mem_drop z
theorem zN3 {L:List Int}{j:Nat}(hj:j < (zAc L).length):(zAc L).getD j 0=if j < 4 then L.getD j 0 else L.getD (j + 1) 0:=by
 unfold zAc at hj ⊢
 split at hj
 ·rename_i h
  rw [if_pos h,if_pos (by omega)]
 ·rename_i h
  rw [if_neg h,List.getD_eq_getElem?_getD]
  rw [List.length_append,List.length_take,List.length_drop] at hj
  by_cases h4:j < 4
  ·rw [if_pos h4,List.getElem?_append_left (by rw [List.length_take];omega),List.getElem?_take,if_pos h4,List.getD_eq_getElem?_getD]
  ·rw [if_neg h4,List.getElem?_append_right (by rw [List.length_take];omega),List.length_take,List.getElem?_drop,Nat.min_eq_left (by omega),show 5 + (j - 4)=j + 1 by omega,List.getD_eq_getElem?_getD]
theorem zPh (L:List Int):[L.getD 0 0,L.getD 1 0,L.getD 2 0,L.getD 3 0].take (zAc L).length=(zAc L).take 4:=by
 match L with
 | []=>rfl
 | [_]=>rfl
 | [_,_]=>rfl
 | [_,_,_]=>rfl
 | [_,_,_,_]=>rfl
 | x0 :: x1 :: x2 :: x3 :: x4 :: r =>
  have e:zAc (x0 :: x1 :: x2 :: x3 :: x4 :: r)=x0 :: x1 :: x2 :: x3 :: r:=by
   unfold zAc
   rw [if_neg (by simp)];rfl
  rw [e]
  show [x0,x1,x2,x3].take (r.length + 1 + 1 + 1 + 1)=[x0,x1,x2,x3]
  rw [List.take_of_length_le (by simp)]
theorem zNj {L:List Int}(nd:L.Nodup) {i j:Nat}(hi:i < L.length) (hj:j < L.length) (h:i≠j):L.getD i 0≠L.getD j 0:=by
 rw [List.getD_eq_getElem?_getD,List.getD_eq_getElem?_getD,List.getElem?_eq_getElem hi,List.getElem?_eq_getElem hj]
 show L[i]≠L[j]
 rcases Nat.lt_or_gt_of_ne h with q | q
 ·exact (List.pairwise_iff_getElem.mp nd) _ _ hi hj q
 ·exact Ne.symm ((List.pairwise_iff_getElem.mp nd) _ _ hj hi q)
theorem zHs {L:List Int}{i:Nat}(hi:i < L.length):L.getD i 0 ∈ L:=by
 rw [List.getD_eq_getElem?_getD,List.getElem?_eq_getElem hi];exact List.getElem_mem hi
theorem zSm {L:List Int}(nd:L.Nodup):(zAc L).Nodup:=by
 unfold zAc
 split
 ·exact nd
 ·have h:(L.take 4 ++ L.drop 5).Sublist L:=by
   have h1:L.take 4 ++ L.drop 4=L:=List.take_append_drop 4 L
   have h2:(L.drop 5).Sublist (L.drop 4):=by
    rw [show (5:Nat)=4 + 1 from rfl,← List.drop_drop]
    exact List.drop_sublist _ _
   conv=>rhs;rw [← h1]
   exact (List.Sublist.refl _).append h2
  exact nd.sublist h
theorem zNn {L:List Int}(nd:L.Nodup) (h4:4 < L.length):L.getD 4 0 ∉ zAc L:=fun z=>by
 obtain ⟨j,hj,e⟩:=List.mem_iff_getElem.mp z
 have e1:(zAc L).getD j 0=L.getD 4 0:=by rw [List.getD_eq_getElem?_getD,List.getElem?_eq_getElem hj];exact e
 rw [zN3 hj] at e1
 have hl:(zAc L).length≤L.length - 1:=by unfold zAc;rw [if_neg (by omega),List.length_append,List.length_take,List.length_drop];omega
 split at e1
 ·exact zNj nd (by omega) h4 (by omega) e1
 ·exact zNj nd (by omega) h4 (by omega) e1
structure Resz (R:List (List Int)) (ks:List Int) (ρ:Int→List Int) (ks':List Int) (ρ':Int→List Int) (m t:Int) (n sz k:Nat) (B:List Int) (g:Nat→Int) (L:List Int):Prop where
 sp:Span R ks' ρ' m t n k (zAc L) (L.getD 4 0)
 nd:∃ kind links:Int,(zb R ks ρ m n).take 2=[kind,links]∧zb R ks' ρ' m n=[kind,links,(k:Int),L.getD 0 0,L.getD 1 0,L.getD 2 0,L.getD 3 0,L.getD 4 0]
 fr:4 < L.length→zAt R ks' ρ' (.int (L.getD 4 0))=some (zC8 L)
 ot:∀ j:Nat,j≠n→(j:Int)≤2 * t - 1→zb R ks' ρ' m j=zb R ks ρ m j
 wd:∀ i,i < 16 * (zAc L).length→wAt R ks' ρ' (zAc L) i=if i < min sz k then wAt R ks ρ B i else 0
 off:∀ j:Int,zI m t≤j→j ∉ L→zAt R ks' ρ' (.int j)=zAt R ks ρ (.int j)
 mp:∀ i:Nat,((17 + i / 16:Nat):Int) < zP m→mw R ks' ρ' i=g i
 kk:∀ x ∈ ks',x ∈ ks∨(17≤x∧x < zP m)∨x=(nAt m n:Int)∨(4 < L.length∧x=L.getD 4 0)∨∃ j,min sz k / 16≤j∧j < (zAc L).length∧x=(zAc L).getD j 0
def asI (L:List Nat):List Int:=L.map fun i:Nat=>(i:Int)
theorem zQ8 (L:List Nat):(L.map fun i:Nat=>V.int (i:Int))=(asI L).map V.int:=by unfold asI;rw [List.map_map];rfl
inductive spSized' (a:Ad) (vs:List V) (H:Hp) (Q:VK) (E:XK):Prop
  | mk:∀ (b d kr nr y:Addr) (S:DS) (ks:List Int) (ρ:Int→List Int) (m t:Int) (n sz:Nat) (B:List Int) (fr size:Int) (U:List Nat),(vs=[.ref b,.ref y,.int n,.int size])→(Mp a H b d kr nr y S ks ρ m t)→(Span S.R ks ρ m t n sz B fr)→(usedL B fr=asI U)→(U.Nodup)→((∀ i ∈ U,zI m t≤(i:Int)∧(i:Int) < m∧mw S.R ks ρ i≠0))→((∀ i ∈ freeL S.R ks ρ m.toNat,zI m t≤(i:Int)))→(((size < 0∧E (.ref a.cOutOfPlace) none H)∨(320 < size∧E (.ref a.cTooLong) none H) ∨
   (∃ k:Nat,size=k∧k≤320∧U.length < cuN k∧(freeL S.R ks ρ m.toNat).length < cuN k - U.length∧∀ ks' ρ' H',Chg [nr] H H'→Mp a H' b d kr nr y S ks' ρ' m t→E (.ref a.cNoRoom) none H') ∨
   (∃ k:Nat,size=k∧k≤320∧(cuN k≤U.length∨cuN k - U.length≤(freeL S.R ks ρ m.toNat).length) ∧
     ∀ ks' ρ' H',Chg [nr] H H'→Ofs nr H H'→Mp a H' b d kr nr y S ks' ρ' m t→Resz S.R ks ρ ks' ρ' m t n sz k B (fun j=>if j ∈ U.drop (cuN k) then 0 else if j ∈ (freeL S.R ks ρ m.toNat).take (cuN k - U.length) then 1 else mw S.R ks ρ j) (asI (fitL U (freeL S.R ks ρ m.toNat) (cuN k)))→Q .non H')))→spSized' a vs H Q E
def zJc (K:PySem.W.Frag) (a:Ad):Sp:=fun vs H Q E=>spSized' a vs H Q E
theorem zSi {k:Nat}(h:k≤320):cuN k≤21∧cuN k≠5∧((k + 15) / 16=if cuN k≤4 then cuN k else cuN k - 1):=by
 unfold cuN
 split
 ·rename_i h4
  exact ⟨by omega,by omega,rfl⟩
 ·exact ⟨by omega,by omega,by rw [if_neg (by omega)];omega⟩
theorem zN9 {B:List Int}{fr:Int}{j:Nat}(hj:j < B.length):B.getD j 0=if j < 4 then (usedL B fr).getD j 0 else (usedL B fr).getD (j + 1) 0:=by
 unfold usedL
 by_cases h:B.length≤4
 ·rw [if_pos h,if_pos (by omega)]
 ·rw [if_neg h]
  by_cases h4:j < 4
  ·rw [if_pos h4,List.getD_eq_getElem?_getD,List.getD_eq_getElem?_getD,List.append_assoc,List.getElem?_append_left (by rw [List.length_take];omega),List.getElem?_take,if_pos h4]
  ·rw [if_neg h4,List.getD_eq_getElem?_getD,List.getD_eq_getElem?_getD,List.getElem?_append_right (by rw [List.length_append,List.length_take];simp;omega),List.length_append,List.length_take,List.getElem?_drop]
   congr 2
   simp
   omega
theorem zJ9 {B:List Int}{fr:Int}:(usedL B fr).length=if B.length≤4 then B.length else B.length + 1:=by
 unfold usedL
 split
 ·rfl
 ·rw [List.length_append,List.length_append,List.length_take,List.length_drop];simp;omega
theorem zOu (F:Fun K "sized" "sized" zEi f fd) (T:Txt K mg a) (D_fitted:Df P w K mg base (CXE P w) 8 "fitted" ["batch", "layout", "used", "count"] (zG6 K a)) (D_put_used:Df P w K mg base (CXE P w) 7 "put_used" ["batch", "layout", "node", "size", "used"] (zE9 K a)) (D_clear_behind:Df P w K mg base (CXE P w) 6 "clear_behind" ["batch", "blocks", "first"] (zJg K a)) (D_node_of:Df P w K mg base (CXE P w) 5 "node_of" ["batch", "layout", "node"] (zB4 K a)) (D_used_by:Df P w K mg base (CXE P w) 7 "used_by" ["batch", "layout", "node"] (zEx K a)) (D_count_of_used:Df P w K mg base CX0 2 "count_of_used" ["size"] (zG8 K a)) (D_blocks_of:Df P w K mg base (CXE P w) 6 "blocks_of" ["batch", "layout", "node"] (zBx K a)):FnOk P w K mg base (CXE P w) 9 f fd ["batch", "layout", "node", "size"] (zJc K a):=by
 obtain ⟨_,_,Gfitted,bfitted,kfitted,mfitted⟩:=D_fitted
 obtain ⟨_,_,Gput_used,bput_used,kput_used,mput_used⟩:=D_put_used
 obtain ⟨_,_,Gclear_behind,bclear_behind,kclear_behind,mclear_behind⟩:=D_clear_behind
 obtain ⟨_,_,Gnode_of,bnode_of,knode_of,mnode_of⟩:=D_node_of
 obtain ⟨_,_,Gused_by,bused_by,kused_by,mused_by⟩:=D_used_by
 obtain ⟨_,_,Gcount_of_used,bcount_of_used,kcount_of_used,mcount_of_used⟩:=D_count_of_used
 obtain ⟨_,_,Gblocks_of,bblocks_of,kblocks_of,mblocks_of⟩:=D_blocks_of
 have nd:=sc_sized.nd
 refine F.okE sc_sized (fun vs H Q E h=>?_) (fun cdv A outer s H vs Q E hr hA h=>?_)
 ·obtain ⟨b,d,kr,nr,y,S,ks,ρ,m,t,n,sz,B,fr,size,U,rfl,_⟩:=h
  rfl
 obtain ⟨b,d,kr,nr,y,S,ks,ρ,m,t,n,sz,B,fr,size,U,rfl,X,G,hU0,ndU,hU,hF,hq⟩:=h
 refine ⟨_,(pss_cons (zAp (zf zId (pv 3) zM (zu _)) (zG (za (zAl (fun _ _ _ h=>h)) rfl hA rfl T.mOutOfPlace T.xOutOfPlace (zA zAr zC))) zU)
  (pss_cons (zAp (zf zIe (pv 3) (zK (v:=.int 320) rfl T.cMOST_SIZE.choose_spec ⟨_,rfl⟩) (zu _)) (zG (za (zAl (fun _ _ _ h=>h)) rfl hA rfl T.mTooLong T.xTooLong (zA zAr zC))) zU)
  (pss_cons (ps_set (i:=4) nd rfl (by first|exact Or.inl rfl|exact Or.inr rfl) (zC7 (zAb (K:=K) rfl) (zH Gnode_of (hr.mono (by decide)) rfl mnode_of knode_of bnode_of .nil (zE (fun _ _ _ h=>h)) (zA (pv 0) (zA (pv 1) (zA (pv 2) zC))) (hcm:=(.inr hA))) (zK (v:=.int 2) rfl T.cSIZE_AT.choose_spec ⟨_,rfl⟩) (fun _ _=>rfl)))
  (pss_cons (ps_set (i:=5) nd rfl (by first|exact Or.inl rfl|exact Or.inr rfl) (zH Gfitted (hr.mono (by decide)) rfl mfitted kfitted bfitted .nil (zE (fun _ _ _ h=>h)) (zA (pv 0) (zA (pv 1) (zA (zH Gused_by (hr.mono (by decide)) rfl mused_by kused_by bused_by .nil (zE (fun _ _ _ h=>h)) (zA (pv 0) (zA (pv 1) (zA (pv 2) zC))) (hcm:=(.inr hA))) (zA (zH Gcount_of_used (hr.mono (by decide)) rfl mcount_of_used kcount_of_used bcount_of_used .nil zw (zA (pv 3) zC)) zC)))) (hcm:=(.inr hA))))
  (pss_cons (zT (zH Gput_used (hr.mono (by decide)) rfl mput_used kput_used bput_used .nil (zE (fun _ _ _ h=>h)) (zA (pv 0) (zA (pv 1) (zA (pv 2) (zA (pv 3) (zA (pv 5) zC))))) (hcm:=(.inr hA))))
  (zG (zT (zH Gclear_behind (hr.mono (by decide)) rfl mclear_behind kclear_behind bclear_behind .nil (zE (fun _ _ _ h=>h)) (zA (pv 0) (zA (zH Gblocks_of (hr.mono (by decide)) rfl mblocks_of kblocks_of bblocks_of .nil (zE (fun _ _ _ h=>h)) (zA (pv 0) (zA (pv 1) (zA (pv 2) zC))) (hcm:=(.inr hA))) (zA (zQ (zEb hA) rfl T.min zK2 (zA (pv 4) (zA (pv 3) zC))) zC))) (hcm:=(.inr hA)))))))))),?_⟩
 have hUl:U.length=(usedL B fr).length:=by rw [hU0];unfold asI;rw [List.length_map]
 have hBl:=G.len
 have hsz:=G.few
 rw [zJ9] at hUl
 refine ⟨_,rfl,_,_,rfl,rfl,_,rfl,?_⟩
 by_cases h0:size < 0
 ·refine iteT' (decide_eq_true h0) ⟨(by show 1≤1000;decide),?_⟩
  rcases hq with ⟨_,q⟩ | ⟨z,_⟩ | ⟨k,z,_⟩ | ⟨k,z,_⟩
  ·exact q
  ·omega
  ·omega
  ·omega
 refine iteF' (decide_eq_false h0) ⟨_,rfl,_,_,rfl,rfl,_,rfl,?_⟩
 by_cases h1:(320:Int) < size
 ·refine iteT' (decide_eq_true h1) ⟨(by show 1≤1000;decide),?_⟩
  rcases hq with ⟨z,_⟩ | ⟨_,q⟩ | ⟨k,z,_⟩ | ⟨k,z,_⟩
  ·omega
  ·exact q
  ·omega
  ·omega
 refine iteF' (decide_eq_false h1) ?_
 obtain ⟨k,rfl⟩ : ∃ k:Nat,size=(k:Int):=⟨size.toNat,by omega⟩
 have hk:k≤320:=by omega
 obtain ⟨cu1,cu5,cuk⟩:=zSi hk
 obtain ⟨kind,links,a1,a2,a3,a4,en,ht⟩:=G.ex
 have gg:=X.good
 have hd17:17≤zP m∧zP m < zI m t∧m≤96:=by obtain ⟨g1,g2,g3,g4,g5⟩:=gg;unfold zI zP;omega
 have hlm:=X.len
 refine ⟨_,rfl,_,rfl,_,rfl,b,d,kr,nr,y,S,ks,ρ,m,t,_,rfl,X,.int _,.inr ⟨n,rfl,G.n1,G.n2,fun p H1 np s1 hp=>?_⟩⟩
 rw [en] at hp
 refine ⟨p,_,2,_,rfl,rfl,SqL.of hp,rfl,?_⟩
 refine ⟨_,rfl,_,rfl,_,rfl,_,rfl,_,rfl,b,d,kr,nr,y,S,ks,ρ,m,t,n,sz,B,fr,rfl,X.same s1,G,fun up H2 nup s2 hup=>?_⟩
 rw [hU0,← zQ8] at hup
 have s12:=s1.trans s2
 refine ⟨_,rfl,k,rfl,b,d,kr,nr,y,up,S,ks,ρ,m,t,U,cuN k,rfl,X.same s12,hup,ndU,hU,by omega,by rw [hUl];split <;> omega,?_⟩
 generalize hFe:freeL S.R ks ρ m.toNat=F at *
 rcases hq with ⟨z,_⟩ | ⟨z,_⟩ | ⟨k',z,_,q1,q2,q⟩ | ⟨k',z,_,hor,q⟩
 ·omega
 ·omega
 ·have:k=k':=by omega
  subst this
  exact .inl ⟨q1,q2,fun ks' ρ' H' c' X'=>q ks' ρ' H' ((Chg.of s12).trans c') X'⟩
 have:k=k':=by omega
 subst this
 refine .inr ⟨hor,fun up2 ks1 ρ1 H3 nup2 c3 of3 X3 M3 hup2=>?_⟩
 rw [zQ8] at hup2
 have cH3:Chg [nr] H H3:=(Chg.of s12).trans c3
 have hFn:∀ i ∈ F,mw S.R ks ρ i=0∧(i:Int) < m:=fun i hi=>by
  rw [← hFe] at hi
  refine ⟨?_,by have:=zJx i hi;omega⟩
  unfold freeL at hi
  exact of_decide_eq_true (List.mem_filter.mp hi).2
 have hFnd:F.Nodup:=by
  rw [← hFe]
  exact (zJv (R:=S.R) (ks:=ks) (ρ:=ρ) (m:=m.toNat)).imp fun h=>Nat.ne_of_lt h
 have hLlen:(fitL U F (cuN k)).length=cuN k:=by
  unfold fitL
  rw [List.length_append,List.length_take,List.length_take]
  omega
 have hLnd:(fitL U F (cuN k)).Nodup:=by
  unfold fitL
  rw [List.nodup_append]
  refine ⟨ndU.sublist (List.take_sublist _ _),hFnd.sublist (List.take_sublist _ _),fun x hx y' hy' e=>?_⟩
  have h1:=(hU x (List.mem_of_mem_take hx)).2.2
  have h2:=(hFn y' (List.mem_of_mem_take hy')).1
  rw [e] at h1
  exact h1 h2
 have hLd:∀ i ∈ fitL U F (cuN k),zI m t≤(i:Int)∧(i:Int) < m:=fun i hi=>by
  unfold fitL at hi
  rcases List.mem_append.mp hi with z | z
  ·have:=hU i (List.mem_of_mem_take z);exact ⟨this.1,this.2.1⟩
  ·exact ⟨hF i (List.mem_of_mem_take z),(hFn i (List.mem_of_mem_take z)).2⟩
 have hLp:∀ j,j < U.length→j < cuN k→(asI (fitL U F (cuN k))).getD j 0=(asI U).getD j 0:=fun j h1 h2=>by
  unfold asI fitL
  rw [List.getD_eq_getElem?_getD,List.getD_eq_getElem?_getD,List.map_append,List.getElem?_append_left (by rw [List.length_map,List.length_take];omega),List.getElem?_map,List.getElem?_map,List.getElem?_take,if_pos h2]
 have hAlen:(asI (fitL U F (cuN k))).length=cuN k:=by unfold asI;rw [List.length_map];exact hLlen
 have hAnd:(asI (fitL U F (cuN k))).Nodup:=by
  unfold asI
  show List.Pairwise _ _
  rw [List.pairwise_map]
  exact hLnd.imp fun h e=>h (by omega)
 have hAd:∀ x ∈ asI (fitL U F (cuN k)),zI m t≤x∧x < m:=fun x hx=>by
  unfold asI at hx
  obtain ⟨i,hi,rfl⟩:=List.mem_map.mp hx
  exact hLd i hi
 generalize asI (fitL U F (cuN k))=L at hup2 hLp hAlen hAnd hAd q
 refine ⟨_,rfl,_,rfl,_,rfl,_,rfl,_,rfl,b,d,kr,nr,y,up2,S,ks1,ρ1,m,t,n,(k:Int),L,rfl,X3,G.n1,G.n2,by omega,by omega,hup2,by omega,hAd,fun ks2 ρ2 H4 c4 of4 X4 PU=>?_⟩
 have hb:=zC1 X.good G.n2
 have h4d:4 < L.length→zI m t≤L.getD 4 0∧L.getD 4 0 < m:=fun h=>hAd _ (zHs h)
 have hBlen:(zAc L).length=(k + 15) / 16:=by rw [zEr (by omega),cuk,hAlen]
 have nW1:∀ j,zb S.R ks1 ρ1 m j=zb S.R ks ρ m j:=fun j=>by
  unfold zb
  rw [M3.off (nAt m j:Int) (.inr (by unfold nAt;omega))]
 obtain ⟨kind',links',e2,en2⟩:=PU.nd
 have G4:Span S.R ks2 ρ2 m t n k (zAc L) (L.getD 4 0):=by
  refine ⟨G.n1,G.n2,⟨_,_,_,_,_,_,en2,zPh L⟩,hBlen,hk,fun h=>?_⟩
  have h5:4 < L.length:=by rw [zEr (by omega)] at h;split at h <;> omega
  refine ⟨_,PU.fr h5,?_⟩
  have hl5:(L.drop 5).length=(zAc L).length - 4:=by rw [List.length_drop,zEr (by omega),if_neg (by omega)];omega
  unfold zC8
  rw [List.take_append_of_le_length (by omega),← hl5,List.take_length]
  unfold zAc
  have e0:(L.take 4).drop 4=[]:=List.drop_eq_nil_of_le (by rw [List.length_take];omega)
  rw [if_neg (by omega),List.drop_append_of_le_length (by rw [List.length_take];omega),e0,List.nil_append]
 refine ⟨_,rfl,_,rfl,_,rfl,_,rfl,b,d,kr,nr,y,S,ks2,ρ2,m,t,n,k,zAc L,L.getD 4 0,rfl,X4,G4,fun bl H5 nbl s5 hbl=>?_⟩
 refine ⟨_,rfl,_,rfl,_,_,rfl,?_⟩
 rw [show (if (k:Int) < (sz:Int) then (k:Int) else (sz:Int))=((min sz k:Nat):Int) by split <;> omega]
 have hBd:∀ x ∈ zAc L,zI m t≤x∧x < m:=fun x hx=>hAd x (zN2 hx)
 refine ⟨b,d,kr,nr,y,bl,S,ks2,ρ2,m,t,zAc L,min sz k,rfl,X4.same s5,hbl,zSm hAnd,fun x hx=>(by have:=hBd x hx;omega),by omega,by omega,fun ks3 ρ3 H6 c6 of6 X6 hoff hon hkk=>?_⟩
 have lowB:∀ {j:Int},j < zI m t→j ∉ zAc L:=fun hj z=>by have:=hBd _ z;omega
 have nW3:∀ j:Nat,(j:Int)≤2 * t - 1→zb S.R ks3 ρ3 m j=zb S.R ks2 ρ2 m j:=fun j hj=>by
  have:=zC1 X.good hj
  unfold zb
  rw [hoff _ (lowB (by omega))]
 have fr3:4 < L.length→zAt S.R ks3 ρ3 (.int (L.getD 4 0))=some (zC8 L):=fun h=>by
  rw [hoff _ (zNn hAnd h)];exact PU.fr h
 refine q ks3 ρ3 H6 (cH3.trans (c4.trans ((Chg.of s5).trans c6))) ((X.ofs s12).trans (of3.trans (of4.trans ((X4.ofs s5).trans of6)))) X6 ⟨⟨G.n1,G.n2,?_,hBlen,hk,fun h=>?_⟩,?_,fr3,fun j hj hj2=>?_,fun i hi=>?_,fun j hj hjL=>?_,fun i hi=>?_,fun x hx=>?_⟩
 ·obtain ⟨q1,q2,q3,q4,q5,q6,z1,z2⟩:=G4.ex
  exact ⟨q1,q2,q3,q4,q5,q6,by rw [nW3 n G.n2];exact z1,z2⟩
 ·obtain ⟨row,z1,z2⟩:=G4.far h
  have h5:4 < L.length:=by rw [zEr (by omega)] at h;split at h <;> omega
  exact ⟨row,by rw [fr3 h5,← PU.fr h5];exact z1,z2⟩
 ·exact ⟨kind',links',by rw [← nW1 n];exact e2,by rw [nW3 n G.n2];exact en2⟩
 ·have hj3:=zC1 X.good hj2
  rw [nW3 j hj2,PU.ot j hj fun h=>by have:=h4d h;omega,nW1 j]
 ·rw [hon i hi]
  by_cases hlt:i < min sz k
  ·rw [if_pos hlt,if_pos hlt]
   have hjB:i / 16 < B.length:=by omega
   have hjL:i / 16 < (zAc L).length:=by omega
   have hBL:(zAc L).length≤L.length∧(4 < (zAc L).length→(zAc L).length + 1≤L.length):=by rw [zEr (by omega)];split <;> omega
   have hUB:B.length≤U.length∧(4 < B.length→B.length + 1≤U.length):=by rw [hUl];split <;> omega
   have eb:(zAc L).getD (i / 16) 0=B.getD (i / 16) 0:=by
    rw [zN3 hjL,zN9 (fr:=fr) hjB,hU0]
    split
    ·exact hLp _ (by omega) (by omega)
    ·exact hLp _ (by omega) (by omega)
   have hmem:(zAc L).getD (i / 16) 0 ∈ zAc L:=zHs hjL
   have hd':=hBd _ hmem
   unfold wAt
   rw [eb] at hmem hd' ⊢
   rw [PU.off _ (by omega) (fun h z=>zNn hAnd h (by rw [← z];exact hmem)),M3.off _ (.inr (by omega))]
  ·rw [if_neg hlt,if_neg hlt]
 ·rw [hoff j fun z=>hjL (zN2 z),PU.off j (by omega) (fun h z=>hjL (by rw [z];exact zHs h)),M3.off j (.inr (by omega))]
 ·rw [← M3.wd i]
  unfold mw
  rw [hoff _ (lowB (by omega)),PU.off _ (by omega) (fun h z=>by have:=h4d h;omega)]
 ·rcases hkk x hx with q | q
  ·rcases PU.kk x q with q | q | q
   ·rcases M3.kk x q with q | q
    ·exact .inl q
    ·exact .inr (.inl q)
   ·exact .inr (.inr (.inl q))
   ·exact .inr (.inr (.inr (.inl q)))
  ·exact .inr (.inr (.inr (.inr q)))
end
end K14
end
section
namespace K14
open PySem L2 BK
section
variable {P:Program}{w:World}{K:PySem.W.Frag}{mg:Str→Option Value}{base:Heap}{f:Addr}{fd:FuncData}{a:Ad}
def cell (ns:List Int) (k:Int):Int:=ns.getD k.toNat 0
inductive spCell' (K:PySem.W.Frag) (vs:List V) (H:Hp) (Q:VK):Prop
 | mk:∀ (p:Addr) (ns:List Int) (k:Int),(vs=[.ref p,.int k])→(SqL K H p (ns.map V.int))→(0≤k)→(Q (.int (cell ns k)) H)→spCell' K vs H Q
def zMf (K:PySem.W.Frag) (_:Ad):Sp:=fun vs H Q _=>spCell' K vs H Q
theorem zFk (F:Fun K "_law_cell_at" "_law_cell_at" zAn f fd) (T:Txt K mg a)  : FnOk P w K mg base CX0 1 f fd ["_law_script", "_law_k"] (zMf K a):=by
 have nd:=sc__law_cell_at.nd
 refine F.ok sc__law_cell_at (fun vs H Q E h=>?_) (fun cdv A outer s H vs Q E hr h=>?_)
 ·obtain ⟨p,ns,k,rfl,_⟩:=h
  rfl
 obtain ⟨p,ns,k,rfl,hS,h0,q⟩:=h
 refine ⟨_,(pss_cons (zAp (zf zId (pv 1) (zQ (zX (K:=K) rfl) rfl T.len zA0 (zA (pv 0) zC)) (zu _)) (zG (zV (zC7 (zAb (K:=K) rfl) (pv 0) (pv 1) (fun _ _=>rfl)))) zU)
  (zG (zV zM))),?_⟩
 refine ⟨_,rfl,_,rfl,p,_,rfl,.inl hS,_,_,rfl,rfl,_,rfl,?_⟩
 refine zSt (fun c=>?_) (fun c=>?_)
 ·have c':k < (((ns.map V.int).length:Nat):Int):=of_decide_eq_true c
  rw [List.length_map] at c'
  have hk:k.toNat < ns.length:=by omega
  have e:atI (ns.map V.int) ((k.toNat:Nat):Int)=some (.int ns[k.toNat]):=zC0 (by rw [List.getElem?_map,List.getElem?_eq_getElem hk];rfl)
  rw [show ((k.toNat:Nat):Int)=k by omega] at e
  refine ⟨_,rfl,_,rfl,p,_,k,_,rfl,rfl,hS,e,?_⟩
  rw [show ns[k.toNat]=cell ns k by unfold cell;rw [List.getD_eq_getElem?_getD,List.getElem?_eq_getElem hk];rfl]
  exact q
 ·have c':¬ k < (((ns.map V.int).length:Nat):Int):=of_decide_eq_false (Bool.eq_false_iff.mpr c)
  rw [List.length_map] at c'
  rw [show cell ns k=0 by unfold cell;rw [List.getD_eq_getElem?_getD,List.getElem?_eq_none (by omega)];rfl] at q
  exact q
def drawnL (c:Int) (k:Nat):List Int:=(List.range k).map fun i:Nat=>1 + (c / ((i:Int) + 1) + 7919 * (i:Int)) * 48271 % ((10:Int) ^ (9:Int).toNat - 1)
theorem zLs {c:Int}{k:Nat}:∀ x ∈ drawnL c k,0≤x∧x≤999999999:=fun x hx=>by
 unfold drawnL at hx
 obtain ⟨i,_,rfl⟩:=List.mem_map.mp hx
 have e9:(10:Int) ^ (9:Int).toNat - 1=999999999:=by decide
 rw [e9]
 have h1:=Int.emod_nonneg ((c / ((i:Int) + 1) + 7919 * (i:Int)) * 48271) (show (999999999:Int)≠0 by decide)
 have h2:=Int.emod_lt_of_pos ((c / ((i:Int) + 1) + 7919 * (i:Int)) * 48271) (show (0:Int) < 999999999 by decide)
 omega
theorem zNr {c:Int}{k:Nat}:(drawnL c k).length=k:=by unfold drawnL;simp
inductive spDrawn' (vs:List V) (H:Hp) (Q:VK):Prop
 | mk:∀ (c:Int) (k:Nat),(vs=[.int c,.int k])→(k≤900)→(∀ p H',H p=none→Same H H'→H' p=some (.lst ((drawnL c k).map V.int))→Q (.ref p) H')→spDrawn' vs H Q
def zJf (_:PySem.W.Frag) (_:Ad):Sp:=fun vs H Q _=>spDrawn' vs H Q
theorem zHk (F:Fun K "_law_drawn" "_law_drawn" zA5 f fd) (T:Txt K mg a)  : FnOk P w K mg base CX0 1 f fd ["_law_cell", "_law_many"] (zJf K a):=by
 have nd:=sc__law_drawn.nd
 refine F.ok sc__law_drawn (fun vs H Q E h=>?_) (fun cdv A outer s H vs Q E hr h=>?_)
 ·obtain ⟨c,k,rfl,_⟩:=h
  rfl
 obtain ⟨c,k,rfl,hk,q⟩:=h
 refine ⟨_,(zG (zV (zJk (cl:=[("_law_cell", s.heap.objs.size + 1)]) (fj:=[("_law_cell", 0)]) (by exact LcOk.of ["_law_cell"] rfl (by decide +kernel) rfl (by decide +kernel) rfl (fun p h=>(by rw [List.mem_singleton.mp h];rfl)) rfl (by decide +kernel) (fun p h=>(by rw [List.mem_singleton.mp h];exact ⟨rfl,rfl,.inl rfl⟩)) (by decide +kernel)) rfl (zDw rfl T.range (zA (pv 1) zC)) (fun _ _ _=>zGj) (fun _ _ _=>(zO zm zM (zO zB7 (zO zFi (zO zm (zO zBg (pv 1) (zO zm (pv 0) zM)) (zO zFi zM (pv 0))) zM) (zO zAg (zO zR2 zM zM) zM))))))),?_⟩
 refine ⟨_,rfl,_,rfl,by omega,by omega,?_⟩
 rw [show (k:Int).toNat=k by omega]
 refine zQs (n:=k) (by omega) (fun i:Nat=>1 + (c / ((i:Int) + 1) + 7919 * (i:Int)) * 48271 % ((10:Int) ^ (9:Int).toNat - 1)) (fun i H2 Qf hi s2 k'=>?_) fun acc H2 na s2 hacc=>q acc H2 na s2 hacc
 have hk':=k' H2 (Same.refl _)
 refine ⟨_,rfl,_,rfl,_,_,rfl,rfl,_,_,rfl,rfl,⟨by show (0:Int) < 0 + (i:Int) + 1;omega,by show (0:Int) + (i:Int) + 1 < _;omega⟩,_,rfl,_,_,rfl,rfl,.inl ⟨by decide,by decide⟩,_,_,rfl,rfl,_,_,rfl,rfl,.inr ⟨by decide,by decide⟩,_,_,rfl,rfl,⟨by decide,by decide,by decide⟩,_,_,rfl,rfl,_,_,rfl,rfl,(by show (0:Int) < 10 ^ (9:Int).toNat - 1;decide),_,_,rfl,rfl,?_⟩
 try dsimp (config:={ proj:=false,iota:=false,eta:=false,zeta:=false }) only
 rw [Int.zero_add]
 exact hk'
inductive spWants' (vs:List V) (H:Hp) (Q:VK):Prop
 | mk:∀ (k:Nat),(vs=[.int k])→(Q (.int (cuN k)) H)→spWants' vs H Q
def zJa (_:PySem.W.Frag) (_:Ad):Sp:=fun vs H Q _=>spWants' vs H Q
theorem zHi (F:Fun K "_law_wants" "_law_wants" zA3 f fd) (T:Txt K mg a)  : FnOk P w K mg base CX0 1 f fd ["_law_size"] (zJa K a):=by
 have nd:=sc__law_wants.nd
 refine F.ok sc__law_wants (fun vs H Q E h=>?_) (fun cdv A outer s H vs Q E hr h=>?_)
 ·obtain ⟨k,rfl,_⟩:=h
  rfl
 obtain ⟨k,rfl,q⟩:=h
 refine ⟨_,(pss_cons (ps_set (i:=1) nd rfl (by first|exact Or.inl rfl|exact Or.inr rfl) (zO zBg (zO zm (pv 0) zM) zM))
  (zG (zV (zO zm (pv 1) (zCm zN0 rfl T.int zPs (zA (zHg zIe (pv 1) zM (zu _)) zC)))))),?_⟩
 refine ⟨_,rfl,_,_,rfl,rfl,_,_,rfl,rfl,⟨by decide,by decide⟩,?_⟩
 refine ⟨_,rfl,_,rfl,_,_,rfl,rfl,.inr ⟨_,rfl,_,_,rfl,rfl,?_⟩⟩
 have e:((cuN k:Nat):Int)=((k:Int) + 15) / 16 + (if decide ((4:Int) < ((k:Int) + 15) / 16)=true then (1:Int) else 0):=by
  unfold cuN
  by_cases h:(k + 15) / 16≤4
  ·rw [if_pos h,decide_eq_false (by omega)];simp
  ·rw [if_neg h,decide_eq_true (by omega),if_pos rfl];omega
 rw [e] at q
 exact q
structure Kpt where
 n:Nat
 kind:Int
 ws:List Int
 wl:Addr
def zAi (es:List Kpt):List (Key × V):=es.map fun e=>(Sum.inl (e.n:Int),V.ref e.wl)
structure KpAt (H:Hp) (kd:Addr) (es:List Kpt):Prop where
 d:H kd=some (.dK (zAi es))
 nd:(es.map (·.n)).Nodup
 at':∀ e ∈ es,H e.wl=some (.lst (e.ws.map V.int))∧e.ws.length≤320
def zGy (es:List Kpt):Int:=(es.map fun e=>((cuN e.ws.length:Nat):Int)).sum
theorem zG0:∀ {es:List Kpt}{e:Kpt},(es.map (·.n)).Nodup→e ∈ es→valV (zAi es) (Sum.inl (e.n:Int))=some (V.ref e.wl)
 | [],e,_,h=>by cases h
 | x :: es,e,nd,h=>by
  rw [List.map_cons,List.nodup_cons] at nd
  show valV ((Sum.inl (x.n:Int),V.ref x.wl) :: zAi es) _=_
  rcases List.mem_cons.mp h with rfl | h
  ·exact zA1 rfl
  ·have ne:¬ x.n=e.n:=fun z=>nd.1 (by rw [z];exact List.mem_map_of_mem h)
   rw [zA2 (fun z=>ne (by injection z with z;omega))]
   exact zG0 nd.2 h
theorem zK0:∀ {es:List Kpt}{e:Kpt},(es.map (·.n)).Nodup→e ∈ es→(es.find? fun x=>decide ((x.n:Int)=(e.n:Int)))=some e
 | [],e,_,h=>by cases h
 | x :: es,e,nd,h=>by
  rw [List.map_cons,List.nodup_cons] at nd
  rcases List.mem_cons.mp h with rfl | h
  ·simp
  ·have ne:¬ (x.n:Int)=e.n:=fun z=>nd.1 (by rw [show x.n=e.n by omega];exact List.mem_map_of_mem h)
   rw [List.find?_cons_of_neg (by simpa using fun z=>ne (by omega))]
   exact zK0 nd.2 h
def wOf (es:List Kpt) (i:Int):Int:=match es.find? (fun x=>decide ((x.n:Int)=i)) with
 | some e=>((cuN e.ws.length:Nat):Int)
 | none=>0
def kf (es:List Kpt):V→V
 | .int i=>.int (wOf es i)
 | v=>v
theorem zLz {es:List Kpt}{e:Kpt}(nd:(es.map (·.n)).Nodup) (h:e ∈ es):wOf es e.n=((cuN e.ws.length:Nat):Int):=by unfold wOf;rw [zK0 nd h]
theorem KpAt.get {H:Hp}{kd:Addr}{es:List Kpt}{e:Kpt}(h:KpAt H kd es) (he:e ∈ es):DGet H kd (.int (e.n:Int)) (some (.ref e.wl)):=.inl ⟨_,Sum.inl (e.n:Int),.inl h.d,rfl,(zG0 h.nd he).symm⟩
theorem KpAt.chg {T:List Addr}{H H':Hp}{kd:Addr}{es:List Kpt}(h:KpAt H kd es) (c:Chg T H H') (hk:kd ∉ T) (ht:∀ e ∈ es,e.wl ∉ T):KpAt H' kd es :=
 ⟨c _ _ h.d hk,h.nd,fun e he=>⟨c _ _ (h.at' e he).1 (ht e he),(h.at' e he).2⟩⟩
theorem KpAt.same {H H':Hp}{kd:Addr}{es:List Kpt}(h:KpAt H kd es) (s:Same H H'):KpAt H' kd es:=h.chg (T:=[]) (Chg.of s) (by simp) fun _ _=>by simp
def zCw (es:List Kpt) (e':Kpt):List Kpt:=es.map fun x=>if x.n=e'.n then e' else x
theorem zP7 {es:List Kpt}{e e':Kpt}(h:e ∈ es) (en:e'.n=e.n):zFx (zAi es) (Sum.inl (e.n:Int)) (V.ref e'.wl)=zAi (zCw es e'):=by
 have any:((zAi es).any fun kv=>decide (kv.1=Sum.inl (e.n:Int)))=true:=List.any_eq_true.mpr ⟨(Sum.inl (e.n:Int),V.ref e.wl),List.mem_map.mpr ⟨e,h,rfl⟩,decide_eq_true rfl⟩
 unfold zFx
 rw [if_pos any]
 unfold zAi zCw
 rw [List.map_map,List.map_map]
 refine List.map_congr_left fun x _=>?_
 show (if (Sum.inl (x.n:Int):Key)=Sum.inl (e.n:Int) then _ else _)=(Sum.inl (((if x.n=e'.n then e' else x).n:Nat):Int),V.ref (if x.n=e'.n then e' else x).wl)
 by_cases c:x.n=e'.n
 ·rw [if_pos (by rw [c,en]),if_pos c];show ((Sum.inl (x.n:Int):Key),_)=_;rw [c]
 ·rw [if_neg (fun z=>c (by injection z with z;omega)),if_neg c]
theorem zMo {es:List Kpt}{e':Kpt}:(zCw es e').map (·.n)=es.map (·.n):=by
 unfold zCw
 rw [List.map_map]
 refine List.map_congr_left fun x _=>?_
 show (if x.n=e'.n then e' else x).n=x.n
 split
 ·rename_i h;exact h.symm
 ·rfl
theorem put1_mem {es:List Kpt}{e' x:Kpt}(h:x ∈ zCw es e'):x=e'∨x ∈ es:=by
 unfold zCw at h
 obtain ⟨y,hy,rfl⟩:=List.mem_map.mp h
 by_cases c:y.n=e'.n
 ·rw [if_pos c];exact .inl rfl
 ·rw [if_neg c];exact .inr hy
end
end K14
end
section
namespace K14
open PySem L2 BK
section
variable {P:Program}{w:World}{K:PySem.W.Frag}{mg:Str→Option Value}{base:Heap}{f:Addr}{fd:FuncData}{a:Ad}
theorem zRd {m t:Int}(g:zFw m t):m≤16 * (mapsN m:Int)∧(mapsN m:Int)=zP m - 17∧0≤zI m t∧zP m < zI m t:=by
 obtain ⟨g1,g2,g3,g4,g5⟩:=g
 unfold mapsN zI zP
 omega
structure Beg (R:List (List Int)) (m t:Int):Prop where
 len:(R.length:Int)=m
 maps:∀ j,j < mapsN m→R[17 + j]? = some (zB8 m t j)
 zs:∀ j:Nat,zP m≤(j:Int)→(j:Int) < zI m t→R[j]? = some (List.replicate 16 0)
theorem zFs {i:Nat}:∀ (W:List (Nat × List Int)),(∀ x ∈ W,x.1≠i)→∀ R:List (List Int),(W.foldl (fun R x=>R.set x.1 x.2) R)[i]? = R[i]?
 | [],_,_=>rfl
 | x :: W,h,R=>by
  rw [List.foldl_cons,zFs W (fun y hy=>h y (by simp [hy])),List.getElem?_set_ne (h x (by simp))]
theorem zGs {ρ:Int→List Int}{i:Nat}:∀ (ns:List Int),ns.Pairwise (· < ·)→(∀ k ∈ ns,0≤k)→∀ R:List (List Int),i < R.length→((zn ns ρ).foldl (fun R x=>R.set x.1 x.2) R)[i]? = if (i:Int) ∈ ns then some (ρ i) else R[i]?
 | [],_,_,R,_=>by simp [zn]
 | k :: ns,hp,h0,R,hi=>by
  obtain ⟨p1,p2⟩:=List.pairwise_cons.mp hp
  have hk:=h0 k (by simp)
  show ((zn ns ρ).foldl (fun R x=>R.set x.1 x.2) (R.set k.toNat (ρ k)))[i]? = _
  rw [zGs ns p2 (fun j hj=>h0 j (by simp [hj])) _ (by rw [List.length_set];exact hi)]
  by_cases e:(i:Int)=k
  ·have e':k.toNat=i:=by omega
   rw [if_neg (fun z=>by have:=p1 _ z;omega),if_pos (by simp [e]),e',List.getElem?_set_self hi,e]
  ·have e':k.toNat≠i:=by omega
   rw [List.getElem?_set_ne e']
   by_cases hm:(i:Int) ∈ ns
   ·rw [if_pos hm,if_pos (by simp [hm])]
   ·rw [if_neg hm,if_neg (by simp [hm,e])]
def zN4 (R:List (List Int)) (ns:List Int) (ρ:Int→List Int):List (List Int):=(allOf (zn ns ρ)).foldl (fun R x=>R.set x.1 x.2) R
section
variable {R:List (List Int)}{ns:List Int}{ρ:Int→List Int}
theorem zQn {G:List (Nat × List Int)}(hl:G.length≤15):∀ x ∈ zDn G,1≤x.1∧x.1 < 17:=fun x hx=>by
 unfold zDn at hx
 rcases List.mem_append.mp hx with z | z
 ·unfold zA9 at z
  obtain ⟨j,hj,rfl⟩:=List.mem_map.mp z
  rw [List.mem_range] at hj
  exact ⟨by show 1≤2 + j;omega,by show 2 + j < 17;omega⟩
 ·rw [List.mem_singleton.mp z];exact ⟨Nat.le_refl 1,by show 1 < 17;decide⟩
theorem zPk (hl:ns.length≤15) (pw:ns.Pairwise (· < ·)) (h0:∀ k ∈ ns,0≤k) {i:Nat}(hi:i < R.length) (h17:17≤i):(zN4 R ns ρ)[i]? = some (if (i:Int) ∈ ns then ρ i else R[i]):=by
 have lb:(zn ns ρ).length≤15:=by unfold zn;simpa using hl
 unfold zN4 allOf
 split
 ·rename_i e
  have:ns=[]:=by unfold zn at e;simpa using e
  subst this
  simp [List.getElem?_eq_getElem hi]
 ·rw [List.foldl_append,List.foldl_append,zFs [(1,zDp)] (fun x hx=>by rw [List.mem_singleton.mp hx];show 1≠i;omega),zGs ns pw h0 _ (by rw [zNk];exact hi),zFs _ (fun x hx=>by have:=zQn lb x hx;omega)]
  split
  ·rfl
  ·exact List.getElem?_eq_getElem hi
end
theorem zGd {S:DS}{ks:List Int}{ρ:Int→List Int}(hl:S.l=none) (inn:∀ k ∈ ks,17≤k) (few:ks.length≤15) {ns:List Int}(so:zK3 ks ns) {ρ':Int→List Int}{i:Nat}(h1:17≤i) (h2:i < S.R.length):zAt (zAk S (allOf (zn ns ρ))).1.R [] ρ' (.int i)=zAt S.R ks ρ (.int i):=by
 rw [zC6 hl]
 show (if (i:Int) ∈ ([] : List Int) then some (ρ' i) else if (0:Int)≤i then (zN4 S.R ns ρ)[(i:Int).toNat]? else none)=_
 rw [if_neg (by simp),if_pos (by omega),show (i:Int).toNat=i by omega,zPk (by rw [so.1.length_eq];exact few) so.2 (fun k hk=>by have:=inn k (so.1.mem_iff.mp hk);omega) h2 h1,zFc h2]
 congr 1
 by_cases q:(i:Int) ∈ ks
 ·rw [if_pos q,if_pos (so.1.mem_iff.mpr q)]
 ·rw [if_neg q,if_neg (fun z=>q (so.1.mem_iff.mp z))]
theorem Beg.mw {R:List (List Int)}{m t:Int}(g:zFw m t) (h:Beg R m t) {ρ:Int→List Int}{i:Nat}(hi:(i:Int) < m):K14.mw R [] ρ i=if zI m t≤(i:Int) then 0 else 1:=by
 have hml:=zRd g
 have hj:i / 16 < mapsN m:=by omega
 have e:=h.maps _ hj
 have hlt:17 + i / 16 < R.length:=(List.getElem?_eq_some_iff.mp e).1
 unfold K14.mw
 rw [zFc hlt,if_neg (by simp),(List.getElem?_eq_some_iff.mp e).2]
 show (zB8 m t (i / 16)).getD (i % 16) 0=_
 unfold zB8
 rw [List.getD_eq_getElem?_getD,List.getElem?_take,if_pos (by omega),List.getElem?_drop,show 16 * (i / 16) + i % 16=i by omega,zQm g (by omega)]
 by_cases q:zI m t≤(i:Int)
 ·rw [if_pos q,if_pos ⟨q,hi⟩];rfl
 ·rw [if_neg q,if_neg (fun z=>q z.1)];rfl
theorem Beg.node {R:List (List Int)}{m t:Int}(g:zFw m t) (h:Beg R m t) {ρ:Int→List Int}{n:Nat}(hn:(n:Int)≤2 * t - 1):zb R [] ρ m n=List.replicate 8 0:=by
 obtain ⟨h1,h2,h3,h4⟩:=zC1 g hn
 have e:=h.zs _ h4 h2
 unfold zb
 rw [zFc (List.getElem?_eq_some_iff.mp e).1,if_neg (by simp),(List.getElem?_eq_some_iff.mp e).2]
 rcases (show n % 2=0∨n % 2=1 by omega) with z | z <;> rw [z] <;> rfl
def r0:Int→List Int:=fun _=>[]
structure BegN (R:List (List Int)) (m t:Int):Prop where
 len:(R.length:Int)=m
 mw:∀ i:Nat,(i:Int) < m→K14.mw R [] r0 i=if zI m t≤(i:Int) then 0 else 1
 node:∀ n:Nat,1≤n→(n:Int)≤2 * t - 1→zb R [] r0 m n=1 :: List.replicate 7 0
theorem Mp.layOff {H H':Hp}{b d kr nr y:Addr}{S:DS}{ks:List Int}{ρ:Int→List Int}{m t:Int}(x:Mp a H b d kr nr y S ks ρ m t) (c:Chg [d,kr,b] H H'):LayAt a.cLayout H' y m t:=by
 obtain ⟨yx,hy⟩:=x.lay
 obtain ⟨bx,hb⟩:=x.bat.ex
 obtain ⟨_,_,z1,z2,_⟩:=x.dk.ex
 refine x.lay.chg c ?_
 simp only [List.mem_cons,List.not_mem_nil,or_false,not_or]
 refine ⟨fun z=>?_,ze hy z2 (fun z=>by cases z),fun z=>?_⟩
 ·rw [z,z1] at hy
  injection hy with hy
  injection hy with _ _ hy
  cases hy
 ·rw [z,hb] at hy
  injection hy with hy
  injection hy with _ _ hy
  cases hy
inductive spBegun' (K:PySem.W.Frag) (a:Ad) (vs:List V) (H:Hp) (Q:VK):Prop
 | mk:∀ (p:Addr) (ns:List Int),(vs=[.ref p])→(SqL K H p (ns.map V.int))→(∀ (tp y d kr:Addr) (m:Nat) (t:Int) (S:DS) (H':Hp),Same H H'→H' tp=some (.tup [.ref y,.ref d])→LayAt a.cLayout H' y m t→zFw m t→zDk a.cDisk H' d kr S→S.l=none→BegN S.R m t→m≤40→t=2→H d=none→H kr=none→Q (.ref tp) H')→spBegun' K a vs H Q
def zJh (K:PySem.W.Frag) (a:Ad):Sp:=fun vs H Q _=>spBegun' K a vs H Q
theorem zHl (F:Fun K "_law_begun" "_law_begun" zA6 f fd) (T:Txt K mg a) (M_Layout___init__:Mf P w K mg base (CXE P w) 2 a.fLayout_init ["self", "many", "tables"] (zJd K a)) (M_Disk___init__:Mf P w K mg base (CXE P w) 2 a.fDisk_init ["self", "many"] (zMc K a)) (M_Batch___init__:Mf P w K mg base (CXE P w) 1 a.fBatch_init ["self", "disk"] (zFb K a)) (M_Batch_finish:Mf P w K mg base (CXE P w) 8 a.f_finish ["self"] (zDv K a)) (M_Disk_write:Mf P w K mg base (CXE P w) 5 a.f_write ["self", "block", "row"] (zCr K a)) (D_new_maps:Df P w K mg base (CXE P w) 1 "new_maps" ["layout"] (zFa K a)) (D_take_node:Df P w K mg base (CXE P w) 7 "take_node" ["batch", "layout", "kind"] (zEf K a)) (D__law_cell_at:Df P w K mg base CX0 1 "_law_cell_at" ["_law_script", "_law_k"] (zMf K a)):FnOk P w K mg base (CXE P w) 9 f fd ["_law_script"] (zJh K a):=by
 obtain ⟨_,GLayout_init,bLayout_init⟩:=M_Layout___init__
 obtain ⟨_,GDisk_init,bDisk_init⟩:=M_Disk___init__
 obtain ⟨_,GBatch_init,bBatch_init⟩:=M_Batch___init__
 obtain ⟨_,G_finish,b_finish⟩:=M_Batch_finish
 obtain ⟨_,G_write,b_write⟩:=M_Disk_write
 obtain ⟨_,_,Gnew_maps,bnew_maps,knew_maps,mnew_maps⟩:=D_new_maps
 obtain ⟨_,_,Gtake_node,btake_node,ktake_node,mtake_node⟩:=D_take_node
 obtain ⟨_,_,Gl_cell_at,bl_cell_at,kl_cell_at,ml_cell_at⟩:=D__law_cell_at
 have nd:=sc__law_begun.nd
 refine F.okE sc__law_begun (fun vs H Q E h=>?_) (fun cdv A outer s H vs Q E hr hA h=>?_)
 ·obtain ⟨sc,ns,rfl,_⟩:=h
  rfl
 obtain ⟨sc,ns,rfl,hS,q⟩:=h
 refine ⟨_,(pss_cons (ps_set (i:=1) nd rfl (by first|exact Or.inl rfl|exact Or.inr rfl) (zFh T.mkLayout GLayout_init (hr.mono (by decide)) rfl T.mLayout bLayout_init .nil (zE (fun _ _ _ h=>h)) (zA (zO zm zM (zO zB7 (zH Gl_cell_at (hr.mono (by decide)) rfl ml_cell_at kl_cell_at bl_cell_at .nil zw (zA (pv 0) (zA zM zC))) zM)) (zA zM zC)) (hcm:=(.inr hA))))
  (pss_cons (ps_set (i:=2) nd rfl (by first|exact Or.inl rfl|exact Or.inr rfl) (zFh T.mkDisk GDisk_init (hr.mono (by decide)) rfl T.mDisk bDisk_init .nil (zE (fun _ _ _ h=>h)) (zA (zS (K:=K) rfl (pv 1) rfl) zC) (hcm:=(.inr hA))))
  (pss_cons (zCk PassesOwn.leaving rfl (zFf rfl T.range (zA (zS (K:=K) rfl (pv 1) rfl) (zA (zS (K:=K) rfl (pv 1) rfl) zC))) (zx (i:=3) nd rfl (by first|exact Or.inl rfl|exact Or.inr rfl)) (zG (zT (zy (pv 2) T.clDisk T.m_write G_write (hr.mono (by decide)) b_write .nil (zE (fun _ _ _ h=>h)) (zA (pv 3) (zA (zO zEt (zBb (zA (pv 3) zC)) zM) zC)) (hcm:=(.inr hA))))))
  (pss_cons (zCk PassesOwn.leaving rfl (zQd rfl T.enumerate (zA (zH Gnew_maps (hr.mono (by decide)) rfl mnew_maps knew_maps bnew_maps .nil (zE (fun _ _ _ h=>h)) (zA (pv 1) zC) (hcm:=(.inr hA))) zC)) (zFg hA (zAq (zx (i:=4) nd rfl (by first|exact Or.inl rfl|exact Or.inr rfl)) (zAq (zx (i:=5) nd rfl (by first|exact Or.inl rfl|exact Or.inr rfl)) zDl))) (zG (zT (zy (pv 2) T.clDisk T.m_write G_write (hr.mono (by decide)) b_write .nil (zE (fun _ _ _ h=>h)) (zA (zO zm (zS (K:=K) rfl (pv 1) rfl) (pv 4)) (zA (pv 5) zC)) (hcm:=(.inr hA))))))
  (pss_cons (ps_set (i:=6) nd rfl (by first|exact Or.inl rfl|exact Or.inr rfl) (zFh T.mkBatch GBatch_init (hr.mono (by decide)) rfl T.mBatch bBatch_init .nil (zE (fun _ _ _ h=>h)) (zA (pv 2) zC) (hcm:=(.inr hA))))
  (pss_cons (zCk PassesOwn.leaving rfl (zDw rfl T.range (zA zM zC)) (zx (i:=4) nd rfl (by first|exact Or.inl rfl|exact Or.inr rfl)) (zG (zT (zH Gtake_node (hr.mono (by decide)) rfl mtake_node ktake_node btake_node .nil (zE (fun _ _ _ h=>h)) (zA (pv 6) (zA (pv 1) (zA zM zC))) (hcm:=(.inr hA))))))
  (pss_cons (zT (zBq (pv 6) T.clBatch T.m_finish G_finish (hr.mono (by decide)) b_finish .nil (zE (fun _ _ _ h=>h)) (hcm:=(.inr hA))))
  (zG (zV (zMt (zA (pv 1) (zA (pv 2) zC)))))))))))),?_⟩
 obtain ⟨m,em⟩ : ∃ m:Nat,24 + cell ns 0 % 17=(m:Int):=⟨(24 + cell ns 0 % 17).toNat,by omega⟩
 have hm1:24≤m:=by omega
 have hm2:m≤40:=by omega
 obtain ⟨t,et,ht2⟩ : ∃ t:Int,(2:Int)=t∧t=2:=⟨2,rfl,rfl⟩
 have ht1:1≤t:=by omega
 refine ⟨_,rfl,sc,ns,0,rfl,hS,by decide,_,_,rfl,rfl,(by show (0:Int) < 17;decide),_,_,rfl,rfl,fun y yx ny nyx ney=>?_⟩
 try dsimp (config:={ proj:=false,iota:=false,eta:=false,zeta:=false }) only
 rw [em]
 obtain ⟨H0,eH0⟩ : ∃ H0,H0=H:=⟨H,rfl⟩
 have sz:Same H H0:=by rw [eH0];exact Same.refl _
 rw [← eH0] at ny nyx ⊢
 clear em
 have hd:zI m t < m:=by unfold zI zP;omega
 have g:zFw m t:=⟨by omega,by omega,ht1,by omega,hd⟩
 have hml:=zRd g
 refine ⟨y,yx,_,_,rfl,zB,.int _,.int _,.inr ⟨m,t,rfl,by rw [et],by omega,by omega,ht1,by omega,fun z=>absurd z (by omega),fun _ Hy cy L=>⟨rfl,?_⟩⟩⟩
 have sy0:Same H0 (upd (upd H0 yx (.own y)) y (.ins a.cLayout yx [])):=fun b o e=>by
  rw [upd_ne (zJ e ny),upd_ne (zJ e nyx)]
  exact e
 have sy:Same H Hy:=sz.trans (zv sy0 cy (by simp [ny]))
 obtain ⟨yx0,hy0⟩:=id L
 refine ⟨_,rfl,y,a.cLayout,yx0,_,_,rfl,hy0,T.clLayout,T.n_many,rfl,fun d dx nd' ndx nex=>⟨d,dx,_,rfl,zB,.int _,.inl ⟨m,rfl,by omega,by omega,fun kr H1 nkr c1 D1=>⟨rfl,?_⟩⟩⟩⟩
 have s0:Same Hy (upd (upd Hy dx (.own d)) d (.ins a.cDisk dx [])):=fun b o e=>by
  rw [upd_ne (zJ e nd'),upd_ne (zJ e ndx)]
  exact e
 have s1:Same Hy H1:=zv s0 c1 (by simp [nd'])
 have nkrY:Hy kr=none:=s0.free nkr
 obtain ⟨yx1,hy1⟩:=L.same s1
 refine ⟨_,rfl,y,a.cLayout,yx1,_,_,rfl,hy1,T.clLayout,T.n_data_at,rfl,_,rfl,y,a.cLayout,yx1,_,_,rfl,hy1,T.clLayout,T.n_many,rfl,_,_,rfl,⟨by omega,by omega,by omega,by omega⟩,?_⟩
 refine zD7 (lo:=zI m t) (n:=((m:Int) - zI m t).toNat) (fun i σ' H'=>∃ (S:DS) (o3:Option V),σ'=[some (.ref sc),some (.ref y),some (.ref d),o3,none,none,none]∧Same Hy H'∧zDk a.cDisk H' d kr S∧S.R.length=m∧S.l=none∧∀ j:Nat,(j:Int) < zI m t→S.R[j]? = some (List.replicate 16 0))
  ⟨⟨List.replicate m (List.replicate 16 0),0,none⟩,none,rfl,s1,D1,by simp,rfl,fun j h1=>by rw [List.getElem?_replicate,if_pos (by omega)]⟩ ?_ ?_
 ·rintro i σ' H' hi ⟨S,o3,rfl,sH,D,hR,hl,hz⟩
  obtain ⟨dy,d1⟩:=D.at
  obtain ⟨bk,eb⟩ : ∃ bk:Nat,zI m t + (i:Int)=(bk:Int):=⟨(zI m t + (i:Int)).toNat,by omega⟩
  rw [eb]
  refine ⟨_,rfl,d,dy,_,rfl,d1,rfl,_,rfl,_,rfl,(by show 1≤sizeLine;decide),fun l1 m1=>⟨l1,16,[.int bk],rfl,rfl,zB,by decide,by decide,(by show 1 * 16≤sizeLine;decide),fun l2 m2=>?_⟩⟩
  rw [show (16:Int).toNat=16 from rfl,zKz]
  have u2:=(zF m1 (.lst [.int bk])).trans (zF m2 (.lst ((List.replicate 16 (bk:Int)).map V.int)))
  have gb:zY (List.replicate 16 (bk:Int)):=⟨by simp,fun x hx=>by rw [List.eq_of_mem_replicate hx];omega⟩
  have hns:¬ S.stop=true:=by unfold DS.stop;rw [hl];decide
  refine zCc (b:=bk) (D.same u2) (by omega) zB gb (fun z=>absurd z hns) (fun _ H3 c3 D3 _=>?_)
  refine ⟨S.put (bk,List.replicate 16 (bk:Int)),_,rfl,zv (sH.trans u2) c3 (by simp [nd',nkrY]),D3,by rw [zMn];exact hR,by show S.l.map _=none;rw [hl];rfl,fun j h1=>?_⟩
  show (S.R.set bk _)[j]? = _
  rw [List.getElem?_set,if_neg (by omega)]
  exact hz j h1
 rintro σ' H' ⟨S,o3,rfl,sH,D,hR,hl,hz⟩
 refine ⟨_,rfl,y,_,t,rfl,L.same sH,g,fun p rs H4 np s4 hp hRs nn _=>?_⟩
 have s4Y:=sH.trans s4
 have D4:=D.same s4
 obtain ⟨_,_,dd1,dd2,_⟩:=D.ex
 have npk:p≠kr:=fun z=>by rw [z,dd2] at np;cases np
 have hlr:rs.length=mapsN m:=by rw [hRs.1];simp
 refine ⟨p,rfl,⟨_,SqL.of hp⟩,zO8 (xs:=rs.map V.ref) (fun i σ' H'=>∃ (S:DS) (o4 o5:Option V),σ'=[some (.ref sc),some (.ref y),some (.ref d),o3,o4,o5,none]∧Chg [d,kr] H4 H'∧Same Hy H'∧zDk a.cDisk H' d kr S∧S.R.length=m∧S.l=none∧(∀ j:Nat,zP m≤(j:Int)→(j:Int) < zI m t→S.R[j]? = some (List.replicate 16 0))∧∀ j,j < i→S.R[17 + j]? = some (zB8 m t j))
  ⟨S,none,none,rfl,Chg.of (Same.refl _),s4Y,D4,hR,hl,fun j _ h=>hz j h,fun j hj=>absurd hj (by omega)⟩ (fun i σ' H' _ ⟨_,_,_,_,c,_⟩=>SqL.of (c _ _ hp (by
   simp only [List.mem_cons,List.not_mem_nil,or_false,not_or]
   exact ⟨ze hp (s4 _ _ dd1) (fun z=>by cases z),npk⟩))) ?_ ?_⟩
 ·clear D D4 hR hl hz hp
  rintro i v σ' H' tp hv ⟨S,o4,o5,rfl,c,sH,D,hR,hl,hz,hmp⟩ ntp
  obtain ⟨hi,ev⟩:=List.getElem?_eq_some_iff.mp hv
  rw [List.length_map] at hi
  rw [List.getElem_map] at ev
  subst ev
  have hir:i < ((List.range (mapsN m)).map (zB8 m t)).length:=by simp;omega
  have er0:=hRs.2 i _ _ (List.getElem?_eq_getElem hi) (List.getElem?_eq_getElem hir)
  have er1:((List.range (mapsN m)).map (zB8 m t))[i]=zB8 m t i:=by simp
  rw [er1] at er0
  have gr:=zJs g (j:=i) (by omega)
  have er:=c _ _ er0 (by
   simp only [List.mem_cons,List.not_mem_nil,or_false,not_or]
   exact ⟨ze er0 (s4 _ _ dd1) (fun z=>by cases z),fun z=>by have:=nn _ (List.getElem_mem hi);rw [z,dd2] at this;cases this⟩)
  have wT:=zF ntp (.tup [.int i,.ref rs[i]])
  refine ⟨_,_,rfl,SqT.of zB,rfl,_,_,rfl,_,_,rfl,rfl,?_⟩
  have D1:=D.same wT
  have er2:=wT _ _ er
  obtain ⟨yx2,hy2⟩:=(L.same sH).same wT
  generalize upd H' tp (.tup [.int i,.ref rs[i]])=H1 at wT D1 er2 hy2 ⊢
  obtain ⟨dy,d1⟩:=D1.at
  refine ⟨_,rfl,d,dy,_,rfl,d1,rfl,_,rfl,y,a.cLayout,yx2,_,_,rfl,hy2,T.clLayout,T.n_maps_at,rfl,_,rfl,_,_,rfl,rfl,_,rfl,?_⟩
  try dsimp (config:={ proj:=false,iota:=false,eta:=false,zeta:=false }) only
  rw [show (17:Int) + (i:Int)=((17 + i:Nat):Int) by omega]
  have hns:¬ S.stop=true:=by unfold DS.stop;rw [hl];decide
  refine zCc (b:=17 + i) D1 (by omega) er2 gr (fun z=>absurd z hns) (fun _ H3 c3 D3 _=>?_)
  refine ⟨S.put (17 + i,zB8 m t i),_,_,rfl,(c.trans (Chg.of wT)).trans c3,zv (sH.trans wT) c3 (by simp [nd',nkrY]),D3,by rw [zMn];exact hR,by show S.l.map _=none;rw [hl];rfl,fun j h1 h2=>?_,fun j hj=>?_⟩
  ·show (S.R.set (17 + i) _)[j]? = _
   rw [List.getElem?_set,if_neg (by omega)]
   exact hz j h1 h2
  ·show (S.R.set (17 + i) _)[17 + j]? = _
   rw [List.getElem?_set]
   by_cases e:i=j
   ·rw [if_pos (by omega),if_pos (by omega),e]
   ·rw [if_neg (by omega)];exact hmp j (by omega)
 ·clear D D4 hR hl hz
  rintro σ' H5 ⟨S,o4,o5,rfl,c,sH5,D,hR,hl,hz,hmp⟩
  rw [List.length_map,hlr] at hmp
  have G:Beg S.R m t:=⟨by rw [hR],hmp,hz⟩
  have L5:=L.same sH5
  have s5:=sy.trans sH5
  clear c hmp hz hRs hp nn npk s4Y s4 sH sH5 dd1 dd2 D1 L cy
  refine nx_hide fun TT hT=>?_
  refine ⟨_,rfl,fun b bx nb nbx nebx=>⟨b,bx,d,rfl,zB,fun nr H6 nnr c6 B6=>⟨rfl,?_⟩⟩⟩
  have s6a:Same H5 (upd (upd H5 bx (.own b)) b (.ins a.cBatch bx [])):=fun u o e=>by
   rw [upd_ne (zJ e nb),upd_ne (zJ e nbx)]
   exact e
  have s6:Same H5 H6:=zv s6a c6 (by simp [nb])
  have fn:H nr=none:=s5.free (s6a.free nnr)
  have fb:H b=none:=s5.free nb
  have X6:Mp a H6 b d kr nr y S [] r0 m t:=⟨B6 _ _,D.same s6,L5.same s6,g,G.len,by decide⟩
  have sH6:=s5.trans s6
  clear c6 s6a s6 B6 D L5 nb nbx nebx nnr s5
  subst hT
  refine nx_hide fun TT hT=>?_
  refine ⟨3,rfl,by decide,by decide,zD7 (lo:=0) (n:=3) (fun i σ' H'=>∃ (ks:List Int) (ρ:Int→List Int) (o4:Option V),σ'=[some (.ref sc),some (.ref y),some (.ref d),o3,o4,o5,some (.ref b)]∧Same H H'∧Mp a H' b d kr nr y S ks ρ m t∧ks.length≤i∧(∀ j:Nat,(j:Int) < m→mw S.R ks ρ j=if zI m t≤(j:Int) then 0 else 1)∧∀ n:Nat,(n:Int)≤2 * t - 1→zb S.R ks ρ m n=if 1≤n∧n≤i then 1 :: List.replicate 7 0 else List.replicate 8 0)
   ⟨[],r0,_,rfl,sH6,X6,Nat.le_refl _,fun j hj=>G.mw g hj,fun n hn=>by rw [if_neg (by omega)];exact G.node g hn⟩ ?_ ?_⟩
  ·clear X6 sH6
   rintro i σ' H7 hi ⟨ks,ρ,o4,rfl,s7,X7,few,hmw,hnw⟩
   have n2:((i + 1:Nat):Int)≤2 * t - 1:=by omega
   have hb:=zC1 g n2
   refine ⟨_,rfl,_,rfl,b,d,kr,nr,y,S,ks,ρ,m,t,1,rfl,X7,by decide,by decide,by omega,.inr ⟨i + 1,by omega,n2,by rw [hnw _ n2,if_neg (by omega)];rfl,fun j h1 h2=>by rw [hnw _ (by omega),if_pos (by omega)];decide,fun H8 c8 X8 of8=>?_⟩⟩
   refine ⟨_,_,_,rfl,zv s7 c8 (by simp [fn]),X8,Nat.le_trans zDh (by omega),fun j hj=>?_,fun n hn=>?_⟩
   ·rw [← hmw j hj]
    unfold mw
    rw [zC5 (by unfold zP at hb;omega) (by unfold setN;rw [if_neg (by unfold zP at hb;omega)])]
   ·obtain ⟨row,er,gr⟩:=X7.at (j:=nAt m (i + 1)) (by have:=X7.len;omega)
    rw [zIm (by rw [er];exact gr.1) (by simp)]
    by_cases e:n=i + 1
    ·rw [if_pos e,if_pos (by omega)]
    ·rw [if_neg e,hnw n hn]
     by_cases q:1≤n∧n≤i
     ·rw [if_pos q,if_pos (by omega)]
     ·rw [if_neg q,if_neg (by omega)]
  ·clear X6 sH6
   rintro σ' H7 ⟨ks,ρ,o4,rfl,s7,X7,few,hmw,hnw⟩
   subst hT
   refine nx_hide fun TT hT=>?_
   obtain ⟨bx7,hb7⟩:=X7.bat.ex
   refine ⟨_,rfl,b,bx7,_,rfl,hb7,rfl,b,d,kr,nr,S,ks,ρ,rfl,X7.bat,X7.dk,by omega,hl,.inr ⟨by omega,fun ks2 nr' H8 so nn' c8 D8 B8 _=>?_⟩⟩
   have s8:Same H H8:=zv s7 c8 (by
    simp only [List.mem_cons,List.not_mem_nil,or_false]
    rintro p (z | z | z) <;> rw [z]
    ·exact sy.free nd'
    ·exact sy.free nkrY
    ·exact fb)
   have sa:∀ {i:Nat},17≤i→i < S.R.length→zAt (zAk S (allOf (zn ks2 ρ))).1.R [] r0 (.int i)=zAt S.R ks ρ (.int i):=fun h1 h2=>zGd hl (fun k hk=>(X7.bat.ho.inn k hk).1) (by omega) so h1 h2
   have L8:=X7.layOff c8
   have hlen:=X7.len
   have BN:BegN (zAk S (allOf (zn ks2 ρ))).1.R m t:=by
    refine ⟨by rw [zCt];exact hlen,fun i hi=>?_,fun n n1 n2=>?_⟩
    ·rw [← hmw i hi]
     unfold mw
     rw [sa (by omega) (by unfold zP at hml;omega)]
    ·have hb:=zC1 g n2
     have:=hnw n n2
     rw [if_pos (by omega)] at this
     rw [← this]
     unfold zb
     rw [sa hb.1 (by omega)]
   subst hT
   refine ⟨_,rfl,_,rfl,(by show 2≤sizeLine;decide),fun tp ntp=>?_⟩
   have wT:=zF ntp (.tup [.ref y,.ref d])
   exact q tp y d kr m t _ _ (s8.trans wT) zB (L8.same wT) g (D8.same wT) (by rw [zC6 hl]) BN hm2 ht2 (sy.free nd') (sy.free nkrY)
end
end K14
end
section
namespace K14
open PySem L2 BK
section
variable {P:Program}{w:World}{K:PySem.W.Frag}{mg:Str→Option Value}{base:Heap}{f:Addr}{fd:FuncData}{a:Ad}
structure NdOk (R:List (List Int)) (ks:List Int) (ρ:Int→List Int) (m t:Int) (e:Kpt) (U:List Nat):Prop where
 lo:1≤e.n
 hi:(e.n:Int)≤2 * t - 1
 kd:1≤e.kind∧e.kind≤2
 hd:(zb R ks ρ m e.n).take 3=[e.kind,0,(e.ws.length:Int)]
 sp:∃ (B:List Int) (fr:Int),Span R ks ρ m t e.n e.ws.length B fr∧usedL B fr=asI U∧zAs R ks ρ B 0 e.ws.length=e.ws
 wd:∀ x ∈ e.ws,0≤x∧x≤999999999
structure Side (R:List (List Int)) (ks:List Int) (ρ:Int→List Int) (m t:Int) (es:List (Kpt × List Nat)) (L:List Nat):Prop where
 nd:∀ p ∈ es,NdOk R ks ρ m t p.1 p.2
 no:∀ n:Nat,1≤n→(n:Int)≤2 * t - 1→(∀ p ∈ es,p.1.n≠n)→zb R ks ρ m n=List.replicate 8 0
 pm:(L ++ (freeL R ks ρ m.toNat ++ (es.map (·.2)).flatten)).Perm ((List.range (m.toNat - (zI m t).toNat)).map fun i=>(zI m t).toNat + i)
theorem Side.all {R:List (List Int)}{ks:List Int}{ρ:Int→List Int}{m t:Int}{es:List (Kpt × List Nat)}{L:List Nat}(h:Side R ks ρ m t es L):(L ++ (freeL R ks ρ m.toNat ++ (es.map (·.2)).flatten)).Nodup :=
 h.pm.nodup_iff.mpr (by
  rw [List.nodup_iff_pairwise_ne,List.pairwise_map]
  exact List.Pairwise.imp (fun {a b} h z=>h (by omega)) List.nodup_range)
theorem Side.in' {R:List (List Int)}{ks:List Int}{ρ:Int→List Int}{m t:Int}{es:List (Kpt × List Nat)}{L:List Nat}(h:Side R ks ρ m t es L) (g:0≤zI m t) (gm:zI m t < m) {i:Nat}(hi:i ∈ L ++ (freeL R ks ρ m.toNat ++ (es.map (·.2)).flatten)):zI m t≤(i:Int)∧(i:Int) < m:=by
 obtain ⟨j,hj,e⟩:=List.mem_map.mp (h.pm.mem_iff.mp hi)
 have:=List.mem_range.mp hj
 omega
theorem free_mem {R:List (List Int)}{ks:List Int}{ρ:Int→List Int}{m i:Nat}:i ∈ freeL R ks ρ m ↔ i < m∧mw R ks ρ i=0:=by
 unfold freeL
 simp
theorem zK8:∀ {xs ys:List Int},xs.Perm ys→xs.Pairwise (· ≤ ·)→ys.Pairwise (· < ·)→xs=ys:=fun p sx sy =>
 List.Perm.eq_of_pairwise (fun a b _ _ h1 h2=>Int.le_antisymm h1 h2) sx (sy.imp fun h=>Int.le_of_lt h) p
section
variable {R:List (List Int)}{ks ks':List Int}{ρ ρ':Int→List Int}{m i:Nat}{x:Int}
theorem zJw:(freeL R ks ρ m).Nodup:=List.nodup_range.sublist List.filter_sublist
end
theorem zDf {B:List Int}{fr x:Int}(h:x ∈ B):x ∈ usedL B fr:=by
 unfold usedL
 split
 ·exact h
 ·rw [← List.take_append_drop 4 B] at h
  rcases List.mem_append.mp h with h | h
  ·exact List.mem_append_left _ (List.mem_append_left _ h)
  ·exact List.mem_append_right _ h
theorem zPb {B:List Int}{fr:Int}(h:4 < B.length):fr ∈ usedL B fr:=by
 unfold usedL
 rw [if_neg (by omega)]
 exact List.mem_append_left _ (List.mem_append_right _ (List.mem_singleton.mpr rfl))
theorem NdOk.frame {R R1:List (List Int)}{ks ks':List Int}{ρ ρ':Int→List Int}{m t:Int}{e:Kpt}{U:List Nat}(h:NdOk R ks ρ m t e U) (hn:zb R1 ks' ρ' m e.n=zb R ks ρ m e.n) (hs:∀ i ∈ U,zAt R1 ks' ρ' (.int (i:Int))=zAt R ks ρ (.int (i:Int))):NdOk R1 ks' ρ' m t e U:=by
 obtain ⟨B,fr,sp,eU,ew⟩:=h.sp
 have us:∀ x ∈ usedL B fr,zAt R1 ks' ρ' (.int x)=zAt R ks ρ (.int x):=fun x hx=>by
  rw [eU] at hx
  unfold asI at hx
  obtain ⟨i,hi,rfl⟩:=List.mem_map.mp hx
  exact hs i hi
 refine ⟨h.lo,h.hi,h.kd,by rw [hn];exact h.hd,⟨B,fr,⟨sp.n1,sp.n2,?_,sp.len,sp.few,fun h4=>?_⟩,eU,?_⟩,h.wd⟩
 ·rw [hn];exact sp.ex
 ·rw [us fr (zPb h4)];exact sp.far h4
 ·rw [← ew,ew]
  conv=>rhs;rw [← ew]
  unfold zAs
  refine List.map_congr_left fun i hi=>?_
  have hi:=List.mem_range.mp hi
  have hl:=sp.len
  have hb:(0 + i) / 16 < B.length:=by omega
  unfold wAt
  rw [us _ (zDf (by rw [List.getD_eq_getElem?_getD,List.getElem?_eq_getElem hb];exact List.getElem_mem hb))]
section
variable {R:List (List Int)}{ks ks':List Int}{ρ ρ':Int→List Int}{m t:Int}{es:List (Kpt × List Nat)}{L:List Nat}{i:Nat}
end
section
variable {R:List (List Int)}{ks ks':List Int}{ρ ρ':Int→List Int}{m t:Int}{es:List (Kpt × List Nat)}{L:List Nat}{n:Nat}{ws:List Int}
theorem zQ1 (mp:∀ i:Nat,(i:Int) < m→mw R ks' ρ' i=mw R ks ρ i):freeL R ks' ρ' m.toNat=freeL R ks ρ m.toNat:=by
 unfold freeL
 refine List.filter_congr fun i hi=>?_
 have:=List.mem_range.mp hi
 rw [mp i (by omega)]
end
section
variable {R:List (List Int)}{ks ks':List Int}{ρ ρ':Int→List Int}{m t:Int}{es:List (Kpt × List Nat)}{L:List Nat}{n:Nat}
end
def putE (es:List (Kpt × List Nat)) (e':Kpt) (U':List Nat):List (Kpt × List Nat):=es.map fun p=>if p.1.n=e'.n then (e',U') else p
theorem zKj {e':Kpt}{U':List Nat}:∀ {es:List (Kpt × List Nat)},(∀ p ∈ es,p.1.n≠e'.n)→putE es e' U'=es
 | [],_=>rfl
 | p :: es,h=>by
  have ih:=zKj (U':=U') (es:=es) fun q hq=>h q (List.mem_cons_of_mem _ hq)
  unfold putE at ih ⊢
  rw [List.map_cons,if_neg (h p (List.mem_cons_self ..)),ih]
theorem zGt {e e':Kpt}{U U':List Nat}(en:e'.n=e.n):∀ {es:List (Kpt × List Nat)},(es.map (·.1.n)).Nodup→(e,U) ∈ es→∃ Z,(es.map (·.2)).flatten.Perm (U ++ Z)∧((putE es e' U').map (·.2)).flatten.Perm (U' ++ Z)
 | [],_,h=>by cases h
 | p :: es,nd,h=>by
  rw [List.map_cons,List.nodup_cons] at nd
  rcases List.mem_cons.mp h with h | h
  ·subst h
   have off:putE es e' U'=es:=zKj fun q hq z=>nd.1 (List.mem_map.mpr ⟨q,hq,by rw [z,en]⟩)
   refine ⟨(es.map (·.2)).flatten,by rw [List.map_cons,List.flatten_cons],?_⟩
   have:putE ((e,U) :: es) e' U'=(e',U') :: es:=by
    conv=>rhs;rw [← off]
    unfold putE
    rw [List.map_cons,if_pos en.symm]
   rw [this,List.map_cons,List.flatten_cons]
  ·obtain ⟨Z,z1,z2⟩:=zGt (U':=U') en nd.2 h
   have ne:¬ p.1.n=e'.n:=fun z=>nd.1 (List.mem_map.mpr ⟨(e,U),h,by rw [z,en]⟩)
   have:putE (p :: es) e' U'=p :: putE es e' U':=by unfold putE;rw [List.map_cons,if_neg ne]
   have sw:∀ A B C:List Nat,(A ++ (B ++ C)).Perm (B ++ (A ++ C)):=fun A B C=>by
    rw [← List.append_assoc,← List.append_assoc];exact List.perm_append_comm.append_right _
   refine ⟨p.2 ++ Z,?_,?_⟩
   ·rw [List.map_cons,List.flatten_cons];exact (z1.append_left _).trans (sw _ _ _)
   ·rw [this,List.map_cons,List.flatten_cons];exact (z2.append_left _).trans (sw _ _ _)
theorem Side.put {R:List (List Int)}{ks ks':List Int}{ρ ρ':Int→List Int}{m t:Int}{es:List (Kpt × List Nat)}{L:List Nat}{e e':Kpt}{U U':List Nat}(h:Side R ks ρ m t es L) (nd:(es.map (·.1.n)).Nodup) (hp:(e,U) ∈ es) (en:e'.n=e.n) (new:NdOk R ks' ρ' m t e' U') (oth:∀ p ∈ es,p.1.n≠e.n→NdOk R ks' ρ' m t p.1 p.2)
  (no:∀ k:Nat,k≠e.n→(k:Int)≤2 * t - 1→zb R ks' ρ' m k=zb R ks ρ m k) (pm:(freeL R ks' ρ' m.toNat ++ U').Perm (freeL R ks ρ m.toNat ++ U)):Side R ks' ρ' m t (putE es e' U') L:=by
 refine ⟨fun p h1=>?_,fun k k1 k2 hk=>?_,?_⟩
 ·unfold putE at h1
  obtain ⟨q,hq,rfl⟩:=List.mem_map.mp h1
  by_cases z:q.1.n=e'.n
  ·rw [if_pos z];exact new
  ·rw [if_neg z];exact oth q hq (by rw [← en];exact z)
 ·have ke:k≠e.n:=fun z=>hk (e',U') (List.mem_map.mpr ⟨(e,U),hp,if_pos en.symm⟩) (by rw [z];exact en)
  rw [no k ke k2]
  refine h.no k k1 k2 fun q hq z=>?_
  exact hk q (List.mem_map.mpr ⟨q,hq,if_neg (by rw [z,en];exact ke)⟩) z
 ·obtain ⟨Z,z1,z2⟩:=zGt (U':=U') en nd hp
  refine List.Perm.trans (List.Perm.append_left _ ?_) h.pm
  refine ((z2.append_left _).trans ?_).trans (z1.append_left _).symm
  rw [← List.append_assoc,← List.append_assoc]
  exact pm.append_right _
theorem zL1 {B:List Int}{fr:Int}{U:List Nat}(eU:usedL B fr=asI U) (nd:U.Nodup):(usedL B fr).Nodup:=by
 rw [eU]
 unfold asI
 rw [List.nodup_iff_pairwise_ne,List.pairwise_map]
 exact List.Pairwise.imp (fun {a b} h z=>h (by omega)) nd
theorem zNo {B:List Int}{fr:Int}(nd:(usedL B fr).Nodup) (h4:4 < B.length):fr ∉ B:=fun h=>by
 unfold usedL at nd
 rw [if_neg (by omega),List.append_assoc] at nd
 obtain ⟨_,n2,n3⟩:=List.nodup_append.mp nd
 rw [← List.take_append_drop 4 B] at h
 rcases List.mem_append.mp h with h | h
 ·exact n3 fr h fr (List.mem_append_left _ (List.mem_singleton.mpr rfl)) rfl
 ·exact (List.nodup_append.mp n2).2.2 fr (List.mem_singleton.mpr rfl) fr h rfl
theorem NdOk.words {R:List (List Int)}{ks ks':List Int}{ρ ρ':Int→List Int}{m t:Int}{e e':Kpt}{U:List Nat}{g:Nat}{fs B:List Int}{fr:Int}(h:NdOk R ks ρ m t e U) (sp:Span R ks ρ m t e.n e.ws.length B fr) (eU:usedL B fr=asI U) (ew:zAs R ks ρ B 0 e.ws.length=e.ws) (nd:U.Nodup) (lo:∀ i ∈ U,zI m t≤(i:Int)) (gd:zFw m t)
  (off:∀ j:Int,j ∉ B→zAt R ks' ρ' (.int j)=zAt R ks ρ (.int j)) (wd:∀ i,i < 16 * B.length→wAt R ks' ρ' B i=if g≤i∧i < g + fs.length then fs.getD (i - g) 0 else wAt R ks ρ B i) (hg:g + fs.length≤e.ws.length) (hf:∀ x ∈ fs,0≤x∧x≤999999999)
  (en:e'.n=e.n) (ek:e'.kind=e.kind) (ews:e'.ws=e.ws.take g ++ (fs ++ e.ws.drop (g + fs.length))):NdOk R ks' ρ' m t e' U:=by
 have hl:e'.ws.length=e.ws.length:=by rw [ews];simp;omega
 have lowB:∀ x ∈ B,zI m t≤x:=fun x hx=>by
  have:=zDf (fr:=fr) hx
  rw [eU] at this
  unfold asI at this
  obtain ⟨i,hi,rfl⟩:=List.mem_map.mp this
  exact lo i hi
 have hn:zb R ks' ρ' m e.n=zb R ks ρ m e.n:=by
  unfold zb
  rw [off _ fun z=>absurd (lowB _ z) (by have:=(zC1 gd h.hi).2.1;omega)]
 refine ⟨by rw [en];exact h.lo,by rw [en];exact h.hi,by rw [ek];exact h.kd,by rw [en,ek,hl,hn];exact h.hd,⟨B,fr,⟨by rw [en];exact sp.n1,by rw [en];exact sp.n2,by rw [en,hl,hn];exact sp.ex,by rw [hl];exact sp.len,by rw [hl];exact sp.few,fun h4=>?_⟩,eU,?_⟩,fun x hx=>?_⟩
 ·rw [off fr (zNo (zL1 eU nd) h4)];exact sp.far h4
 ·rw [hl]
  refine List.ext_getElem? fun i=>?_
  by_cases hi:i < e.ws.length
  ·have h16:i < 16 * B.length:=by have:=sp.len;omega
   have old:e.ws[i]? = some (wAt R ks ρ B i):=by
    have:=congrArg (fun l=>l[i]?) ew
    simp only [zAs,List.getElem?_map,List.getElem?_range hi,Option.map_some,Nat.zero_add] at this
    exact this.symm
   unfold zAs
   rw [List.getElem?_map,List.getElem?_range hi,Option.map_some,Nat.zero_add,wd i h16,ews]
   by_cases c1:i < g
   ·rw [if_neg (by omega),List.getElem?_append_left (by rw [List.length_take];omega),List.getElem?_take_of_lt c1];exact old.symm
   ·rw [List.getElem?_append_right (by rw [List.length_take];omega),List.length_take,show min g e.ws.length=g by omega]
    by_cases c2:i < g + fs.length
    ·rw [if_pos ⟨by omega,c2⟩,List.getElem?_append_left (by omega),List.getD_eq_getElem?_getD,List.getElem?_eq_getElem (by omega)];rfl
    ·rw [if_neg (by omega),List.getElem?_append_right (by omega),List.getElem?_drop,show g + fs.length + (i - g - fs.length)=i by omega];exact old.symm
  ·rw [List.getElem?_eq_none (by unfold zAs;simp;omega),List.getElem?_eq_none (by omega)]
 ·rw [ews] at hx
  rcases List.mem_append.mp hx with hx | hx
  ·exact h.wd x (List.mem_of_mem_take hx)
  ·rcases List.mem_append.mp hx with hx | hx
   ·exact hf x hx
   ·exact h.wd x (List.mem_of_mem_drop hx)
theorem zOa {L:List Int}(h:L.length≠5):usedL (zAc L) (L.getD 4 0)=L:=by
 have hl:=zEr h
 by_cases h4:L.length≤4
 ·have e:zAc L=L:=by unfold zAc;rw [if_pos h4]
  unfold usedL
  rw [e,if_pos h4]
 ·have e:zAc L=L.take 4 ++ L.drop 5:=by unfold zAc;rw [if_neg h4]
  rw [if_neg h4] at hl
  unfold usedL
  rw [if_neg (by omega),e]
  have l4:(L.take 4).length=4:=by rw [List.length_take];omega
  rw [List.take_append_of_le_length (by omega),List.take_of_length_le (l:=L.take 4) (by omega),List.drop_append_of_le_length (by omega),List.drop_eq_nil_of_le (as:=L.take 4) (by omega),List.nil_append]
  have e4:L.getD 4 0=L[4]'(by omega):=by rw [List.getD_eq_getElem?_getD,List.getElem?_eq_getElem (by omega)];rfl
  rw [e4,List.append_assoc]
  have:L.drop 4=L[4]'(by omega) :: L.drop 5:=List.drop_eq_getElem_cons (by omega)
  show L.take 4 ++ (L[4]'(by omega) :: L.drop 5)=L
  rw [← this,List.take_append_drop]
theorem zQ2 {U F:List Nat}{c:Nat}(h:c≤U.length∨c - U.length≤F.length):(fitL U F c).length=c:=by
 unfold fitL
 rw [List.length_append,List.length_take,List.length_take]
 omega
theorem NdOk.sized {R:List (List Int)}{ks ks':List Int}{ρ ρ':Int→List Int}{m t:Int}{e e':Kpt}{U F:List Nat}{k:Nat}{B:List Int}{gm:Nat→Int}(h:NdOk R ks ρ m t e U) (lB:B.length=(e.ws.length + 15) / 16) (ew:zAs R ks ρ B 0 e.ws.length=e.ws) (hk:k≤320) (hc:cuN k≤U.length∨cuN k - U.length≤F.length)
  (z:Resz R ks ρ ks' ρ' m t e.n e.ws.length k B gm (asI (fitL U F (cuN k)))) (en:e'.n=e.n) (ek:e'.kind=e.kind) (ews:e'.ws=e.ws.take k ++ List.replicate (k - e.ws.length) 0):NdOk R ks' ρ' m t e' (fitL U F (cuN k)):=by
 obtain ⟨c1,c2,c3⟩:=zSi hk
 have hl:e'.ws.length=k:=by rw [ews];simp;omega
 have hL:(asI (fitL U F (cuN k))).length=cuN k:=by unfold asI;rw [List.length_map,zQ2 hc]
 obtain ⟨kind,links,t2,nw⟩:=z.nd
 have t3:=h.hd
 have e2:[kind,links]=[e.kind,0]:=by
  have:(zb R ks ρ m e.n).take 2=((zb R ks ρ m e.n).take 3).take 2:=by rw [List.take_take];rfl
  rw [← t2,this,t3];rfl
 simp only [List.cons.injEq,and_true] at e2
 obtain ⟨rfl,rfl⟩:=e2
 refine ⟨by rw [en];exact h.lo,by rw [en];exact h.hi,by rw [ek];exact h.kd,by rw [en,ek,hl,nw];rfl,⟨_,_,by rw [en,hl];exact z.sp,zOa (by omega),?_⟩,fun x hx=>?_⟩
 ·rw [hl]
  refine List.ext_getElem? fun i=>?_
  by_cases hi:i < k
  ·have h16:i < 16 * (zAc (asI (fitL U F (cuN k)))).length:=by have:=z.sp.len;omega
   unfold zAs
   rw [List.getElem?_map,List.getElem?_range hi,Option.map_some,Nat.zero_add,z.wd i h16,ews]
   by_cases c:i < e.ws.length
   ·have old:e.ws[i]? = some (wAt R ks ρ B i):=by
     have:=congrArg (fun l=>l[i]?) ew
     simp only [zAs,List.getElem?_map,List.getElem?_range c,Option.map_some,Nat.zero_add] at this
     exact this.symm
    rw [if_pos (by omega),List.getElem?_append_left (by rw [List.length_take];omega),List.getElem?_take_of_lt hi];exact old.symm
   ·rw [if_neg (by omega),List.getElem?_append_right (by rw [List.length_take];omega),List.getElem?_replicate,if_pos (by rw [List.length_take];omega)]
  ·rw [List.getElem?_eq_none (by unfold zAs;simp;omega),List.getElem?_eq_none (by omega)]
 ·rw [ews] at hx
  rcases List.mem_append.mp hx with hx | hx
  ·exact h.wd x (List.mem_of_mem_take hx)
  ·rw [List.eq_of_mem_replicate hx];omega
theorem zK9 {R:List (List Int)}{ks ks':List Int}{ρ ρ':Int→List Int}{M c:Nat}{U:List Nat}(nd:U.Nodup) (dis:∀ i ∈ U,i ∉ freeL R ks ρ M) (hU:∀ i ∈ U,i < M) (mp:∀ i,i < M→mw R ks' ρ' i=if i ∈ U.drop c then 0 else if i ∈ (freeL R ks ρ M).take (c - U.length) then 1 else mw R ks ρ i) :
  (freeL R ks' ρ' M ++ fitL U (freeL R ks ρ M) c).Perm (freeL R ks ρ M ++ U):=by
 have nF:=zJw (R:=R) (ks:=ks) (ρ:=ρ) (m:=M)
 generalize hF:freeL R ks ρ M=F at *
 have fm:∀ i,i ∈ F ↔ i < M∧mw R ks ρ i=0:=fun i=>by rw [← hF];exact free_mem
 have tU:∀ i ∈ U.take c,i ∉ U.drop c:=fun i h1 h2=>by
  rw [← List.take_append_drop c U] at nd
  exact (List.nodup_append.mp nd).2.2 i h1 i h2 rfl
 have fr:∀ i,i ∈ freeL R ks' ρ' M ↔ i ∈ U.drop c∨(i ∈ F∧i ∉ F.take (c - U.length)):=fun i=>by
  rw [free_mem]
  constructor
  ·rintro ⟨h1,h2⟩
   rw [mp i h1] at h2
   by_cases c1:i ∈ U.drop c
   ·exact .inl c1
   ·rw [if_neg c1] at h2
    by_cases c2:i ∈ F.take (c - U.length)
    ·rw [if_pos c2] at h2;exact absurd h2 (by decide)
    ·rw [if_neg c2] at h2;exact .inr ⟨(fm i).mpr ⟨h1,h2⟩,c2⟩
  ·rintro (h1 | ⟨h1,h2⟩)
   ·have:=hU i (List.mem_of_mem_drop h1)
    exact ⟨this,by rw [mp i this,if_pos h1]⟩
   ·have h3:=(fm i).mp h1
    exact ⟨h3.1,by rw [mp i h3.1,if_neg (fun z=>dis i (List.mem_of_mem_drop z) h1),if_neg h2];exact h3.2⟩
 have nfit:(fitL U F c).Nodup:=by
  unfold fitL
  refine List.nodup_append.mpr ⟨nd.sublist (List.take_sublist _ _),nF.sublist (List.take_sublist _ _),fun i h1 j h2 z=>?_⟩
  subst z
  exact dis i (List.mem_of_mem_take h1) (List.mem_of_mem_take h2)
 refine (List.perm_ext_iff_of_nodup (List.nodup_append.mpr ⟨zJw,nfit,fun i h1 j h2 z=>?_⟩) (List.nodup_append.mpr ⟨nF,nd,fun i h1 j h2 z=>?_⟩)).mpr fun i=>?_
 ·subst z
  rcases (fr i).mp h1 with h1 | ⟨h1,h3⟩
  ·rcases List.mem_append.mp h2 with h2 | h2
   ·exact tU i h2 h1
   ·exact dis i (List.mem_of_mem_drop h1) (List.mem_of_mem_take h2)
  ·rcases List.mem_append.mp h2 with h2 | h2
   ·exact dis i (List.mem_of_mem_take h2) h1
   ·exact h3 h2
 ·subst z;exact dis i h2 h1
 ·rw [List.mem_append,List.mem_append,fr]
  unfold fitL
  rw [List.mem_append]
  constructor
  ·rintro ((h | h) | (h | h))
   ·exact .inr (List.mem_of_mem_drop h)
   ·exact .inl h.1
   ·exact .inr (List.mem_of_mem_take h)
   ·exact .inl (List.mem_of_mem_take h)
  ·rintro (h | h)
   ·by_cases c2:i ∈ F.take (c - U.length)
    ·exact .inr (.inr c2)
    ·exact .inl (.inr ⟨h,c2⟩)
   ·rw [← List.take_append_drop c U] at h
    rcases List.mem_append.mp h with h | h
    ·exact .inr (.inl h)
    ·exact .inl (.inl h)
end
end K14
end
section
namespace K14
open PySem L2 BK
section
variable {P:Program}{w:World}{K:PySem.W.Frag}{mg:Str→Option Value}{base:Heap}{f:Addr}{fd:FuncData}{a:Ad}
theorem zQ9 {L L':List Nat}:asI L ++ asI L'=asI (L ++ L'):=by unfold asI;rw [List.map_append]
theorem zJ6 {L:List Nat}:(asI L).length=L.length:=by unfold asI;rw [List.length_map]
theorem zNl {p:Kpt × List Nat}:∀ {es:List (Kpt × List Nat)},(es.map (·.2)).flatten.Nodup→p ∈ es→p.2.Nodup
 | [],_,h=>by cases h
 | r :: es,nd,hp=>by
  rw [List.map_cons,List.flatten_cons] at nd
  obtain ⟨n1,n2,n3⟩:=List.nodup_append.mp nd
  rcases List.mem_cons.mp hp with rfl | hp
  ·exact n1
  ·exact zNl n2 hp
theorem flat_dis {i:Nat}{p q:Kpt × List Nat}:∀ {es:List (Kpt × List Nat)},(es.map (·.2)).flatten.Nodup→p ∈ es→q ∈ es→p.1.n≠q.1.n→i ∈ p.2→i ∉ q.2
 | [],_,h,_,_,_=>by cases h
 | r :: es,nd,hp,hq,hn,hi=>fun hj=>by
  rw [List.map_cons,List.flatten_cons] at nd
  obtain ⟨n1,n2,n3⟩:=List.nodup_append.mp nd
  have inn:∀ {s:Kpt × List Nat},s ∈ es→i ∈ s.2→i ∈ (es.map (·.2)).flatten:=fun hs h=>List.mem_flatten.mpr ⟨_,List.mem_map_of_mem hs,h⟩
  rcases List.mem_cons.mp hp with e1 | hp <;> rcases List.mem_cons.mp hq with e2 | hq
  ·exact hn (by rw [e1,e2])
  ·rw [e1] at hi;exact n3 i hi i (inn hq hj) rfl
  ·rw [e2] at hj;exact n3 i hj i (inn hp hi) rfl
  ·exact flat_dis n2 hp hq hn hi hj
section
variable {R:List (List Int)}{ks ks':List Int}{ρ ρ':Int→List Int}{m t:Int}{es:List (Kpt × List Nat)}{L:List Nat}{e e':Kpt}{U:List Nat}{k:Nat}{B:List Int}{fr:Int}
theorem Side.blk (h:Side R ks ρ m t es L) (g:zFw m t) {p:Kpt × List Nat}(hp:p ∈ es):p.2.Nodup∧∀ i ∈ p.2,zI m t≤(i:Int)∧(i:Int) < m∧mw R ks ρ i≠0∧i ∉ freeL R ks ρ m.toNat:=by
 obtain ⟨g1,g2,g3,g4,g5⟩:=g
 have hd:0≤zI m t:=by unfold zI zP;omega
 obtain ⟨_,n2,_⟩:=List.nodup_append.mp h.all
 obtain ⟨_,n4,n5⟩:=List.nodup_append.mp n2
 refine ⟨zNl n4 hp,fun i hi=>?_⟩
 have hin:i ∈ (es.map (·.2)).flatten:=List.mem_flatten.mpr ⟨_,List.mem_map_of_mem hp,hi⟩
 obtain ⟨h1,h2⟩:=h.in' hd g5 (List.mem_append_right _ (List.mem_append_right _ hin))
 have nf:i ∉ freeL R ks ρ m.toNat:=fun z=>n5 i z i hin rfl
 exact ⟨h1,h2,fun z=>nf (free_mem.mpr ⟨by omega,z⟩),nf⟩
theorem Side.free (h:Side R ks ρ m t es L) (g:zFw m t):∀ i ∈ freeL R ks ρ m.toNat,zI m t≤(i:Int):=fun i hi=>by
 obtain ⟨g1,g2,g3,g4,g5⟩:=g
 exact (h.in' (by unfold zI zP;omega) g5 (List.mem_append_right _ (List.mem_append_left _ hi))).1
theorem Side.len (h:Side R ks ρ m t es L) {p:Kpt × List Nat}(hp:p ∈ es):p.2.length=cuN p.1.ws.length:=by
 obtain ⟨B,fr,sp,eU,_⟩:=(h.nd p hp).sp
 have:=congrArg List.length eU
 rw [zJ9,zJ6,sp.len] at this
 unfold cuN
 exact this.symm
theorem zJ7:∀ {es:List (Kpt × List Nat)},(∀ p ∈ es,p.2.length=cuN p.1.ws.length)→zGy (es.map (·.1))=((es.map (·.2)).flatten.length:Int)
 | [],_=>rfl
 | p :: es,h=>by
  have ih:=zJ7 (es:=es) fun q hq=>h q (List.mem_cons_of_mem _ hq)
  have hp:=h p (List.mem_cons_self ..)
  unfold zGy at ih ⊢
  rw [List.map_cons,List.map_cons,List.sum_cons,ih,List.map_cons,List.flatten_cons,List.length_append,hp]
  omega
theorem Side.room (h:Side R ks ρ m t es L) (g:zFw m t):m - zI m t - zGy (es.map (·.1)) - L.length=((freeL R ks ρ m.toNat).length:Int):=by
 obtain ⟨g1,g2,g3,g4,g5⟩:=g
 have hd:0≤zI m t:=by unfold zI zP;omega
 have pl:=h.pm.length_eq
 rw [List.length_append,List.length_append,List.length_map,List.length_range] at pl
 rw [zJ7 fun p hp=>h.len hp]
 omega
theorem Side.few (h:Side R ks ρ m t es L) (g:zFw m t) (nd:(es.map (·.1.n)).Nodup):es.length≤15:=by
 obtain ⟨g1,g2,g3,g4,g5⟩:=g
 have nd':(es.map fun p=>(p.1.n:Int)).Nodup:=by
  rw [List.nodup_iff_pairwise_ne,List.pairwise_map]
  rw [List.nodup_iff_pairwise_ne,List.pairwise_map] at nd
  exact nd.imp fun h z=>h (by omega)
 have:=zTi (lo:=1) 15 _ nd' fun x hx=>by
  obtain ⟨p,hp,rfl⟩:=List.mem_map.mp hx
  have h1:=(h.nd p hp).lo
  have h2:=(h.nd p hp).hi
  omega
 rw [List.length_map] at this
 exact this
theorem Side.sized (h:Side R ks ρ m t es L) (g:zFw m t) (nd:(es.map (·.1.n)).Nodup) (hp:(e,U) ∈ es) (lB:B.length=(e.ws.length + 15) / 16) (ew:zAs R ks ρ B 0 e.ws.length=e.ws) (hk:k≤320) (hc:cuN k≤U.length∨cuN k - U.length≤(freeL R ks ρ m.toNat).length)
  (z:Resz R ks ρ ks' ρ' m t e.n e.ws.length k B (fun j=>if j ∈ U.drop (cuN k) then 0 else if j ∈ (freeL R ks ρ m.toNat).take (cuN k - U.length) then 1 else mw R ks ρ j) (asI (fitL U (freeL R ks ρ m.toNat) (cuN k)))) (en:e'.n=e.n) (ek:e'.kind=e.kind) (ews:e'.ws=e.ws.take k ++ List.replicate (k - e.ws.length) 0) :
  Side R ks' ρ' m t (putE es e' (fitL U (freeL R ks ρ m.toNat) (cuN k))) L:=by
 have hml:=zRd g
 obtain ⟨bn,bi⟩:=h.blk g hp
 obtain ⟨_,n2,_⟩:=List.nodup_append.mp h.all
 obtain ⟨_,n4,n5⟩:=List.nodup_append.mp n2
 refine h.put nd hp en ((h.nd _ hp).sized lB ew hk hc z en ek ews) (fun p hq hn=>(h.nd p hq).frame (z.ot _ hn (h.nd p hq).hi) fun i hi=>z.off _ ((h.blk g hq).2 i hi).1 fun hm=>?_) (fun j hj hj2=>z.ot j hj hj2) (zK9 bn (fun i hi=>(bi i hi).2.2.2) (fun i hi=>by have:=bi i hi;omega) fun i hi=>z.mp i ?_)
 ·unfold asI at hm
  obtain ⟨j,hj,e⟩:=List.mem_map.mp hm
  rw [show j=i by omega] at hj
  rcases List.mem_append.mp hj with hj | hj
  ·exact flat_dis n4 hq hp hn hi (List.mem_of_mem_take hj)
  ·exact ((h.blk g hq).2 i hi).2.2.2 (List.mem_of_mem_take hj)
 ·obtain ⟨g1,g2,g3,g4,g5⟩:=g
  unfold zP
  omega
theorem Side.words {bg:Nat}{fs:List Int}(h:Side R ks ρ m t es L) (g:zFw m t) (nd:(es.map (·.1.n)).Nodup) (hp:(e,U) ∈ es) (sp:Span R ks ρ m t e.n e.ws.length B fr) (eU:usedL B fr=asI U) (ew:zAs R ks ρ B 0 e.ws.length=e.ws)
  (off:∀ j:Int,j ∉ B→zAt R ks' ρ' (.int j)=zAt R ks ρ (.int j)) (wd:∀ i,i < 16 * B.length→wAt R ks' ρ' B i=if bg≤i∧i < bg + fs.length then fs.getD (i - bg) 0 else wAt R ks ρ B i) (hg:bg + fs.length≤e.ws.length) (hf:∀ x ∈ fs,0≤x∧x≤999999999)
  (en:e'.n=e.n) (ek:e'.kind=e.kind) (ews:e'.ws=e.ws.take bg ++ (fs ++ e.ws.drop (bg + fs.length))):Side R ks' ρ' m t (putE es e' U) L:=by
 have hml:=zRd g
 obtain ⟨bn,bi⟩:=h.blk g hp
 obtain ⟨_,n2,_⟩:=List.nodup_append.mp h.all
 obtain ⟨_,n4,n5⟩:=List.nodup_append.mp n2
 have inU:∀ x ∈ B,∃ i ∈ U,x=(i:Int):=fun x hx=>by
  have:=zDf (fr:=fr) hx
  rw [eU] at this
  unfold asI at this
  obtain ⟨i,hi,rfl⟩:=List.mem_map.mp this
  exact ⟨i,hi,rfl⟩
 have low:∀ j:Int,j < zI m t→zAt R ks' ρ' (.int j)=zAt R ks ρ (.int j):=fun j hj=>off j fun hx=>by
  obtain ⟨i,hi,rfl⟩:=inU j hx
  have:=(bi i hi).1
  omega
 have nw:∀ n:Nat,(n:Int)≤2 * t - 1→zb R ks' ρ' m n=zb R ks ρ m n:=fun n hn=>by
  unfold zb
  rw [low _ (zC1 g hn).2.1]
 refine h.put nd hp en ((h.nd _ hp).words sp eU ew bn (fun i hi=>(bi i hi).1) g off wd hg hf en ek ews) (fun p hq hn=>(h.nd p hq).frame (nw _ (h.nd p hq).hi) fun i hi=>off _ fun hx=>?_) (fun j _ hj2=>nw j hj2) ?_
 ·obtain ⟨j,hj,e⟩:=inU _ hx
  rw [show j=i by omega] at hj
  exact flat_dis n4 hq hp hn hi hj
 ·rw [zQ1 fun i hi=>?_]
  unfold mw
  rw [low _ (by obtain ⟨g1,g2,g3,g4,g5⟩:=g;unfold zI zP;omega)]
end
end
end K14
end
section
namespace K14
open PySem L2 BK
section
variable {P:Program}{w:World}{K:PySem.W.Frag}{mg:Str→Option Value}{base:Heap}{f:Addr}{fd:FuncData}{a:Ad}
structure Whole (a:Ad) (H:Hp) (d kr y kd:Addr) (S:DS) (m t:Int) (es:List (Kpt × List Nat)):Prop where
 dk:zDk a.cDisk H d kr S
 lay:LayAt a.cLayout H y m t
 good:zFw m t
 len:(S.R.length:Int)=m
 go:S.l=none
 kp:KpAt H kd (es.map (·.1))
 si:Side S.R [] r0 m t es []
 m40:m≤40
 t2:t=2
 al:∀ n:Nat,1≤n→n≤3→∃ p ∈ es,p.1.n=n
theorem Whole.same {H H':Hp}{d kr y kd:Addr}{S:DS}{m t:Int}{es:List (Kpt × List Nat)}(x:Whole a H d kr y kd S m t es) (s:Same H H'):Whole a H' d kr y kd S m t es :=
 ⟨x.dk.same s,x.lay.same s,x.good,x.len,x.go,x.kp.same s,x.si,x.m40,x.t2,x.al⟩
theorem Mp.frz {H:Hp}{b d kr nr y kd:Addr}{S:DS}{ks:List Int}{ρ:Int→List Int}{m t:Int}{kv:List (Key × V)}(x:Mp a H b d kr nr y S ks ρ m t) (e:H kd=some (.dK kv)) (kn:kd≠nr) (o:HO):Mp a (upd H kd o) b d kr nr y S ks ρ m t:=by
 obtain ⟨bx,hb⟩:=x.bat.ex
 obtain ⟨yx,hy⟩:=x.lay
 have c:Chg [kd] H (upd H kd o):=(Chg.of (Same.refl _)).upd (by simp) _
 have off':∀ {r:Addr}{o:HO},H r=some o→(∀ xs,o≠.dK xs)→r ∉ [kd]:=fun e' no=>by
  simp only [List.mem_singleton];exact ze e' e (no _)
 exact ⟨x.bat.chg c (off' hb fun _ z=>by cases z) (by simpa using Ne.symm kn) (fun u hu=>by rw [List.mem_singleton.mp hu];exact x.bat.ho.offo e fun row _ z=>by cases z),zFv x.dk ⟨_,e⟩ c,x.lay.chg c (off' hy fun _ z=>by cases z),x.good,x.len,x.few⟩
inductive spHolds' (a:Ad) (vs:List V) (H:Hp) (Q:VK):Prop
 | mk:∀ (d kr y kd:Addr) (S:DS) (m t:Int) (es:List (Kpt × List Nat)),(vs=[.ref d,.ref y,.ref kd])→(Whole a H d kr y kd S m t es)→(∀ H',Same H H'→Q (.bl true) H')→spHolds' a vs H Q
def zJe (K:PySem.W.Frag) (a:Ad):Sp:=fun vs H Q _=>spHolds' a vs H Q
theorem zHj (F:Fun K "_law_holds" "_law_holds" zA4 f fd) (T:Txt K mg a) (M_Batch___init__:Mf P w K mg base (CXE P w) 1 a.fBatch_init ["self", "disk"] (zFb K a)) (D_free_blocks:Df P w K mg base (CXE P w) 6 "free_blocks" ["batch", "layout"] (zB5 K a)) (D_words_of:Df P w K mg base (CXE P w) 7 "words_of" ["batch", "layout", "node", "begin", "count"] (zDr K a)) (D_used_by:Df P w K mg base (CXE P w) 7 "used_by" ["batch", "layout", "node"] (zEx K a)):FnOk P w K mg base (CXE P w) 8 f fd ["_law_disk", "_law_layout", "_law_kept"] (zJe K a):=by
 obtain ⟨_,GBatch_init,bBatch_init⟩:=M_Batch___init__
 obtain ⟨_,_,Gfree_blocks,bfree_blocks,kfree_blocks,mfree_blocks⟩:=D_free_blocks
 obtain ⟨_,_,Gwords_of,bwords_of,kwords_of,mwords_of⟩:=D_words_of
 obtain ⟨_,_,Gused_by,bused_by,kused_by,mused_by⟩:=D_used_by
 have nd:=sc__law_holds.nd
 refine F.okE sc__law_holds (fun vs H Q E h=>?_) (fun cdv A outer s H vs Q E hr hA h=>?_)
 ·obtain ⟨d,kr,y,kd,S,m,t,es,rfl,_⟩:=h
  rfl
 obtain ⟨d,kr,y,kd,S,m,t,es,rfl,X,q⟩:=h
 refine ⟨_,(pss_cons (ps_set (i:=3) nd rfl (by first|exact Or.inl rfl|exact Or.inr rfl) (zFh T.mkBatch GBatch_init (hr.mono (by decide)) rfl T.mBatch bBatch_init .nil (zE (fun _ _ _ h=>h)) (zA (pv 0) zC) (hcm:=(.inr hA))))
  (pss_cons (ps_set (i:=4) nd rfl (by first|exact Or.inl rfl|exact Or.inr rfl) (zH Gfree_blocks (hr.mono (by decide)) rfl mfree_blocks kfree_blocks bfree_blocks .nil (zE (fun _ _ _ h=>h)) (zA (pv 3) (zA (pv 1) zC)) (hcm:=(.inr hA))))
  (pss_cons (zP9 (zCk PassesOwn.leaving rfl (zMs (pv 2)) (zx (i:=5) nd rfl (by first|exact Or.inl rfl|exact Or.inr rfl)) (pss_cons (zAp (zf (zMv (K:=K) rfl hr.units) (zH Gwords_of (hr.mono (by decide)) rfl mwords_of kwords_of bwords_of .nil (zE (fun _ _ _ h=>h)) (zA (pv 3) (zA (pv 1) (zA (pv 5) (zA zM (zA (zQ (zX (K:=K) rfl) rfl T.len zA0 (zA (zEl (zHr hr) (pv 2) (pv 5) (fun _ _=>rfl)) zC)) zC))))) (hcm:=(.inr hA))) (zEl (zHr hr) (pv 2) (pv 5) (fun _ _=>rfl)) (zu _)) (zG (zV zIb)) zU)
  (zG (zT (zIa (K:=K) rfl PySem.F.plainAttrs_list PySem.F.slot_list_extend PySem.F.type_list_extend zIn (pv 4) (zA (zH Gused_by (hr.mono (by decide)) rfl mused_by kused_by bused_by .nil (zE (fun _ _ _ h=>h)) (zA (pv 3) (zA (pv 1) (zA (pv 5) zC))) (hcm:=(.inr hA))) zC)))))))
  (zG (zV (zHg (zQi (K:=K) rfl hr.units) (zQ L2.call_sortL rfl T.sorted zIz (zA (pv 4) zC)) (zHf hA rfl T.list rfl T.range (zA (zS (K:=K) rfl (pv 1) rfl) (zA (zS (K:=K) rfl (pv 1) rfl) zC))) (zu _))))))),?_⟩
 obtain ⟨g1,g2,g3,g4,g5⟩:=id X.good
 have hd17:17≤zI m t:=by unfold zI zP;omega
 have I:=X.si
 have pl:=I.pm.length_eq
 rw [List.nil_append,List.length_append,List.length_map,List.length_range] at pl
 refine seq_hide fun TT hT=>?_
 refine ⟨_,rfl,fun b bx nb nbx nebx=>⟨b,bx,d,rfl,zB,fun nr H1 nnr c1 B1=>⟨rfl,?_⟩⟩⟩
 have s1a:Same H (upd (upd H bx (.own b)) b (.ins a.cBatch bx [])):=fun u o e=>by
  rw [upd_ne (zJ e nb),upd_ne (zJ e nbx)]
  exact e
 have s1:Same H H1:=zv s1a c1 (by simp [nb])
 have M1:Mp a H1 b d kr nr y S [] r0 m t:=⟨B1 _ _,X.dk.same s1,X.lay.same s1,X.good,X.len,by decide⟩
 have X1:=X.same s1
 have kn:kd≠nr:=zJ X.kp.d (s1a.free nnr)
 clear s1a c1 B1 nb nbx nebx nnr
 subst hT
 refine nx_hide fun TT hT=>?_
 refine ⟨_,rfl,_,rfl,b,d,kr,nr,y,S,[],r0,m,t,rfl,M1,fun bl H2 nbl s2 hbl=>?_⟩
 rw [zQ8] at hbl
 subst hT
 refine nx_hide fun TT hT=>?_
 refine ⟨_,rfl,kd,_,rfl,s2 _ _ X1.kp.d,fun od=>?_⟩
 have hz:=zB (H:=H1) (a:=kd) (o:=.frz od (.dK (zAi (es.map (·.1)))))
 have MZ:=M1.frz X1.kp.d kn (.frz od (.dK (zAi (es.map (·.1)))))
 have oz:∀ b o,b≠kd→H1 b=some o→(upd H1 kd (.frz od (.dK (zAi (es.map (·.1)))))) b=some o:=fun b o ne e=>by rw [upd_ne ne];exact e
 have zo:∀ b o,b≠kd→H1 b=o→(upd H1 kd (.frz od (.dK (zAi (es.map (·.1)))))) b=o:=fun b o ne e=>by rw [upd_ne ne];exact e
 have nbk:bl≠kd:=Ne.symm (zJ X1.kp.d nbl)
 have nbz:=zo bl _ nbk nbl
 have sz:Same (upd H1 kd (.frz od (.dK (zAi (es.map (·.1)))))) (upd H2 kd (.frz od (.dK (zAi (es.map (·.1)))))):=fun u o e=>by
  by_cases z:u=kd
  ·rw [z,zB] at e ⊢;exact e
  ·rw [upd_ne z] at e ⊢;exact s2 _ _ e
 have hbl3:(upd H2 kd (.frz od (.dK (zAi (es.map (·.1)))))) bl=some (.lst ((asI (freeL S.R [] r0 m.toNat)).map V.int)):=by rw [upd_ne nbk];exact hbl
 have wz:∀ e ∈ es.map (·.1),(upd H1 kd (.frz od (.dK (zAi (es.map (·.1)))))) e.wl=some (.lst (e.ws.map V.int)):=fun e he=>oz _ _ (ze (X1.kp.at' e he).1 X1.kp.d (fun z=>by cases z)) (X1.kp.at' e he).1
 have backH:∀ H',Same (upd H1 kd (.frz od (.dK (zAi (es.map (·.1)))))) H'→Same H (upd H' kd (.dK (zAi (es.map (·.1))))):=fun H' s' u o e=>by
  by_cases z:u=kd
  ·rw [z,X.kp.d] at e;rw [z,zB];exact e
  ·rw [upd_ne z];exact s' _ _ (oz _ _ z (s1 _ _ e))
 have hkd2:=s2 _ _ X1.kp.d
 have ndE:(es.map (·.1.n)).Nodup:=by have:=X.kp.nd;rw [List.map_map] at this;exact this
 generalize upd H1 kd (.frz od (.dK (zAi (es.map (·.1)))))=HZ at hz MZ nbz sz wz backH
 clear oz zo X1 M1 hbl nbl
 generalize upd H2 kd (.frz od (.dK (zAi (es.map (·.1)))))=H3 at sz hbl3 ⊢
 refine zO9 (fun i σ' H'=>∃ o5:Option V,σ'=[some (.ref d),some (.ref y),some (.ref kd),some (.ref b),some (.ref bl),o5]∧Same HZ H'∧H' bl=some (.lst ((asI (freeL S.R [] r0 m.toNat ++ ((es.take i).map (·.2)).flatten)).map V.int)))
  ⟨none,rfl,sz,by rw [List.take_zero];show H3 bl=some (.lst ((asI (freeL S.R [] r0 m.toNat ++ [])).map V.int));rw [List.append_nil];exact hbl3⟩ (fun i σ' H' _ ⟨_,_,s',_⟩=>s' _ _ hz) ?_ ?_
 ·rintro i k v σ' H4 hk ⟨o5,rfl,s4,hb4⟩
  obtain ⟨⟨e,U⟩,hpi,rfl⟩ : ∃ p:Kpt × List Nat,es[i]? = some p∧k=Sum.inl (p.1.n:Int):=by
   unfold zAi at hk
   rw [List.getElem?_map,List.getElem?_map] at hk
   cases hx:es[i]? with
   | none=>rw [hx] at hk;cases hk
   | some p=>rw [hx] at hk;cases hk;exact ⟨p,rfl,rfl⟩
  clear hk
  have hp:(e,U) ∈ es:=List.mem_of_getElem? hpi
  have he:e ∈ es.map (·.1):=List.mem_map.mpr ⟨_,hp,rfl⟩
  have N:=I.nd _ hp
  dsimp only at N
  obtain ⟨B,fr,sp,eU,ew⟩:=N.sp
  have few:=sp.few
  have M4:=MZ.same s4
  have dg:∀ {H':Hp},Same HZ H'→DGet H' kd (.int (e.n:Int)) (some (.ref e.wl)):=fun s'=>.inl ⟨_,Sum.inl (e.n:Int),.inr ⟨od,s' _ _ hz⟩,rfl,(zG0 X.kp.nd he).symm⟩
  have lowB:∀ x ∈ B,0≤x∧x < m:=fun x hx=>by
   have h:=zDf (fr:=fr) hx
   rw [eU] at h
   unfold asI at h
   obtain ⟨j,hj,rfl⟩:=List.mem_map.mp h
   have:=I.in' (by omega) g5 (List.mem_append_right _ (List.mem_append_right _ (List.mem_flatten.mpr ⟨_,List.mem_map_of_mem hp,hj⟩)))
   omega
  show (zLr 5) (.int (e.n:Int)) _ _ _
  refine ⟨_,rfl,_,rfl,_,rfl,_,rfl,_,rfl,kd,_,rfl,dg s4,e.wl,_,rfl,.inl (SqL.of (s4 _ _ (wz e he))),b,d,kr,nr,y,S,[],r0,m,t,e.n,e.ws.length,B,fr,0,_,rfl,M4,sp,lowB,.inr ⟨0,e.ws.length,rfl,by rw [List.length_map],by omega,fun p5 H5 np5 s5 hp5=>?_⟩⟩
  rw [ew] at hp5
  have s45:=s4.trans s5
  refine ⟨_,rfl,_,rfl,kd,_,rfl,dg s45,.list (e.ws.map PyData.int),.list (e.ws.map PyData.int),.lst (SqL.of hp5) (zCz _),.lst (SqL.of (s45 _ _ (wz e he))) (zCz _),PySem.W.ke_shaped_ints _,PySem.W.ke_shaped_ints _,_,rfl,iteF' (by rw [zHu];simp) ?_⟩
  have hb5:=s5 _ _ hb4
  refine ⟨_,rfl,.inl ⟨rfl,_,SqL.of hb5⟩,_,rfl,_,rfl,_,rfl,b,d,kr,nr,y,S,[],r0,m,t,e.n,e.ws.length,B,fr,rfl,MZ.same s45,sp,fun p6 H6 np6 s6 hp6=>?_⟩
  rw [eU] at hp6
  have hb6:=s6 _ _ hb5
  obtain ⟨hi,ei⟩:=List.getElem?_eq_some_iff.mp hpi
  have et:((es.take (i + 1)).map (·.2)).flatten=((es.take i).map (·.2)).flatten ++ U:=by
   rw [List.take_add_one,hpi,List.map_append,List.flatten_append]
   show _ ++ (U ++ [])=_
   rw [List.append_nil]
  have hlen:((es.take i).map (·.2)).flatten.length + U.length≤(es.map (·.2)).flatten.length:=by
   have h1:(es.map (·.2)).flatten=((es.take (i + 1)).map (·.2)).flatten ++ ((es.drop (i + 1)).map (·.2)).flatten:=by
    rw [← List.flatten_append,← List.map_append,List.take_append_drop]
   rw [h1,et,List.length_append,List.length_append]
   omega
  refine ⟨bl,p6,_,_,rfl,rfl,hb6,hp6,small (by rw [List.length_map,List.length_map,zJ6,zJ6,List.length_append];omega),?_⟩
  rw [← List.map_append,zQ9]
  refine ⟨_,rfl,fun u o e'=>?_,?_⟩
  ·rw [upd_ne (zJ e' nbz)]
   exact s6 _ _ (s45 _ _ e')
  ·rw [zB,et,List.append_assoc]
 ·rintro σ' H4 ⟨o5,rfl,s4,hb4⟩
  have hle:(zAi (es.map (·.1))).length=es.length:=by unfold zAi;rw [List.length_map,List.length_map]
  rw [hle,List.take_length] at hb4
  refine ⟨kd,od,_,s4 _ _ hz,hkd2,?_⟩
  have sB:=backH H4 s4
  have hb5:(upd H4 kd (.dK (zAi (es.map (·.1))))) bl=some (.lst ((asI (freeL S.R [] r0 m.toNat ++ (es.map (·.2)).flatten)).map V.int)):=by rw [upd_ne nbk];exact hb4
  generalize upd H4 kd (.dK (zAi (es.map (·.1))))=H5 at sB hb5 ⊢
  clear hb4 s4 backH wz sz nbz MZ hz hbl3
  obtain ⟨yx,hy⟩:=X.lay.same sB
  have P1:=I.pm
  rw [List.nil_append] at P1
  generalize freeL S.R [] r0 m.toNat ++ (es.map (·.2)).flatten=Z at P1 hb5
  subst hT
  refine ⟨_,rfl,bl,_,rfl,SqL.of hb5,fun l5 ns m5 perm srt=>?_⟩
  have w5:=zF m5 (.lst (ns.map V.int))
  have h5:=zB (H:=H5) (a:=l5) (o:=.lst (ns.map V.int))
  have hy5:=w5 _ _ hy
  have s5:=sB.trans w5
  generalize upd H5 l5 (.lst (ns.map V.int))=H6 at w5 h5 hy5 s5 ⊢
  refine ⟨_,rfl,y,a.cLayout,yx,_,_,rfl,hy5,T.clLayout,T.n_data_at,rfl,_,rfl,y,a.cLayout,yx,_,_,rfl,hy5,T.clLayout,T.n_many,rfl,_,_,rfl,⟨by omega,by omega,by omega,by omega⟩,by omega,fun l6 m6=>?_⟩
  have w6:=zF m6 (.lst ((List.range (m - zI m t).toNat).map fun (k:Nat)=>V.int (zI m t + k)))
  have h6:=zB (H:=H6) (a:=l6) (o:=.lst ((List.range (m - zI m t).toNat).map fun (k:Nat)=>V.int (zI m t + k)))
  have eq:ns=(List.range (m - zI m t).toNat).map fun (k:Nat)=>zI m t + k:=by
   refine zK8 (perm.trans ?_) srt ?_
   ·have:=P1.map (fun i:Nat=>(i:Int))
    rw [List.map_map] at this
    refine this.trans (List.Perm.of_eq ?_)
    rw [show m.toNat - (zI m t).toNat=(m - zI m t).toNat by omega]
    refine List.map_congr_left fun k _=>?_
    show (((zI m t).toNat + k:Nat):Int)=_
    omega
   ·rw [List.pairwise_map]
    exact List.pairwise_lt_range.imp fun h=>by omega
  have e6:((List.range (m - zI m t).toNat).map fun (k:Nat)=>V.int (zI m t + k))=ns.map V.int:=by rw [eq,List.map_map];rfl
  rw [e6] at h6 w6 ⊢
  refine ⟨.list (ns.map PyData.int),.list (ns.map PyData.int),.lst (SqL.of (w6 _ _ h5)) (zCz _),.lst (SqL.of h6) (zCz _),PySem.W.ke_shaped_ints _,PySem.W.ke_shaped_ints _,?_⟩
  rw [zHu]
  have:=q _ (s5.trans w6)
  simpa using this
end
end K14
end
section
namespace K14
open PySem L2 BK
section
variable {P:Program}{w:World}{K:PySem.W.Frag}{mg:Str→Option Value}{base:Heap}{f:Addr}{fd:FuncData}{a:Ad}
theorem zJj {rs:List Addr}{row:List Int}(h:rs≠[]):(HO.lst (rs.map V.ref))≠HO.lst (row.map V.int):=by
 intro z
 cases rs with
 | nil=>exact h rfl
 | cons=>cases row with
  | nil=>cases z
  | cons=>cases z
theorem ints_off {H:Hp}{C d kr:Addr}{S:DS}(D:zDk C H d kr S) {r:Addr}{row:List Int}(h:H r=some (.lst (row.map V.int))):r ∉ [d,kr]:=by
 obtain ⟨dx,rs,g1,g2,g3⟩:=D.ex
 have hlo:24≤S.R.length:=D.lo
 have hl:=g3.1
 simp only [List.mem_cons,List.not_mem_nil,or_false,not_or]
 refine ⟨ze h g1 (fun z=>by cases z),ze h g2 fun z=>zJj (fun e=>?_) z.symm⟩
 rw [e] at hl
 simp at hl
 omega
theorem Side.after {R R':List (List Int)}{ks ks':List Int}{ρ ρ':Int→List Int}{m t:Int}{es:List (Kpt × List Nat)}{L:List Nat}(h:Side R ks ρ m t es L) (g:zFw m t) (sa:∀ i:Nat,17≤i→(i:Int) < m→zAt R' ks' ρ' (.int (i:Int))=zAt R ks ρ (.int (i:Int))):Side R' ks' ρ' m t es L:=by
 have hml:=zRd g
 have g':=g
 obtain ⟨g1,g2,g3,g4,g5⟩:=g'
 have hd:17≤zI m t:=by unfold zI zP;omega
 have nw:∀ n:Nat,(n:Int)≤2 * t - 1→zb R' ks' ρ' m n=zb R ks ρ m n:=fun n hn=>by
  have hb:=zC1 g hn
  unfold zb
  rw [sa _ hb.1 hb.2.2.1]
 have fe:freeL R' ks' ρ' m.toNat=freeL R ks ρ m.toNat:=by
  unfold freeL
  refine List.filter_congr fun i hi=>?_
  have:=List.mem_range.mp hi
  unfold mw
  rw [sa _ (by omega) (by unfold zP at hml;omega)]
 refine ⟨fun p hp=>(h.nd p hp).frame (nw _ (h.nd p hp).hi) fun i hi=>?_,fun n n1 n2 hn=>by rw [nw n n2];exact h.no n n1 n2 hn,by rw [fe];exact h.pm⟩
 have:=(h.blk g hp).2 i hi
 exact sa i (by omega) this.2.1
theorem zRa {G:List (Nat × List Int)}(h:G.length≤15):(allOf G).length≤32:=by
 unfold allOf
 split
 ·simp
 ·unfold zDn zA9
  simp only [List.length_append,List.length_map,List.length_range,List.length_cons,List.length_nil]
  omega
theorem zNm:∀ (l1 l2:List Int),l1.Nodup→(∀ x ∈ l1,x ∈ l2)→l1.length≤l2.length
 | [],l2,_,_=>Nat.zero_le _
 | x :: l1,l2,nd,h=>by
  have nd:=List.nodup_cons.mp nd
  have hx:=h x (List.mem_cons_self ..)
  have ih:=zNm l1 (l2.erase x) nd.2 fun z hz=>(List.mem_erase_of_ne (fun e=>nd.1 (by rw [← e];exact hz))).mpr (h z (List.mem_cons_of_mem _ hz))
  rw [List.length_erase_of_mem hx] at ih
  have:=List.length_pos_of_mem hx
  rw [List.length_cons]
  omega
theorem zPa {ks:List Int}{m:Int}{nA fr:Int}{B1 B2:List Int}{g1 g2:Nat}(m40:m≤40) (nd:ks.Nodup) (h:∀ x ∈ ks,(17≤x∧x < zP m)∨x=nA∨x=fr∨(∃ j,g1≤j∧j < g1 + 5∧x=B1.getD j 0)∨∃ j,g2≤j∧j < g2 + 5∧x=B2.getD j 0):ks.length≤15:=by
 refine zNm ks ([17,18,19,nA,fr] ++ ((List.range 5).map fun j=>B1.getD (g1 + j) 0) ++ (List.range 5).map fun j=>B2.getD (g2 + j) 0) nd fun x hx=>?_
 rcases h x hx with z | z | z | ⟨j,j1,j2,z⟩ | ⟨j,j1,j2,z⟩
 ·refine List.mem_append_left _ (List.mem_append_left _ ?_)
  have:x=17∨x=18∨x=19:=by unfold zP at z;omega
  rcases this with z | z | z <;> rw [z] <;> simp
 ·exact List.mem_append_left _ (List.mem_append_left _ (by rw [z];simp))
 ·exact List.mem_append_left _ (List.mem_append_left _ (by rw [z];simp))
 ·exact List.mem_append_left _ (List.mem_append_right _ (List.mem_map.mpr ⟨j - g1,List.mem_range.mpr (by omega),by rw [z,show g1 + (j - g1)=j by omega]⟩))
 ·exact List.mem_append_right _ (List.mem_map.mpr ⟨j - g2,List.mem_range.mpr (by omega),by rw [z,show g2 + (j - g2)=j by omega]⟩)
theorem zR8 {B:List Int}{fr:Int}(nd:(usedL B fr).Nodup):B.Nodup:=by
 unfold usedL at nd
 split at nd
 ·exact nd
 ·have:(B.take 4 ++ B.drop 4).Nodup:=nd.sublist ((List.sublist_append_left (B.take 4) [fr]).append_right (B.drop 4))
  rw [List.take_append_drop] at this
  exact this
theorem putE_1 {es:List (Kpt × List Nat)}{e':Kpt}{U':List Nat}:(putE es e' U').map (·.1)=zCw (es.map (·.1)) e':=by
 unfold putE zCw
 rw [List.map_map,List.map_map]
 refine List.map_congr_left fun p _=>?_
 show (if p.1.n=e'.n then (e',U') else p).1=if p.1.n=e'.n then e' else p.1
 split <;> rfl
theorem zRu {es:List Kpt}{e1 e2:Kpt}(h:e1.n=e2.n):zCw (zCw es e1) e2=zCw es e2:=by
 unfold zCw
 rw [List.map_map]
 refine List.map_congr_left fun x _=>?_
 show (if (if x.n=e1.n then e1 else x).n=e2.n then e2 else (if x.n=e1.n then e1 else x))=if x.n=e2.n then e2 else x
 by_cases c:x.n=e1.n
 ·rw [if_pos c,if_pos h,if_pos (c.trans h)]
 ·rw [if_neg c]
theorem zKk {es:List (Kpt × List Nat)}{e e':Kpt}{U U':List Nat}(h:(e,U) ∈ es) (en:e'.n=e.n):(e',U') ∈ putE es e' U':=List.mem_map.mpr ⟨(e,U),h,if_pos en.symm⟩
theorem Whole.next {H H7 H8:Hp}{b d kr nr y kd:Addr}{S:DS}{m t:Int}{es es':List (Kpt × List Nat)}{e:Kpt}{ks ns:List Int}{ρ:Int→List Int}(X:Whole a H d kr y kd S m t es) (s7:Same H H7) (nb:H b=none) (M:Mp a H7 b d kr nr y S ks ρ m t) (I:Side S.R ks ρ m t es' []) (ee:es'.map (·.1)=zCw (es.map (·.1)) e) (hw:H7 e.wl=some (.lst (e.ws.map V.int))) (hl:e.ws.length≤320)
  (few:ks.length≤15) (so:zK3 ks ns) (c8:Chg [d,kr,b] H7 H8) (D8:zDk a.cDisk H8 d kr (zAk S (allOf (zn ns ρ))).1) :
  H8 kd=some (.dK (zAi (es.map (·.1))))∧Chg [d,kr,kd] H (upd H8 kd (.dK (zAi (zCw (es.map (·.1)) e))))∧Whole a (upd H8 kd (.dK (zAi (zCw (es.map (·.1)) e)))) d kr y kd (zAk S (allOf (zn ns ρ))).1 m t es'∧(zAk S (allOf (zn ns ρ))).1.n≤S.n + 32:=by
 have K7:=X.kp.same s7
 obtain ⟨bx,hb⟩:=M.bat.ex
 obtain ⟨dx,rs,z1,z2,z3⟩:=M.dk.ex
 have off:∀ {r:Addr}{row:List Int},H7 r=some (.lst (row.map V.int))→r ∉ [d,kr,b]:=fun h=>by
  have:=ints_off M.dk h
  simp only [List.mem_cons,List.not_mem_nil,or_false,not_or] at this ⊢
  exact ⟨this.1,this.2,ze h hb (fun z=>by cases z)⟩
 have kd8:H8 kd=some (.dK (zAi (es.map (·.1)))):=c8 _ _ K7.d (by
  simp only [List.mem_cons,List.not_mem_nil,or_false,not_or]
  exact ⟨ze K7.d z1 (fun z=>by cases z),ze K7.d z2 (fun z=>by cases z),ze K7.d hb (fun z=>by cases z)⟩)
 have cu:Chg [kd] H8 (upd H8 kd (.dK (zAi (zCw (es.map (·.1)) e)))):=(Chg.of (Same.refl _)).upd (by simp) _
 have L8:=M.layOff c8
 have sa:∀ i:Nat,17≤i→(i:Int) < m→zAt (zAk S (allOf (zn ns ρ))).1.R [] r0 (.int (i:Int))=zAt S.R ks ρ (.int (i:Int)):=fun i h1 h2=>zGd X.go (fun k hk=>(M.bat.ho.inn k hk).1) few so h1 (by have:=X.len;omega)
 have at8:∀ x ∈ zCw (es.map (·.1)) e,(upd H8 kd (.dK (zAi (zCw (es.map (·.1)) e)))) x.wl=some (.lst (x.ws.map V.int))∧x.ws.length≤320:=fun x hx=>by
  have h7:H7 x.wl=some (.lst (x.ws.map V.int))∧x.ws.length≤320:=by
   rcases put1_mem hx with rfl | hx
   ·exact ⟨hw,hl⟩
   ·exact K7.at' x hx
  have h8:=c8 _ _ h7.1 (off h7.1)
  exact ⟨by rw [upd_ne (ze h8 kd8 (fun z=>by cases z))];exact h8,h7.2⟩
 refine ⟨kd8,fun u o eu hu=>?_,⟨zFv D8 ⟨_,kd8⟩ cu,?_,X.good,by rw [zCt];exact X.len,by rw [zC6 X.go],⟨by rw [ee];exact zB,by rw [ee,zMo];exact X.kp.nd,by rw [ee];exact at8⟩,I.after X.good sa,X.m40,X.t2,fun n n1 n3=>?_⟩,?_⟩
 ·simp only [List.mem_cons,List.not_mem_nil,or_false,not_or] at hu
  rw [upd_ne hu.2.2]
  refine c8 _ _ (s7 _ _ eu) ?_
  simp only [List.mem_cons,List.not_mem_nil,or_false,not_or]
  exact ⟨hu.1,hu.2.1,fun z=>by rw [z,nb] at eu;cases eu⟩
 ·obtain ⟨yx,hy⟩:=id L8
  exact L8.chg cu (by simp only [List.mem_singleton];exact ze hy kd8 (fun z=>by cases z))
 ·obtain ⟨p,hp,ep⟩:=X.al n n1 n3
  have:n ∈ (es'.map (·.1)).map (·.n):=by
   rw [ee,zMo,List.map_map]
   exact List.mem_map.mpr ⟨p,hp,ep⟩
  rw [List.map_map] at this
  obtain ⟨p',hp',ep'⟩:=List.mem_map.mp this
  exact ⟨p',hp',ep'⟩
 ·rw [zC6 X.go]
  have hb:(zn ns ρ).length≤15:=by unfold zn;rw [List.length_map,so.1.length_eq];exact few
  have:=zRa hb
  show S.n + ((allOf (zn ns ρ)).length:Int)≤S.n + 32
  omega
end
end K14
end
section
namespace K14
open PySem L2 BK
section
variable {P:Program}{w:World}{K:PySem.W.Frag}{mg:Str→Option Value}{base:Heap}{f:Addr}{fd:FuncData}{a:Ad}
inductive spDeed' (a:Ad) (vs:List V) (H:Hp) (Q:VK):Prop
 | mk:∀ (d kr y kd:Addr) (S:DS) (m t:Int) (es:List (Kpt × List Nat)) (c:Int),(vs=[.ref d,.ref y,.ref kd,.int c])→(Whole a H d kr y kd S m t es)→(∀ S' es' H',Chg [d,kr,kd] H H'→Whole a H' d kr y kd S' m t es'→S'.n≤S.n + 32→Q (.bl true) H')→spDeed' a vs H Q
def zMe (K:PySem.W.Frag) (a:Ad):Sp:=fun vs H Q _=>spDeed' a vs H Q
theorem zIk (F:Fun K "_law_deed" "_law_deed" zBo f fd) (T:Txt K mg a) (M_Batch___init__:Mf P w K mg base (CXE P w) 1 a.fBatch_init ["self", "disk"] (zFb K a)) (D_sized:Df P w K mg base (CXE P w) 9 "sized" ["batch", "layout", "node", "size"] (zJc K a)) (D__law_drawn:Df P w K mg base CX0 1 "_law_drawn" ["_law_cell", "_law_many"] (zJf K a)) (D_put_words:Df P w K mg base (CXE P w) 7 "put_words" ["batch", "layout", "node", "begin", "words"] (zEg K a)) (D_words_of:Df P w K mg base (CXE P w) 7 "words_of" ["batch", "layout", "node", "begin", "count"] (zDr K a)) (M_Batch_finish:Mf P w K mg base (CXE P w) 8 a.f_finish ["self"] (zDv K a)) (D__law_wants:Df P w K mg base CX0 1 "_law_wants" ["_law_size"] (zJa K a)):FnOk P w K mg base (CXE P w) 10 f fd ["_law_disk", "_law_layout", "_law_kept", "_law_cell"] (zMe K a):=by
 obtain ⟨_,GBatch_init,bBatch_init⟩:=M_Batch___init__
 obtain ⟨_,_,Gsized,bsized,ksized,msized⟩:=D_sized
 obtain ⟨_,_,Gl_drawn,bl_drawn,kl_drawn,ml_drawn⟩:=D__law_drawn
 obtain ⟨_,_,Gput_words,bput_words,kput_words,mput_words⟩:=D_put_words
 obtain ⟨_,_,Gwords_of,bwords_of,kwords_of,mwords_of⟩:=D_words_of
 obtain ⟨_,G_finish,b_finish⟩:=M_Batch_finish
 obtain ⟨_,_,Gl_wants,bl_wants,kl_wants,ml_wants⟩:=D__law_wants
 have nd:=sc__law_deed.nd
 refine F.okE sc__law_deed (fun vs H Q E h=>?_) (fun cdv A outer s H vs Q E hr hA h=>?_)
 ·obtain ⟨d,kr,y,kd,S,m,t,es,c,rfl,_⟩:=h
  rfl
 obtain ⟨d,kr,y,kd,S,m,t,es,c,rfl,X,q⟩:=h
 refine ⟨_,(pss_cons (ps_set (i:=4) nd rfl (by first|exact Or.inl rfl|exact Or.inr rfl) (zFh T.mkBatch GBatch_init (hr.mono (by decide)) rfl T.mBatch bBatch_init .nil (zE (fun _ _ _ h=>h)) (zA (pv 0) zC) (hcm:=(.inr hA))))
  (pss_cons (ps_set (i:=5) nd rfl (by first|exact Or.inl rfl|exact Or.inr rfl) (zO zm zM (zO zB7 (pv 3) zM)))
  (pss_cons (ps_set (i:=6) nd rfl (by first|exact Or.inl rfl|exact Or.inr rfl) (zEl (zHr hr) (pv 2) (pv 5) (fun _ _=>rfl)))
  (pss_cons (ps_set (i:=7) nd rfl (by first|exact Or.inl rfl|exact Or.inr rfl) (zQ (zIw hA) rfl T.max zPr (zA zM (zA (zQ (zEb hA) rfl T.min zK2 (zA zM (zA (zO zm (zQ (zX (K:=K) rfl) rfl T.len zA0 (zA (pv 6) zC)) (zC7 (zAb (K:=K) rfl) (zBb (zA (zO zB7 (zO zBg (pv 3) zM) zM) (zA zM (zA (zO zAg zM (zO zB7 (zO zBg (pv 3) zM) zM)) zC)))) (zO zB7 (zO zBg (pv 3) zM) zM) (fun _ _=>rfl))) zC))) zC))))
  (pss_cons (ps_set (i:=8) nd rfl (by first|exact Or.inl rfl|exact Or.inr rfl) (zQ (zPf hA) rfl T.sum zSj (zA (zQe (zJk (cl:=[("_law_kept", s.heap.objs.size + 1)]) (fj:=[("_law_kept", 2)]) (by exact LcOk.of ["_law_kept"] rfl (by decide +kernel) rfl (by decide +kernel) rfl (fun p h=>(by rw [List.mem_singleton.mp h];rfl)) rfl (by decide +kernel) (fun p h=>(by rw [List.mem_singleton.mp h];exact ⟨rfl,rfl,.inl rfl⟩)) (by decide +kernel)) rfl (zMs (pv 2)) (fun _ _ _=>zGj) (fun _ _ _=>(zH Gl_wants (hr.mono (by decide)) rfl ml_wants kl_wants bl_wants .nil zw (zA (zQ (zX (K:=K) rfl) rfl T.len zA0 (zA (zEl (zHr hr) (pv 1) (pv 0) (fun _ _=>rfl)) zC)) zC))))) zC)))
  (pss_cons (zAp (zf zIe (zO zAg (zH Gl_wants (hr.mono (by decide)) rfl ml_wants kl_wants bl_wants .nil zw (zA (pv 7) zC)) (zH Gl_wants (hr.mono (by decide)) rfl ml_wants kl_wants bl_wants .nil zw (zA (zQ (zX (K:=K) rfl) rfl T.len zA0 (zA (pv 6) zC)) zC))) (zO zAg (zO zAg (zS (K:=K) rfl (pv 1) rfl) (zS (K:=K) rfl (pv 1) rfl)) (pv 8)) (zu _)) (pss_cons (zP8 [] rfl rfl rfl rfl rfl T.mNoRoom T.kNoRoom (fun Ex pn fx xe hfx O=>(zG (zT (zH Gsized (hr.mono (by decide)) rfl msized ksized bsized .nil (zGk O rfl rfl) (zA (pv 4) (zA (pv 1) (zA (pv 5) (zA (pv 7) zC)))) (hcm:=(.inr hA)))))) (fun e c pn=>(zG (zV zIb))))
  (zG (zV zIb))) zU)
  (pss_cons (zT (zH Gsized (hr.mono (by decide)) rfl msized ksized bsized .nil (zE (fun _ _ _ h=>h)) (zA (pv 4) (zA (pv 1) (zA (pv 5) (zA (pv 7) zC)))) (hcm:=(.inr hA))))
  (pss_cons (ps_set (i:=6) nd rfl (by first|exact Or.inl rfl|exact Or.inr rfl) (zO zCn (zk (zi (K:=K) rfl) (pv 6) zBf (zh (pv 7))) (zO zEt (zBb (zA zM zC)) (zO zAg (pv 7) (zQ (zX (K:=K) rfl) rfl T.len zA0 (zA (pv 6) zC))))))
  (pss_cons (ps_set (i:=9) nd rfl (by first|exact Or.inl rfl|exact Or.inr rfl) (zO zB7 (zO zBg (pv 3) zM) (zO zm (pv 7) zM)))
  (pss_cons (ps_set (i:=10) nd rfl (by first|exact Or.inl rfl|exact Or.inr rfl) (zH Gl_drawn (hr.mono (by decide)) rfl ml_drawn kl_drawn bl_drawn .nil zw (zA (pv 3) (zA (zQ (zEb hA) rfl T.min zK2 (zA (zO zAg (pv 7) (pv 9)) (zA zM zC))) zC))))
  (pss_cons (zT (zH Gput_words (hr.mono (by decide)) rfl mput_words kput_words bput_words .nil (zE (fun _ _ _ h=>h)) (zA (pv 4) (zA (pv 1) (zA (pv 5) (zA (pv 9) (zA (pv 10) zC))))) (hcm:=(.inr hA))))
  (pss_cons (ps_set (i:=6) nd rfl (by first|exact Or.inl rfl|exact Or.inr rfl) (zO zCn (zO zCn (zk (zi (K:=K) rfl) (pv 6) zBf (zh (pv 9))) (pv 10)) (zk (zi (K:=K) rfl) (pv 6) (zh (zO zm (pv 9) (zQ (zX (K:=K) rfl) rfl T.len zA0 (zA (pv 10) zC)))) zBf)))
  (pss_cons (zAp (zf (zMv (K:=K) rfl hr.units) (zH Gwords_of (hr.mono (by decide)) rfl mwords_of kwords_of bwords_of .nil (zE (fun _ _ _ h=>h)) (zA (pv 4) (zA (pv 1) (zA (pv 5) (zA zM (zA (pv 7) zC))))) (hcm:=(.inr hA))) (pv 6) (zu _)) (zG (zV zIb)) zU)
  (pss_cons (zAp (zf zId (zO zB7 (pv 3) zM) zM (zu _)) (pss_cons (zT (zBq (pv 4) T.clBatch T.m_finish G_finish (hr.mono (by decide)) b_finish .nil (zE (fun _ _ _ h=>h)) (hcm:=(.inr hA))))
  (zG (zMq (zHr hr) (pv 2) (pv 5) (pv 6) rfl))) zU)
  (zG (zV zIb)))))))))))))))),?_⟩
 have g:=X.good
 obtain ⟨g1,g2,g3,g4,g5⟩:=id g
 have hml:=zRd g
 have hd17:17≤zI m t:=by unfold zI zP;omega
 have I:=X.si
 have ndE:(es.map (·.1.n)).Nodup:=by have:=X.kp.nd;rw [List.map_map] at this;exact this
 have fewE:=I.few g ndE
 have hroom:=I.room g
 refine seq_hide fun TT hT=>?_
 refine ⟨_,rfl,fun b bx nb nbx nebx=>⟨b,bx,d,rfl,zB,fun nr H1 nnr c1 B1=>⟨rfl,?_⟩⟩⟩
 have s1a:Same H (upd (upd H bx (.own b)) b (.ins a.cBatch bx [])):=fun u o e=>by
  rw [upd_ne (zJ e nb),upd_ne (zJ e nbx)]
  exact e
 have s1:Same H H1:=zv s1a c1 (by simp [nb])
 have fn:H nr=none:=s1a.free nnr
 have M1:Mp a H1 b d kr nr y S [] r0 m t:=⟨B1 _ _,X.dk.same s1,X.lay.same s1,X.good,X.len,by decide⟩
 have X1:=X.same s1
 have kn:kd≠nr:=zJ X.kp.d fn
 clear s1a c1 B1 nbx nebx nnr
 obtain ⟨n,en0,hn1,hn3⟩ : ∃ n:Nat,1 + c % 3=(n:Int)∧1≤n∧n≤3:=⟨(1 + c % 3).toNat,by omega,by omega,by omega⟩
 obtain ⟨⟨e,U⟩,hp,en⟩:=X.al n hn1 hn3
 dsimp only at en
 subst hT
 refine nx_hide fun TT hT=>?_
 refine ⟨_,rfl,_,_,rfl,rfl,(by show (0:Int) < 3;decide),_,_,rfl,rfl,?_⟩
 try dsimp (config:={ proj:=false,iota:=false,eta:=false,zeta:=false }) only
 rw [en0,← en]
 clear en0
 have he:e ∈ es.map (·.1):=List.mem_map.mpr ⟨_,hp,rfl⟩
 subst hT
 refine nx_hide fun TT hT=>?_
 refine ⟨_,rfl,_,rfl,kd,_,rfl,X1.kp.get he,?_⟩
 obtain ⟨k2,k3⟩:=X1.kp.at' e he
 obtain ⟨dv,edv,hdv1,hdv2⟩ : ∃ dv:Int,atI [V.int (c / 3 % 65),V.int 64,V.int (0 - c / 3 % 40)] (c / 195 % 3)=some (.int dv)∧-39≤dv∧dv≤64:=by
  rcases (show c / 195 % 3=0∨c / 195 % 3=1∨c / 195 % 3=2 by omega) with z | z | z <;> rw [z]
  ·exact ⟨_,rfl,by omega,by omega⟩
  ·exact ⟨64,rfl,by omega,by omega⟩
  ·exact ⟨_,rfl,by omega,by omega⟩
 subst hT
 refine nx_hide fun TT hT=>?_
 refine ⟨_,rfl,e.wl,_,rfl,.inl (SqL.of k2),_,rfl,_,_,rfl,rfl,⟨by decide,by decide⟩,_,_,rfl,rfl,(by show (0:Int) < 65;decide),_,rfl,_,_,rfl,rfl,⟨by decide,by decide⟩,_,_,rfl,rfl,(by show (0:Int) < 40;decide),_,_,rfl,rfl,(by show 3≤sizeLine;decide),fun l1 m1=>?_⟩
 have w1:=zF m1 (.lst [V.int (c / 3 % 65),V.int 64,V.int (0 - c / 3 % 40)])
 refine ⟨_,rfl,_,_,rfl,rfl,⟨by decide,by decide⟩,_,_,rfl,rfl,(by show (0:Int) < 3;decide),l1,_,_,_,rfl,rfl,SqL.of zB,edv,_,_,rfl,rfl,_,_,rfl,_,_,rfl,?_⟩
 rw [List.length_map]
 obtain ⟨k,ek,hk,hk64⟩ : ∃ k:Nat,(if (if (e.ws.length:Int) + dv < 320 then (e.ws.length:Int) + dv else 320) > 0 then (if (e.ws.length:Int) + dv < 320 then (e.ws.length:Int) + dv else 320) else 0)=(k:Int)∧k≤320∧k≤e.ws.length + 64:=by
  refine ⟨(if (if (e.ws.length:Int) + dv < 320 then (e.ws.length:Int) + dv else 320) > 0 then (if (e.ws.length:Int) + dv < 320 then (e.ws.length:Int) + dv else 320) else 0).toNat,?_,?_,?_⟩ <;> split <;> split <;> omega
 rw [ek]
 clear ek edv hdv1 hdv2
 have s2:=s1.trans w1
 have X2:=X1.same w1
 have M2:=M1.same w1
 replace k2:=w1 _ _ k2
 generalize upd H1 l1 (.lst [V.int (c / 3 % 65),V.int 64,V.int (0 - c / 3 % 40)])=H2 at s2 X2 M2 k2 ⊢
 clear w1 m1 X1 M1 s1
 subst hT
 refine nx_hide fun TT hT=>?_
 refine ⟨_,rfl,kd,_,rfl,X2.kp.d,fun od=>?_⟩
 have hf:=zB (H:=H2) (a:=kd) (o:=.frz od (.dK (zAi (es.map (·.1)))))
 have old:∀ b o,b≠kd→H2 b=some o→(upd H2 kd (.frz od (.dK (zAi (es.map (·.1)))))) b=some o:=fun b o ne e=>by rw [upd_ne ne];exact e
 have nt:∀ x ∈ es.map (·.1),x.wl≠kd:=fun x h=>ze (X2.kp.at' x h).1 X2.kp.d (fun z=>by cases z)
 try dsimp (config:={ proj:=false,iota:=false,eta:=false,zeta:=false }) only
 refine zQr (tc:=zOc) (It0:=Itd kd od (zAi (es.map (·.1)))) ((es.map (·.1)).map fun e:Kpt=>V.int (e.n:Int)) (by rw [List.length_map,List.length_map];omega) (fun i H' hi s'=>⟨s' _ _ hf,by simpa [zAi] using hi⟩) (fun H' s'=>⟨s' _ _ hf,by simp [zAi]⟩) (fun i H1 x H' hi s' yl=>?_) (fun _=>true) (kf (es.map (·.1))) (fun x H' Qf _ _ k=>k H' (Same.refl _)) (fun x H' Qf hx _ s' k=>?_) fun acc H3 na s3 hacc=>?_
 ·obtain ⟨rfl,k,v,e1,rfl⟩:=yl
  refine ⟨rfl,?_⟩
  unfold zAi at e1
  rw [List.getElem?_map] at e1 ⊢
  cases hx:(es.map (·.1))[i]? with
  | none=>rw [hx] at e1;cases e1
  | some e=>rw [hx] at e1;cases e1;rfl
 ·obtain ⟨x,hm,rfl⟩:=List.mem_map.mp hx
  obtain ⟨z1,z2⟩:=X2.kp.at' x hm
  refine ⟨_,rfl,_,rfl,kd,V.ref x.wl,rfl,.inl ⟨_,Sum.inl (x.n:Int),.inr ⟨od,s' _ _ hf⟩,rfl,(zG0 X2.kp.nd hm).symm⟩,x.wl,_,rfl,.inl (SqL.of (s' _ _ (old _ _ (nt x hm) z1))),(x.ws.map V.int).length,rfl,?_⟩
  have kk:=k H' (Same.refl _)
  rw [show kf (es.map (·.1)) (V.int (x.n:Int))=V.int ((cuN (x.ws.map V.int).length:Nat):Int) by show V.int (wOf (es.map (·.1)) x.n)=_;rw [zLz X2.kp.nd hm,List.length_map]] at kk
  exact kk
 have el:(((es.map (·.1)).map fun e:Kpt=>V.int (e.n:Int)).filter (fun _=>true)).map (kf (es.map (·.1)))=((es.map (·.1)).map fun e:Kpt=>((cuN e.ws.length:Nat):Int)).map V.int:=by
  have nd':=X2.kp.nd
  generalize es.map (·.1)=Es at nd'
  rw [List.filter_eq_self.mpr (fun _ _=>rfl),List.map_map,List.map_map]
  exact List.map_congr_left fun (x:Kpt) h=>by show V.int (wOf Es x.n)=_;rw [zLz nd' h];rfl
 rw [el] at hacc
 have nak:acc≠kd:=fun z=>by rw [z,hf] at na;cases na
 have sH:Same H2 (upd H3 kd (.dK (zAi (es.map (·.1))))):=fun b o e=>by
  by_cases hb:b=kd
  ·subst hb;rw [X2.kp.d] at e;cases e;exact zB
  ·rw [upd_ne hb];exact s3 _ _ (old b o hb e)
 refine ⟨kd,od,_,s3 _ _ hf,X2.kp.d,acc,_,rfl,SqL.of (by rw [upd_ne nak];exact hacc),?_⟩
 replace s2:=s2.trans sH
 replace X2:=X2.same sH
 replace M2:=M2.same sH
 replace k2:=sH _ _ k2
 generalize upd H3 kd (.dK (zAi (es.map (·.1))))=H4 at s2 X2 M2 k2 sH ⊢
 clear el hacc nak old nt hf sH s3 na
 show TT.nx _ H4
 subst hT
 have N:=I.nd _ hp
 dsimp only at N
 obtain ⟨B,fr,sp,eU,ew⟩:=N.sp
 obtain ⟨bn,bi⟩:=I.blk g hp
 dsimp only at bn bi
 have uLen:=I.len hp
 dsimp only at uLen
 have bi':∀ i ∈ U,zI m t≤(i:Int)∧(i:Int) < m∧mw S.R [] r0 i≠0:=fun i hi=>⟨(bi i hi).1,(bi i hi).2.1,(bi i hi).2.2.1⟩
 obtain ⟨yx,hy⟩:=X2.lay
 refine nx_hide fun TT hT=>?_
 refine ⟨_,rfl,k,rfl,_,rfl,e.wl,_,rfl,.inl (SqL.of k2),(e.ws.map V.int).length,rfl,_,_,rfl,rfl,_,rfl,y,a.cLayout,yx,_,_,rfl,hy,T.clLayout,T.n_many,rfl,_,rfl,y,a.cLayout,yx,_,_,rfl,hy,T.clLayout,T.n_data_at,rfl,_,_,rfl,rfl,_,rfl,_,_,rfl,rfl,_,_,rfl,rfl,_,rfl,?_⟩
 rw [List.length_map]
 by_cases hR:m - zI m t - zGy (es.map (·.1)) < (cuN k:Int) - (cuN e.ws.length:Int)
 ·refine iteT' (decide_eq_true hR) ?_
  refine seq_hide fun TU hU=>?_
  refine ⟨_,rfl,_,rfl,_,rfl,_,rfl,b,d,kr,nr,y,S,[],r0,m,t,e.n,e.ws.length,B,fr,_,U,rfl,M2,sp,eU,bn,bi',I.free g,.inr (.inr (.inl ⟨k,rfl,hk,?_,?_,fun ks' ρ' H5 c5 M5=>⟨⟨_,rfl,T.sNoRoom_NoRoom⟩,fun ex nex=>?_⟩⟩))⟩
  ·simp only [List.length_nil] at hroom;omega
  ·simp only [List.length_nil] at hroom;omega
  have s5:Same H (upd H5 ex (.exc (.ref a.cNoRoom))):=(zv s2 c5 (by simp [fn])).trans (zF nex _)
  subst hU hT
  exact q S es _ (Chg.of s5) (X.same s5) (by omega)
 refine iteF' (decide_eq_false hR) ?_
 have hc:cuN k≤U.length∨cuN k - U.length≤(freeL S.R [] r0 m.toNat).length:=by simp only [List.length_nil] at hroom;omega
 subst hT
 refine nx_hide fun TT hT=>?_
 refine ⟨_,rfl,_,rfl,_,rfl,_,rfl,b,d,kr,nr,y,S,[],r0,m,t,e.n,e.ws.length,B,fr,_,U,rfl,M2,sp,eU,bn,bi',I.free g,.inr (.inr (.inr ⟨k,rfl,hk,hc,fun ks1 ρ1 H5 c5 of5 M5 z=>?_⟩))⟩
 have s5:Same H H5:=zv s2 c5 (by simp [fn])
 have X5:=X.same s5
 obtain ⟨q2,q3⟩:=X5.kp.at' e he
 clear M2 X2 c5 of5 s2 k2 k3 hR hy
 subst hT
 refine nx_hide fun TT hT=>?_
 refine ⟨_,rfl,_,rfl,_,rfl,e.wl,_,rfl,SqL.of q2,fun l3 m3=>?_⟩
 rw [zD9,← List.map_take]
 refine ⟨(by show 1≤sizeLine;decide),fun l4 m4=>?_⟩
 have v3:=zF m3 (.lst ((e.ws.take k).map V.int))
 have v4:=zF m4 (.lst [.int 0])
 have v34:=v3.trans v4
 refine ⟨_,rfl,_,rfl,e.wl,_,rfl,.inl (SqL.of (v34 _ _ q2)),_,_,rfl,rfl,l4,(k:Int) - (e.ws.length:Int),[.int 0],rfl,(by rw [List.length_map]),zB,by omega,by omega,small (by show 1 * _≤1000;omega),fun l5 m5=>?_⟩
 rw [zKz,show ((k:Int) - (e.ws.length:Int)).toNat=k - e.ws.length by omega]
 have v5:=zF m5 (.lst ((List.replicate (k - e.ws.length) (0:Int)).map V.int))
 refine ⟨l3,l5,_,_,rfl,rfl,(v4.trans v5) _ _ zB,zB,small (by rw [List.length_map,List.length_map,List.length_take,List.length_replicate];omega),fun l6 m6=>?_⟩
 rw [← List.map_append]
 have v6:=zF m6 (.lst ((e.ws.take k ++ List.replicate (k - e.ws.length) 0).map V.int))
 have h6:=zB (H:=upd (upd (upd H5 l3 (.lst ((e.ws.take k).map V.int))) l4 (.lst [.int 0])) l5 (.lst ((List.replicate (k - e.ws.length) (0:Int)).map V.int))) (a:=l6) (o:=.lst ((e.ws.take k ++ List.replicate (k - e.ws.length) 0).map V.int))
 have vA:=(v34.trans v5).trans v6
 generalize upd (upd (upd (upd H5 l3 (.lst ((e.ws.take k).map V.int))) l4 (.lst [.int 0])) l5 (.lst ((List.replicate (k - e.ws.length) (0:Int)).map V.int))) l6 (.lst ((e.ws.take k ++ List.replicate (k - e.ws.length) 0).map V.int))=H6 at vA h6 ⊢
 clear v3 v4 v34 v5 v6 m3 m4 m5 m6
 have s6:=s5.trans vA
 have M6:=M5.same vA
 clear M5 X5 s5 vA q2 q3
 have lw:(e.ws.take k ++ List.replicate (k - e.ws.length) (0:Int)).length=k:=by rw [List.length_append,List.length_take,List.length_replicate];omega
 have I1:=I.sized (e':=⟨e.n,e.kind,e.ws.take k ++ List.replicate (k - e.ws.length) 0,l6⟩) g ndE hp sp.len ew hk hc z rfl rfl rfl
 have kk1:=z.kk
 have lB1:=z.sp.len
 generalize fitL U (freeL S.R [] r0 m.toNat) (cuN k)=U1 at I1 kk1 lB1
 clear z
 generalize e.ws.take k ++ List.replicate (k - e.ws.length) 0=w1 at h6 lw I1
 have hp1:((⟨e.n,e.kind,w1,l6⟩ : Kpt),U1) ∈ putE es ⟨e.n,e.kind,w1,l6⟩ U1:=zKk hp rfl
 have nd1:((putE es ⟨e.n,e.kind,w1,l6⟩ U1).map (·.1.n)).Nodup:=by
  have:=X.kp.nd
  rw [← zMo (e':=⟨e.n,e.kind,w1,l6⟩),← putE_1 (U':=U1),List.map_map] at this
  exact this
 obtain ⟨B1,fr1,sp1,eU1,ew1⟩:=(I1.nd _ hp1).sp
 dsimp only at sp1 eU1 ew1
 obtain ⟨bn1,bi1⟩:=I1.blk g hp1
 dsimp only at bn1 bi1
 rw [lw] at sp1 ew1
 obtain ⟨bg,ebg,hbg⟩ : ∃ s:Nat,c / 585 % ((k:Int) + 1)=(s:Int)∧s≤k:=by
  have h1:=Int.emod_nonneg (c / 585) (show (k:Int) + 1≠0 by omega)
  have h2:=Int.emod_lt_of_pos (c / 585) (show (0:Int) < (k:Int) + 1 by omega)
  exact ⟨(c / 585 % ((k:Int) + 1)).toNat,by omega,by omega⟩
 subst hT
 refine nx_hide fun TT hT=>?_
 refine ⟨_,rfl,_,_,rfl,rfl,⟨by decide,by decide⟩,_,rfl,_,_,rfl,rfl,_,_,rfl,rfl,(by show (0:Int) < (k:Int) + 1;omega),?_⟩
 try dsimp (config:={ proj:=false,iota:=false,eta:=false,zeta:=false }) only
 rw [ebg]
 clear ebg
 subst hT
 refine nx_hide fun TT hT=>?_
 obtain ⟨ct,ect,hct,hct64⟩ : ∃ s:Nat,(if (64:Int) < (k:Int) - (bg:Int) then (64:Int) else (k:Int) - (bg:Int))=(s:Int)∧bg + s≤k∧s≤64:=by
  refine ⟨(if (64:Int) < (k:Int) - (bg:Int) then (64:Int) else (k:Int) - (bg:Int)).toNat,?_,?_,?_⟩ <;> split <;> omega
 refine ⟨_,rfl,_,rfl,_,rfl,_,_,rfl,rfl,_,_,rfl,c,ct,?_,by omega,fun p3 H7 np3 s7 hp3=>?_⟩
 ·rw [ect];rfl
 clear ect
 have lD:=zNr (c:=c) (k:=ct)
 have gD:=zLs (c:=c) (k:=ct)
 generalize drawnL c ct=fs at hp3 lD gD
 have lowB:∀ x ∈ B1,17≤x∧x < m:=fun x hx=>by
  have h:=zDf (fr:=fr1) hx
  rw [eU1] at h
  unfold asI at h
  obtain ⟨j,hj,rfl⟩:=List.mem_map.mp h
  have:=bi1 j hj
  omega
 have wA:WdsA K H7 (.ref p3) true fs.length:=⟨.lst hp3,.inr ⟨p3,_,rfl,hp3,by rw [List.length_map];omega,fun x hx=>by obtain ⟨i,_,rfl⟩:=List.mem_map.mp hx;exact .int i,(zCo fs gD).symm,by rw [List.length_map]⟩⟩
 have M7:=M6.same s7
 subst hT
 refine nx_hide fun TT hT=>?_
 refine ⟨_,rfl,_,rfl,_,rfl,_,rfl,_,rfl,b,d,kr,nr,y,S,ks1,ρ1,m,t,e.n,k,B1,fr1,_,_,true,_,rfl,M7,sp1,wA,.inr (.inr ⟨bg,p3,fs,rfl,rfl,hp3,gD,by omega,zR8 (zL1 eU1 bn1),lowB,by have:=M7.ks;omega,fun ks2 ρ2 H8 c8 of8 M8 off wd kk2=>?_⟩)⟩
 obtain ⟨kv7,en7⟩:=M7.bat.ho.at
 have s68:Same H H8:=zv (s6.trans s7) c8 (by simp [fn])
 have h8:H8 l6=some (.lst (w1.map V.int)):=c8 _ _ (s7 _ _ h6) (by simp only [List.mem_singleton];exact ze (s7 _ _ h6) en7 (fun z=>by cases z))
 have hp8:H8 p3=some (.lst (fs.map V.int)):=c8 _ _ hp3 (by simp only [List.mem_singleton];exact ze hp3 en7 (fun z=>by cases z))
 clear M7 M6 s6 s7 c8 of8 h6 hp3 wA en7 np3
 subst hT
 refine nx_hide fun TT hT=>?_
 refine ⟨_,rfl,_,rfl,_,rfl,l6,_,rfl,SqL.of h8,fun l9 m9=>?_⟩
 rw [zD9,← List.map_take]
 have v3:=zF m9 (.lst ((w1.take bg).map V.int))
 refine ⟨_,rfl,l9,p3,_,_,rfl,rfl,zB,v3 _ _ hp8,small (by rw [List.length_map,List.length_map,List.length_take];omega),fun l10 m10=>?_⟩
 rw [← List.map_append]
 have v4:=zF m10 (.lst ((w1.take bg ++ fs).map V.int))
 have v34:=v3.trans v4
 refine ⟨_,rfl,_,rfl,_,rfl,p3,_,rfl,.inl (SqL.of (v34 _ _ hp8)),_,_,rfl,rfl,_,rfl,l6,_,rfl,SqL.of (v34 _ _ h8),fun l11 m11=>?_⟩
 rw [List.length_map,show (bg:Int) + (fs.length:Int)=((bg + fs.length:Nat):Int) by omega,zEa,← List.map_drop]
 have v5:=zF m11 (.lst ((w1.drop (bg + fs.length)).map V.int))
 refine ⟨l10,l11,_,_,rfl,rfl,v5 _ _ zB,zB,small (by rw [List.length_map,List.length_map,List.length_append,List.length_take,List.length_drop];omega),fun l12 m12=>?_⟩
 rw [← List.map_append]
 have v6:=zF m12 (.lst ((w1.take bg ++ fs ++ w1.drop (bg + fs.length)).map V.int))
 have h9:=zB (H:=upd (upd (upd H8 l9 (.lst ((w1.take bg).map V.int))) l10 (.lst ((w1.take bg ++ fs).map V.int))) l11 (.lst ((w1.drop (bg + fs.length)).map V.int))) (a:=l12) (o:=.lst ((w1.take bg ++ fs ++ w1.drop (bg + fs.length)).map V.int))
 have vA:=(v34.trans v5).trans v6
 generalize upd (upd (upd (upd H8 l9 (.lst ((w1.take bg).map V.int))) l10 (.lst ((w1.take bg ++ fs).map V.int))) l11 (.lst ((w1.drop (bg + fs.length)).map V.int))) l12 (.lst ((w1.take bg ++ fs ++ w1.drop (bg + fs.length)).map V.int))=H9 at vA h9 ⊢
 clear v3 v4 v34 v5 v6 m9 m10 m11 m12
 have s9:=s68.trans vA
 have M9:=M8.same vA
 clear M8 s68 vA h8 hp8
 have lw2:(w1.take bg ++ fs ++ w1.drop (bg + fs.length)).length=k:=by rw [List.length_append,List.length_append,List.length_take,List.length_drop];omega
 have I2:=I1.words (e':=⟨e.n,e.kind,w1.take bg ++ fs ++ w1.drop (bg + fs.length),l12⟩) (B:=B1) (fr:=fr1) g nd1 hp1 (by dsimp only;rw [lw];exact sp1) eU1 (by dsimp only;rw [lw];exact ew1) off wd (by dsimp only;omega) gD rfl rfl (by dsimp only;rw [List.append_assoc])
 generalize w1.take bg ++ fs ++ w1.drop (bg + fs.length)=w2 at h9 lw2 I2
 have ee:(putE (putE es ⟨e.n,e.kind,w1,l6⟩ U1) ⟨e.n,e.kind,w2,l12⟩ U1).map (·.1)=zCw (es.map (·.1)) ⟨e.n,e.kind,w2,l12⟩:=by rw [putE_1,putE_1];exact zRu (e1:=⟨e.n,e.kind,w1,l6⟩) (e2:=⟨e.n,e.kind,w2,l12⟩) rfl
 have hp2:((⟨e.n,e.kind,w2,l12⟩ : Kpt),U1) ∈ putE (putE es ⟨e.n,e.kind,w1,l6⟩ U1) ⟨e.n,e.kind,w2,l12⟩ U1:=zKk hp1 rfl
 obtain ⟨B2,fr2,sp2,eU2,ew2⟩:=(I2.nd _ hp2).sp
 dsimp only at sp2 eU2 ew2
 obtain ⟨bn2,bi2⟩:=I2.blk g hp2
 dsimp only at bn2 bi2
 rw [lw2] at sp2 ew2
 have lowB2:∀ x ∈ B2,0≤x∧x < m:=fun x hx=>by
  have h:=zDf (fr:=fr2) hx
  rw [eU2] at h
  unfold asI at h
  obtain ⟨j,hj,rfl⟩:=List.mem_map.mp h
  have:=bi2 j hj
  omega
 generalize putE (putE es ⟨e.n,e.kind,w1,l6⟩ U1) ⟨e.n,e.kind,w2,l12⟩ U1=es2 at I2 ee hp2
 subst hT
 refine nx_hide fun TT hT=>?_
 refine ⟨_,rfl,_,rfl,_,rfl,_,rfl,b,d,kr,nr,y,S,ks2,ρ2,m,t,e.n,k,B2,fr2,0,_,rfl,M9,sp2,lowB2,.inr ⟨0,k,rfl,rfl,by omega,fun p10 H10 np10 s10 hp10=>?_⟩⟩
 rw [ew2] at hp10
 have h10:=s10 _ _ h9
 have sA:=s9.trans s10
 have MA:=M9.same s10
 refine ⟨_,rfl,.list (w2.map PyData.int),.list (w2.map PyData.int),.lst (SqL.of hp10) (zCz _),.lst (SqL.of h10) (zCz _),PySem.W.ke_shaped_ints _,PySem.W.ke_shaped_ints _,_,rfl,iteF' (by rw [zHu];simp) ?_⟩
 clear M9 s9 h9 hp10 np10 s10
 subst hT
 refine nx_hide fun TT hT=>?_
 refine ⟨_,rfl,_,_,rfl,rfl,(by decide),_,_,rfl,rfl,_,rfl,?_⟩
 by_cases h4:c % 5 < 4
 ·refine iteT' (decide_eq_true h4) ?_
  have few:ks2.length≤15:=by
   refine zPa (nA:=(nAt m e.n:Int)) (fr:=(asI U1).getD 4 0) (B1:=zAc (asI U1)) (B2:=B1) (g1:=min e.ws.length k / 16) (g2:=bg / 16) X.m40 MA.bat.ho.nd fun x hx=>?_
   rcases kk2 x hx with h | ⟨i,i1,i2,h⟩
   ·rcases kk1 x h with h | h | h | h | ⟨j,j1,j2,h⟩
    ·cases h
    ·exact .inl h
    ·exact .inr (.inl h)
    ·exact .inr (.inr (.inl h.2))
    ·exact .inr (.inr (.inr (.inl ⟨j,j1,by omega,h⟩)))
   ·exact .inr (.inr (.inr (.inr ⟨i / 16,by omega,by omega,h⟩)))
  obtain ⟨bxA,hbA⟩:=MA.bat.ex
  refine seq_hide fun TU hU=>?_
  refine ⟨_,rfl,b,bxA,_,rfl,hbA,rfl,b,d,kr,nr,S,ks2,ρ2,rfl,MA.bat,MA.dk,by omega,X.go,.inr ⟨few,fun ns nr' H11 so nn' c11 D11 B11 _=>?_⟩⟩
  obtain ⟨kd11,cF,WF,nF⟩:=X.next sA nb MA I2 ee h10 (by dsimp only;omega) few so c11 D11
  subst hU hT
  refine ⟨_,rfl,_,rfl,_,rfl,kd,_,rfl,.inl ⟨_,Sum.inl (e.n:Int),kd11,rfl,small1000 (by unfold zAi;rw [List.length_map,List.length_map];omega),rfl⟩,?_⟩
  rw [zP7 (e':=⟨e.n,e.kind,w2,l12⟩) he rfl]
  exact q _ _ _ cF WF nF
 ·refine iteF' (decide_eq_false h4) ?_
  subst hT
  exact q S es _ (Chg.of sA) (X.same sA) (by omega)
end
end K14
end
section
namespace K14
open PySem L2 BK
section
variable {P:Program}{w:World}{K:PySem.W.Frag}{mg:Str→Option Value}{base:Heap}{f:Addr}{fd:FuncData}{a:Ad}
inductive spLaw' (K:PySem.W.Frag) (vs:List V) (H:Hp) (Q:VK):Prop
 | mk:∀ (p:Addr) (ns:List Int),(vs=[.ref p])→(SqL K H p (ns.map V.int))→(ns.length≤63)→(∀ H',Q (.bl true) H')→spLaw' K vs H Q
def zOg (K:PySem.W.Frag):Sp:=fun vs H Q _=>spLaw' K vs H Q
abbrev zRn (K:PySem.W.Frag) (_:Ad):Sp:=zOg K
section
variable {X:Cx}
@[irreducible] def PSsI (X:Cx) (st:List Stmt) (t:TS):Prop:=PSs X st t
@[irreducible] def PSI (X:Cx) (st:Stmt) (t:TS):Prop:=PS X st t
@[irreducible] def PEI (X:Cx) (e:Expr) (t:TE):Prop:=PE X e t
theorem zMp {st:Stmt}{rest:List Stmt}{t u:TS}(h1:PS X st t) (h2:PSsI X rest u):PSs X (st :: rest) (zOd t u):=by
 unfold PSsI at h2
 exact pss_cons h1 h2
theorem pss_consI {st:Stmt}{rest:List Stmt}{t u:TS}(h1:PSI X st t) (h2:PSs X rest u):PSsI X (st :: rest) (zOd t u):=by
 unfold PSI at h1
 unfold PSsI
 exact pss_cons h1 h2
theorem ps_setI {i:Nat}{x:Str}{e:Expr}{te:TE}{pos pos':Pos}(hN:X.N.Nodup) (hi:X.N[i]? = some x) (hx:Loc X.env.scope x) (he:PEI X e te) (hs:swapsWith e (some (.Name x pos')) pos.line X.env=pure false:=by rfl) (hf:X.fn x=true∨X.env.scope.names.lookup x=some .local:=by first|exact .inl rfl|exact .inr rfl | assumption) (hfx:∀ p ∈ X.fx,p.1≠x:=by first|exact fun p h=>absurd (show p ∈ ([] : List (Str × Value)) from h) (by simp) | assumption):PSI X (.Assign [.Name x pos'] e pos) (zRm te (zLr i)):=by
 unfold PEI at he
 unfold PSI
 exact ps_set hN hi hx he hs hf hfx
theorem pe_dispI {pos:Pos}{keys:List (Option Expr)}{values:List Expr}{trs:List (TE × TE)}(h:PPs X pos keys values trs) (hall:keys.all (·.isSome)=true) (hl:keys.length=values.length) (h0:keys≠[]) (h15:keys.length≤15):PEI X (.Dict keys values pos) (zRj trs):=by
 unfold PEI
 exact zQf h hall hl h0 h15
end
theorem BegN.side {R:List (List Int)}{m t:Int}(g:zFw m t) (h:BegN R m t) (t2:t=2) (l1 l2 l3:Addr):Side R [] r0 m t [(⟨1,1,[],l1⟩,[]),(⟨2,1,[],l2⟩,[]),(⟨3,1,[],l3⟩,[])] []:=by
 obtain ⟨g1,g2,g3,g4,g5⟩:=id g
 have hd:0≤zI m t:=by unfold zI zP;omega
 have nd:∀ (n:Nat) (l:Addr),1≤n→n≤3→NdOk R [] r0 m t ⟨n,1,[],l⟩ []:=fun n l n1 n3=>by
  have en:=h.node n n1 (by omega)
  exact ⟨n1,by show (n:Int)≤_;omega,by show (1:Int)≤1∧(1:Int)≤2;decide,by show (zb R [] r0 m n).take 3=_;rw [en];rfl,⟨[],0,⟨n1,by show (n:Int)≤_;omega,⟨1,0,0,0,0,0,en,rfl⟩,(by show 0=(0 + 15) / 16;decide),(by show 0≤320;decide),fun z=>absurd z (by decide)⟩,rfl,rfl⟩,fun x hx=>(by cases hx)⟩
 refine ⟨fun p hp=>?_,fun n n1 n2 hn=>?_,?_⟩
 ·simp only [List.mem_cons,List.not_mem_nil,or_false] at hp
  rcases hp with z | z | z <;> rw [z]
  ·exact nd 1 l1 (by decide) (by decide)
  ·exact nd 2 l2 (by decide) (by decide)
  ·exact nd 3 l3 (by decide) (by decide)
 ·exfalso
  have:n=1∨n=2∨n=3:=by omega
  rcases this with z | z | z
  ·exact hn _ (List.mem_cons_self ..) z.symm
  ·exact hn _ (List.mem_cons_of_mem _ (List.mem_cons_self ..)) z.symm
  ·exact hn _ (List.mem_cons_of_mem _ (List.mem_cons_of_mem _ (List.mem_cons_self ..))) z.symm
 show (freeL R [] r0 m.toNat ++ []).Perm _
 rw [List.append_nil]
 refine (List.perm_ext_iff_of_nodup zJw ?_).mpr fun i=>?_
 ·rw [List.nodup_iff_pairwise_ne,List.pairwise_map]
  exact List.Pairwise.imp (fun {a b} h z=>h (by omega)) List.nodup_range
 rw [free_mem,List.mem_map]
 constructor
 ·rintro ⟨h1,h2⟩
  rw [h.mw i (by omega)] at h2
  by_cases c:zI m t≤(i:Int)
  ·exact ⟨i - (zI m t).toNat,List.mem_range.mpr (by omega),by omega⟩
  ·rw [if_neg c] at h2;exact absurd h2 (by decide)
 ·rintro ⟨j,hj,rfl⟩
  have hj:=List.mem_range.mp hj
  exact ⟨by omega,by rw [h.mw _ (by omega),if_pos (by omega)]⟩
theorem zSb (x1 x2 x3:V):zGn [] [((Sum.inl 1:Key),x1),(Sum.inl 2,x2),(Sum.inl 3,x3)]=[((Sum.inl 1:Key),x1),(Sum.inl 2,x2),(Sum.inl 3,x3)]:=by
 rfl
theorem zR6 (F:Fun K "law" "law" zHd f fd) (T:Txt K mg a) (D__law_begun:Df P w K mg base (CXE P w) 9 "_law_begun" ["_law_script"] (zJh K a)) (M_Disk_writes:Mf P w K mg base CX0 1 a.f_writes ["self"] (zG3 K a)) (D__law_deed:Df P w K mg base (CXE P w) 10 "_law_deed" ["_law_disk", "_law_layout", "_law_kept", "_law_cell"] (zMe K a)) (D__law_holds:Df P w K mg base (CXE P w) 8 "_law_holds" ["_law_disk", "_law_layout", "_law_kept"] (zJe K a)):FnOk P w K mg base (CXE P w) 11 f fd ["_law_script"] (zRn K a):=by
 obtain ⟨_,_,Gl_begun,bl_begun,kl_begun,ml_begun⟩:=D__law_begun
 obtain ⟨_,G_writes,b_writes⟩:=M_Disk_writes
 obtain ⟨_,_,Gl_deed,bl_deed,kl_deed,ml_deed⟩:=D__law_deed
 obtain ⟨_,_,Gl_holds,bl_holds,kl_holds,ml_holds⟩:=D__law_holds
 have nd:=sc_law.nd
 refine F.okE sc_law (fun vs H Q E h=>?_) (fun cdv A outer s H vs Q E hr hA h=>?_)
 ·obtain ⟨sc,ns,rfl,_⟩:=h
  rfl
 obtain ⟨sc,ns,rfl,hS,h63,q⟩:=h
 refine ⟨_,(zMp (zPo (zH Gl_begun (hr.mono (by decide)) rfl ml_begun kl_begun bl_begun .nil (zE (fun _ _ _ h=>h)) (zA (pv 0) zC) (hcm:=(.inr hA))) (zFg hA (zAq (zx (i:=1) nd rfl (by first|exact Or.inl rfl|exact Or.inr rfl)) (zAq (zx (i:=2) nd rfl (by first|exact Or.inl rfl|exact Or.inr rfl)) zDl))))
  (pss_consI (ps_setI (i:=3) nd rfl (by first|exact Or.inl rfl|exact Or.inr rfl) (pe_dispI (zHe zM (zBb zC) (zHe zM (zBb zC) (zHe zM (zBb zC) zQb))) rfl rfl (List.cons_ne_nil _ _) (by decide)))
  (pss_cons (zCk PassesOwn.leaving rfl (zBt (K:=K) rfl (zk (zi (K:=K) rfl) (pv 0) (zh zM) (zh zM))) (zx (i:=4) nd rfl (by first|exact Or.inl rfl|exact Or.inr rfl)) (pss_cons (ps_set (i:=5) nd rfl (by first|exact Or.inl rfl|exact Or.inr rfl) (zBq (pv 2) T.clDisk T.m_writes G_writes (hr.mono (by decide)) b_writes .nil zw))
  (pss_cons (zAp (PW.pt (zOo (zBs (zBa (zH Gl_deed (hr.mono (by decide)) rfl ml_deed kl_deed bl_deed .nil (zE (fun _ _ _ h=>h)) (zA (pv 2) (zA (pv 1) (zA (pv 3) (zA (pv 4) zC)))) (hcm:=(.inr hA))))) (zMl (zBs (zBa (zH Gl_holds (hr.mono (by decide)) rfl ml_holds kl_holds bl_holds .nil (zE (fun _ _ _ h=>h)) (zA (pv 2) (zA (pv 1) (zA (pv 3) zC))) (hcm:=(.inr hA)))))))) (zG (zV zIb)) zU)
  (zG (zAp (zf zIe (zO zAg (zBq (pv 2) T.clDisk T.m_writes G_writes (hr.mono (by decide)) b_writes .nil zw) (pv 5)) zM (zu _)) (zG (zV zIb)) zU)))))
  (zG (zV zIb))))),?_⟩
 refine seq_hide fun TT hT=>?_
 refine ⟨_,rfl,sc,ns,rfl,hS,fun tp y d kr m t S H1 s1 htp L1 g D1 go G m40 t2 fd' fk'=>⟨_,_,rfl,SqT.of htp,rfl,_,_,rfl,_,_,rfl,rfl,?_⟩⟩
 clear htp
 subst hT
 refine nx_hide fun TT hT=>?_
 refine fun kd nkd=>⟨(by show 0≤sizeLine;decide),fun l1 nl1=>⟨(by show 0≤sizeLine;decide),fun l2 nl2=>⟨(by show 0≤sizeLine;decide),fun l3 nl3=>?_⟩⟩⟩
 have v1:=zF nkd (.dK [])
 have v2:=zF nl1 (.lst [])
 have v3:=zF nl2 (.lst [])
 have v4:=zF nl3 (.lst [])
 have v24:=v2.trans (v3.trans v4)
 refine ⟨v24 _ _ zB,[(Sum.inl 1,.ref l1),(Sum.inl 2,.ref l2),(Sum.inl 3,.ref l3)],rfl,(by show 3≤15;decide),?_⟩
 rw [zSb]
 have k1:l1≠kd:=Ne.symm (zJ zB nl1)
 have k2:l2≠kd:=Ne.symm (zJ (v2 _ _ zB) nl2)
 have k3:l3≠kd:=Ne.symm (zJ ((v2.trans v3) _ _ zB) nl3)
 have h1:=(v3.trans v4) _ _ (zB (H:=upd H1 kd (.dK [])) (a:=l1) (o:=.lst []))
 have h2:=v4 _ _ (zB (H:=upd (upd H1 kd (.dK [])) l1 (.lst [])) (a:=l2) (o:=.lst []))
 have h3:=zB (H:=upd (upd (upd H1 kd (.dK [])) l1 (.lst [])) l2 (.lst [])) (a:=l3) (o:=.lst [])
 have sU:=zB6 nkd (v1.trans v24) (.dK [(Sum.inl 1,.ref l1),(Sum.inl 2,.ref l2),(Sum.inl 3,.ref l3)])
 generalize upd (upd (upd (upd H1 kd (.dK [])) l1 (.lst [])) l2 (.lst [])) l3 (.lst [])=H5 at h1 h2 h3 sU ⊢
 clear v1 v2 v3 v4 v24 nl1 nl2 nl3
 have W:Whole a (upd H5 kd (.dK [(Sum.inl 1,.ref l1),(Sum.inl 2,.ref l2),(Sum.inl 3,.ref l3)])) d kr y kd S m t [(⟨1,1,[],l1⟩,[]),(⟨2,1,[],l2⟩,[]),(⟨3,1,[],l3⟩,[])]:=by
  refine ⟨D1.same sU,L1.same sU,g,G.len,go,⟨zB,by show [1,2,3].Nodup;decide,fun e he=>?_⟩,G.side g t2 l1 l2 l3,by omega,t2,fun n n1 n3=>?_⟩
  ·simp only [List.map_cons,List.map_nil,List.mem_cons,List.not_mem_nil,or_false] at he
   rcases he with z | z | z <;> rw [z]
   ·exact ⟨by rw [upd_ne k1];exact h1,by show 0≤320;decide⟩
   ·exact ⟨by rw [upd_ne k2];exact h2,by show 0≤320;decide⟩
   ·exact ⟨by rw [upd_ne k3];exact h3,by show 0≤320;decide⟩
  ·have:n=1∨n=2∨n=3:=by omega
   rcases this with z | z | z <;> rw [z]
   ·exact ⟨_,List.mem_cons_self ..,rfl⟩
   ·exact ⟨_,List.mem_cons_of_mem _ (List.mem_cons_self ..),rfl⟩
   ·exact ⟨_,List.mem_cons_of_mem _ (List.mem_cons_of_mem _ (List.mem_cons_self ..)),rfl⟩
 have s6:=s1.trans sU
 generalize upd H5 kd (.dK [(Sum.inl 1,.ref l1),(Sum.inl 2,.ref l2),(Sum.inl 3,.ref l3)])=H6 at W s6 ⊢
 clear h1 h2 h3 sU D1 L1 s1
 subst hT
 refine nx_hide fun TT hT=>?_
 refine ⟨_,rfl,_,rfl,_,rfl,sc,_,rfl,s6.seq hS,fun sl nsl=>?_⟩
 obtain ⟨cs,ecs⟩ : ∃ cs:List Int,zHx (ns.map V.int) (some (1:Int)) (some (17:Int))=cs.map V.int:=by
  refine ⟨(ns.drop (min 1 ns.length)).take (min 17 ns.length - min 1 ns.length),?_⟩
  rw [show (1:Int)=((1:Nat):Int) from rfl,show (17:Int)=((17:Nat):Int) from rfl]
  unfold zHx
  rw [HT.sIx_nat,HT.sIx_nat,List.length_map,List.map_take,List.map_drop]
 rw [ecs]
 have W7:=W.same (zF nsl (.lst (cs.map V.int)))
 have hsl:=zB (H:=H6) (a:=sl) (o:=.lst (cs.map V.int))
 generalize upd H6 sl (.lst (cs.map V.int))=H7 at W7 hsl ⊢
 refine ⟨sl,rfl,⟨_,SqL.of hsl⟩,zCy (xs:=cs.map V.int) (fun i σ' H'=>∃ (S:DS) (es:List (Kpt × List Nat)) (o4 o5:Option V),σ'=[some (.ref sc),some (.ref y),some (.ref d),some (.ref kd),o4,o5]∧Whole a H' d kr y kd S m t es∧H' sl=some (.lst (cs.map V.int)))
  ⟨S,_,none,none,rfl,W7,hsl⟩ (fun i σ' H' _ ⟨_,_,_,_,_,_,z⟩=>SqL.of z) ?_ ?_⟩
 ·clear W W7 hsl G go S
  rintro i v σ' H8 hv ⟨S,es,o4,o5,rfl,W8,hsl⟩
  obtain ⟨c,_,rfl⟩:=List.mem_map.mp (List.mem_of_getElem? hv)
  refine seq_hide fun TU hU=>?_
  obtain ⟨dx,hd8⟩:=W8.dk.at
  refine ⟨_,rfl,d,dx,_,rfl,hd8,rfl,d,kr,_,_,_,rfl,W8.dk,?_⟩
  subst hU
  refine nx_hide fun TU hU=>?_
  refine ⟨_,rfl,_,rfl,_,rfl,_,rfl,d,kr,y,kd,S,m,t,es,c,rfl,W8,fun S' es' H9 c9 W9 hn=>⟨_,rfl,iteF' rfl ?_⟩⟩
  refine ⟨_,rfl,_,rfl,_,rfl,d,kr,y,kd,S',m,t,es',rfl,W9,fun H10 s10=>⟨_,rfl,iteF' rfl ?_⟩⟩
  have W10:=W9.same s10
  have hsl10:H10 sl=some (.lst (cs.map V.int)):=s10 _ _ (c9 _ _ hsl (by
   have:=ints_off W8.dk hsl
   simp only [List.mem_cons,List.not_mem_nil,or_false,not_or] at this ⊢
   exact ⟨this.1,this.2,ze hsl W8.kp.d (fun z=>by cases z)⟩))
  subst hU
  obtain ⟨dx2,hd10⟩:=W10.dk.at
  refine ⟨_,rfl,d,dx2,_,rfl,hd10,rfl,d,kr,_,_,_,rfl,W10.dk,_,rfl,_,_,rfl,rfl,_,_,rfl,rfl,_,rfl,iteF' (decide_eq_false (by omega)) ?_⟩
  exact ⟨S',es',_,_,rfl,W10,hsl10⟩
 ·rintro σ' H8 ⟨S,es,o4,o5,rfl,W8,hsl⟩
  subst hT
  exact q _
end
end K14
end
section
namespace K14
open PySem L2 BK
theorem all_mk {l:W.OpenLaw}{w:World}{K:W.Frag}{h:Heap}{mg:Str→Option Value}{fa:Addr}{q0 q1 q2 q3 q4 q5 q6 q7 q8 q9 q10 q11 q12 q13 q14 q15 q16 q17 q18 q19 q20 q21 q22 q23 q24 q25 q26 q27:Addr}(X:K.In h) (G:h.Ns mainGlobals mg) (hfa:mg "law" = some (.ref fa))
  {y3r y3s y3t y3u y3v y3w y3x y3y y3z y40 y41 y42 y43 y44 y45 y46 y47 y48 y49:Tok}
  {od1 an1 od2 an2 od3 an3 od4 an4 od5 an5 od6 an6 od7 an7 od8 an8 od9 an9 od10 an10 od11 an11 od12 an12 od13 an13 od14 an14 od15 an15 od16 an16 od17 an17 od18 an18 od19 an19 od20 an20 od21 an21 od22 an22 od23 an23 od24 an24 od25 an25 od26 an26 od27 an27 od28 an28 od29 an29 od30 an30 od31 an31 od32 an32 od33 an33 od34 an34 od35 an35 od36 an36 od37 an37 od38 an38 od39 an39 od40 an40 od41 an41 od42 an42 od43 an43 od44 an44 od45 an45 od46 an46 od47 an47 od48 an48 od49 an49 od50 an50 od51 an51 od52 an52 od53 an53 od54 an54 od55 an55 od56 an56:Option Addr}{sl1 sl2 sl3 sl4 sl5 sl6 sl7 sl8 sl9 sl10 sl11 sl12 sl13 sl14 sl15 sl16 sl17 sl18 sl19 sl20 sl21 sl22 sl23 sl24 sl25 sl26 sl27 sl28 sl29 sl30 sl31 sl32 sl33 sl34 sl35 sl36 sl37 sl38 sl39 sl40 sl41 sl42 sl43 sl44 sl45 sl46 sl47 sl48 sl49 sl50 sl51 sl52 sl53 sl54 sl55 sl56:Array (Option Value)}{oc1 kV1 dc1 pm1 cd1 ct1 oc2 kV2 dc2 pm2 cd2 ct2 oc3 kV3 dc3 pm3 cd3 ct3 oc4 kV4 dc4 pm4 cd4 ct4 oc5 kV5 dc5 pm5 cd5 ct5 oc6 kV6 dc6 pm6 cd6 ct6 oc7 kV7 dc7 pm7 cd7 ct7 oc8 kV8 dc8 pm8 cd8 ct8 oc9 kV9 dc9 pm9 cd9 ct9 oc10 kV10 dc10 pm10 cd10 ct10 oc11 kV11 dc11 pm11 cd11 ct11 oc12 kV12 dc12 pm12 cd12 ct12 oc13 kV13 dc13 pm13 cd13 ct13 oc14 kV14 dc14 pm14 cd14 ct14 oc15 kV15 dc15 pm15 cd15 ct15 oc16 kV16 dc16 pm16 cd16 ct16 oc17 kV17 dc17 pm17 cd17 ct17 oc18 kV18 dc18 pm18 cd18 ct18 oc19 kV19 dc19 pm19 cd19 ct19 oc20 kV20 dc20 pm20 cd20 ct20 oc21 kV21 dc21 pm21 cd21 ct21 oc22 kV22 dc22 pm22 cd22 ct22 oc23 kV23 dc23 pm23 cd23 ct23 oc24 kV24 dc24 pm24 cd24 ct24 oc25 kV25 dc25 pm25 cd25 ct25 oc26 kV26 dc26 pm26 cd26 ct26 oc27 kV27 dc27 pm27 cd27 ct27 oc28 kV28 dc28 pm28 cd28 ct28 oc29 kV29 dc29 pm29 cd29 ct29 oc30 kV30 dc30 pm30 cd30 ct30 oc31 kV31 dc31 pm31 cd31 ct31 oc32 kV32 dc32 pm32 cd32 ct32 oc33 kV33 dc33 pm33 cd33 ct33 oc34 kV34 dc34 pm34 cd34 ct34 oc35 kV35 dc35 pm35 cd35 ct35 oc36 kV36 dc36 pm36 cd36 ct36 oc37 kV37 dc37 pm37 cd37 ct37 oc38 kV38 dc38 pm38 cd38 ct38 oc39 kV39 dc39 pm39 cd39 ct39 oc40 kV40 dc40 pm40 cd40 ct40 oc41 kV41 dc41 pm41 cd41 ct41 oc42 kV42 dc42 pm42 cd42 ct42 oc43 kV43 dc43 pm43 cd43 ct43 oc44 kV44 dc44 pm44 cd44 ct44 oc45 kV45 dc45 pm45 cd45 ct45 oc46 kV46 dc46 pm46 cd46 ct46 oc47 kV47 dc47 pm47 cd47 ct47 oc48 kV48 dc48 pm48 cd48 ct48 oc49 kV49 dc49 pm49 cd49 ct49 oc50 kV50 dc50 pm50 cd50 ct50 oc51 kV51 dc51 pm51 cd51 ct51 oc52 kV52 dc52 pm52 cd52 ct52 oc53 kV53 dc53 pm53 cd53 ct53 oc54 kV54 dc54 pm54 cd54 ct54 oc55 kV55 dc55 pm55 cd55 ct55 oc56 kV56 dc56 pm56 cd56 ct56:Value}{f1 f3 f7 f8 f9 f10 f11 f15 f16 f17 f18 f21 f23 f24 f28 f29 f30 f31 f32 f33 f35 f36 f37 f38 f39 f40 f41 f42 f43 f44 f45 f46 f47 f48 f49 f50 f51 f52 f53 f54 f55 f56:Addr}
  (y00:W.nsIn K mainGlobals "KeepError" = some (some (.ref q0)))
  (y01:W.nsIn K mainGlobals "BadRow" = some (some (.ref q1)))
  (y02:W.nsIn K mainGlobals "NoBlock" = some (some (.ref q2)))
  (y03:W.nsIn K mainGlobals "Stopped" = some (some (.ref q3)))
  (y04:W.nsIn K mainGlobals "BadDisk" = some (some (.ref q4)))
  (y05:W.nsIn K mainGlobals "NoRoom" = some (some (.ref q5)))
  (y06:W.nsIn K mainGlobals "TooMuch" = some (some (.ref q6)))
  (y07:W.nsIn K mainGlobals "NoNode" = some (some (.ref q7)))
  (y08:W.nsIn K mainGlobals "NoNodes" = some (some (.ref q8)))
  (y09:W.nsIn K mainGlobals "TooLong" = some (some (.ref q9)))
  (y0a:W.nsIn K mainGlobals "OutOfPlace" = some (some (.ref q10)))
  (y0b:W.nsIn K mainGlobals "Disk" = some (some (.ref q11)))
  (y0c:W.nsIn K mainGlobals "Layout" = some (some (.ref q12)))
  (y0d:W.nsIn K mainGlobals "Batch" = some (some (.ref q13)))
  (y0e:W.findIn K (.ref q11) "__init__" = some (some (.ref q15)))
  (y0f:W.findIn K (.ref q11) "blocks" = some (some (.ref q17)))
  (y0g:W.findIn K (.ref q11) "refuse_no_block" = some (some (.ref q18)))
  (y0h:W.findIn K (.ref q11) "use_up_one" = some (some (.ref q19)))
  (y0i:W.findIn K (.ref q11) "write" = some (some (.ref q20)))
  (y0j:W.findIn K (.ref q11) "read" = some (some (.ref q25)))
  (y0k:W.findIn K (.ref q11) "writes" = some (some (.ref q27)))
  (y0l:W.findIn K (.ref q12) "__init__" = some (some (.ref q14)))
  (y0m:W.findIn K (.ref q12) "most_node" = some (some (.ref q23)))
  (y0n:W.findIn K (.ref q13) "__init__" = some (some (.ref q16)))
  (y0o:W.findIn K (.ref q13) "pairs" = some (some (.ref q21)))
  (y0p:W.findIn K (.ref q13) "finish" = some (some (.ref q22)))
  (y0q:W.findIn K (.ref q13) "write" = some (some (.ref q24)))
  (y0r:W.findIn K (.ref q13) "read" = some (some (.ref q26)))
  (a1:W.nsIn K mainGlobals "is_whole" = some (some (.ref f1)))
  (a3:W.nsIn K mainGlobals "empty_row" = some (some (.ref f3)))
  (a7:W.nsIn K mainGlobals "is_home" = some (some (.ref f7)))
  (a8:W.nsIn K mainGlobals "is_word" = some (some (.ref f8)))
  (a9:W.nsIn K mainGlobals "are_words" = some (some (.ref f9)))
  (a10:W.nsIn K mainGlobals "is_row" = some (some (.ref f10)))
  (a11:W.nsIn K mainGlobals "refuse_wrong_pairs" = some (some (.ref f11)))
  (a15:W.nsIn K mainGlobals "changed" = some (some (.ref f15)))
  (a16:W.nsIn K mainGlobals "write_log" = some (some (.ref f16)))
  (a17:W.nsIn K mainGlobals "write_homes" = some (some (.ref f17)))
  (a18:W.nsIn K mainGlobals "commit" = some (some (.ref f18)))
  (a21:W.nsIn K mainGlobals "new_maps" = some (some (.ref f21)))
  (a23:W.nsIn K mainGlobals "refuse_no_node" = some (some (.ref f23)))
  (a24:W.nsIn K mainGlobals "block_of" = some (some (.ref f24)))
  (a28:W.nsIn K mainGlobals "first_word_of" = some (some (.ref f28)))
  (a29:W.nsIn K mainGlobals "put_node" = some (some (.ref f29)))
  (a30:W.nsIn K mainGlobals "node_of" = some (some (.ref f30)))
  (a31:W.nsIn K mainGlobals "take_node" = some (some (.ref f31)))
  (a32:W.nsIn K mainGlobals "_law_cell_at" = some (some (.ref f32)))
  (a33:W.nsIn K mainGlobals "_law_begun" = some (some (.ref f33)))
  (a35:W.nsIn K mainGlobals "is_free" = some (some (.ref f35)))
  (a36:W.nsIn K mainGlobals "mark" = some (some (.ref f36)))
  (a37:W.nsIn K mainGlobals "give" = some (some (.ref f37)))
  (a38:W.nsIn K mainGlobals "free_blocks" = some (some (.ref f38)))
  (a39:W.nsIn K mainGlobals "take" = some (some (.ref f39)))
  (a40:W.nsIn K mainGlobals "fitted" = some (some (.ref f40)))
  (a41:W.nsIn K mainGlobals "put_used" = some (some (.ref f41)))
  (a42:W.nsIn K mainGlobals "clear_behind" = some (some (.ref f42)))
  (a43:W.nsIn K mainGlobals "count_of_blocks" = some (some (.ref f43)))
  (a44:W.nsIn K mainGlobals "blocks_of" = some (some (.ref f44)))
  (a45:W.nsIn K mainGlobals "used_by" = some (some (.ref f45)))
  (a46:W.nsIn K mainGlobals "count_of_used" = some (some (.ref f46)))
  (a47:W.nsIn K mainGlobals "sized" = some (some (.ref f47)))
  (a48:W.nsIn K mainGlobals "_law_drawn" = some (some (.ref f48)))
  (a49:W.nsIn K mainGlobals "refuse_out_of_place" = some (some (.ref f49)))
  (a50:W.nsIn K mainGlobals "parts" = some (some (.ref f50)))
  (a51:W.nsIn K mainGlobals "put_words" = some (some (.ref f51)))
  (a52:W.nsIn K mainGlobals "words_of" = some (some (.ref f52)))
  (a53:W.nsIn K mainGlobals "_law_wants" = some (some (.ref f53)))
  (a54:W.nsIn K mainGlobals "_law_deed" = some (some (.ref f54)))
  (a55:W.nsIn K mainGlobals "_law_holds" = some (some (.ref f55)))
  (a56:W.nsIn K mainGlobals "law" = some (some (.ref f56)))
  (y0s:W.nsIn K mainGlobals "isinstance" = some none)
  (y0t:W.nsIn K mainGlobals "int" = some none)
  (y0u:W.nsIn K mainGlobals "bool" = some none)
  (y0v:W.nsIn K mainGlobals "list" = some none)
  (y0w:W.nsIn K mainGlobals "len" = some none)
  (y0x:W.nsIn K mainGlobals "all" = some none)
  (y0y:W.nsIn K mainGlobals "range" = some none)
  (y0z:W.nsIn K mainGlobals "ValueError" = some none)
  (y10:W.nsIn K mainGlobals "sorted" = some none)
  (y11:W.nsIn K mainGlobals "enumerate" = some none)
  (y12:W.nsIn K mainGlobals "min" = some none)
  (y13:W.nsIn K mainGlobals "max" = some none)
  (y14:W.nsIn K mainGlobals "sum" = some none)
  (y15:W.nsIn K mainGlobals "ROW_WORDS" = some (some (.int 16 y3r)))
  (y16:W.nsIn K mainGlobals "MOST_WORD" = some (some (.int 999999999 y3s)))
  (y17:W.nsIn K mainGlobals "FREE" = some (some (.int 0 y3t)))
  (y18:W.nsIn K mainGlobals "USED" = some (some (.int 1 y3u)))
  (y19:W.nsIn K mainGlobals "UNUSED" = some (some (.int 0 y3v)))
  (y1a:W.nsIn K mainGlobals "NODE_WORDS" = some (some (.int 8 y3w)))
  (y1b:W.nsIn K mainGlobals "KIND_AT" = some (some (.int 0 y3x)))
  (y1c:W.nsIn K mainGlobals "SIZE_AT" = some (some (.int 2 y3y)))
  (y1d:W.nsIn K mainGlobals "PLACES_AT" = some (some (.int 3 y3z)))
  (y1e:W.nsIn K mainGlobals "FAR_AT" = some (some (.int 7 y40)))
  (y1f:W.nsIn K mainGlobals "MOST_SIZE" = some (some (.int 320 y41)))
  (y1g:W.nsIn K mainGlobals "NEAR_BLOCKS" = some (some (.int 4 y42)))
  (y1h:W.nsIn K mainGlobals "LEAST_BLOCKS" = some (some (.int 24 y43)))
  (y1i:W.nsIn K mainGlobals "MOST_BLOCKS" = some (some (.int 96 y44)))
  (y1j:W.nsIn K mainGlobals "LOG_HEAD_AT" = some (some (.int 1 y45)))
  (y1k:W.nsIn K mainGlobals "LOG_ROWS_AT" = some (some (.int 2 y46)))
  (y1l:W.nsIn K mainGlobals "MAPS_AT" = some (some (.int 17 y47)))
  (y1m:W.nsIn K mainGlobals "MOST_TABLES" = some (some (.int 8 y48)))
  (y1n:W.nsIn K mainGlobals "MOST_HOMES" = some (some (.int 15 y49)))
  (y1o:W.excIn K q1 veMro "ValueError.__new__" = true)
  (y1p:W.excIn K q2 veMro "ValueError.__new__" = true)
  (y1q:W.excIn K q3 veMro "ValueError.__new__" = true)
  (y1r:W.excIn K q4 veMro "ValueError.__new__" = true)
  (y1s:W.excIn K q6 veMro "ValueError.__new__" = true)
  (y1t:W.excIn K q5 veMro "ValueError.__new__" = true)
  (y1u:W.excIn K q7 veMro "ValueError.__new__" = true)
  (y1v:W.excIn K q8 veMro "ValueError.__new__" = true)
  (y1w:W.excIn K q10 veMro "ValueError.__new__" = true)
  (y1x:W.excIn K q9 veMro "ValueError.__new__" = true)
  (y1y:(match K.lookup q5 with | some ⟨.type "type", _,.cls _,_⟩=>true | _=>false)=true)
  (y1z:W.mroIn K q5 (.type "BaseException")=some true)
  (y20:W.mroIn K q1 (.ref q5)=some false)
  (y21:W.mroIn K q2 (.ref q5)=some false)
  (y22:W.mroIn K q3 (.ref q5)=some false)
  (y23:W.mroIn K q4 (.ref q5)=some false)
  (y24:W.mroIn K q6 (.ref q5)=some false)
  (y25:W.mroIn K q5 (.ref q5)=some true)
  (y26:W.mroIn K q7 (.ref q5)=some false)
  (y27:W.mroIn K q8 (.ref q5)=some false)
  (y28:W.mroIn K q10 (.ref q5)=some false)
  (y29:W.mroIn K q9 (.ref q5)=some false)
  (y2a:W.plainGet K q11 Str.empty=true)
  (y2b:W.hasDictIn K q11=true)
  (y2c:W.plainOver K q11=true)
  (y2d:W.findIn K (.ref q11) "__setattr__" = some (some (.builtin "object.__setattr__")))
  (y2e:W.findIn K (.ref q11) "kept_rows" = some none)
  (y2f:W.findIn K (.ref q11) "writes_done" = some none)
  (y2g:W.findIn K (.ref q11) "writes_left" = some none)
  (y2h:W.makesIn K q11=true)
  (y2i:W.isFn K (.ref q15)=true)
  (y2j:W.keepIn K (.ref q11)=true)
  (y2k:W.isFn K (.ref q17)=true)
  (y2l:W.keepIn K (.ref q17)=true)
  (y2m:W.isFn K (.ref q18)=true)
  (y2n:W.keepIn K (.ref q18)=true)
  (y2o:W.isFn K (.ref q19)=true)
  (y2p:W.keepIn K (.ref q19)=true)
  (y2q:W.isFn K (.ref q20)=true)
  (y2r:W.keepIn K (.ref q20)=true)
  (y2s:W.isFn K (.ref q25)=true)
  (y2t:W.keepIn K (.ref q25)=true)
  (y2u:W.isFn K (.ref q27)=true)
  (y2v:W.keepIn K (.ref q27)=true)
  (y2w:W.plainGet K q12 Str.empty=true)
  (y2x:W.hasDictIn K q12=true)
  (y2y:W.plainOver K q12=true)
  (y2z:W.findIn K (.ref q12) "__setattr__" = some (some (.builtin "object.__setattr__")))
  (y30:W.findIn K (.ref q12) "many" = some none)
  (y31:W.findIn K (.ref q12) "tables" = some none)
  (y32:W.findIn K (.ref q12) "maps_at" = some none)
  (y33:W.findIn K (.ref q12) "nodes_at" = some none)
  (y34:W.findIn K (.ref q12) "data_at" = some none)
  (y35:W.makesIn K q12=true)
  (y36:W.isFn K (.ref q14)=true)
  (y37:W.keepIn K (.ref q12)=true)
  (y38:W.isFn K (.ref q23)=true)
  (y39:W.keepIn K (.ref q23)=true)
  (y3a:W.plainGet K q13 Str.empty=true)
  (y3b:W.hasDictIn K q13=true)
  (y3c:W.plainOver K q13=true)
  (y3d:W.findIn K (.ref q13) "__setattr__" = some (some (.builtin "object.__setattr__")))
  (y3e:W.findIn K (.ref q13) "disk" = some none)
  (y3f:W.findIn K (.ref q13) "new_rows" = some none)
  (y3g:W.makesIn K q13=true)
  (y3h:W.isFn K (.ref q16)=true)
  (y3i:W.keepIn K (.ref q13)=true)
  (y3j:W.isFn K (.ref q21)=true)
  (y3k:W.keepIn K (.ref q21)=true)
  (y3l:W.isFn K (.ref q22)=true)
  (y3m:W.keepIn K (.ref q22)=true)
  (y3n:W.isFn K (.ref q24)=true)
  (y3o:W.keepIn K (.ref q24)=true)
  (y3p:W.isFn K (.ref q26)=true)
  (y3q:W.keepIn K (.ref q26)=true)
  (l1:K.lookup f1=some ⟨oc1,od1,.func (W.fnOf "is_whole" "is_whole" (zN zB2) (zL zB2) (zD zB2) .none kV1 dc1 pm1 an1 cd1 ct1),sl1⟩)
  (c1:W.codeIn K cd1 "is_whole" = true)
  (k1:W.keepIn K (.ref f1)=true)
  (l2:K.lookup q14=some ⟨oc2,od2,.func (W.fnOf "__init__" "Layout.__init__" (zN zr) (zL zr) (zD zr) .none kV2 dc2 pm2 an2 cd2 ct2),sl2⟩)
  (c2:W.codeIn K cd2 "Layout.__init__" = true)
  (k2:W.keepIn K (.ref q14)=true)
  (l3:K.lookup f3=some ⟨oc3,od3,.func (W.fnOf "empty_row" "empty_row" (zN zBl) (zL zBl) (zD zBl) .none kV3 dc3 pm3 an3 cd3 ct3),sl3⟩)
  (c3:W.codeIn K cd3 "empty_row" = true)
  (k3:W.keepIn K (.ref f3)=true)
  (l4:K.lookup q15=some ⟨oc4,od4,.func (W.fnOf "__init__" "Disk.__init__" (zN zAf) (zL zAf) (zD zAf) .none kV4 dc4 pm4 an4 cd4 ct4),sl4⟩)
  (c4:W.codeIn K cd4 "Disk.__init__" = true)
  (k4:W.keepIn K (.ref q15)=true)
  (l5:K.lookup q16=some ⟨oc5,od5,.func (W.fnOf "__init__" "Batch.__init__" (zN zAa) (zL zAa) (zD zAa) .none kV5 dc5 pm5 an5 cd5 ct5),sl5⟩)
  (c5:W.codeIn K cd5 "Batch.__init__" = true)
  (k5:W.keepIn K (.ref q16)=true)
  (l6:K.lookup q17=some ⟨oc6,od6,.func (W.fnOf "blocks" "Disk.blocks" (zN zAx) (zL zAx) (zD zAx) .none kV6 dc6 pm6 an6 cd6 ct6),sl6⟩)
  (c6:W.codeIn K cd6 "Disk.blocks" = true)
  (k6:W.keepIn K (.ref q17)=true)
  (l7:K.lookup f7=some ⟨oc7,od7,.func (W.fnOf "is_home" "is_home" (zN zCg) (zL zCg) (zD zCg) .none kV7 dc7 pm7 an7 cd7 ct7),sl7⟩)
  (c7:W.codeIn K cd7 "is_home" = true)
  (k7:W.keepIn K (.ref f7)=true)
  (l8:K.lookup f8=some ⟨oc8,od8,.func (W.fnOf "is_word" "is_word" (zN zCf) (zL zCf) (zD zCf) .none kV8 dc8 pm8 an8 cd8 ct8),sl8⟩)
  (c8:W.codeIn K cd8 "is_word" = true)
  (k8:W.keepIn K (.ref f8)=true)
  (l9:K.lookup f9=some ⟨oc9,od9,.func (W.fnOf "are_words" "are_words" (zN zBn) (zL zBn) (zD zBn) .none kV9 dc9 pm9 an9 cd9 ct9),sl9⟩)
  (c9:W.codeIn K cd9 "are_words" = true)
  (k9:W.keepIn K (.ref f9)=true)
  (l10:K.lookup f10=some ⟨oc10,od10,.func (W.fnOf "is_row" "is_row" (zN zDb) (zL zDb) (zD zDb) .none kV10 dc10 pm10 an10 cd10 ct10),sl10⟩)
  (c10:W.codeIn K cd10 "is_row" = true)
  (k10:W.keepIn K (.ref f10)=true)
  (l11:K.lookup f11=some ⟨oc11,od11,.func (W.fnOf "refuse_wrong_pairs" "refuse_wrong_pairs" (zN zd) (zL zd) (zD zd) .none kV11 dc11 pm11 an11 cd11 ct11),sl11⟩)
  (c11:W.codeIn K cd11 "refuse_wrong_pairs" = true)
  (k11:W.keepIn K (.ref f11)=true)
  (l12:K.lookup q18=some ⟨oc12,od12,.func (W.fnOf "refuse_no_block" "Disk.refuse_no_block" (zN zW) (zL zW) (zD zW) .none kV12 dc12 pm12 an12 cd12 ct12),sl12⟩)
  (c12:W.codeIn K cd12 "Disk.refuse_no_block" = true)
  (k12:W.keepIn K (.ref q18)=true)
  (l13:K.lookup q19=some ⟨oc13,od13,.func (W.fnOf "use_up_one" "Disk.use_up_one" (zN zt) (zL zt) (zD zt) .none kV13 dc13 pm13 an13 cd13 ct13),sl13⟩)
  (c13:W.codeIn K cd13 "Disk.use_up_one" = true)
  (k13:W.keepIn K (.ref q19)=true)
  (l14:K.lookup q20=some ⟨oc14,od14,.func (W.fnOf "write" "Disk.write" (zN zA7) (zL zA7) (zD zA7) .none kV14 dc14 pm14 an14 cd14 ct14),sl14⟩)
  (c14:W.codeIn K cd14 "Disk.write" = true)
  (k14:W.keepIn K (.ref q20)=true)
  (l15:K.lookup f15=some ⟨oc15,od15,.func (W.fnOf "changed" "changed" (zN zCi) (zL zCi) (zD zCi) .none kV15 dc15 pm15 an15 cd15 ct15),sl15⟩)
  (c15:W.codeIn K cd15 "changed" = true)
  (k15:W.keepIn K (.ref f15)=true)
  (l16:K.lookup f16=some ⟨oc16,od16,.func (W.fnOf "write_log" "write_log" (zN zBi) (zL zBi) (zD zBi) .none kV16 dc16 pm16 an16 cd16 ct16),sl16⟩)
  (c16:W.codeIn K cd16 "write_log" = true)
  (k16:W.keepIn K (.ref f16)=true)
  (l17:K.lookup f17=some ⟨oc17,od17,.func (W.fnOf "write_homes" "write_homes" (zN zAu) (zL zAu) (zD zAu) .none kV17 dc17 pm17 an17 cd17 ct17),sl17⟩)
  (c17:W.codeIn K cd17 "write_homes" = true)
  (k17:W.keepIn K (.ref f17)=true)
  (l18:K.lookup f18=some ⟨oc18,od18,.func (W.fnOf "commit" "commit" (zN zDd) (zL zDd) (zD zDd) .none kV18 dc18 pm18 an18 cd18 ct18),sl18⟩)
  (c18:W.codeIn K cd18 "commit" = true)
  (k18:W.keepIn K (.ref f18)=true)
  (l19:K.lookup q21=some ⟨oc19,od19,.func (W.fnOf "pairs" "Batch.pairs" (zN zAz) (zL zAz) (zD zAz) .none kV19 dc19 pm19 an19 cd19 ct19),sl19⟩)
  (c19:W.codeIn K cd19 "Batch.pairs" = true)
  (k19:W.keepIn K (.ref q21)=true)
  (l20:K.lookup q22=some ⟨oc20,od20,.func (W.fnOf "finish" "Batch.finish" (zN zAo) (zL zAo) (zD zAo) .none kV20 dc20 pm20 an20 cd20 ct20),sl20⟩)
  (c20:W.codeIn K cd20 "Batch.finish" = true)
  (k20:W.keepIn K (.ref q22)=true)
  (l21:K.lookup f21=some ⟨oc21,od21,.func (W.fnOf "new_maps" "new_maps" (zN zB1) (zL zB1) (zD zB1) .none kV21 dc21 pm21 an21 cd21 ct21),sl21⟩)
  (c21:W.codeIn K cd21 "new_maps" = true)
  (k21:W.keepIn K (.ref f21)=true)
  (l22:K.lookup q23=some ⟨oc22,od22,.func (W.fnOf "most_node" "Layout.most_node" (zN zj) (zL zj) (zD zj) .none kV22 dc22 pm22 an22 cd22 ct22),sl22⟩)
  (c22:W.codeIn K cd22 "Layout.most_node" = true)
  (k22:W.keepIn K (.ref q23)=true)
  (l23:K.lookup f23=some ⟨oc23,od23,.func (W.fnOf "refuse_no_node" "refuse_no_node" (zN zz) (zL zz) (zD zz) .none kV23 dc23 pm23 an23 cd23 ct23),sl23⟩)
  (c23:W.codeIn K cd23 "refuse_no_node" = true)
  (k23:W.keepIn K (.ref f23)=true)
  (l24:K.lookup f24=some ⟨oc24,od24,.func (W.fnOf "block_of" "block_of" (zN zB3) (zL zB3) (zD zB3) .none kV24 dc24 pm24 an24 cd24 ct24),sl24⟩)
  (c24:W.codeIn K cd24 "block_of" = true)
  (k24:W.keepIn K (.ref f24)=true)
  (l25:K.lookup q24=some ⟨oc25,od25,.func (W.fnOf "write" "Batch.write" (zN zAy) (zL zAy) (zD zAy) .none kV25 dc25 pm25 an25 cd25 ct25),sl25⟩)
  (c25:W.codeIn K cd25 "Batch.write" = true)
  (k25:W.keepIn K (.ref q24)=true)
  (l26:K.lookup q25=some ⟨oc26,od26,.func (W.fnOf "read" "Disk.read" (zN zBp) (zL zBp) (zD zBp) .none kV26 dc26 pm26 an26 cd26 ct26),sl26⟩)
  (c26:W.codeIn K cd26 "Disk.read" = true)
  (k26:W.keepIn K (.ref q25)=true)
  (l27:K.lookup q26=some ⟨oc27,od27,.func (W.fnOf "read" "Batch.read" (zN zA8) (zL zA8) (zD zA8) .none kV27 dc27 pm27 an27 cd27 ct27),sl27⟩)
  (c27:W.codeIn K cd27 "Batch.read" = true)
  (k27:W.keepIn K (.ref q26)=true)
  (l28:K.lookup f28=some ⟨oc28,od28,.func (W.fnOf "first_word_of" "first_word_of" (zN zAd) (zL zAd) (zD zAd) .none kV28 dc28 pm28 an28 cd28 ct28),sl28⟩)
  (c28:W.codeIn K cd28 "first_word_of" = true)
  (k28:W.keepIn K (.ref f28)=true)
  (l29:K.lookup f29=some ⟨oc29,od29,.func (W.fnOf "put_node" "put_node" (zN zB0) (zL zB0) (zD zB0) .none kV29 dc29 pm29 an29 cd29 ct29),sl29⟩)
  (c29:W.codeIn K cd29 "put_node" = true)
  (k29:W.keepIn K (.ref f29)=true)
  (l30:K.lookup f30=some ⟨oc30,od30,.func (W.fnOf "node_of" "node_of" (zN zCe) (zL zCe) (zD zCe) .none kV30 dc30 pm30 an30 cd30 ct30),sl30⟩)
  (c30:W.codeIn K cd30 "node_of" = true)
  (k30:W.keepIn K (.ref f30)=true)
  (l31:K.lookup f31=some ⟨oc31,od31,.func (W.fnOf "take_node" "take_node" (zN zBj) (zL zBj) (zD zBj) .none kV31 dc31 pm31 an31 cd31 ct31),sl31⟩)
  (c31:W.codeIn K cd31 "take_node" = true)
  (k31:W.keepIn K (.ref f31)=true)
  (l32:K.lookup f32=some ⟨oc32,od32,.func (W.fnOf "_law_cell_at" "_law_cell_at" (zN zAn) (zL zAn) (zD zAn) .none kV32 dc32 pm32 an32 cd32 ct32),sl32⟩)
  (c32:W.codeIn K cd32 "_law_cell_at" = true)
  (k32:W.keepIn K (.ref f32)=true)
  (l33:K.lookup f33=some ⟨oc33,od33,.func (W.fnOf "_law_begun" "_law_begun" (zN zA6) (zL zA6) (zD zA6) .none kV33 dc33 pm33 an33 cd33 ct33),sl33⟩)
  (c33:W.codeIn K cd33 "_law_begun" = true)
  (k33:W.keepIn K (.ref f33)=true)
  (l34:K.lookup q27=some ⟨oc34,od34,.func (W.fnOf "writes" "Disk.writes" (zN zAw) (zL zAw) (zD zAw) .none kV34 dc34 pm34 an34 cd34 ct34),sl34⟩)
  (c34:W.codeIn K cd34 "Disk.writes" = true)
  (k34:W.keepIn K (.ref q27)=true)
  (l35:K.lookup f35=some ⟨oc35,od35,.func (W.fnOf "is_free" "is_free" (zN zCh) (zL zCh) (zD zCh) .none kV35 dc35 pm35 an35 cd35 ct35),sl35⟩)
  (c35:W.codeIn K cd35 "is_free" = true)
  (k35:W.keepIn K (.ref f35)=true)
  (l36:K.lookup f36=some ⟨oc36,od36,.func (W.fnOf "mark" "mark" (zN zGf) (zL zGf) (zD zGf) .none kV36 dc36 pm36 an36 cd36 ct36),sl36⟩)
  (c36:W.codeIn K cd36 "mark" = true)
  (k36:W.keepIn K (.ref f36)=true)
  (l37:K.lookup f37=some ⟨oc37,od37,.func (W.fnOf "give" "give" (zN zGg) (zL zGg) (zD zGg) .none kV37 dc37 pm37 an37 cd37 ct37),sl37⟩)
  (c37:W.codeIn K cd37 "give" = true)
  (k37:W.keepIn K (.ref f37)=true)
  (l38:K.lookup f38=some ⟨oc38,od38,.func (W.fnOf "free_blocks" "free_blocks" (zN zAv) (zL zAv) (zD zAv) .none kV38 dc38 pm38 an38 cd38 ct38),sl38⟩)
  (c38:W.codeIn K cd38 "free_blocks" = true)
  (k38:W.keepIn K (.ref f38)=true)
  (l39:K.lookup f39=some ⟨oc39,od39,.func (W.fnOf "take" "take" (zN zGe) (zL zGe) (zD zGe) .none kV39 dc39 pm39 an39 cd39 ct39),sl39⟩)
  (c39:W.codeIn K cd39 "take" = true)
  (k39:W.keepIn K (.ref f39)=true)
  (l40:K.lookup f40=some ⟨oc40,od40,.func (W.fnOf "fitted" "fitted" (zN zDc) (zL zDc) (zD zDc) .none kV40 dc40 pm40 an40 cd40 ct40),sl40⟩)
  (c40:W.codeIn K cd40 "fitted" = true)
  (k40:W.keepIn K (.ref f40)=true)
  (l41:K.lookup f41=some ⟨oc41,od41,.func (W.fnOf "put_used" "put_used" (zN zBz) (zL zBz) (zD zBz) .none kV41 dc41 pm41 an41 cd41 ct41),sl41⟩)
  (c41:W.codeIn K cd41 "put_used" = true)
  (k41:W.keepIn K (.ref f41)=true)
  (l42:K.lookup f42=some ⟨oc42,od42,.func (W.fnOf "clear_behind" "clear_behind" (zN zAm) (zL zAm) (zD zAm) .none kV42 dc42 pm42 an42 cd42 ct42),sl42⟩)
  (c42:W.codeIn K cd42 "clear_behind" = true)
  (k42:W.keepIn K (.ref f42)=true)
  (l43:K.lookup f43=some ⟨oc43,od43,.func (W.fnOf "count_of_blocks" "count_of_blocks" (zN zq) (zL zq) (zD zq) .none kV43 dc43 pm43 an43 cd43 ct43),sl43⟩)
  (c43:W.codeIn K cd43 "count_of_blocks" = true)
  (k43:W.keepIn K (.ref f43)=true)
  (l44:K.lookup f44=some ⟨oc44,od44,.func (W.fnOf "blocks_of" "blocks_of" (zN zBm) (zL zBm) (zD zBm) .none kV44 dc44 pm44 an44 cd44 ct44),sl44⟩)
  (c44:W.codeIn K cd44 "blocks_of" = true)
  (k44:W.keepIn K (.ref f44)=true)
  (l45:K.lookup f45=some ⟨oc45,od45,.func (W.fnOf "used_by" "used_by" (zN zCd) (zL zCd) (zD zCd) .none kV45 dc45 pm45 an45 cd45 ct45),sl45⟩)
  (c45:W.codeIn K cd45 "used_by" = true)
  (k45:W.keepIn K (.ref f45)=true)
  (l46:K.lookup f46=some ⟨oc46,od46,.func (W.fnOf "count_of_used" "count_of_used" (zN zAe) (zL zAe) (zD zAe) .none kV46 dc46 pm46 an46 cd46 ct46),sl46⟩)
  (c46:W.codeIn K cd46 "count_of_used" = true)
  (k46:W.keepIn K (.ref f46)=true)
  (l47:K.lookup f47=some ⟨oc47,od47,.func (W.fnOf "sized" "sized" (zN zEi) (zL zEi) (zD zEi) .none kV47 dc47 pm47 an47 cd47 ct47),sl47⟩)
  (c47:W.codeIn K cd47 "sized" = true)
  (k47:W.keepIn K (.ref f47)=true)
  (l48:K.lookup f48=some ⟨oc48,od48,.func (W.fnOf "_law_drawn" "_law_drawn" (zN zA5) (zL zA5) (zD zA5) .none kV48 dc48 pm48 an48 cd48 ct48),sl48⟩)
  (c48:W.codeIn K cd48 "_law_drawn" = true)
  (k48:W.keepIn K (.ref f48)=true)
  (l49:K.lookup f49=some ⟨oc49,od49,.func (W.fnOf "refuse_out_of_place" "refuse_out_of_place" (zN zZ) (zL zZ) (zD zZ) .none kV49 dc49 pm49 an49 cd49 ct49),sl49⟩)
  (c49:W.codeIn K cd49 "refuse_out_of_place" = true)
  (k49:W.keepIn K (.ref f49)=true)
  (l50:K.lookup f50=some ⟨oc50,od50,.func (W.fnOf "parts" "parts" (zN zEj) (zL zEj) (zD zEj) .none kV50 dc50 pm50 an50 cd50 ct50),sl50⟩)
  (c50:W.codeIn K cd50 "parts" = true)
  (k50:W.keepIn K (.ref f50)=true)
  (l51:K.lookup f51=some ⟨oc51,od51,.func (W.fnOf "put_words" "put_words" (zN zBk) (zL zBk) (zD zBk) .none kV51 dc51 pm51 an51 cd51 ct51),sl51⟩)
  (c51:W.codeIn K cd51 "put_words" = true)
  (k51:W.keepIn K (.ref f51)=true)
  (l52:K.lookup f52=some ⟨oc52,od52,.func (W.fnOf "words_of" "words_of" (zN zBy) (zL zBy) (zD zBy) .none kV52 dc52 pm52 an52 cd52 ct52),sl52⟩)
  (c52:W.codeIn K cd52 "words_of" = true)
  (k52:W.keepIn K (.ref f52)=true)
  (l53:K.lookup f53=some ⟨oc53,od53,.func (W.fnOf "_law_wants" "_law_wants" (zN zA3) (zL zA3) (zD zA3) .none kV53 dc53 pm53 an53 cd53 ct53),sl53⟩)
  (c53:W.codeIn K cd53 "_law_wants" = true)
  (k53:W.keepIn K (.ref f53)=true)
  (l54:K.lookup f54=some ⟨oc54,od54,.func (W.fnOf "_law_deed" "_law_deed" (zN zBo) (zL zBo) (zD zBo) .none kV54 dc54 pm54 an54 cd54 ct54),sl54⟩)
  (c54:W.codeIn K cd54 "_law_deed" = true)
  (k54:W.keepIn K (.ref f54)=true)
  (l55:K.lookup f55=some ⟨oc55,od55,.func (W.fnOf "_law_holds" "_law_holds" (zN zA4) (zL zA4) (zD zA4) .none kV55 dc55 pm55 an55 cd55 ct55),sl55⟩)
  (c55:W.codeIn K cd55 "_law_holds" = true)
  (k55:W.keepIn K (.ref f55)=true)
  (l56:K.lookup f56=some ⟨oc56,od56,.func (W.fnOf "law" "law" (zN zHd) (zL zHd) (zD zHd) .none kV56 dc56 pm56 an56 cd56 ct56),sl56⟩)
  (c56:W.codeIn K cd56 "law" = true)
  (k56:W.keepIn K (.ref f56)=true) :
  ∃ fd:FuncData,(∀ (s:Shared) (v:Value),BindsTo s fd ⟨[v],[]⟩ [("_law_script", v)])∧∀ base:Heap,K.In base→base.Ns mainGlobals mg→FnOk l.prog w K mg base (CXE l.prog w) 11 fa fd ["_law_script"] (zOg K):=by
 have e:=hfa.symm.trans (W.mg_of X G a56)
 cases e
 let A:Ad:=⟨q0,q1,q2,q3,q4,q5,q6,q7,q8,q9,q10,q11,q12,q13,q14,q15,q16,q17,q18,q19,q20,q21,q22,q23,q24,q25,q26,q27⟩
 have T:Txt K mg A:=⟨W.mg_none_of X G y0s,W.mg_none_of X G y0t,W.mg_none_of X G y0u,W.mg_none_of X G y0v,W.mg_none_of X G y0w,W.mg_none_of X G y0x,W.mg_none_of X G y0y,W.mg_none_of X G y0z,W.mg_none_of X G y10,W.mg_none_of X G y11,W.mg_none_of X G y12,W.mg_none_of X G y13,W.mg_none_of X G y14,⟨_,W.mg_of X G y15⟩,⟨_,W.mg_of X G y16⟩,⟨_,W.mg_of X G y17⟩,⟨_,W.mg_of X G y18⟩,⟨_,W.mg_of X G y19⟩,⟨_,W.mg_of X G y1a⟩,⟨_,W.mg_of X G y1b⟩,⟨_,W.mg_of X G y1c⟩,⟨_,W.mg_of X G y1d⟩,⟨_,W.mg_of X G y1e⟩,⟨_,W.mg_of X G y1f⟩,⟨_,W.mg_of X G y1g⟩,⟨_,W.mg_of X G y1h⟩,⟨_,W.mg_of X G y1i⟩,⟨_,W.mg_of X G y1j⟩,⟨_,W.mg_of X G y1k⟩,⟨_,W.mg_of X G y1l⟩,⟨_,W.mg_of X G y1m⟩,⟨_,W.mg_of X G y1n⟩,W.mg_of X G y00,W.mg_of X G y01,W.mg_of X G y02,W.mg_of X G y03,W.mg_of X G y04,W.mg_of X G y05,W.mg_of X G y06,W.mg_of X G y07,W.mg_of X G y08,W.mg_of X G y09,W.mg_of X G y0a,W.mg_of X G y0b,W.mg_of X G y0c,W.mg_of X G y0d,y1o,y1p,y1q,y1r,y1s,y1t,y1u,y1v,y1w,y1x,⟨y1y,y1z⟩,y20,y21,y22,y23,y24,y25,y26,y27,y28,y29,⟨y2a,y2b,y2c,y2d⟩,y2e,y2f,y2g,⟨y2h,y0e,y2i,y2j⟩,⟨y0f,y2k,y2l⟩,⟨y0g,y2m,y2n⟩,⟨y0h,y2o,y2p⟩,⟨y0i,y2q,y2r⟩,⟨y0j,y2s,y2t⟩,⟨y0k,y2u,y2v⟩,⟨y2w,y2x,y2y,y2z⟩,y30,y31,y32,y33,y34,⟨y35,y0l,y36,y37⟩,⟨y0m,y38,y39⟩,⟨y3a,y3b,y3c,y3d⟩,y3e,y3f,⟨y3g,y0n,y3h,y3i⟩,⟨y0o,y3j,y3k⟩,⟨y0p,y3l,y3m⟩,⟨y0q,y3n,y3o⟩,⟨y0r,y3p,y3q⟩⟩
 have F1:=zR (st:=zB2) l1 c1 k1
 have b1:=F1.binds (ps:=["thing", "least", "most"]) fun _ _ _ _ _ _ us hl=>match us,hl with | [_,_,_],_=>rfl
 have F2:=zR (st:=zr) l2 c2 k2
 have b2:=F2.binds (ps:=["self", "many", "tables"]) fun _ _ _ _ _ _ us hl=>match us,hl with | [_,_,_],_=>rfl
 have F3:=zR (st:=zBl) l3 c3 k3
 have b3:=F3.binds (ps:=[]) fun _ _ _ _ _ _ us hl=>match us,hl with | [],_=>rfl
 have F4:=zR (st:=zAf) l4 c4 k4
 have b4:=F4.binds (ps:=["self", "many"]) fun _ _ _ _ _ _ us hl=>match us,hl with | [_,_],_=>rfl
 have F5:=zR (st:=zAa) l5 c5 k5
 have b5:=F5.binds (ps:=["self", "disk"]) fun _ _ _ _ _ _ us hl=>match us,hl with | [_,_],_=>rfl
 have F6:=zR (st:=zAx) l6 c6 k6
 have b6:=F6.binds (ps:=["self"]) fun _ _ _ _ _ _ us hl=>match us,hl with | [_],_=>rfl
 have F7:=zR (st:=zCg) l7 c7 k7
 have b7:=F7.binds (ps:=["disk", "block"]) fun _ _ _ _ _ _ us hl=>match us,hl with | [_,_],_=>rfl
 have F8:=zR (st:=zCf) l8 c8 k8
 have b8:=F8.binds (ps:=["thing"]) fun _ _ _ _ _ _ us hl=>match us,hl with | [_],_=>rfl
 have F9:=zR (st:=zBn) l9 c9 k9
 have b9:=F9.binds (ps:=["thing"]) fun _ _ _ _ _ _ us hl=>match us,hl with | [_],_=>rfl
 have F10:=zR (st:=zDb) l10 c10 k10
 have b10:=F10.binds (ps:=["thing"]) fun _ _ _ _ _ _ us hl=>match us,hl with | [_],_=>rfl
 have F11:=zR (st:=zd) l11 c11 k11
 have b11:=F11.binds (ps:=["disk", "pairs"]) fun _ _ _ _ _ _ us hl=>match us,hl with | [_,_],_=>rfl
 have F12:=zR (st:=zW) l12 c12 k12
 have b12:=F12.binds (ps:=["self", "block"]) fun _ _ _ _ _ _ us hl=>match us,hl with | [_,_],_=>rfl
 have F13:=zR (st:=zt) l13 c13 k13
 have b13:=F13.binds (ps:=["self"]) fun _ _ _ _ _ _ us hl=>match us,hl with | [_],_=>rfl
 have F14:=zR (st:=zA7) l14 c14 k14
 have b14:=F14.binds (ps:=["self", "block", "row"]) fun _ _ _ _ _ _ us hl=>match us,hl with | [_,_,_],_=>rfl
 have F15:=zR (st:=zCi) l15 c15 k15
 have b15:=F15.binds (ps:=["row", "at", "words"]) fun _ _ _ _ _ _ us hl=>match us,hl with | [_,_,_],_=>rfl
 have F16:=zR (st:=zBi) l16 c16 k16
 have b16:=F16.binds (ps:=["disk", "pairs"]) fun _ _ _ _ _ _ us hl=>match us,hl with | [_,_],_=>rfl
 have F17:=zR (st:=zAu) l17 c17 k17
 have b17:=F17.binds (ps:=["disk", "pairs"]) fun _ _ _ _ _ _ us hl=>match us,hl with | [_,_],_=>rfl
 have F18:=zR (st:=zDd) l18 c18 k18
 have b18:=F18.binds (ps:=["disk", "pairs"]) fun _ _ _ _ _ _ us hl=>match us,hl with | [_,_],_=>rfl
 have F19:=zR (st:=zAz) l19 c19 k19
 have b19:=F19.binds (ps:=["self"]) fun _ _ _ _ _ _ us hl=>match us,hl with | [_],_=>rfl
 have F20:=zR (st:=zAo) l20 c20 k20
 have b20:=F20.binds (ps:=["self"]) fun _ _ _ _ _ _ us hl=>match us,hl with | [_],_=>rfl
 have F21:=zR (st:=zB1) l21 c21 k21
 have b21:=F21.binds (ps:=["layout"]) fun _ _ _ _ _ _ us hl=>match us,hl with | [_],_=>rfl
 have F22:=zR (st:=zj) l22 c22 k22
 have b22:=F22.binds (ps:=["self"]) fun _ _ _ _ _ _ us hl=>match us,hl with | [_],_=>rfl
 have F23:=zR (st:=zz) l23 c23 k23
 have b23:=F23.binds (ps:=["layout", "node"]) fun _ _ _ _ _ _ us hl=>match us,hl with | [_,_],_=>rfl
 have F24:=zR (st:=zB3) l24 c24 k24
 have b24:=F24.binds (ps:=["layout", "node"]) fun _ _ _ _ _ _ us hl=>match us,hl with | [_,_],_=>rfl
 have F25:=zR (st:=zAy) l25 c25 k25
 have b25:=F25.binds (ps:=["self", "block", "row"]) fun _ _ _ _ _ _ us hl=>match us,hl with | [_,_,_],_=>rfl
 have F26:=zR (st:=zBp) l26 c26 k26
 have b26:=F26.binds (ps:=["self", "block"]) fun _ _ _ _ _ _ us hl=>match us,hl with | [_,_],_=>rfl
 have F27:=zR (st:=zA8) l27 c27 k27
 have b27:=F27.binds (ps:=["self", "block"]) fun _ _ _ _ _ _ us hl=>match us,hl with | [_,_],_=>rfl
 have F28:=zR (st:=zAd) l28 c28 k28
 have b28:=F28.binds (ps:=["node"]) fun _ _ _ _ _ _ us hl=>match us,hl with | [_],_=>rfl
 have F29:=zR (st:=zB0) l29 c29 k29
 have b29:=F29.binds (ps:=["batch", "layout", "node", "words"]) fun _ _ _ _ _ _ us hl=>match us,hl with | [_,_,_,_],_=>rfl
 have F30:=zR (st:=zCe) l30 c30 k30
 have b30:=F30.binds (ps:=["batch", "layout", "node"]) fun _ _ _ _ _ _ us hl=>match us,hl with | [_,_,_],_=>rfl
 have F31:=zR (st:=zBj) l31 c31 k31
 have b31:=F31.binds (ps:=["batch", "layout", "kind"]) fun _ _ _ _ _ _ us hl=>match us,hl with | [_,_,_],_=>rfl
 have F32:=zR (st:=zAn) l32 c32 k32
 have b32:=F32.binds (ps:=["_law_script", "_law_k"]) fun _ _ _ _ _ _ us hl=>match us,hl with | [_,_],_=>rfl
 have F33:=zR (st:=zA6) l33 c33 k33
 have b33:=F33.binds (ps:=["_law_script"]) fun _ _ _ _ _ _ us hl=>match us,hl with | [_],_=>rfl
 have F34:=zR (st:=zAw) l34 c34 k34
 have b34:=F34.binds (ps:=["self"]) fun _ _ _ _ _ _ us hl=>match us,hl with | [_],_=>rfl
 have F35:=zR (st:=zCh) l35 c35 k35
 have b35:=F35.binds (ps:=["batch", "layout", "block"]) fun _ _ _ _ _ _ us hl=>match us,hl with | [_,_,_],_=>rfl
 have F36:=zR (st:=zGf) l36 c36 k36
 have b36:=F36.binds (ps:=["batch", "layout", "block", "word"]) fun _ _ _ _ _ _ us hl=>match us,hl with | [_,_,_,_],_=>rfl
 have F37:=zR (st:=zGg) l37 c37 k37
 have b37:=F37.binds (ps:=["batch", "layout", "block"]) fun _ _ _ _ _ _ us hl=>match us,hl with | [_,_,_],_=>rfl
 have F38:=zR (st:=zAv) l38 c38 k38
 have b38:=F38.binds (ps:=["batch", "layout"]) fun _ _ _ _ _ _ us hl=>match us,hl with | [_,_],_=>rfl
 have F39:=zR (st:=zGe) l39 c39 k39
 have b39:=F39.binds (ps:=["batch", "layout"]) fun _ _ _ _ _ _ us hl=>match us,hl with | [_,_],_=>rfl
 have F40:=zR (st:=zDc) l40 c40 k40
 have b40:=F40.binds (ps:=["batch", "layout", "used", "count"]) fun _ _ _ _ _ _ us hl=>match us,hl with | [_,_,_,_],_=>rfl
 have F41:=zR (st:=zBz) l41 c41 k41
 have b41:=F41.binds (ps:=["batch", "layout", "node", "size", "used"]) fun _ _ _ _ _ _ us hl=>match us,hl with | [_,_,_,_,_],_=>rfl
 have F42:=zR (st:=zAm) l42 c42 k42
 have b42:=F42.binds (ps:=["batch", "blocks", "first"]) fun _ _ _ _ _ _ us hl=>match us,hl with | [_,_,_],_=>rfl
 have F43:=zR (st:=zq) l43 c43 k43
 have b43:=F43.binds (ps:=["size"]) fun _ _ _ _ _ _ us hl=>match us,hl with | [_],_=>rfl
 have F44:=zR (st:=zBm) l44 c44 k44
 have b44:=F44.binds (ps:=["batch", "layout", "node"]) fun _ _ _ _ _ _ us hl=>match us,hl with | [_,_,_],_=>rfl
 have F45:=zR (st:=zCd) l45 c45 k45
 have b45:=F45.binds (ps:=["batch", "layout", "node"]) fun _ _ _ _ _ _ us hl=>match us,hl with | [_,_,_],_=>rfl
 have F46:=zR (st:=zAe) l46 c46 k46
 have b46:=F46.binds (ps:=["size"]) fun _ _ _ _ _ _ us hl=>match us,hl with | [_],_=>rfl
 have F47:=zR (st:=zEi) l47 c47 k47
 have b47:=F47.binds (ps:=["batch", "layout", "node", "size"]) fun _ _ _ _ _ _ us hl=>match us,hl with | [_,_,_,_],_=>rfl
 have F48:=zR (st:=zA5) l48 c48 k48
 have b48:=F48.binds (ps:=["_law_cell", "_law_many"]) fun _ _ _ _ _ _ us hl=>match us,hl with | [_,_],_=>rfl
 have F49:=zR (st:=zZ) l49 c49 k49
 have b49:=F49.binds (ps:=["batch", "layout", "node", "begin", "count"]) fun _ _ _ _ _ _ us hl=>match us,hl with | [_,_,_,_,_],_=>rfl
 have F50:=zR (st:=zEj) l50 c50 k50
 have b50:=F50.binds (ps:=["begin", "count"]) fun _ _ _ _ _ _ us hl=>match us,hl with | [_,_],_=>rfl
 have F51:=zR (st:=zBk) l51 c51 k51
 have b51:=F51.binds (ps:=["batch", "layout", "node", "begin", "words"]) fun _ _ _ _ _ _ us hl=>match us,hl with | [_,_,_,_,_],_=>rfl
 have F52:=zR (st:=zBy) l52 c52 k52
 have b52:=F52.binds (ps:=["batch", "layout", "node", "begin", "count"]) fun _ _ _ _ _ _ us hl=>match us,hl with | [_,_,_,_,_],_=>rfl
 have F53:=zR (st:=zA3) l53 c53 k53
 have b53:=F53.binds (ps:=["_law_size"]) fun _ _ _ _ _ _ us hl=>match us,hl with | [_],_=>rfl
 have F54:=zR (st:=zBo) l54 c54 k54
 have b54:=F54.binds (ps:=["_law_disk", "_law_layout", "_law_kept", "_law_cell"]) fun _ _ _ _ _ _ us hl=>match us,hl with | [_,_,_,_],_=>rfl
 have F55:=zR (st:=zA4) l55 c55 k55
 have b55:=F55.binds (ps:=["_law_disk", "_law_layout", "_law_kept"]) fun _ _ _ _ _ _ us hl=>match us,hl with | [_,_,_],_=>rfl
 have F56:=zR (st:=zHd) l56 c56 k56
 refine ⟨W.fnOf "law" "law" (zN zHd) (zL zHd) (zD zHd) .none kV56 dc56 pm56 an56 cd56 ct56,fun s v=>.of_eq rfl,fun base _ _=>?_⟩
 have D_is_whole:Df l.prog w K mg base CX0 1 "is_whole" ["thing", "least", "most"] (zCa K A):=⟨_,_,zJp F1 T , b1,k1,W.mg_of X G a1⟩
 have M_Layout___init__:Mf l.prog w K mg base (CXE l.prog w) 2 A.fLayout_init ["self", "many", "tables"] (zJd K A):=⟨_,zD1 F2 T D_is_whole,b2⟩
 have D_empty_row:Df l.prog w K mg base CX0 1 "empty_row" [] (spEmpty K A):=⟨_,_,zIh F3 T , b3,k3,W.mg_of X G a3⟩
 have M_Disk___init__:Mf l.prog w K mg base (CXE l.prog w) 2 A.fDisk_init ["self", "many"] (zMc K A):=⟨_,zEw F4 T D_is_whole D_empty_row,b4⟩
 have M_Batch___init__:Mf l.prog w K mg base (CXE l.prog w) 1 A.fBatch_init ["self", "disk"] (zFb K A):=⟨_,zEn F5 T , b5⟩
 have M_Disk_blocks:Mf l.prog w K mg base (CXE l.prog w) 1 A.f_blocks ["self"] (zE0 K A):=⟨_,zF1 F6 T , b6⟩
 have D_is_home:Df l.prog w K mg base (CXE l.prog w) 2 "is_home" ["disk", "block"] (zH4 K A):=⟨_,_,zLh F7 T D_is_whole M_Disk_blocks,b7,k7,W.mg_of X G a7⟩
 have D_is_word:Df l.prog w K mg base CX0 2 "is_word" ["thing"] (zKc K A):=⟨_,_,zLg F8 T D_is_whole,b8,k8,W.mg_of X G a8⟩
 have D_are_words:Df l.prog w K mg base CX0 3 "are_words" ["thing"] (zMg K A):=⟨_,_,zIj F9 T D_is_word,b9,k9,W.mg_of X G a9⟩
 have D_is_row:Df l.prog w K mg base CX0 4 "is_row" ["thing"] (zEh K A):=⟨_,_,zMw F10 T D_are_words,b10,k10,W.mg_of X G a10⟩
 have D_refuse_wrong_pairs:Df l.prog w K mg base (CXE l.prog w) 5 "refuse_wrong_pairs" ["disk", "pairs"] (zE8 K A):=⟨_,_,ok_refuse_wrong_pairs F11 T D_is_home D_is_row,b11,k11,W.mg_of X G a11⟩
 have M_Disk_refuse_no_block:Mf l.prog w K mg base (CXE l.prog w) 2 A.f_refuse_no_block ["self", "block"] (zEy K A):=⟨_,zCx F12 T D_is_whole M_Disk_blocks,b12⟩
 have M_Disk_use_up_one:Mf l.prog w K mg base (CXE l.prog w) 1 A.f_use_up_one ["self"] (zJb K A):=⟨_,zD2 F13 T , b13⟩
 have M_Disk_write:Mf l.prog w K mg base (CXE l.prog w) 5 A.f_write ["self", "block", "row"] (zCr K A):=⟨_,zHm F14 T M_Disk_refuse_no_block M_Disk_use_up_one D_is_row,b14⟩
 have D_changed:Df l.prog w K mg base CX0 1 "changed" ["row", "at", "words"] (zBr K A):=⟨_,_,zLj F15 T , b15,k15,W.mg_of X G a15⟩
 have D_write_log:Df l.prog w K mg base (CXE l.prog w) 6 "write_log" ["disk", "pairs"] (zMa K A):=⟨_,_,ok_write_log F16 T M_Disk_write D_changed D_empty_row,b16,k16,W.mg_of X G a16⟩
 have D_write_homes:Df l.prog w K mg base (CXE l.prog w) 6 "write_homes" ["disk", "pairs"] (zG4 K A):=⟨_,_,zFy F17 T M_Disk_write D_empty_row,b17,k17,W.mg_of X G a17⟩
 have D_commit:Df l.prog w K mg base (CXE l.prog w) 7 "commit" ["disk", "pairs"] (zHa K A):=⟨_,_,zMy F18 T D_refuse_wrong_pairs D_write_log D_write_homes,b18,k18,W.mg_of X G a18⟩
 have M_Batch_pairs:Mf l.prog w K mg base CX0 1 A.f_pairs ["self"] (zHb K A):=⟨_,zF3 F19 T , b19⟩
 have M_Batch_finish:Mf l.prog w K mg base (CXE l.prog w) 8 A.f_finish ["self"] (zDv K A):=⟨_,zFl F20 T D_commit M_Batch_pairs,b20⟩
 have D_new_maps:Df l.prog w K mg base (CXE l.prog w) 1 "new_maps" ["layout"] (zFa K A):=⟨_,_,zJo F21 T , b21,k21,W.mg_of X G a21⟩
 have M_Layout_most_node:Mf l.prog w K mg base CX0 1 A.f_most_node ["self"] (zKe K A):=⟨_,zDm F22 T , b22⟩
 have D_refuse_no_node:Df l.prog w K mg base (CXE l.prog w) 2 "refuse_no_node" ["layout", "node"] (zDs K A):=⟨_,_,zEm F23 T D_is_whole M_Layout_most_node,b23,k23,W.mg_of X G a23⟩
 have D_block_of:Df l.prog w K mg base CX0 1 "block_of" ["layout", "node"] (zDu K A):=⟨_,_,zJq F24 T , b24,k24,W.mg_of X G a24⟩
 have M_Batch_write:Mf l.prog w K mg base (CXE l.prog w) 5 A.f_Batch_write ["self", "block", "row"] (zCs K A):=⟨_,zF2 F25 T D_is_home D_is_row,b25⟩
 have M_Disk_read:Mf l.prog w K mg base (CXE l.prog w) 3 A.f_read ["self", "block"] (zKd K A):=⟨_,zIl F26 T M_Disk_refuse_no_block,b26⟩
 have M_Batch_read:Mf l.prog w K mg base (CXE l.prog w) 4 A.f_Batch_read ["self", "block"] (zCb K A):=⟨_,zHn F27 T M_Disk_read D_is_home,b27⟩
 have D_first_word_of:Df l.prog w K mg base CX0 1 "first_word_of" ["node"] (zG7 K A):=⟨_,_,zEu F28 T , b28,k28,W.mg_of X G a28⟩
 have D_put_node:Df l.prog w K mg base (CXE l.prog w) 6 "put_node" ["batch", "layout", "node", "words"] (zDt K A):=⟨_,_,zJn F29 T D_refuse_no_node D_block_of M_Batch_write D_changed D_are_words M_Batch_read D_first_word_of,b29,k29,W.mg_of X G a29⟩
 have D_node_of:Df l.prog w K mg base (CXE l.prog w) 5 "node_of" ["batch", "layout", "node"] (zB4 K A):=⟨_,_,zLf F30 T D_refuse_no_node D_first_word_of M_Batch_read D_block_of,b30,k30,W.mg_of X G a30⟩
 have D_take_node:Df l.prog w K mg base (CXE l.prog w) 7 "take_node" ["batch", "layout", "kind"] (zEf K A):=⟨_,_,zIf F31 T M_Layout_most_node D_put_node D_node_of,b31,k31,W.mg_of X G a31⟩
 have D__law_cell_at:Df l.prog w K mg base CX0 1 "_law_cell_at" ["_law_script", "_law_k"] (zMf K A):=⟨_,_,zFk F32 T , b32,k32,W.mg_of X G a32⟩
 have D__law_begun:Df l.prog w K mg base (CXE l.prog w) 9 "_law_begun" ["_law_script"] (zJh K A):=⟨_,_,zHl F33 T M_Layout___init__ M_Disk___init__ M_Batch___init__ M_Batch_finish M_Disk_write D_new_maps D_take_node D__law_cell_at,b33,k33,W.mg_of X G a33⟩
 have M_Disk_writes:Mf l.prog w K mg base CX0 1 A.f_writes ["self"] (zG3 K A):=⟨_,zF0 F34 T , b34⟩
 have D_is_free:Df l.prog w K mg base (CXE l.prog w) 5 "is_free" ["batch", "layout", "block"] (zEz K A):=⟨_,_,zLi F35 T M_Batch_read D_is_whole,b35,k35,W.mg_of X G a35⟩
 have D_mark:Df l.prog w K mg base (CXE l.prog w) 6 "mark" ["batch", "layout", "block", "word"] (zKf K A):=⟨_,_,zQk F36 T M_Batch_write D_changed M_Batch_read,b36,k36,W.mg_of X G a36⟩
 have D_give:Df l.prog w K mg base (CXE l.prog w) 7 "give" ["batch", "layout", "block"] (zMd K A):=⟨_,_,zQl F37 T D_is_free D_mark D_is_whole,b37,k37,W.mg_of X G a37⟩
 have D_free_blocks:Df l.prog w K mg base (CXE l.prog w) 6 "free_blocks" ["batch", "layout"] (zB5 K A):=⟨_,_,zFz F38 T D_is_free,b38,k38,W.mg_of X G a38⟩
 have D_take:Df l.prog w K mg base (CXE l.prog w) 7 "take" ["batch", "layout"] (zMb K A):=⟨_,_,zQj F39 T D_free_blocks D_mark,b39,k39,W.mg_of X G a39⟩
 have D_fitted:Df l.prog w K mg base (CXE l.prog w) 8 "fitted" ["batch", "layout", "used", "count"] (zG6 K A):=⟨_,_,zMx F40 T D_give D_take,b40,k40,W.mg_of X G a40⟩
 have D_put_used:Df l.prog w K mg base (CXE l.prog w) 7 "put_used" ["batch", "layout", "node", "size", "used"] (zE9 K A):=⟨_,_,zJm F41 T D_changed D_put_node D_node_of M_Batch_write D_empty_row,b41,k41,W.mg_of X G a41⟩
 have D_clear_behind:Df l.prog w K mg base (CXE l.prog w) 6 "clear_behind" ["batch", "blocks", "first"] (zJg K A):=⟨_,_,zFj F42 T M_Batch_read M_Batch_write D_changed D_empty_row,b42,k42,W.mg_of X G a42⟩
 have D_count_of_blocks:Df l.prog w K mg base CX0 1 "count_of_blocks" ["size"] (zG9 K A):=⟨_,_,zD0 F43 T , b43,k43,W.mg_of X G a43⟩
 have D_blocks_of:Df l.prog w K mg base (CXE l.prog w) 6 "blocks_of" ["batch", "layout", "node"] (zBx K A):=⟨_,_,zIi F44 T D_node_of D_count_of_blocks M_Batch_read,b44,k44,W.mg_of X G a44⟩
 have D_used_by:Df l.prog w K mg base (CXE l.prog w) 7 "used_by" ["batch", "layout", "node"] (zEx K A):=⟨_,_,zLe F45 T D_blocks_of D_node_of,b45,k45,W.mg_of X G a45⟩
 have D_count_of_used:Df l.prog w K mg base CX0 2 "count_of_used" ["size"] (zG8 K A):=⟨_,_,zEv F46 T D_count_of_blocks,b46,k46,W.mg_of X G a46⟩
 have D_sized:Df l.prog w K mg base (CXE l.prog w) 9 "sized" ["batch", "layout", "node", "size"] (zJc K A):=⟨_,_,zOu F47 T D_fitted D_put_used D_clear_behind D_node_of D_used_by D_count_of_used D_blocks_of,b47,k47,W.mg_of X G a47⟩
 have D__law_drawn:Df l.prog w K mg base CX0 1 "_law_drawn" ["_law_cell", "_law_many"] (zJf K A):=⟨_,_,zHk F48 T , b48,k48,W.mg_of X G a48⟩
 have D_refuse_out_of_place:Df l.prog w K mg base (CXE l.prog w) 6 "refuse_out_of_place" ["batch", "layout", "node", "begin", "count"] (zC3 K A):=⟨_,_,zC2 F49 T D_node_of,b49,k49,W.mg_of X G a49⟩
 have D_parts:Df l.prog w K mg base (CXE l.prog w) 1 "parts" ["begin", "count"] (zG5 K A):=⟨_,_,zOv F50 T , b50,k50,W.mg_of X G a50⟩
 have D_put_words:Df l.prog w K mg base (CXE l.prog w) 7 "put_words" ["batch", "layout", "node", "begin", "words"] (zEg K A):=⟨_,_,zIg F51 T D_refuse_out_of_place D_blocks_of D_parts D_are_words M_Batch_write D_changed M_Batch_read,b51,k51,W.mg_of X G a51⟩
 have D_words_of:Df l.prog w K mg base (CXE l.prog w) 7 "words_of" ["batch", "layout", "node", "begin", "count"] (zDr K A):=⟨_,_,zJl F52 T D_refuse_out_of_place D_blocks_of D_parts M_Batch_read,b52,k52,W.mg_of X G a52⟩
 have D__law_wants:Df l.prog w K mg base CX0 1 "_law_wants" ["_law_size"] (zJa K A):=⟨_,_,zHi F53 T , b53,k53,W.mg_of X G a53⟩
 have D__law_deed:Df l.prog w K mg base (CXE l.prog w) 10 "_law_deed" ["_law_disk", "_law_layout", "_law_kept", "_law_cell"] (zMe K A):=⟨_,_,zIk F54 T M_Batch___init__ D_sized D__law_drawn D_put_words D_words_of M_Batch_finish D__law_wants,b54,k54,W.mg_of X G a54⟩
 have D__law_holds:Df l.prog w K mg base (CXE l.prog w) 8 "_law_holds" ["_law_disk", "_law_layout", "_law_kept"] (zJe K A):=⟨_,_,zHj F55 T M_Batch___init__ D_free_blocks D_words_of D_used_by,b55,k55,W.mg_of X G a55⟩
 exact zR6 F56 T D__law_begun M_Disk_writes D__law_deed D__law_holds
theorem walk {l:W.OpenLaw}{q:Program}{loose:List Str}{XP:(Str→Option Value)→Heap→Prop}{YP:World→Heap→Prop}{d:DefRec}{K:Params→W.Frag}(hn:l.most=some 63) (hdf:d.params.defaults=[])
  (hY:∀ (w:World) (h:Heap),YP w h→(K w.params).In h)
  (F:∀ (w:World) (mg:Str→Option Value) (fa:Addr) (h:Heap),(K w.params).In h→h.Ns mainGlobals mg→mg d.name=some (.ref fa) →
   ∃ fd:FuncData,(∀ (s:Shared) (u:Value),BindsTo s fd ⟨[u],[]⟩ [("_law_script", u)])∧∀ base:Heap,(K w.params).In base→base.Ns mainGlobals mg→FnOk l.prog w (K w.params) mg base (CXE l.prog w) 11 fa fd ["_law_script"] (zOg (K w.params))) :
  W.WalkO q loose XP YP l.row.toRowW d [] (fun f vs=>PySem.call f vs) :=
 L2.walk_of (n:=63) (k:=11) (x := "_law_script") (CX:=fun w=>CXE l.prog w) (sp:=fun w=>zOg (K w.params)) hn (by decide) hdf ⟨by decide,by decide⟩ hY F (fun _ _ a ns hl _ hS=>⟨a,ns,rfl,hS,hl,fun _=>rfl⟩) fun _ _ _ _ _ z=>zTy z
end K14
namespace PySem.W.Fast
def tw4155164176497067672:Nat:=0
def tw6533243988390378710:Nat:=0
def tw17897673287492850794:Nat:=0
def tw2524080364754893929:Nat:=0
def tw5581103766990515940:Nat:=0
def tw7639521858289476312:Nat:=0
def tw8406639858657943859:Nat:=0
def tw11128661241728608123:Nat:=0
def tw11511408806446544122:Nat:=0
def tw5295426872946158874:Nat:=0
def tw3310645783676037507:Nat:=0
def tw11168946981868279907:Nat:=0
def tw4369596681844233012:Nat:=0
def tw13083621662741677655:Nat:=0
def tw8292990491845959059:Nat:=0
def tw6104932751293217456:Nat:=0
def tw12696236431034666482:Nat:=0
def tw4490739017078461780:Nat:=0
def tw10740270405737838833:Nat:=0
def tw12370345697786105607:Nat:=0
def tw5746024319555858693:Nat:=0
def tw5745624211602603402:Nat:=0
def tw11474305602415088414:Nat:=0
def tw5314490430796521204:Nat:=0
def tw10976414605233040976:Nat:=0
def tw7245565428982549597:Nat:=0
def tw11581768093178470087:Nat:=0
def tw14726051029688009638:Nat:=0
def tw13530819036113758949:Nat:=0
def tw13375523373939449643:Nat:=0
def tw12338168771044977700:Nat:=0
def tw11223162501285070512:Nat:=0
def tw5671099449716147086:Nat:=0
def tw3671619443359143143:Nat:=0
def tw11674874000836353862:Nat:=0
def tw8846281751879255035:Nat:=0
def tw11926134813114507939:Nat:=0
def tw10422437448009369706:Nat:=0
def tw17517319493348079061:Nat:=0
def tw15259441005593890911:Nat:=0
def tw3955995216453199882:Nat:=0
def tw781382472934935665:Nat:=0
def tw8141021341878476265:Nat:=0
def tw10164848730014753949:Nat:=0
def tw11696880414226743796:Nat:=0
def tw6788959095402370032:Nat:=0
def tw13856430359109640557:Nat:=0
def tw8635751489031573777:Nat:=0
def tw3496968862627314467:Nat:=0
def tw4101682734062544325:Nat:=0
def tw11580446585296168960:Nat:=0
def tw1493525714165663148:Nat:=0
def tw5795047042815710625:Nat:=0
def tw5620843702187724060:Nat:=0
def tw4754368174889015787:Nat:=0
def tw16707883514924850978:Nat:=0
def tw10802103372192054411:Nat:=0
def tw4781584690433246058:Nat:=0
def tw15204371003442034025:Nat:=0
def tw12672649903578990517:Nat:=0
def tw6488140323766592342:Nat:=0
def tw13662335801994879979:Nat:=0
def tw11761393997795292162:Nat:=0
def tw11656976387850790720:Nat:=0
def tw12793787955128862173:Nat:=0
def tw8499926380276701198:Nat:=0
def tw12002146682166236231:Nat:=0
def tw3564547649639660778:Nat:=0
def tw15677043833287894902:Nat:=0
def tw2756317688656097687:Nat:=0
def tw13359328743997560178:Nat:=0
def tw4910941874812763416:Nat:=0
def tw2267717428672136154:Nat:=0
def tw17372924217889012359:Nat:=0
def tw16517237813747151497:Nat:=0
def tw18202329257989902783:Nat:=0
def tw4629522954564127804:Nat:=0
def tw16430535421067258432:Nat:=0
def tw4992761994503432474:Nat:=0
def tw2074782794290500427:Nat:=0
def tw1071951135727178381:Nat:=0
def tw10140584829905579991:Nat:=0
def tw6849243482598286943:Nat:=0
def tw93064560363106731:Nat:=0
def tw3039599068804496790:Nat:=0
def tw2030127100779722604:Nat:=0
def tw4790106546387952014:Nat:=0
def tw10898953973337116185:Nat:=0
def tw15609874304497679787:Nat:=0
def tw582656322528745851:Nat:=0
def tw6299836263887407451:Nat:=0
def tw8402485118502287289:Nat:=0
def tw12988033604937579631:Nat:=0
def tw8446620908110693628:Nat:=0
def tw9753465526882164083:Nat:=0
def tw3740732653769822570:Nat:=0
def tw12033302487858226585:Nat:=0
def tw16678166789398503670:Nat:=0
def tw7084619062036082665:Nat:=0
def tw16274856710870668322:Nat:=0
def tw15926667562186395244:Nat:=0
def tw13963696564283160432:Nat:=0
def tw12488009448448998728:Nat:=0
def tw12348957264005191410:Nat:=0
def tw4788935821146169245:Nat:=0
def tw15254396128982958269:Nat:=0
def tw5302464666765410498:Nat:=0
def tw10835938345043586851:Nat:=0
def tw898990894598641291:Nat:=0
def tw11430235360746965709:Nat:=0
def tw2497430155895268576:Nat:=0
def tw15747721394105260720:Nat:=0
def tw6147272561935990123:Nat:=0
def tw10373503618629749963:Nat:=0
def tw15585604171210023178:Nat:=0
def tw9629844255605932899:Nat:=0
def tw2014390741086237938:Nat:=0
def tw4991009544069794599:Nat:=0
def tw15757058471373738801:Nat:=0
def tw12875453686191265991:Nat:=0
def tw1526612904085428658:Nat:=0
def tw17141449882787519561:Nat:=0
def tw14485990669833259334:Nat:=0
def tw2408964366014277225:Nat:=0
def tw2497760940403483362:Nat:=0
def tw12548942101993032844:Nat:=0
def tw7119137640183916019:Nat:=0
def tw4183299923604241172:Nat:=0
def tw6483741784254010740:Nat:=0
def tw498467822971924620:Nat:=0
def tw12406731281604468827:Nat:=0
def tw13806387124181540194:Nat:=0
def tw2377643979532917376:Nat:=0
def tw5283814689055596499:Nat:=0
def tw11934852863218737977:Nat:=0
def tw9593631896782879331:Nat:=0
def tw1096176821413352956:Nat:=0
def tw8109584223835016059:Nat:=0
def tw1537754726883967:Nat:=0
def tw4322570897800423034:Nat:=0
def tw11482010965454460982:Nat:=0
def tw15946802694259942765:Nat:=0
def tw7382525791452582460:Nat:=0
def tw17469511185923973261:Nat:=0
def tw7209530772304755619:Nat:=0
def tw8032458830581299833:Nat:=0
def tw11117211906597544984:Nat:=0
def tw15698078980167533560:Nat:=0
def tw9336782143606879703:Nat:=0
def tw8097902601964289214:Nat:=0
def tw1749962751790893729:Nat:=0
def tw2188684042777144272:Nat:=0
def tw17286785283693523944:Nat:=0
def tw11471474748050553230:Nat:=0
def tw18207891790340821063:Nat:=0
def tw12337571852820631906:Nat:=0
def tw12710261633156913444:Nat:=0
def tw6426661806929565341:Nat:=0
def tw5205133815766070306:Nat:=0
def tw10683870270048876425:Nat:=0
def tw6128584713907339367:Nat:=0
def tw7464010494518634086:Nat:=0
def tw13090411235068949324:Nat:=0
def tw16026343781343104997:Nat:=0
def tw7895986710785287926:Nat:=0
def tw7082138101645045527:Nat:=0
def tw15254484831440114974:Nat:=0
def tw14699234020446182683:Nat:=0
def tw9694101045430650422:Nat:=0
def tw7835955458808509613:Nat:=0
def tw5415313984863093837:Nat:=0
def tw12025670133152992123:Nat:=0
def tw554134801057842119:Nat:=0
def tw17190023911157090763:Nat:=0
def tw8707115277393430554:Nat:=0
def tw10597247487011338123:Nat:=0
def tw699306824287831853:Nat:=0
def tw6033093602009731078:Nat:=0
def tw7282507977169917163:Nat:=0
def tw10567235336652940400:Nat:=0
def tw7198036965820019387:Nat:=0
def tw13578077378580884402:Nat:=0
def tw16430803684236451647:Nat:=0
def tw14428239179699102185:Nat:=0
def tw8640835923070946711:Nat:=0
def tw16166210970569162469:Nat:=0
def tw5810799657705411459:Nat:=0
def tw14647519657469853253:Nat:=0
def tw14547441227533071319:Nat:=0
def tw16231054495183622071:Nat:=0
def tw5637065079373406515:Nat:=0
def tw12947487108039485829:Nat:=0
def tw6425989149634523438:Nat:=0
def tw12435345726998479693:Nat:=0
def tw13158494679756490351:Nat:=0
def tw13328990902197355952:Nat:=0
def tw12847484145065221:Nat:=0
def tw17856336410570519294:Nat:=0
def tw15526854279088168563:Nat:=0
def tw1021654357512012757:Nat:=0
def tw6404520567960089583:Nat:=0
def tw15038223192581788488:Nat:=0
def tw7505288377825142410:Nat:=0
def tw9080374529949305776:Nat:=0
def tw10236171457010891758:Nat:=0
def tw15652096867056044475:Nat:=0
def tw8281784086808954264:Nat:=0
def tw3260475209412373749:Nat:=0
def tw11927205441584845355:Nat:=0
def tw11385389691158314020:Nat:=0
def tw10519001414266183046:Nat:=0
def tw4658727205496167108:Nat:=0
def tw16578839216181328802:Nat:=0
def tw16535639432494985346:Nat:=0
def tw2138595811635011720:Nat:=0
def tw185128490405451944:Nat:=0
def tw3514039593913154145:Nat:=0
def tw1200768435029283130:Nat:=0
def tw6843571134689218338:Nat:=0
def tw11315741493849657233:Nat:=0
def tw9386370058560703221:Nat:=0
def tw14672557176280146300:Nat:=0
def tw6491227742983452090:Nat:=0
def tw10814426775379731548:Nat:=0
def tw17147219774642574373:Nat:=0
def tw18296336376186081654:Nat:=0
def tw10224227548957016407:Nat:=0
def tw4904791054965057792:Nat:=0
def tw14265739618700584273:Nat:=0
def tw9625187855770625709:Nat:=0
def tw3540210616692586675:Nat:=0
def tw11081869308556033094:Nat:=0
def tw9105251371768242283:Nat:=0
def tw14581969960741148057:Nat:=0
def tw2782438109142084003:Nat:=0
def tw5326236972725904659:Nat:=0
def tw10886637709945375446:Nat:=0
def tw3073347545768665858:Nat:=0
def tw7466404249323068100:Nat:=0
def tw15294742754551857221:Nat:=0
def tw15420039560895374539:Nat:=0
def tw986542557906769109:Nat:=0
def tw3443974418666539366:Nat:=0
def tw9085287913629707942:Nat:=0
def tw9125736329699163269:Nat:=0
def tw8758598710393568859:Nat:=0
def tw9551786258946360228:Nat:=0
def tw14614028073927353647:Nat:=0
def tw15800400323405352980:Nat:=0
def tw17884652930880643794:Nat:=0
def tw14513288997778703608:Nat:=0
def tw17398777401858732881:Nat:=0
def tw12150919409381008576:Nat:=0
def tw10478603939399248975:Nat:=0
def tw14277636214211183265:Nat:=0
def tw14008032223879694546:Nat:=0
def tw8241136865667724768:Nat:=0
def tw8904013801862292603:Nat:=0
def tw4887640273757007951:Nat:=0
def tw16611295088777010632:Nat:=0
end PySem.W.Fast
open PySem PySem.W PyProof.Rows
set_option maxRecDepth 100000 in
set_option maxHeartbeats 0 in
theorem PySem.Challenge.cw_blockkeep_k14_whole_no_room_holds : PySem.Challenge.rw_blockkeep_k14_whole_no_room.Holds := by
 w_on;o_law;k_head;(case hw=>w_witness2)
 k_fill
 refine K14.walk (l:=PySem.Challenge.rw_blockkeep_k14_whole_no_room) rfl rfl (fun w h Y=>W.kIn_of Y) ?F
 case F =>
  intro w mg fa h KX G hmg
  refine' K14.all_mk KX G hmg ?x00 ?x01 ?x02 ?x03 ?x04 ?x05 ?x06 ?x07 ?x08 ?x09 ?x0a ?x0b ?x0c ?x0d ?x0e ?x0f ?x0g ?x0h ?x0i ?x0j ?x0k ?x0l ?x0m ?x0n ?x0o ?x0p ?x0q ?x0r ?x0s ?x0t ?x0u ?x0v ?x0w ?x0x ?x0y ?x0z ?x10 ?x11 ?x12 ?x13 ?x14 ?x15 ?x16 ?x17 ?x18 ?x19 ?x1a ?x1b ?x1c ?x1d ?x1e ?x1f ?x1g ?x1h ?x1i ?x1j ?x1k ?x1l ?x1m ?x1n ?x1o ?x1p ?x1q ?x1r ?x1s ?x1t ?x1u ?x1v ?x1w ?x1x ?x1y ?x1z ?x20 ?x21 ?x22 ?x23 ?x24 ?x25 ?x26 ?x27 ?x28 ?x29 ?x2a ?x2b ?x2c ?x2d ?x2e ?x2f ?x2g ?x2h ?x2i ?x2j ?x2k ?x2l ?x2m ?x2n ?x2o ?x2p ?x2q ?x2r ?x2s ?x2t ?x2u ?x2v ?x2w ?x2x ?x2y ?x2z ?x30 ?x31 ?x32 ?x33 ?x34 ?x35 ?x36 ?x37 ?x38 ?x39 ?x3a ?x3b ?x3c ?x3d ?x3e ?x3f ?x3g ?x3h ?x3i ?x3j ?x3k ?x3l ?x3m ?x3n ?x3o ?x3p ?x3q ?x3r ?x3s ?x3t ?x3u ?x3v ?x3w ?x3x ?x3y ?x3z ?x40 ?x41 ?x42 ?x43 ?x44 ?x45 ?x46 ?x47 ?x48 ?x49 ?x4a ?x4b ?x4c ?x4d ?x4e ?x4f ?x4g ?x4h ?x4i ?x4j ?x4k ?x4l ?x4m ?x4n ?x4o ?x4p ?x4q ?x4r ?x4s ?x4t ?x4u ?x4v ?x4w ?x4x ?x4y ?x4z ?x50 ?x51 ?x52 ?x53 ?x54 ?x55 ?x56 ?x57 ?x58 ?x59 ?x5a ?x5b ?x5c ?x5d ?x5e ?x5f ?x5g ?x5h ?x5i ?x5j ?x5k ?x5l ?x5m ?x5n ?x5o ?x5p ?x5q ?x5r ?x5s ?x5t ?x5u ?x5v ?x5w ?x5x ?x5y ?x5z ?x60 ?x61 ?x62 ?x63 ?x64 ?x65 ?x66 ?x67 ?x68 ?x69 ?x6a ?x6b ?x6c ?x6d ?x6e ?x6f ?x6g ?x6h ?x6i ?x6j ?x6k ?x6l ?x6m ?x6n ?x6o ?x6p ?x6q ?x6r ?x6s ?x6t ?x6u ?x6v ?x6w ?x6x ?x6y ?x6z ?x70 ?x71 ?x72 ?x73 ?x74 ?x75 ?x76 ?x77 ?x78 ?x79 ?x7a ?x7b ?x7c ?x7d ?x7e ?x7f ?x7g ?x7h ?x7i ?x7j ?x7k ?x7l ?x7m ?x7n ?x7o ?x7p ?x7q ?x7r ?x7s ?x7t ?x7u ?x7v ?x7w ?x7x ?x7y ?x7z ?x80 ?x81 ?x82 ?x83 ?x84 ?x85 ?x86 ?x87 ?x88 ?x89 ?x8a ?x8b ?x8c ?x8d ?x8e ?x8f ?x8g ?x8h ?x8i ?x8j ?x8k ?x8l ?x8m ?x8n ?x8o ?x8p ?x8q ?x8r ?x8s ?x8t ?x8u ?x8v ?x8w ?x8x ?x8y ?x8z ?x90 ?x91 ?x92 ?x93 ?x94 ?x95 ?x96 ?x97 ?x98 ?x99 ?x9a ?x9b ?x9c ?x9d ?x9e ?x9f ?x9g ?x9h ?x9i ?x9j ?x9k
  (case x00 | x01 | x02 | x03 | x04 | x05 | x06 | x07 | x08 | x09 | x0a | x0b | x0c | x0d | x0e | x0f | x0g | x0h | x0i | x0j | x0k | x0l | x0m | x0n | x0o | x0p | x0q | x0r | x0s | x0t | x0u | x0v | x0w | x0x | x0y | x0z | x10 | x11 | x12 | x13 | x14 | x15 | x16 | x17 | x18 | x19 | x1a | x1b | x1c | x1d | x1e | x1f | x1g | x1h | x1i | x1j | x1k | x1l | x1m | x1n | x1o | x1p | x1q | x1r | x1s | x1t | x1u | x1v | x1w | x1x | x1y | x1z | x20 | x21 | x22 | x23 | x24 | x25 | x26 | x27 | x28 | x29 | x2a | x2b | x2c | x2d | x2e | x2f | x2g | x2h | x2i | x2j | x2k | x2l | x2m | x2n | x2o | x2p | x2q | x2r | x2s | x2t=>k_is)
  (case x2u | x2v | x2w | x2x | x2y | x2z | x30 | x31 | x32 | x33=>k_exc)
  (case x34=>kernel_rfl)
  (case x35 | x36 | x37 | x38 | x39 | x3a | x3b | x3c | x3d | x3e | x3f | x3g | x3h | x3i | x3j | x3k | x3l | x3m | x3n | x3o | x3p | x3q | x3r | x3s | x3t | x3u | x3v | x3w | x3x | x3y | x3z | x40 | x41 | x42 | x43 | x44 | x45 | x46 | x47 | x48 | x49 | x4a | x4b | x4c | x4d | x4e | x4f | x4g | x4h | x4i | x4j | x4k | x4l | x4m | x4n | x4o | x4p | x4q | x4r | x4s | x4t | x4u | x4v | x4w | x4x | x4y | x4z | x50 | x51 | x52 | x53 | x54 | x55 | x56 | x57 | x58 | x59 | x5a | x5b | x5c | x5d | x5e | x5f | x5g | x5h | x5i | x5j | x5k | x5l | x5m | x5n | x5o | x5p | x5q | x5r | x5s | x5t | x5u | x5v | x5w | x5x | x5y | x5z | x60 | x61 | x62 | x63 | x64 | x65 | x66 | x67 | x68 | x69 | x6a | x6b | x6c | x6d | x6e | x6f | x6g | x6h | x6i | x6j | x6k | x6l | x6m | x6n | x6o | x6p | x6q | x6r | x6s | x6t | x6u | x6v | x6w | x6x | x6y | x6z | x70 | x71 | x72 | x73 | x74 | x75 | x76 | x77 | x78 | x79 | x7a | x7b | x7c | x7d | x7e | x7f | x7g | x7h | x7i | x7j | x7k | x7l | x7m | x7n | x7o | x7p | x7q | x7r | x7s | x7t | x7u | x7v | x7w | x7x | x7y | x7z | x80 | x81 | x82 | x83 | x84 | x85 | x86 | x87 | x88 | x89 | x8a | x8b | x8c | x8d | x8e | x8f | x8g | x8h | x8i | x8j | x8k | x8l | x8m | x8n | x8o | x8p | x8q | x8r | x8s | x8t | x8u | x8v | x8w | x8x | x8y | x8z | x90 | x91 | x92 | x93 | x94 | x95 | x96 | x97 | x98 | x99 | x9a | x9b | x9c | x9d | x9e | x9f | x9g | x9h | x9i | x9j | x9k=>k_is)
end
