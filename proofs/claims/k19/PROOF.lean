import PyProof.Rows.All
import Wide.All
import OpenK.AllK
import Wide.FinOn
import Lean
import PyProof.EqAt
import PyProof.EqKinds
import PyProof.TupleCall
import PyProof.CompFree
import PyProof.ConsumeWalk
import PyProof.CompMap
import KE.IntBitsLaws
import KE.KDictSum
import PyProof.Rows.EqDataRows
import PyProof.Rows.SortWalk
import KE.KLcPair
import PyProof.Cells
import PyProof.SumAny
import PyProof.ZipIter
import PyProof.EnumIter
import PyProof.Rows.ZipGen
import PyProof.Rows.FactsT2
import PyProof.WalkInts
import PyProof.SeqI3
import KE.KEqSeq
import PyProof.Rows.Range3
import PyProof.Rows.ChunkLeaf
import PyProof.InstStoreFacts
import PyProof.ExcClass3
import PyProof.ExcInit
import PyProof.Rows.InDataRows
import PySem.Challenge.RW_conicplaces_k19_whole_rests_that_fit
set_option Elab.async false
set_option linter.all false
set_option maxRecDepth 100000
set_option maxHeartbeats 4000000
namespace L2
open PySem PySem.Spec PyProof.Rows
def Still (A:Around) (h:Heap):Prop:=A.handled=none\/∃ (e:Addr) (o:Obj) (vs:Array Value),A.handled=some (.ref e)/\h.get? e=some o/\o.data=.fields vs/\vs[2]?=some .none
theorem Still.mono {A:Around} {h h':Heap} (S:Still A h) (k:∀ e o,A.handled=some (.ref e)->h.get? e=some o->h'.get? e=some o):Still A h':=by
 rcases S with z | ⟨e,o,vs,hh,he,r⟩
 ·exact .inl z
 ·exact .inr ⟨e,o,vs,hh,k e o hh he,r⟩
theorem Still.in1 {A:Around} {h:Heap} (S:Still A h):Still A.in1 h:=S
theorem plain_unchain:plainId "proto.unchain"=true:=by decide +kernel
theorem entry_unchain:entryFor table "proto.unchain"=some Builtin.«proto.unchain»:=entryFor_of_tree (by kernel_rfl)
section
variable {P:Program} {w:World} {A:Around} {E:Value->Shared->Prop} {s:Shared}
theorem raiseNew_still {α:Type} {x:Addr} {ox:Obj} {vx:Array Value} {Q:α->Shared->Prop} (S:Still A s.heap) (hx:s.heap.get? x=some ox) (hd:ox.data=.fields vx) (sz:2 < vx.size) (nx:A.handled ≠ some (.ref x))
  (q:∀ h' o',Heap.SameBut x s.heap h'->h'.get? x=some o'->o'.cls=ox.cls->E (.ref x) { s with heap:=h' }):wpAny (model P w) A (raiseNew (.ref x):Sem α) Q E s:=by
 simp only [raiseNew]
 refine wpAny_bind (wpAny_handled ?_)
 rcases S with hn | ⟨e,o,vs,hh,he,hdo,h2⟩
 ·rw [hn]
  exact wpAny_bind (wpAny_pure (wpAny_throw (q s.heap ox (Heap.SameBut.refl _ _) hx rfl)))
 ·rw [hh] at nx ⊢
  have ne:e ≠ x:=fun z=>nx (by rw [z])
  have nb:(Value.ref e != Value.ref x)=true:=by
   simp [ne]
  simp only [nb,if_true]
  refine wpAny_bind (wpAny_holding (wpAny_runValue (codeAny_builtin entry_unchain ?_)))
  rw [Around.under_plainId plain_unchain _]
  show wpAny _ _ (field (.ref e) 2 >>= _) _ _ s
  refine wpAny_bind (wpAny_field he hdo (x:=.none) h2 ?_)
  simp only [beq_self_eq_true,if_true]
  refine wpAny_pure ?_
  show wpAny _ _ (updateField x 2 (.ref e) >>= _) _ _ s
  refine wpAny_bind ?_
  unfold updateField
  refine wpAny_bind (wpAny_load hx ?_)
  rw [hd]
  simp only [sz,if_true]
  refine wpAny_update hx (wpAny_throw (q _ _ (Heap.SameBut.update ..) (Heap.get?_update_self _ hx (Obj.isFreed_of_fields (Obj.data_mapFields hd _))) (Obj.cls_mapFields ..)))
theorem Still.ne_new {A:Around} {h:Heap} (S:Still A h) {x:Addr} (hx:h.objs.size<=x):A.handled ≠ some (.ref x):=by
 rcases S with z | ⟨e,o,vs,hh,he,_⟩
 ·rw [z]
  intro c
  cases c
 ·rw [hh]
  intro c
  cases c
  exact Nat.not_lt.mpr hx (Heap.lt_size he)
theorem stop_still {α:Type} {Q:α->Shared->Prop} (S:Still A s.heap) (q:∀ h' e,(∀ b o,s.heap.get? b=some o->h'.get? b=some o)->(∃ o,h'.get? e=some o/\o.cls=.type "StopIteration")->E (.ref e) { s with heap:=h' }) :
  wpAny (model P w) A (newExc (.type "StopIteration") ([]:List Value) >>= fun e=>(raiseNew e:Sem α)) Q E s:=by
 refine wpAny_bind ?_
 simp only [newExc,newTuple]
 refine wpAny_bind (wpAny_newObj_type ?_ (by size_fits)); refine wpAny_bind (m:=firstArgMember _ _) (wpAny_of_eq (a:=Value.none) (by first | rfl | (simp only [firstArgMember]; rfl)) ?_)
 refine wpAny_newObj_type ?_ (by size_fits)
 have up:∀ (a b:Obj) c o,s.heap.get? c=some o->((s.heap.push a).push b).get? c=some o:=fun a b c o e=>Heap.get?_push_of_some _ (Heap.get?_push_of_some _ e)
 refine raiseNew_still (S.mono fun e o _ h=>up _ _ e o h) (Heap.get?_push_size _ rfl) rfl (by simp <;> omega) (S.ne_new (by simp only [Heap.size_push]; exact Nat.le_succ _)) fun h' o' sb ho hc=>?_
 refine q h' _ (fun b o e=>?_) ⟨o',ho,hc⟩
 have lt:=Heap.lt_size e
 rw [sb.2 b (fun z=>by rw [z] at lt; simp only [Heap.size_push] at lt; exact Nat.not_lt.mpr (Nat.le_succ _) lt)]
 exact up _ _ b o e
theorem list_end_still {it l:Addr} {i:Nat} {items:Array Value} {Q:Option Value->Shared->Prop} (S:Still A s.heap) (ni:A.handled ≠ some (.ref it)) (hit:s.heap.IsListIter it l i) (hl:s.heap.IsList l items) (hx:items[i]?=none)
  (q:∀ h',Heap.ExtBut it s.heap h'->Q none { s with heap:=h' }):wpAny (model P w) A (pyNext (.ref it)) Q E s:=by
 obtain ⟨o,ho,hc,hd⟩:=id hit
 obtain ⟨ol,hol,_,nl,hdl⟩:=hl
 unfold pyNext
 refine wpAny_bind (wpAny_attempt (wpAny_callSpecial?_slot (name:=Str.ofString "__next__") hit.typeIs slot_listiter_next (wpAny_call_entry slot_listiter_next hit.typeIs entry_listiter_next ?_ (args_listiter_next _))))
 show wpAny _ _ (field (.ref it) 0 >>= _) _ _ s
 refine wpAny_bind (wpAny_field ho hd (x:=.ref l) rfl ?_)
 show wpAny _ _ (if (Value.ref l == Value.none)=true then _ else _) _ _ s
 rw [if_neg (show ¬ ((Value.ref l == Value.none)=true) from Bool.false_ne_true)]
 show wpAny _ _ (field (.ref it) 1 >>= _) _ _ s
 refine wpAny_bind (wpAny_field ho hd (x:=.int i 0) rfl (wpAny_bind (wpAny_seqItems hol hdl ?_)))
 simp only [Int.toNat_natCast,hx]
 refine wpAny_bind (wpAny_rule (wpAny_bind (wpAny_setField ho hd (by simp) ?_)))
 refine stop_still (A:=A.in1) (S.in1.mono fun e o' hh h=>?_) fun h' e k he=>?_
 ·exact (Heap.SameBut.update ..).extBut _ _ (fun z=>ni (by rw [<- z]; exact hh)) h
 ·obtain ⟨oe,e1,e2⟩:=he
  refine wpAny_bind (wpAny_isInstance (T:="StopIteration") (b:=true) ⟨oe,e1,e2⟩ isSubtype_stop ?_)
  exact wpAny_pure (q _ fun b o' nb h=>k _ _ ((Heap.SameBut.update ..).extBut _ _ nb h))
theorem tuple_end_still {it l:Addr} {i:Nat} {items:Array Value} {Q:Option Value->Shared->Prop} (S:Still A s.heap) (ni:A.handled ≠ some (.ref it)) (hit:s.heap.IsTupleIter it l i) (hl:s.heap.IsTuple l items) (hx:items[i]?=none)
  (q:∀ h',Heap.ExtBut it s.heap h'->Q none { s with heap:=h' }):wpAny (model P w) A (pyNext (.ref it)) Q E s:=by
 obtain ⟨o,ho,hc,hd⟩:=id hit
 obtain ⟨ol,hol,_,nl,hdl⟩:=hl
 unfold pyNext
 refine wpAny_bind (wpAny_attempt (wpAny_callSpecial?_slot (name:=Str.ofString "__next__") hit.typeIs F.slot_tuple_iterator_next (wpAny_call_entry F.slot_tuple_iterator_next hit.typeIs F.entry_tuple_iterator_next ?_ (F.args_tuple_iterator_next_1 _))))
 show wpAny _ _ (field (.ref it) 0 >>= _) _ _ s
 refine wpAny_bind (wpAny_field ho hd (x:=.ref l) rfl ?_)
 show wpAny _ _ (if (Value.ref l == Value.none)=true then _ else _) _ _ s
 rw [if_neg (show ¬ ((Value.ref l == Value.none)=true) from Bool.false_ne_true)]
 show wpAny _ _ (field (.ref it) 1 >>= _) _ _ s
 refine wpAny_bind (wpAny_field ho hd (x:=.int i 0) rfl (wpAny_bind (wpAny_seqItems hol hdl ?_)))
 simp only [Int.toNat_natCast,hx]
 refine wpAny_bind (wpAny_rule (wpAny_bind (wpAny_setField ho hd (by simp) ?_)))
 refine stop_still (A:=A.in1) (S.in1.mono fun e o' hh h=>?_) fun h' e k he=>?_
 ·exact (Heap.SameBut.update ..).extBut _ _ (fun z=>ni (by rw [<- z]; exact hh)) h
 ·obtain ⟨oe,e1,e2⟩:=he
  refine wpAny_bind (wpAny_isInstance (T:="StopIteration") (b:=true) ⟨oe,e1,e2⟩ isSubtype_stop ?_)
  exact wpAny_pure (q _ fun b o' nb h=>k _ _ ((Heap.SameBut.update ..).extBut _ _ nb h))
theorem range_end_still {it:Addr} {x left step:Int} {Q:Option Value->Shared->Prop} (S:Still A s.heap) (hit:IsRangeIter s.heap it x left step) (hleft:left<=0)
  (q:∀ h',Heap.ExtBut it s.heap h'->Q none { s with heap:=h' }):wpAny (model P w) A (pyNext (.ref it)) Q E s:=by
 have hT:s.TypeIs (.ref it) "range_iterator":=⟨_,hit,rfl⟩
 unfold pyNext
 refine wpAny_bind (wpAny_attempt (wpAny_callSpecial?_slot (name:=Str.ofString "__next__") hT F.slot_range_iterator_next (wpAny_call_entry F.slot_range_iterator_next hT F.entry_range_iterator_next ?_ (F.args_range_iterator_next_1 _))))
 show wpAny _ _ (field (.ref it) 0 >>= _) _ _ s
 refine wpAny_bind (wpAny_field hit rfl (x:=rawInt x) rfl ?_)
 show wpAny _ _ (field (.ref it) 1 >>= _) _ _ s
 refine wpAny_bind (wpAny_field hit rfl (x:=rawInt left) rfl ?_)
 show wpAny _ _ (field (.ref it) 2 >>= _) _ _ s
 refine wpAny_bind (wpAny_field hit rfl (x:=rawInt step) rfl ?_)
 show wpAny _ _ (if left<=0 then _ else _) _ _ s
 rw [if_pos hleft]
 refine wpAny_bind (wpAny_rule ?_)
 refine wpAny_bind ?_
 refine stop_still (A:=A.in1) S.in1 fun h' e k he=>?_
 obtain ⟨oe,e1,e2⟩:=he
 refine wpAny_bind (wpAny_isInstance (T:="StopIteration") (b:=true) ⟨oe,e1,e2⟩ isSubtype_stop ?_)
 exact wpAny_pure (q _ fun b o' _ h=>k _ _ h)
theorem lnext_end_still {j a:Addr} {i:Nat} {us:Array Value} {Q:Value->Shared->Prop} (S:Still A s.heap) (nj:A.handled ≠ some (.ref j)) (g0:s.heap.IsListIter j a i) (g1:s.heap.IsList a us) (ex:us[i]?=none)
  (q:∀ h' e,Heap.ExtBut j s.heap h'->(∃ o,h'.get? e=some o/\o.cls=.type "StopIteration")->E (.ref e) { s with heap:=h' }):wpAny (model P w) A (Builtin.SmallTypes.nextOf (.ref j)) Q E s:=by
 obtain ⟨o1,k1,k2,k3⟩:=id g0
 obtain ⟨o2,k4,_,n2,k5⟩:=g1
 unfold Builtin.SmallTypes.nextOf
 refine wpAny_bind (wpAny_callSpecial?_slot (name:=Str.ofString "__next__") g0.typeIs slot_listiter_next (wpAny_call_entry slot_listiter_next g0.typeIs entry_listiter_next ?_ (args_listiter_next _)))
 show wpAny _ _ (field (.ref j) 0 >>= _) _ _ s
 refine wpAny_bind (wpAny_field k1 k3 (x:=.ref a) rfl ?_)
 show wpAny _ _ (if (Value.ref a == Value.none)=true then _ else _) _ _ s
 rw [if_neg (show ¬ ((Value.ref a == Value.none)=true) from Bool.false_ne_true)]
 show wpAny _ _ (field (.ref j) 1 >>= _) _ _ s
 refine wpAny_bind (wpAny_field k1 k3 (x:=.int i 0) rfl (wpAny_bind (wpAny_seqItems k4 k5 ?_)))
 simp only [Int.toNat_natCast,ex]
 refine wpAny_bind (wpAny_rule (wpAny_bind (wpAny_setField k1 k3 (by simp) ?_)))
 refine stop_still (A:=A.in1) (S.in1.mono fun e o' hh h=>?_) fun h' e k he=>?_
 ·exact (Heap.SameBut.update ..).extBut _ _ (fun z=>nj (by rw [<- z]; exact hh)) h
 ·exact q h' e (fun b o' nb h=>k _ _ ((Heap.SameBut.update ..).extBut _ _ nb h)) he
theorem unpackItems_still {t:Addr} {items:Array Value} {Q:List Value->Shared->Prop} (S:Still A s.heap) (ht:IsTup s.heap t items)
  (q:∀ h',Heap.ExtBut s.heap.objs.size s.heap h'->Q items.toList { s with heap:=h' }):wpAny (model P w) A (unpackItems (.ref t) items.size none) Q E s:=by
 have hlt:t ≠ s.heap.objs.size:=by obtain ⟨o,ho,_⟩:=ht; exact Nat.ne_of_lt (Heap.lt_size ho)
 unfold unpackItems
 refine wpAny_bind ?_
 unfold notIterableAtAll
 refine wpAny_bind (wpAny_specialOf ht.typeIs slot_tuple_iter.lookup (wpAny_pure ?_))
 simp only [Bool.false_eq_true,if_false]
 refine wpAny_bind (wpAny_holding (iter_tuple ht ?_))
 refine wpAny_bind (wpAny_holding (draw_tuple hlt items.size 0 _ _ ⟨_,Heap.get?_push_size _ rfl,rfl,rfl⟩ (ht.push _) (by omega) fun h₁ hit₁ hs₁=>?_))
 rw [show List.take items.size (List.drop 0 items.toList)=items.toList from by rw [List.drop_zero]; exact List.take_of_length_le (by simp),if_neg (by simp)]
 have ht₁:IsTup h₁ t items:=(ht.push _).extBut hs₁.extBut hlt
 have nn:=S.ne_new (Nat.le_refl _)
 have S1:Still A h₁:=S.mono fun e o hh he=>hs₁.extBut _ _ (fun z=>nn (by rw [<- z]; exact hh)) (Heap.get?_push_of_some _ he)
 refine wpAny_bind (wpAny_holding (tuple_end_still S1 nn hit₁ (show h₁.IsTuple t items from ht₁) (by simp) fun h₂ he₂=>?_))
 simp only [Option.isSome_none,Bool.false_eq_true,if_false]
 exact wpAny_pure (q h₂ fun b o hb e=>he₂ b o hb (hs₁.extBut b o hb (Heap.get?_push_of_some _ e)))
theorem assign_Tuple_still {env:Env} {elts:List Expr} {x1} {pos:Pos} {t:Addr} {items:Array Value} {Q:Unit->Shared->Prop} (S:Still A s.heap) (ht:IsTup s.heap t items)
  (hn:(assignEach elts env).length=items.size) (hstar:(assignEach elts env).findIdx? (·.1)=none)
  (h:∀ h',Heap.ExtBut s.heap.objs.size s.heap h'->wpAny (model P w) A (assignInOrder ((assignEach elts env).map (·.2)) items.toList) Q E { s with heap:=h' }) :
  wpAny (model P w) A (assign (.Tuple elts x1 pos) env (.ref t)) Q E s:=by
 rw [assign_Tuple]
 refine wpAny_bind (wpAny_standAt ?_)
 unfold unpack
 rw [hn,hstar]
 exact wpAny_bind (wpAny_holding (unpackItems_still S ht h))
end
theorem walks_list_still {P:Program} {w:World} {A:Around} {e:Addr} {o:Obj} {vs:Array Value} (hh:A.handled=some (.ref e)) (hd:o.data=.fields vs) (h2:vs[2]?=some .none) (I ax:Addr) (hne:ax ≠ I) (nI:e ≠ I) (items:Array Value) :
  Walks P w A I [I,ax,e] [I] items.size (fun i v=>items[i]?=some v) (fun i h=>h.IsListIter I ax i/\h.IsList ax items/\h.get? e=some o) where
 sub:=fun b hb=>by simp at hb; simp [hb]
 frame:=fun _ _ _ st hk=>⟨st.1.at fun o e=>hk I (by simp) o e,st.2.1.at fun o e=>hk ax (by simp) o e,hk e (by simp) _ st.2.2⟩
 item:=fun i s Q E hi st q=>by
  refine wpAny_pyNext_list_item st.1 st.2.1 (x:=items[i]) (by simp [hi]) fun h' hit' hs'=>?_
  exact q _ h' s.toks (by simp [hi]) ⟨hit',st.2.1.extBut hs'.extBut hne,hs'.extBut _ _ nI st.2.2⟩ fun b o hb e=>hs'.extBut b o (fun h=>hb (by simp [h])) e
 done:=fun s Q E st q=>list_end_still (.inr ⟨e,o,vs,hh,st.2.2,hd,h2⟩) (by rw [hh]; intro c; cases c; exact nI rfl) st.1 st.2.1 (by simp) fun h' he'=>q h' s.toks fun b o hb e=>he' b o (fun h=>hb (by simp [h])) e
 self:=fun _ _ _ _ st q=>wpAny_pyIter_listiter st.1 q
theorem walks_list_any {P:Program} {w:World} {A:Around} {h0:Heap} (S:Still A h0) (I ax:Addr) (hne:ax ≠ I) (nI:A.handled ≠ some (.ref I)) (items:Array Value) :
  ∃ (fp:List Addr) (st:Nat->Heap->Prop),Walks P w A I fp [I] items.size (fun i v=>items[i]?=some v) st/\(∀ h,h.IsListIter I ax 0->h.IsList ax items->(∀ b o,h0.get? b=some o->h.get? b=some o)->st 0 h) /\
   ∀ b ∈ fp,b=I\/b=ax\/∃ o,h0.get? b=some o:=by
 rcases S with z | ⟨e,o,vs,hh,he,hd,h2⟩
 ·exact ⟨_,_,Walks.list z I ax hne items,fun h a b _=>⟨a,b⟩,fun b hb=>by
   have:b=I\/b=ax:=by simpa using hb
   rcases this with r | r
   ·exact .inl r
   ·exact .inr (.inl r)⟩
 ·refine ⟨_,_,walks_list_still hh hd h2 I ax hne (fun z=>nI (by rw [hh,z])) items,fun h a b k=>⟨a,b,k _ _ he⟩,fun b hb=>?_⟩
  have:b=I\/b=ax\/b=e:=by simpa using hb
  rcases this with r | r | r
  ·exact .inl r
  ·exact .inr (.inl r)
  ·exact .inr (.inr ⟨o,by rw [r]; exact he⟩)
theorem range_item_still {P:Program} {w:World} {A:Around} {E:Value->Shared->Prop} {s:Shared} {it:Addr} {a c:Int} {n i:Nat} {Q:Option Value->Shared->Prop} (hi:i < n) (st:IsRangeIter s.heap it (a+(i:Nat)*c) ((n:Int) - (i:Nat)) c)
  (q:∀ v h' tk,(∃ t,v=.int (a+(i:Nat)*c) t)->IsRangeIter h' it (a+((i+1:Nat):Int)*c) ((n:Int) - ((i+1:Nat):Int)) c->(∀ b o,b ∉ [it]->s.heap.get? b=some o->h'.get? b=some o)->Q (some v) { s with heap:=h',toks:=tk }) :
  wpAny (model P w) A (pyNext (.ref it)) Q E s:=by
 refine wpAny_pyNext_range_item st (by omega) fun h1 it1 s1=>?_
 refine q _ h1 _ ⟨_,rfl⟩ ?_ fun b o nb x=>s1.extBut b o (fun z=>nb (by simp [z])) x
 have e1:a+((i+1:Nat):Int)*c=a+(i:Int)*c+c:=by push_cast; rw [Int.add_mul,Int.one_mul,Int.add_assoc]
 have e2:(n:Int) - ((i+1:Nat):Int)=(n:Int) - (i:Int) - 1:=by push_cast; omega
 rw [e1,e2]
 exact it1
end L2
namespace L2
open PySem PySem.Spec PyProof.Rows
abbrev Key:=Sum Int Str
def keyIs:Key->Value->Bool
 | .inl k,v=>Value.isInt k v
 | .inr x,v=>Value.isStrOf x v
def keyH (w:World):Key->Int
 | .inl k=>hashInt k
 | .inr x=>hashStr w x
theorem keyIs_shape:∀ {k:Key} {v:Value},keyIs k v=true->(∃ i t,k=Sum.inl i/\v=Value.int i t)\/(∃ x t,k=Sum.inr x/\v=Value.str x t)
 | .inl i,v,h=>by
  obtain ⟨t,e⟩:=Value.isInt_shape (k:=i) (v:=v) h
  exact .inl ⟨i,t,rfl,e⟩
 | .inr x,v,h=>by
  obtain ⟨t,e⟩:=Value.isStrOf_shape (x:=x) (v:=v) h
  exact .inr ⟨x,t,rfl,e⟩
theorem key_ll (a b:Int):decide ((Sum.inl a:Key)=Sum.inl b)=(a == b):=by
 by_cases e:a=b
 ·subst e; simp
 ·have h:¬ (Sum.inl a:Key)=Sum.inl b:=fun q=>e (Sum.inl.inj q)
  rw [decide_eq_false h]
  exact (beq_eq_false_iff_ne.mpr e).symm
theorem key_rr (a b:Str):decide ((Sum.inr a:Key)=Sum.inr b)=decide (a=b):=by
 by_cases e:a=b
 ·subst e; simp
 ·have h:¬ (Sum.inr a:Key)=Sum.inr b:=fun q=>e (Sum.inr.inj q)
  rw [decide_eq_false h,decide_eq_false e]
theorem key_lr (a:Int) (b:Str):decide ((Sum.inl a:Key)=Sum.inr b)=false:=decide_eq_false (fun q=>nomatch q)
theorem key_rl (a:Str) (b:Int):decide ((Sum.inr a:Key)=Sum.inl b)=false:=decide_eq_false (fun q=>nomatch q)
def mixKind (prog:Program) (w:World):PySem.KeyKind prog w Key where
 is:=keyIs
 hash:=keyH w
 inj:=fun v a b ha hb=>by
  rcases keyIs_shape ha with ⟨i,t,rfl,rfl⟩ | ⟨x,t,rfl,rfl⟩
  ·rcases keyIs_shape hb with ⟨j,u,rfl,e⟩ | ⟨y,u,rfl,e⟩
   ·injection e with e1 _; rw [e1]
   ·exact nomatch e
  ·rcases keyIs_shape hb with ⟨j,u,rfl,e⟩ | ⟨y,u,rfl,e⟩
   ·exact nomatch e
   ·injection e with e1 _; rw [e1]
 byValue:=fun k v h=>by
  rcases keyIs_shape h with ⟨i,t,rfl,rfl⟩ | ⟨x,t,rfl,rfl⟩ <;> rfl
 pyHash:=fun hv h=>by
  rcases keyIs_shape hv with ⟨i,t,rfl,rfl⟩ | ⟨x,t,rfl,rfl⟩
  ·exact wpAny_pyHash_int h
  ·exact wpAny_pyHash_str h
 eqBool:=fun hu hv h=>by
  rcases keyIs_shape hu with ⟨i,t,rfl,rfl⟩ | ⟨x,t,rfl,rfl⟩
  ·rcases keyIs_shape hv with ⟨j,u,rfl,rfl⟩ | ⟨y,u,rfl,rfl⟩
   ·rw [key_ll] at h; exact wpAny_eqBool_int h
   ·rw [key_lr] at h; exact SeqAt.EqAt.int_str i t y u _ _ _ _ h
  ·rcases keyIs_shape hv with ⟨j,u,rfl,rfl⟩ | ⟨y,u,rfl,rfl⟩
   ·rw [key_rl] at h; exact SeqAt.EqAt.str_int x t j u _ _ _ _ h
   ·rw [key_rr] at h; exact wpAny_eqBool_str h
 «strs»:=fun k x t v h=>by
  rcases keyIs_shape h with ⟨i,u,rfl,e⟩ | ⟨y,u,rfl,e⟩
  ·exact nomatch e
  ·injection e with e1 _
   subst e1
   cases v <;> rfl
end L2
namespace L2
open PySem PySem.Spec PyProof.Rows
inductive V where
 | non | bl (b:Bool) | int (i:Int) | str (x:Str) | byt (b:Array UInt8) | flt (b:UInt64) | ref (a:Addr) | ty (n:String)
 deriving DecidableEq
def RelV:V->Value->Prop
 | .non,u=>u=Value.none
 | .bl b,u=>u=Value.bool b
 | .int i,u=>∃ t,u=Value.int i t
 | .str x,u=>∃ t,u=Value.str x t
 | .byt b,u=>∃ t,u=Value.bytes b t
 | .flt b,u=>∃ t,u=Value.float b t
 | .ref a,u=>u=Value.ref a
 | .ty n,u=>u=Value.type n
abbrev Vals:List V->List Value->Prop:=Paired RelV
theorem Vals.length {xs:List V} {us:List Value} (r:Vals xs us):xs.length=us.length:=Paired.length r
theorem Vals.get:∀ {xs:List V} {us:List Value} {i:Nat} {x:V},Vals xs us->xs[i]?=some x->∃ u,us[i]?=some u/\RelV x u
 | _,_,_,_,.nil,e=>by simp at e
 | _,_,0,_,.cons r _,e=>by simp at e; subst e; exact ⟨_,rfl,r⟩
 | _,_,i+1,x,.cons _ t,e=>by
  obtain ⟨u,h1,h2⟩:=Vals.get (i:=i) (x:=x) t (by simpa using e)
  exact ⟨u,by simpa using h1,h2⟩
theorem Vals.set {x:V} {u:Value} (r:RelV x u):∀ {xs:List V} {us:List Value} (i:Nat),Vals xs us->Vals (xs.set i x) (us.set i u)
 | _,_,_,.nil=>.nil
 | _,_,0,.cons _ t=>.cons r t
 | _,_,i+1,.cons q t=>.cons q (Vals.set r i t)
theorem Vals.append:∀ {xs ys:List V} {us ws:List Value},Vals xs us->Vals ys ws->Vals (xs ++ ys) (us ++ ws)
 | _,_,_,_,.nil,s=>s
 | _,_,_,_,.cons r t,s=>.cons r (Vals.append t s)
theorem Vals.take:∀ {xs:List V} {us:List Value} (n:Nat),Vals xs us->Vals (xs.take n) (us.take n)
 | _,_,0,_=>.nil
 | _,_,_+1,.nil=>.nil
 | _,_,n+1,.cons r t=>.cons r (Vals.take n t)
theorem Vals.drop:∀ {xs:List V} {us:List Value} (n:Nat),Vals xs us->Vals (xs.drop n) (us.drop n)
 | _,_,0,r=>r
 | _,_,_+1,.nil=>.nil
 | _,_,n+1,.cons _ t=>Vals.drop n t
theorem Vals.none_of:∀ {xs:List V} {us:List Value} {i:Nat},Vals xs us->xs[i]?=none->us[i]?=none:=fun {xs us i} r e=>by
 have h1:=r.length
 have h2:xs.length<=i:=List.getElem?_eq_none_iff.mp e
 exact List.getElem?_eq_none_iff.mpr (by omega)
def RelO:Option V->Option Value->Prop
 | some v,some u=>RelV v u
 | none,none=>True
 | _,_=>False
def KV {κ:Type}:List (κ × V)->List (κ × Value)->Prop:=Paired fun (p:κ × V) (q:κ × Value)=>p.1=q.1/\RelV p.2 q.2
def kV:Key->V
 | .inl i=>.int i
 | .inr x=>.str x
inductive HO where
 /-- a list -/
 | lst (xs:List V)
 /-- a tuple (never changes) -/
 | tup (xs:List V)
 /-- a dict whose keys are ints and texts; one whose keys are tuples of ints and texts (the empty one is both) -/
 | dK (kvs:List (Key × V)) | dT (kvs:List (List Key × V))
 /-- a set of ints: its members,its size -/
 | set (S:Int->Bool) (n:Nat)
 /-- an instance of the class at C,its dict at dx,its attributes -/
 | ins (C dx:Addr) (fs:List (Str × V))
 /-- the dict of the instance at x -/
 | own (x:Addr)
 /-- the dict of an exception -/
 | xd (fs:List (Str × V))
 /-- a bound method,f of x -/
 | met (f x:Addr)
 /-- a range object lo,lo+1,.. below hi -/
 | rng (lo hi:Int)
 /-- a thing that is known to the object (the script; a dict while a loop walks it): read,never written while it is so -/
 | frz (o:Obj) (u:HO)
 /-- a code object's table -/
 | tbl (ps:Array Value)
 /-- any other thing,by what is true of its one object (a def of one's own: SetO a S n:=HO.ext fun h=>..) -/
 | ext (φ:Heap->Prop)
abbrev Hp:=Addr->Option HO
def upd (H:Hp) (a:Addr) (o:HO):Hp:=fun b=>if b=a then some o else H b
theorem upd_same {H:Hp} {a:Addr} {o:HO}:upd H a o a=some o:=by unfold upd; rw [if_pos rfl]
theorem upd_ne {H:Hp} {a b:Addr} {o:HO} (h:b ≠ a):upd H a o b=H b:=by unfold upd; rw [if_neg h]
theorem ne_of_none {H:Hp} {a b:Addr} {o:HO} (h:H a=some o) (h':H b=none):a ≠ b:=by
 intro e; subst e; rw [h] at h'; cases h'
section
variable (P:Program) (w:World)
def ObjOk (H:Hp) (h:Heap) (a:Addr):HO->Prop
 | .lst xs=>xs.length<=sizeLine/\∃ (its:List Value) (n:Nat),Vals xs its/\h.get? a=some { cls:=.type "list",data:=.seq its.toArray n }
 | .tup xs=>xs.length<=sizeLine/\∃ its:List Value,Vals xs its/\IsTup h a its.toArray
 | .dK kvs=>kvs.length<=sizeLine/\(a == sysModules)=false/\∃ vs,KV kvs vs/\h.DictOf (mixKind P w) a vs
 | .dT kvs=>kvs.length<=sizeLine/\(a == sysModules)=false/\∃ xs:List (List Key × Addr × Value),
   Paired (fun (p:List Key × V) (q:List Key × Addr × Value)=>p.1=q.1/\H q.2.1=some (.tup (p.1.map kV))/\RelV p.2 q.2.2) kvs xs /\
   ∃ o es ep,h.get? a=some o/\o.ExactDict/\o.data=.dict es ep/\es.toList=xs.map (entryOfKey (tupleKind (mixKind P w)))/\(xs.map (·.1)).Nodup
 | .set S n=>h.SetOf (intKind P w) a S n
 | .ins C dx fs=>H dx=some (.own a)/\fs.length<=1000/\dx ≠ a/\h.get? a=some (W.instObj C dx) /\
   ∃ mA,h.Ns1 dx mA/\(∀ f,RelO (fs.lookup f) (mA f))/\PySem.Within mA (fs.map (·.1))
 | .own _=>∃ o,h.get? a=some o
 | .xd fs=>∃ mA,h.Ns1 a mA/\∀ f,RelO (fs.lookup f) (mA f)
 | .rng lo hi=>∃ t u v,h.get? a=some { cls:=.type "range",data:=.fields #[.int lo t,.int hi u,.int 1 v] }
 | .frz o u=>h.get? a=some o/\ObjOk H h a u
 | .tbl ps=>h.get? a=some { cls:=.none,data:=.fields ps }
 | .met f x=>h.get? a=some (W.methodObj (.ref f) (.ref x))
 | .ext φ=>φ h/\(∃ o,h.get? a=some o)/\∀ h1 h2:Heap,φ h1->(∀ o,h1.get? a=some o->h2.get? a=some o)->φ h2
def HOk (H:Hp) (h:Heap):Prop:=∀ a o,H a=some o->ObjOk P w H h a o
end
section
variable {P:Program} {w:World} {H H':Hp} {h h':Heap} {a:Addr} {o:HO}
theorem ObjOk.lt (x:ObjOk P w H h a o):a < h.objs.size:=by
 cases o with
 | lst xs=>obtain ⟨_,_,_,_,e⟩:=x; exact Heap.lt_size e
 | tup xs=>obtain ⟨_,_,_,p⟩:=x; exact p.lt
 | dK kvs=>obtain ⟨_,_,_,_,o,_,_,e,_⟩:=x; exact Heap.lt_size e
 | dT kvs=>obtain ⟨_,_,_,_,o,_,_,e,_⟩:=x; exact Heap.lt_size e
 | set S n=>obtain ⟨o,_,_,_,e,_⟩:=x; exact Heap.lt_size e
 | ins C dx fs=>obtain ⟨_,_,_,e,_⟩:=x; exact Heap.lt_size e
 | own y=>obtain ⟨_,e⟩:=x; exact Heap.lt_size e
 | xd fs=>obtain ⟨_,⟨_,_,_,e,_⟩,_⟩:=x; exact Heap.lt_size e
 | rng lo hi=>obtain ⟨_,_,_,e⟩:=x; exact Heap.lt_size e
 | frz ob u=>obtain ⟨e,_⟩:=x; exact Heap.lt_size e
 | tbl ps=>exact Heap.lt_size (show h.get? a=some _ from x)
 | met f y=>exact Heap.lt_size (show h.get? a=some _ from x)
 | ext φ=>obtain ⟨_,⟨_,e⟩,_⟩:=x; exact Heap.lt_size e
theorem Paired.mapP {α β:Type} {F G:α->β->Prop}:∀ {l₁:List α} {l₂:List β},Paired F l₁ l₂->(∀ a b,F a b->G a b)->Paired G l₁ l₂
 | _,_,.nil,_=>.nil
 | _,_,.cons r t,f=>.cons (f _ _ r) (Paired.mapP t f)
theorem ObjOk.stay (x:ObjOk P w H h a o) (k:∀ b u,(b=a\/H b=some (.own a))->h.get? b=some u->h'.get? b=some u)
  (ho:∀ b,H b=some (.own a)->H' b=some (.own a)) (ht:∀ b xs,H b=some (.tup xs)->H' b=some (.tup xs)):ObjOk P w H' h' a o:=by
 induction o with
 | lst xs=>obtain ⟨z,its,n,r,e⟩:=x; exact ⟨z,its,n,r,k _ _ (.inl rfl) e⟩
 | tup xs=>obtain ⟨z,its,r,ob,e,c⟩:=x; exact ⟨z,its,r,ob,k _ _ (.inl rfl) e,c⟩
 | dK kvs=>obtain ⟨z,y,vs,r,ob,es,ep,e,c⟩:=x; exact ⟨z,y,vs,r,ob,es,ep,k _ _ (.inl rfl) e,c⟩
 | dT kvs=>
  obtain ⟨z,y,xs,r,ob,es,ep,e,c⟩:=x
  exact ⟨z,y,xs,Paired.mapP r fun p q z=>⟨z.1,ht _ _ z.2.1,z.2.2⟩,ob,es,ep,k _ _ (.inl rfl) e,c⟩
 | set S n=>obtain ⟨ob,es,ep,t,e,c⟩:=x; exact ⟨ob,es,ep,t,k _ _ (.inl rfl) e,c⟩
 | ins C dx fs=>
  obtain ⟨d,z,ne,e,mA,⟨od,es,ep,e2,c⟩,r⟩:=x
  exact ⟨ho _ d,z,ne,k _ _ (.inl rfl) e,mA,⟨od,es,ep,k _ _ (.inr d) e2,c⟩,r⟩
 | own y=>obtain ⟨ob,e⟩:=x; exact ⟨ob,k _ _ (.inl rfl) e⟩
 | xd fs=>obtain ⟨mA,⟨od,es,ep,e,c⟩,r⟩:=x; exact ⟨mA,⟨od,es,ep,k _ _ (.inl rfl) e,c⟩,r⟩
 | rng lo hi=>obtain ⟨t,u,v,e⟩:=x; exact ⟨t,u,v,k _ _ (.inl rfl) e⟩
 | frz ob u ih=>obtain ⟨e,q⟩:=x; exact ⟨k _ _ (.inl rfl) e,ih q⟩
 | tbl ps=>
  have e:h.get? a=some { cls:=.none,data:=.fields ps }:=x
  show h'.get? a=some { cls:=.none,data:=.fields ps }
  exact k a _ (.inl rfl) e
 | met f y=>
  have e:h.get? a=some (W.methodObj (.ref f) (.ref y)):=x
  show h'.get? a=some (W.methodObj (.ref f) (.ref y))
  exact k a _ (.inl rfl) e
 | ext φ=>obtain ⟨p,⟨o,e⟩,st⟩:=x; exact ⟨st _ _ p fun o q=>k _ _ (.inl rfl) q,⟨o,k _ _ (.inl rfl) e⟩,st⟩
theorem HOk.lt (x:HOk P w H h) (e:H a=some o):a < h.objs.size:=(x a o e).lt
theorem HOk.fresh (x:HOk P w H h) (e:h.objs.size<=a):H a=none:=by
 cases q:H a with
 | none=>rfl
 | some u=>exact absurd (Nat.lt_of_lt_of_le (x.lt q) e) (Nat.lt_irrefl _)
theorem HOk.kept (x:HOk P w H h) (k:∀ b u,h.get? b=some u->h'.get? b=some u):HOk P w H h':=fun a o e=>
 (x a o e).stay (fun b u _ q=>k b u q) (fun _ q=>q) fun _ _ q=>q
theorem HOk.laid (x:HOk P w H h) (k:∀ b u,h.get? b=some u->h'.get? b=some u) (hp:h.objs.size<=a) (new:ObjOk P w (upd H a o) h' a o):HOk P w (upd H a o) h':=fun b u e=>by
 have hn:=x.fresh hp
 by_cases hb:b=a
 ·subst hb; rw [upd_same] at e; cases e; exact new
 ·rw [upd_ne hb] at e
  exact (x b u e).stay (fun c v _ q=>k c v q) (fun c q=>by rw [upd_ne (ne_of_none q hn)]; exact q) fun c xs q=>by rw [upd_ne (ne_of_none q hn)]; exact q
end
def Rd (H:Hp) (a:Addr) (u:HO):Prop:=H a=some u\/∃ o,H a=some (.frz o u)
theorem Rd.ok {P:Program} {w:World} {H:Hp} {h:Heap} {a:Addr} {u:HO} (r:Rd H a u) (x:HOk P w H h):ObjOk P w H h a u:=by
 rcases r with r | ⟨o,r⟩
 ·exact x a u r
 ·obtain ⟨_,q⟩:=x a _ r
  exact q
def Mut:Option HO->Prop
 | some (.lst _)=>True
 | some (.dK _)=>True
 | some (.dT _)=>True
 | some (.set _ _)=>True
 | some (.ins _ _ _)=>True
 | some (.ext _)=>True
 | _=>False
section
variable {P:Program} {w:World} {H:Hp} {h h':Heap} {x e:Addr} {o':HO}
theorem HOk.write (ok:HOk P w H h) (mu:Mut (H x)) (he:e=x\/H e=some (.own x)) (k:∀ b u,b ≠ e->h.get? b=some u->h'.get? b=some u) (heo:∃ u,h'.get? e=some u)
  (new:ObjOk P w (upd H x o') h' x o'):HOk P w (upd H x o') h':=fun b u q=>by
 have nown:∀ c y,H c=some (.own y)->c ≠ x:=fun c y r z=>by subst z; rw [r] at mu; exact mu
 have ntup:∀ c xs,H c=some (.tup xs)->c ≠ x:=fun c xs r z=>by subst z; rw [r] at mu; exact mu
 by_cases hb:b=x
 ·subst hb; rw [upd_same] at q; cases q; exact new
 ·rw [upd_ne hb] at q
  by_cases hbe:b=e
  ·have q':H b=some (.own x):=by
    rcases he with z | z
    ·exact absurd (hbe.trans z) hb
    ·rw [hbe]; exact z
   rw [q] at q'; cases q'
   obtain ⟨v,hv⟩:=heo
   exact ⟨v,by rw [hbe]; exact hv⟩
  ·refine (ok b u q).stay (fun c v hc r=>k c v ?_ r) (fun c r=>by rw [upd_ne (nown c b r)]; exact r) fun c xs r=>by rw [upd_ne (ntup c xs r)]; exact r
   rcases hc with rfl | hc
   ·exact hbe
   ·rintro rfl
    rcases he with z | z
    ·exact nown c b hc z
    ·rw [hc] at z; cases z; exact hb rfl
end
structure Un (fs ex:List Addr) (H H':Hp) (h h':Heap):Prop where
 keep:∀ b o,h.get? b=some o->H b=none->b ∉ fs->b ∉ ex->h'.get? b=some o
 slot:∀ b o,h.get? b=some o->H b=none->b ∈ fs->b ∉ ex->∃ sl,h'.get? b=some { o with slots:=sl }
 free:∀ b o,h.get? b=some o->H b=none->b ∉ ex->H' b=none
 there:∀ b o,h.get? b=some o->b ∉ ex->∃ o',h'.get? b=some o'
 tups:∀ b xs,H b=some (.tup xs)->H' b=some (.tup xs)
 frzs:∀ b o u,H b=some (.frz o u)->H' b=some (.frz o u)
 tbls:∀ b ps,H b=some (.tbl ps)->∃ more,H' b=some (.tbl (ps ++ more))
section
variable {fs fs' ex ex':List Addr} {H H1 H2:Hp} {h h1 h2 h':Heap} {a x e:Addr} {o:HO}
theorem Un.any (u:Un fs ex H H1 h h1) {b:Addr} {ob:Obj} (q:h.get? b=some ob) (n:H b=none) (hx:b ∉ ex):∃ sl,h1.get? b=some { ob with slots:=sl }:=by
 by_cases hb:b ∈ fs
 ·exact u.slot b ob q n hb hx
 ·exact ⟨ob.slots,u.keep b ob q n hb hx⟩
theorem Un.kept (k:∀ b u,h.get? b=some u->h'.get? b=some u):Un fs ex H H h h':=
 ⟨fun b ob q _ _ _=>k b ob q,fun b ob q _ _ _=>⟨ob.slots,k b ob q⟩,fun _ _ _ n _=>n,fun b ob q _=>⟨ob,k b ob q⟩,fun _ _ q=>q,fun _ _ _ q=>q,fun _ ps q=>⟨#[],by rw [q]; simp⟩⟩
theorem Un.refl:Un fs ex H H h h:=Un.kept fun _ _ q=>q
theorem Un.laid (k:∀ b u,h.get? b=some u->h'.get? b=some u) (hp:h.objs.size<=a) (hn:H a=none):Un fs ex H (upd H a o) h h' where
 keep:=fun b u q _ _ _=>k b u q
 slot:=fun b u q _ _ _=>⟨u.slots,k b u q⟩
 free:=fun b u q n _=>by rw [upd_ne (Nat.ne_of_lt (Nat.lt_of_lt_of_le (Heap.lt_size q) hp))]; exact n
 there:=fun b u q _=>⟨u,k b u q⟩
 tups:=fun b xs q=>by rw [upd_ne (ne_of_none q hn)]; exact q
 frzs:=fun b u xs q=>by rw [upd_ne (ne_of_none q hn)]; exact q
 tbls:=fun b ps q=>⟨#[],by rw [upd_ne (ne_of_none q hn),q]; simp⟩
theorem Un.write (mu:Mut (H x)) (he:e=x\/H e=some (.own x)) (k:∀ b u,b ≠ e->h.get? b=some u->h'.get? b=some u) (heo:∃ u,h'.get? e=some u):Un fs ex H (upd H x o) h h':=by
 have hx:∀ b,H b=none->b ≠ x:=fun b n z=>by subst z; rw [n] at mu; exact mu
 have hb:∀ b,H b=none->b ≠ e:=fun b n z=>by
  subst z
  rcases he with r | r
  ·exact hx b n r
  ·rw [n] at r; cases r
 have hm:∀ b u,H b=some u->¬ Mut (some u)->b ≠ x:=fun b u q nm z=>by subst z; rw [q] at mu; exact nm mu
 refine ⟨fun b u q n _ _=>k b u (hb b n) q,fun b u q n _ _=>⟨u.slots,k b u (hb b n) q⟩,fun b u q n _=>by rw [upd_ne (hx b n)]; exact n,fun b u q _=>?_,
  fun b xs q=>by rw [upd_ne (hm b _ q fun z=>z)]; exact q,fun b u xs q=>by rw [upd_ne (hm b _ q fun z=>z)]; exact q,fun b ps q=>⟨#[],by rw [upd_ne (hm b _ q fun z=>z),q]; simp⟩⟩
 by_cases hbe:b=e
 ·subst hbe; exact heo
 ·exact ⟨u,k b u hbe q⟩
end
def trk (h:Heap) (H:Hp):List Addr:=(List.range h.objs.size).filter fun a=>(H a).isSome
def hidT (h:Heap) (H:Hp):Heap:=W.hideAll h (trk h H)
theorem hidT_size (h:Heap) (H:Hp):(hidT h H).objs.size=h.objs.size:=W.hideAll_size _ _
theorem hidT_get {h:Heap} {H:Hp} {b:Addr} {o:Obj} (e:h.get? b=some o) (n:H b=none):(hidT h H).get? b=some o:=
 W.hideAll_get _ e fun hm=>by
  have q:(H b).isSome=true:=(List.mem_filter.mp hm).2
  rw [n] at q; simp at q
theorem of_hidT {h:Heap} {H:Hp} {b:Addr} {o:Obj} (e:(hidT h H).get? b=some o):h.get? b=some o/\H b=none:=by
 have e':h.get? b=some o:=W.of_hideAll (trk h H) e
 refine ⟨e',?_⟩
 cases q:H b with
 | none=>rfl
 | some x=>
  have hm:b ∈ trk h H:=List.mem_filter.mpr ⟨List.mem_range.mpr (Heap.lt_size e'),by simp [q]⟩
  have z:(hidT h H).get? b=none:=W.hideAll_none (trk h H) hm
  rw [z] at e; cases e
end L2
namespace L2
open PySem PySem.Spec PyProof.Rows
structure Mod (K:W.Frag) (mg:Str->Option Value) (base:Heap):Prop where
 kin:K.In base
 glob:base.Ns mainGlobals mg
 blt:∃ mb,base.Ns builtinsNs mb/\∀ x:Str,x ≠ "__name__"->mb x=bootBuiltins x
 nolimit:base.NoLimit
structure Cx where
 prog:Program
 w:World
 K:W.Frag
 mg:Str->Option Value
 base:Heap
 A:Around
 N:List Str
 s₀:Shared
 H₀:Hp
 env:Env
 outer:List Env
 stack:List Env
 ex:List Addr
 fn:Str->Bool
 calm:Bool
 still:Bool
 fz:List (Addr × Obj × HO)
 pn:List (Addr × Obj)
 xe:Value->Shared->Prop
def frs (l:List Env):List Addr:=l.filterMap (·.frame)
abbrev Cx.fs (X:Cx):List Addr:=frs X.outer
def Vis (sc:Scope) (x:Str):Prop:=sc.names.lookup x=some .local\/sc.names.lookup x=some .cell\/sc.names.lookup x=some .free
def Loc (sc:Scope) (x:Str):Prop:=sc.names.lookup x=some .local\/sc.names.lookup x=some .cell
def Look (env:Env) (h:Heap) (m:Str->Option Value) (x:Str) (u:Value):Prop:=
 (env.kindOf x=some .local/\m x=some u)\/((env.kindOf x=some .cell\/env.kindOf x=some .free)/\∃ c,env.cells.lookup x=some c/\h.IsCell c (some u))
structure Cx.Ok (X:Cx):Prop where
 mod:Mod X.K X.mg X.base
 kind:X.env.scope.kind=.function
 glob:X.env.globals=mainGlobals
 blt:X.env.builtins=builtinsNs
 above:X.s₀.heap.objs.size<=X.env.locals
 inj:∀ x y c,X.env.cells.lookup x=some c->X.env.cells.lookup y=some c->x=y
 has:∀ x,(X.env.kindOf x=some .cell\/X.env.kindOf x=some .free)->∃ c,X.env.cells.lookup x=some c
 cab:∀ x c,X.fn x=true->X.env.cells.lookup x=some c->X.s₀.heap.objs.size<=c
 hd:X.calm=true->X.A.handled=none
 hs:X.still=true->X.A.handled=none\/∃ e o u vs,X.A.handled=some (.ref e)/\(e,o,u) ∈ X.fz/\o.data=.fields vs/\vs[2]?=some .none
 frames:X.A.frames=some X.stack
 stk:X.stack=X.outer\/(X.stack=X.env :: X.outer/\X.env.frame=some X.env.locals)
 exf:∀ b ∈ X.ex,b ≠ X.env.locals/\∀ x c,X.env.cells.lookup x=some c->c ≠ b
 bs:∀ b o,X.base.get? b=some o->X.s₀.heap.get? b=some o/\X.H₀ b=none
 bsz:X.base.objs.size<=X.s₀.heap.objs.size
 noex:∀ b o,X.base.get? b=some o->b ∉ X.ex
 exfs:∀ b ∈ X.ex,b ∉ X.fs
 funs:X.s₀.heap.FunFrames X.base X.outer
 frf:∀ b ∈ X.fs,X.H₀ b=none
structure Inv (X:Cx) (pins:List (Addr × Obj)) (σ:List (Option V)) (H:Hp) (s:Shared):Prop where
 ok:X.Ok
 fzs:∀ p ∈ X.fz,H p.1=some (.frz p.2.1 p.2.2)
 os:s.os=X.s₀.os
 bare:AllBare s.gens
 base:Un X.fs X.ex X.H₀ H X.s₀.heap s.heap
 loc:∃ m,s.heap.Ns X.env.locals m/\∀ (i:Nat) (x:Str) (v:V),X.N[i]?=some x->σ[i]?=some (some v)->Vis X.env.scope x->∃ u,RelV v u/\Look X.env s.heap m x u
 cell:∀ x c,X.env.cells.lookup x=some c->∃ v,s.heap.IsCell c v
 free:H X.env.locals=none
 freeC:∀ x c,X.env.cells.lookup x=some c->H c=none
 pin:∀ p ∈ X.pn ++ pins,s.heap.get? p.1=some p.2/\H p.1=none/\p.1 ≠ X.env.locals/\p.1 ∉ X.fs/\∀ v,p.2.data ≠ .cell v
 hok:HOk X.prog X.w H s.heap
 len:σ.length=X.N.length
section
variable {X:Cx} {pins:List (Addr × Obj)} {σ:List (Option V)} {H H':Hp} {s:Shared} {h':Heap}
theorem Cx.Ok.nofr (ok:X.Ok) {b:Addr} {o:Obj} (e:X.base.get? b=some o):b ∉ X.fs:=fun hb=>by
 have:=(ok.funs.mem hb).1
 rw [e] at this; cases this
theorem Inv.bs (I:Inv X pins σ H s):∀ b o,X.base.get? b=some o->s.heap.get? b=some o/\H b=none:=fun b o e=>
 ⟨I.base.keep b o (I.ok.bs b o e).1 (I.ok.bs b o e).2 (I.ok.nofr e) (I.ok.noex b o e),I.base.free b o (I.ok.bs b o e).1 (I.ok.bs b o e).2 (I.ok.noex b o e)⟩
theorem Inv.bk (I:Inv X pins σ H s):∀ b o,X.base.get? b=some o->s.heap.get? b=some o:=fun b o e=>(I.bs b o e).1
theorem Inv.mod (I:Inv X pins σ H s):Mod X.K X.mg X.base:=I.ok.mod
theorem Inv.kIn (I:Inv X pins σ H s):X.K.In s.heap:=I.ok.mod.kin.keeps I.bk
theorem Inv.lt (I:Inv X pins σ H s):X.env.locals < s.heap.objs.size:=let ⟨_,hn,_⟩:=I.loc; hn.lt
theorem Inv.sz (I:Inv X pins σ H s):X.s₀.heap.objs.size<=s.heap.objs.size:=Nat.le_trans I.ok.above (Nat.le_of_lt I.lt)
theorem Inv.nofs (I:Inv X pins σ H s) {a:Addr} (h:s.heap.objs.size<=a):a ∉ X.fs:=fun hb=>by
 obtain ⟨_,o,ho,_⟩:=I.ok.funs.mem hb
 exact absurd (Nat.lt_of_lt_of_le (Heap.lt_size ho) (Nat.le_trans I.sz h)) (Nat.lt_irrefl _)
theorem Inv.cne (I:Inv X pins σ H s):∀ x c,X.env.cells.lookup x=some c->c ≠ X.env.locals:=fun x c e z=>by
 obtain ⟨v,o,ho,hd⟩:=I.cell x c e
 obtain ⟨m,⟨o',es,ep,ho',hd',_⟩,_⟩:=I.loc
 rw [z,ho'] at ho; cases ho; rw [hd'] at hd; cases hd
theorem Inv.funs (I:Inv X pins σ H s):s.heap.FunFrames X.base X.outer:=by
 have all:∀ (l:List Env),(∀ b ∈ frs l,b ∈ X.fs)->X.s₀.heap.FunFrames X.base l->s.heap.FunFrames X.base l:=by
  intro l
  induction l with
  | nil=>intro _ _; trivial
  | cons env r ih=>
   intro hs hl
   obtain ⟨hk,⟨L,o,hf,hn,ho,hd⟩,hr⟩:=hl
   have hL:L ∈ X.fs:=hs L (by unfold frs; rw [List.filterMap_cons,hf]; exact List.mem_cons_self)
   obtain ⟨sl,e⟩:=I.base.slot L o ho (I.ok.frf L hL) hL fun z=>I.ok.exfs L z hL
   exact ⟨hk,⟨L,_,hf,hn,e,hd⟩,ih (fun b hb=>hs b (by unfold frs; rw [List.filterMap_cons,hf]; exact List.mem_cons_of_mem _ hb)) hr⟩
 exact all X.outer (fun _ hb=>hb) I.ok.funs
theorem Inv.stack (I:Inv X pins σ H s):s.heap.FunFrames X.base X.stack:=by
 rcases I.ok.stk with e | ⟨e,hf⟩
 ·rw [e]; exact I.funs
 ·rw [e]
  obtain ⟨m,hn,_⟩:=I.loc
  refine .cons (by rw [I.ok.kind]; decide) hf hn ?_ I.funs
  exact Heap.get?_none_of_le (Nat.le_trans I.ok.bsz I.ok.above)
theorem Inv.stkSub (I:Inv X pins σ H s):∀ b ∈ frs X.stack,b ∈ X.env.locals :: X.fs:=fun b hb=>by
 rcases I.ok.stk with e | ⟨e,hf⟩
 ·rw [e] at hb; exact List.mem_cons_of_mem _ hb
 ·rw [e] at hb
  unfold frs at hb
  rw [List.filterMap_cons,hf] at hb
  exact hb
theorem Inv.stkFree (I:Inv X pins σ H s):∀ b ∈ frs X.stack,H b=none:=fun b hb=>by
 rcases List.mem_cons.mp (I.stkSub b hb) with e | hb
 ·rw [e]; exact I.free
 ·obtain ⟨_,o,ho,_⟩:=I.ok.funs.mem hb
  exact I.base.free b o ho (I.ok.frf b hb) fun z=>I.ok.exfs b z hb
theorem Inv.step {g':Array GenState} {t':Nat} {d':Drawn} {ch:List Addr} (I:Inv X pins σ H s)
  (hch:∀ b ∈ ch,(b ∈ X.ex\/X.s₀.heap.objs.size<=b)/\b ≠ X.env.locals/\(∀ x c,X.env.cells.lookup x=some c->c ≠ b)/\∀ p ∈ X.pn ++ pins,p.1 ≠ b)
  (keep:∀ b o,b ≠ X.env.locals->b ∉ X.fs->b ∉ ch->s.heap.get? b=some o->H b=none->h'.get? b=some o)
  (slot:∀ b o,b ≠ X.env.locals->b ∈ X.fs->b ∉ ch->s.heap.get? b=some o->H b=none->∃ sl,h'.get? b=some { o with slots:=sl }) (free:∀ b o,b ∉ ch->s.heap.get? b=some o->H b=none->H' b=none)
  (there:∀ b o,b ∉ ch->s.heap.get? b=some o->∃ o',h'.get? b=some o')
  (tups:∀ b xs,H b=some (.tup xs)->H' b=some (.tup xs)) (frzs:∀ b o u,H b=some (.frz o u)->H' b=some (.frz o u)) (tbls:∀ b ps,H b=some (.tbl ps)->∃ more,H' b=some (.tbl (ps ++ more)))
  (ns:∀ m,s.heap.Ns X.env.locals m->h'.Ns X.env.locals m) (hok:HOk X.prog X.w H' h') (hg:AllBare g') :
  Inv X pins σ H' { s with heap:=h',gens:=g',drawn:=d',toks:=t' }:=by
 have neL:∀ b o,X.s₀.heap.get? b=some o->b ≠ X.env.locals:=fun b o e=>Nat.ne_of_lt (Nat.lt_of_lt_of_le (Heap.lt_size e) I.ok.above)
 have neC:∀ b o,X.s₀.heap.get? b=some o->b ∉ X.ex->b ∉ ch:=fun b o e hx hb=>by
  rcases (hch b hb).1 with z | z
  ·exact hx z
  ·exact absurd (Nat.lt_of_lt_of_le (Heap.lt_size e) z) (Nat.lt_irrefl _)
 have cellK:∀ x c,X.env.cells.lookup x=some c->∀ v,s.heap.IsCell c v->h'.IsCell c v:=fun x c e v ⟨o,ho,hd⟩=>by
  have nch:c ∉ ch:=fun z=>(hch c z).2.2.1 x c e rfl
  by_cases hc:c ∈ X.fs
  ·obtain ⟨sl,q⟩:=slot c o (I.cne x c e) hc nch ho (I.freeC x c e)
   exact ⟨_,q,hd⟩
  ·exact ⟨o,keep c o (I.cne x c e) hc nch ho (I.freeC x c e),hd⟩
 refine ⟨I.ok,fun p hp=>frzs _ _ _ (I.fzs p hp),I.os,hg,⟨fun b o e n hb hx=>?_,fun b o e n hb hx=>?_,fun b o e n hx=>?_,fun b o e hx=>?_,fun b xs e=>tups b xs (I.base.tups b xs e),fun b o xs e=>frzs b o xs (I.base.frzs b o xs e),fun b ps e=>?_⟩,?_,fun x c e=>?_,?_,fun x c e=>?_,fun p hp=>?_,hok,I.len⟩
 ·exact keep b o (neL b o e) hb (neC b o e hx) (I.base.keep b o e n hb hx) (I.base.free b o e n hx)
 ·obtain ⟨sl,e1⟩:=I.base.slot b o e n hb hx
  obtain ⟨sl',e2⟩:=slot b _ (neL b o e) hb (neC b o e hx) e1 (I.base.free b o e n hx)
  exact ⟨sl',e2⟩
 ·obtain ⟨o',e1⟩:=I.base.there b o e hx
  exact free b o' (neC b o e hx) e1 (I.base.free b o e n hx)
 ·obtain ⟨o',e1⟩:=I.base.there b o e hx
  exact there b o' (neC b o e hx) e1
 ·obtain ⟨m1,e1⟩:=I.base.tbls b ps e
  obtain ⟨m2,e2⟩:=tbls b _ e1
  exact ⟨m1 ++ m2,by rw [e2,Array.append_assoc]⟩
 ·obtain ⟨m,hn,hl⟩:=I.loc
  refine ⟨m,ns m hn,fun i x v e1 e2 e3=>?_⟩
  obtain ⟨u,r,l⟩:=hl i x v e1 e2 e3
  refine ⟨u,r,?_⟩
  rcases l with l | ⟨k,c,e,z⟩
  ·exact .inl l
  ·exact .inr ⟨k,c,e,cellK x c e _ z⟩
 ·obtain ⟨v,z⟩:=I.cell x c e
  exact ⟨v,cellK x c e v z⟩
 ·obtain ⟨m,⟨o,_,_,ho,_⟩,_⟩:=I.loc
  exact free _ o (fun z=>(hch _ z).2.1 rfl) ho I.free
 ·obtain ⟨v,o,ho,hd⟩:=I.cell x c e
  exact free c o (fun z=>(hch c z).2.2.1 x c e rfl) ho (I.freeC x c e)
 ·obtain ⟨e,n,ne,nf,d⟩:=I.pin p hp
  have nch:p.1 ∉ ch:=fun z=>(hch p.1 z).2.2.2 p hp rfl
  exact ⟨keep p.1 p.2 ne nf nch e n,free p.1 p.2 nch e n,ne,nf,d⟩
theorem Inv.un {t':Nat} (I:Inv X pins σ H s) (u:Un X.fs [] H H' s.heap h') (hok:HOk X.prog X.w H' h'):Inv X pins σ H' { s with heap:=h',toks:=t' }:=by
 obtain ⟨m,⟨o,es,ep,ho,r⟩,_⟩:=id I.loc
 obtain ⟨sl,hL⟩:=u.any ho I.free (by simp)
 exact I.step (g':=s.gens) (d':=s.drawn) (ch:=[]) (fun _ z=>nomatch z) (fun b o _ hb _ e n=>u.keep b o e n hb (by simp)) (fun b o _ hb _ e n=>u.slot b o e n hb (by simp)) (fun b o _ e n=>u.free b o e n (by simp)) (fun b o _ e=>u.there b o e (by simp)) u.tups u.frzs u.tbls (fun m' hm=>by
  obtain ⟨o',es',ep',ho',r'⟩:=hm
  rw [ho] at ho'; cases ho'
  exact ⟨_,es',ep',hL,r'⟩) hok I.bare
theorem Inv.call {g':Array GenState} {t':Nat} {d':Drawn} {ch:List Addr} (I:Inv X pins σ H s) (u:Un (frs X.stack) ch H H' s.heap h') (hok:HOk X.prog X.w H' h') (hg:AllBare g')
  (hch:∀ b ∈ ch,(b ∈ X.ex\/X.s₀.heap.objs.size<=b)/\b ≠ X.env.locals/\(∀ x c,X.env.cells.lookup x=some c->c ≠ b)/\∀ p ∈ X.pn ++ pins,p.1 ≠ b) :
  Inv X pins σ H' { s with heap:=h',gens:=g',drawn:=d',toks:=t' }:=by
 obtain ⟨m,⟨o,es,ep,ho,r⟩,_⟩:=id I.loc
 obtain ⟨sl,hL⟩:=u.any ho I.free fun z=>(hch _ z).2.1 rfl
 exact I.step (ch:=ch) hch (fun b o hL hb hc e n=>u.keep b o e n (fun z=>(List.mem_cons.mp (I.stkSub b z)).elim hL hb) hc) (fun b o _ _ hc e n=>u.any e n hc) (fun b o hc e n=>u.free b o e n hc) (fun b o hc e=>u.there b o e hc) u.tups u.frzs u.tbls (fun m' hm=>by
  obtain ⟨o',es',ep',ho',r'⟩:=hm
  rw [ho] at ho'; cases ho'
  exact ⟨_,es',ep',hL,r'⟩) hok hg
theorem Inv.turned {t':Nat} {it:Addr} (I:Inv X pins σ H s) (k:∀ b o,b ≠ it->s.heap.get? b=some o->h'.get? b=some o) (hn:H it=none) (hL:it ≠ X.env.locals)
  (h1:it ∈ X.ex\/X.s₀.heap.objs.size<=it) (h2:∀ x c,X.env.cells.lookup x=some c->c ≠ it) (h3:∀ p ∈ X.pn ++ pins,p.1 ≠ it):Inv X pins σ H { s with heap:=h',toks:=t' }:=by
 have nit:∀ b u,H b=some u->b ≠ it:=fun b u e z=>by rw [z,hn] at e; cases e
 refine I.step (g':=s.gens) (d':=s.drawn) (ch:=[it]) (fun b hb=>?_) (fun b o _ _ hc e _=>k b o (fun z=>hc (by simp [z])) e) (fun b o _ _ hc e _=>⟨o.slots,k b o (fun z=>hc (by simp [z])) e⟩) (fun _ _ _ _ n=>n)
  (fun b o hc e=>⟨o,k b o (fun z=>hc (by simp [z])) e⟩) (fun _ _ e=>e) (fun _ _ _ e=>e) (fun b ps e=>⟨#[],by rw [e]; simp⟩) (fun m hm=>?_) (fun b u e=>?_) I.bare
 ·have e:b=it:=by simpa using hb
  subst e
  exact ⟨h1,hL,h2,h3⟩
 ·obtain ⟨o,es,ep,ho,r⟩:=hm
  exact ⟨o,es,ep,k _ o (Ne.symm hL) ho,r⟩
 ·refine (I.hok b u e).stay (fun c v hc q=>k c v ?_ q) (fun _ q=>q) fun _ _ q=>q
  rcases hc with z | z
  ·rw [z]; exact nit b u e
  ·exact nit c _ z
theorem Inv.stl (I:Inv X pins σ H s) (hc:X.still=true):Still X.A s.heap:=by
 rcases I.ok.hs hc with z | ⟨e,o,u,vs,hh,hm,r⟩
 ·exact .inl z
 ·exact .inr ⟨e,o,vs,hh,(I.hok e _ (I.fzs _ hm)).1,r⟩
theorem Inv.stn (I:Inv X pins σ H s) (hc:X.still=true) {b:Addr} (n:H b=none):X.A.handled ≠ some (.ref b):=by
 rcases I.ok.hs hc with z | ⟨e,o,u,vs,hh,hm,r⟩
 ·rw [z]; intro c; cases c
 ·rw [hh]; intro c; cases c
  have y:=I.fzs _ hm
  have y':H b=some (.frz o u):=y
  rw [n] at y'; cases y'
theorem Inv.tok (I:Inv X pins σ H s) (t:Nat):Inv X pins σ H { s with toks:=t }:=I.un (h':=s.heap) (t':=t) Un.refl I.hok
theorem Inv.kept {t':Nat} (I:Inv X pins σ H s) (k:∀ b u,s.heap.get? b=some u->h'.get? b=some u):Inv X pins σ H { s with heap:=h',toks:=t' }:=I.un (Un.kept k) (I.hok.kept k)
theorem Inv.laid {a:Addr} {o:HO} {t':Nat} (I:Inv X pins σ H s) (k:∀ b u,s.heap.get? b=some u->h'.get? b=some u) (hp:s.heap.objs.size<=a) (new:ObjOk X.prog X.w (upd H a o) h' a o) :
  Inv X pins σ (upd H a o) { s with heap:=h',toks:=t' }:=I.un (Un.laid k hp (I.hok.fresh hp)) (I.hok.laid k hp new)
theorem Inv.write {x e:Addr} {o:HO} {t':Nat} (I:Inv X pins σ H s) (mu:Mut (H x)) (he:e=x\/H e=some (.own x)) (k:∀ b u,b ≠ e->s.heap.get? b=some u->h'.get? b=some u) (heo:∃ u,h'.get? e=some u)
  (new:ObjOk X.prog X.w (upd H x o) h' x o):Inv X pins σ (upd H x o) { s with heap:=h',toks:=t' }:=I.un (Un.write mu he k heo) (I.hok.write mu he k heo new)
theorem Inv.pins_of {pins':List (Addr × Obj)} (I:Inv X pins σ H s) (h:∀ p ∈ pins',s.heap.get? p.1=some p.2/\H p.1=none/\p.1 ≠ X.env.locals/\p.1 ∉ X.fs/\∀ v,p.2.data ≠ .cell v):Inv X pins' σ H s:=
 ⟨I.ok,I.fzs,I.os,I.bare,I.base,I.loc,I.cell,I.free,I.freeC,fun p hp=>(List.mem_append.mp hp).elim (fun z=>I.pin p (List.mem_append_left _ z)) (h p),I.hok,I.len⟩
theorem nodup_ix {N:List Str} (hN:N.Nodup) {i j:Nat} {x:Str} (a:N[i]?=some x) (b:N[j]?=some x):i=j:=by
 obtain ⟨h1,e1⟩:=List.getElem?_eq_some_iff.mp a
 obtain ⟨h2,e2⟩:=List.getElem?_eq_some_iff.mp b
 exact (List.getElem_inj hN).mp (e1.trans e2.symm)
theorem store_ok2 {M:Model} {A:Around} {E:Value->Shared->Prop} {i:Nat} {x:Str} {v:V} {u:Value} {Q:Unit->Shared->Prop} (I:Inv X pins σ H s) (hN:X.N.Nodup) (hi:X.N[i]?=some x) (hx:Loc X.env.scope x) (r:RelV v u)
  (h:∀ s',Inv X pins (σ.set i (some v)) H s'->(∃ a,Heap.SameBut a s.heap s'.heap/\(a=X.env.locals\/X.env.cells.lookup x=some a))->Q () s') (hf:X.fn x=true\/X.env.scope.names.lookup x=some .local:=by first | exact .inl rfl | exact .inr rfl | assumption):wpAny M A (storeName X.env x u) Q E s:=by
 obtain ⟨m,hn,hl⟩:=id I.loc
 have hcls:(X.env.scope.kind == .class || (X.env.scope.kind == .module && X.env.locals != X.env.globals))=false:=by rw [I.ok.kind]; rfl
 have hiσ:i < σ.length:=by rw [I.len]; exact (List.getElem?_eq_some_iff.mp hi).1
 have cne:=I.cne
 have tracked:∀ {a:Addr} {h':Heap},(∃ o,s.heap.get? a=some o/\H a=none)->Heap.SameBut a s.heap h'->HOk X.prog X.w H h':=fun {a h'} ha hs b ob e=>by
  obtain ⟨_,_,hfree⟩:=ha
  refine (I.hok b ob e).stay (fun c w' hc q=>(hs.2 c ?_).trans q) (fun _ q=>q) fun _ _ q=>q
  rintro rfl
  rcases hc with rfl | hc
  ·rw [hfree] at e; cases e
  ·rw [hfree] at hc; cases hc
 rcases hx with hk | hk
 ·refine wpAny_storeName_local hk hn (fun h' hn' hs=>?_) hcls
  obtain ⟨oL,_,_,hoL,_⟩:=id hn
  refine h _ ⟨I.ok,I.fzs,I.os,I.bare,⟨fun b o e n hb hx=>?_,fun b o e n hb hx=>?_,I.base.free,fun b o e hx=>?_,I.base.tups,I.base.frzs,I.base.tbls⟩,⟨_,hn',fun j y v' e1 e2 e3=>?_⟩,fun y c e=>?_,I.free,I.freeC,fun p hp=>?_,tracked ⟨oL,hoL,I.free⟩ hs,by simpa using I.len⟩ ⟨_,hs,.inl rfl⟩
  ·exact (hs.2 b (Nat.ne_of_lt (Nat.lt_of_lt_of_le (Heap.lt_size e) I.ok.above))).trans (I.base.keep b o e n hb hx)
  ·obtain ⟨sl,e1⟩:=I.base.slot b o e n hb hx
   exact ⟨sl,(hs.2 b (Nat.ne_of_lt (Nat.lt_of_lt_of_le (Heap.lt_size e) I.ok.above))).trans e1⟩
  ·obtain ⟨o',e1⟩:=I.base.there b o e hx
   exact ⟨o',(hs.2 b (Nat.ne_of_lt (Nat.lt_of_lt_of_le (Heap.lt_size e) I.ok.above))).trans e1⟩
  ·by_cases hj:j=i
   ·subst hj
    rw [hi] at e1; cases e1
    rw [List.getElem?_set_self hiσ] at e2
    cases e2
    exact ⟨u,r,.inl ⟨hk,by simp⟩⟩
   ·rw [List.getElem?_set_ne (Ne.symm hj)] at e2
    obtain ⟨u',r',q⟩:=hl j y v' e1 e2 e3
    refine ⟨u',r',?_⟩
    rcases q with ⟨k,e⟩ | ⟨k,c,e,z⟩
    ·refine .inl ⟨k,?_⟩
     have:y ≠ x:=fun e=>hj (nodup_ix hN e1 (e ▸ hi))
     simp [this,e]
    ·exact .inr ⟨k,c,e,z.sameBut hs (cne y c e)⟩
  ·obtain ⟨w',z⟩:=I.cell y c e
   exact ⟨w',z.sameBut hs (cne y c e)⟩
  ·obtain ⟨e,n,ne,nf,d⟩:=I.pin p hp
   exact ⟨(hs.2 p.1 ne).trans e,n,ne,nf,d⟩
 ·have hfn:X.fn x=true:=by
   rcases hf with z | z
   ·exact z
   ·rw [z] at hk; cases hk
  obtain ⟨c,hc⟩:=I.ok.has x (.inl hk)
  obtain ⟨w',z⟩:=I.cell x c hc
  refine wpAny_storeName_cell I.ok.kind hk hc z (fun h' hc' hs=>?_)
  obtain ⟨oc,hoc,hocd⟩:=id z
  refine h { s with heap:=h' } ⟨I.ok,I.fzs,I.os,I.bare,⟨fun b o e n hb hx=>?_,fun b o e n hb hx=>?_,I.base.free,fun b o e hx=>?_,I.base.tups,I.base.frzs,I.base.tbls⟩,⟨m,hn.sameBut hs (Ne.symm (cne x c hc)),fun j y v' e1 e2 e3=>?_⟩,fun y c' e=>?_,I.free,I.freeC,fun p hp=>?_,tracked ⟨oc,hoc,I.freeC x c hc⟩ hs,by simpa using I.len⟩ ⟨c,hs,.inr hc⟩
  ·exact (hs.2 b (Nat.ne_of_lt (Nat.lt_of_lt_of_le (Heap.lt_size e) (I.ok.cab x c hfn hc)))).trans (I.base.keep b o e n hb hx)
  ·obtain ⟨sl,e1⟩:=I.base.slot b o e n hb hx
   exact ⟨sl,(hs.2 b (Nat.ne_of_lt (Nat.lt_of_lt_of_le (Heap.lt_size e) (I.ok.cab x c hfn hc)))).trans e1⟩
  ·obtain ⟨o',e1⟩:=I.base.there b o e hx
   exact ⟨o',(hs.2 b (Nat.ne_of_lt (Nat.lt_of_lt_of_le (Heap.lt_size e) (I.ok.cab x c hfn hc)))).trans e1⟩
  ·by_cases hj:j=i
   ·subst hj
    rw [hi] at e1; cases e1
    rw [List.getElem?_set_self hiσ] at e2
    cases e2
    exact ⟨u,r,.inr ⟨.inl hk,c,hc,hc'⟩⟩
   ·rw [List.getElem?_set_ne (Ne.symm hj)] at e2
    obtain ⟨u',r',q⟩:=hl j y v' e1 e2 e3
    refine ⟨u',r',?_⟩
    rcases q with q | ⟨k,c',e,z'⟩
    ·exact .inl q
    ·refine .inr ⟨k,c',e,z'.sameBut hs ?_⟩
     rintro rfl
     exact hj (nodup_ix hN e1 (I.ok.inj _ _ _ e hc ▸ hi))
  ·by_cases hcc:c'=c
   ·subst hcc; exact ⟨_,hc'⟩
   ·obtain ⟨w2,z2⟩:=I.cell y c' e
    exact ⟨w2,z2.sameBut hs hcc⟩
  ·obtain ⟨e,n,ne,nf,d⟩:=I.pin p hp
   refine ⟨(hs.2 p.1 ?_).trans e,n,ne,nf,d⟩
   intro q
   rw [q,hoc] at e
   have q':oc=p.2:=Option.some.inj e
   exact d w' (by rw [<- q']; exact hocd)
theorem store_ok {M:Model} {A:Around} {E:Value->Shared->Prop} {i:Nat} {x:Str} {v:V} {u:Value} {Q:Unit->Shared->Prop} (I:Inv X pins σ H s) (hN:X.N.Nodup) (hi:X.N[i]?=some x) (hx:Loc X.env.scope x) (r:RelV v u)
  (h:∀ s',Inv X pins (σ.set i (some v)) H s'->Q () s') (hf:X.fn x=true\/X.env.scope.names.lookup x=some .local:=by first | exact .inl rfl | exact .inr rfl | assumption):wpAny M A (storeName X.env x u) Q E s:=
 store_ok2 I hN hi hx r (fun s' I' _=>h s' I') hf
theorem Inv.call' {s':Shared} {ch:List Addr} (I:Inv X pins σ H s) (ho:s'.os=s.os) (u:Un (frs X.stack) ch H H' s.heap s'.heap) (hok:HOk X.prog X.w H' s'.heap) (hg:AllBare s'.gens)
  (hch:∀ b ∈ ch,(b ∈ X.ex\/X.s₀.heap.objs.size<=b)/\b ≠ X.env.locals/\(∀ x c,X.env.cells.lookup x=some c->c ≠ b)/\∀ p ∈ X.pn ++ pins,p.1 ≠ b):Inv X pins σ H' s':=by
 obtain ⟨h',g',d',t',o'⟩:=s'
 have e:o'=s.os:=ho
 subst e
 exact I.call (g':=g') (t':=t') (d':=d') u hok hg hch
end
abbrev XK:=Value->Option Addr->Hp->Prop
abbrev St:=List (Option V)
abbrev VK:=V->Hp->Prop
abbrev TE:=St->Hp->VK->Prop
abbrev TT:=St->Hp->(Bool->Hp->Prop)->Prop
abbrev TA:=St->Hp->(List V->Hp->Prop)->Prop
structure Ends where
 nx:St->Hp->Prop
 rt:VK
 bk:St->Hp->Prop:=fun _ _=>False
 ct:St->Hp->Prop:=fun _ _=>False
abbrev TS:=Ends->St->Hp->Prop
def EP (X:Cx) (pins:List (Addr × Obj)) (σ:St) (Q:VK) (u:Value) (s':Shared):Prop:=∃ v H',Inv X pins σ H' s'/\RelV v u/\Q v H'
def TP (X:Cx) (pins:List (Addr × Obj)) (σ:St) (Q:Bool->Hp->Prop) (b:Bool) (s':Shared):Prop:=∃ H',Inv X pins σ H' s'/\Q b H'
def AP (X:Cx) (pins:List (Addr × Obj)) (σ:St) (Q:List V->Hp->Prop) (us:List Value) (s':Shared):Prop:=∃ vs H',Inv X pins σ H' s'/\Vals vs us/\Q vs H'
def SP (X:Cx) (pins:List (Addr × Obj)) (D:Ends) (f:Flow) (s':Shared):Prop:=
 match f with
 | .next=>∃ σ' H',Inv X pins σ' H' s'/\D.nx σ' H'
 | .brk=>∃ σ' H',Inv X pins σ' H' s'/\D.bk σ' H'
 | .cont=>∃ σ' H',Inv X pins σ' H' s'/\D.ct σ' H'
 | .ret u=>∃ v σ' H',Inv X pins σ' H' s'/\RelV v u/\D.rt v H'
def PE (X:Cx) (e:Expr) (t:TE):Prop:=
 ∀ (pins:List (Addr × Obj)) (s:Shared) (σ:St) (H:Hp) (Q:VK),Inv X pins σ H s->t σ H Q->wpAny (model X.prog X.w) X.A (eval e X.env) (EP X pins σ Q) X.xe s
def PT (X:Cx) (e:Expr) (t:TT):Prop:=
 ∀ (pins:List (Addr × Obj)) (s:Shared) (σ:St) (H:Hp) (Q:Bool->Hp->Prop),Inv X pins σ H s->t σ H Q->wpAny (model X.prog X.w) X.A (isTrue e X.env (eval e X.env)) (TP X pins σ Q) X.xe s
def PW (X:Cx) (e:Expr) (t:TT):Prop:=
 ∀ (whole:Sem Value) (pins:List (Addr × Obj)) (s:Shared) (σ:St) (H:Hp) (Q:Bool->Hp->Prop),Inv X pins σ H s->t σ H Q->wpAny (model X.prog X.w) X.A (isTrue e X.env whole) (TP X pins σ Q) X.xe s
theorem PW.pt {X:Cx} {e:Expr} {t:TT} (h:PW X e t):PT X e t:=h _
def PA (X:Cx) (es:List Expr) (t:TA):Prop:=
 ∀ (pos:Pos) (pins:List (Addr × Obj)) (s:Shared) (σ:St) (H:Hp) (Q:List V->Hp->Prop),Inv X pins σ H s->t σ H Q->wpAny (model X.prog X.w) X.A (spliced (backTo pos (starEach es X.env))) (AP X pins σ Q) X.xe s
def PS (X:Cx) (st:Stmt) (t:TS):Prop:=
 ∀ (pins:List (Addr × Obj)) (s:Shared) (σ:St) (H:Hp) (D:Ends),Inv X pins σ H s->t D σ H->wpAny (model X.prog X.w) X.A (exec st X.env) (SP X pins D) X.xe s
def PSs (X:Cx) (st:List Stmt) (t:TS):Prop:=
 ∀ (pins:List (Addr × Obj)) (s:Shared) (σ:St) (H:Hp) (D:Ends),Inv X pins σ H s->t D σ H->wpAny (model X.prog X.w) X.A (execs st X.env) (SP X pins D) X.xe s
theorem thn {α:Type} {t:Sem α} {Q Q':α->Shared->Prop} {M:Model} {A:Around} {E:Value->Shared->Prop} {s:Shared} (h:wpAny M A t Q E s) (hQ:∀ a s,Q a s->Q' a s):wpAny M A t Q' E s:=wpAny_mono h hQ fun _ _ x=>x
end L2
namespace L2
open PySem PySem.Spec PyProof.Rows
section
variable {X:Cx}
def tVar (i:Nat):TE:=fun σ H Q=>∃ v,σ[i]?=some (some v)/\Q v H
def tC (v:V):TE:=fun _ H Q=>Q v H
theorem pe_var {i:Nat} {x:Str} {pos:Pos} (hN:X.N[i]?=some x) (hv:Vis X.env.scope x) (hd:(x == ("__debug__":Str))=false:=by decide) (hcd:(x == ("__classdict__":Str))=false:=by decide):PE X (.Name x pos) (tVar i):=by
 intro pins s σ H Q I h
 obtain ⟨v,e,h⟩:=h
 obtain ⟨m,hn,hl⟩:=I.loc
 obtain ⟨u,r,l⟩:=hl i x v hN e hv
 have fin:EP X pins σ Q u s:=⟨v,H,I,r,h⟩
 rcases l with ⟨hk,hm⟩ | ⟨hk,c,hc,hcell⟩
 ·exact wpAny_Name (wpAny_loadName_local I.ok.kind hk hn hm fin) hd
 ·rcases hk with hk | hk
  ·exact wpAny_Name (wpAny_loadName_cell I.ok.kind hk hc hcell fin) hd
  ·exact wpAny_Name (wpAny_loadName_free I.ok.kind hk hc hcell fin hcd) hd
theorem pe_int {i j pos}:PE X (.Constant (.int i) j pos) (tC (.int i)):=fun _ _ _ H _ I h=>wpAny_Constant_int ⟨.int i,H,I.tok _,⟨_,rfl⟩,h⟩
theorem pe_bl {b j pos}:PE X (.Constant (.bool b) j pos) (tC (.bl b)):=fun _ _ _ H _ I h=>Constant_bool ⟨.bl b,H,I,rfl,h⟩
theorem pe_non {j pos}:PE X (.Constant .none j pos) (tC .non):=fun _ _ _ H _ I h=>Constant_none ⟨.non,H,I,rfl,h⟩
theorem pe_str {x j pos}:PE X (.Constant (.str x) j pos) (tC (.str x)):=fun _ _ _ H _ I h=>Calls.Constant_str ⟨.str x,H,I.tok _,⟨_,rfl⟩,h⟩
def Gl (X:Cx) (x:Str):Prop:=X.env.kindOf x=some .globalImplicit
theorem ld_glob {E:Value->Shared->Prop} {pins:List (Addr × Obj)} {s:Shared} {σ:St} {H:Hp} {x:Str} {u:Value} {pos:Pos} {Q:Value->Shared->Prop} (I:Inv X pins σ H s) (hg:Gl X x) (hm:X.mg x=some u) (h:Q u s)
  (hd:(x == ("__debug__":Str))=false:=by decide):wpAny (model X.prog X.w) X.A (eval (.Name x pos) X.env) Q E s:=
 Calls.Name_function_global I.ok.kind hg (Calls.loadGlobal_global (by rw [I.ok.glob]; exact I.mod.glob.keeps I.bk) hm h) hd
theorem ld_blt {E:Value->Shared->Prop} {pins:List (Addr × Obj)} {s:Shared} {σ:St} {H:Hp} {x:Str} {u:Value} {pos:Pos} {Q:Value->Shared->Prop} (I:Inv X pins σ H s) (hg:Gl X x) (hm:X.mg x=none) (hv:bootBuiltins x=some u) (h:Q u s)
  (hn:x ≠ "__name__":=by decide) (hd:(x == ("__debug__":Str))=false:=by decide):wpAny (model X.prog X.w) X.A (eval (.Name x pos) X.env) Q E s:=by
 obtain ⟨mb,h1,h2⟩:=I.mod.blt
 exact Calls.Name_function_global I.ok.kind hg (Calls.loadGlobal_builtin (by rw [I.ok.glob]; exact I.mod.glob.keeps I.bk) hm (by rw [I.ok.blt]; exact h1.keeps I.bk) ((h2 x hn).trans hv) h) hd
theorem pe_glob {x:Str} {v:V} {u:Value} {pos:Pos} (hg:Gl X x) (hm:X.mg x=some u) (r:RelV v u) (hd:(x == ("__debug__":Str))=false:=by decide):PE X (.Name x pos) (tC v):=
 fun _ _ _ H _ I h=>ld_glob I hg hm ⟨v,H,I,r,h⟩ hd
theorem pe_bltn {x:Str} {v:V} {u:Value} {pos:Pos} (hg:Gl X x) (hm:X.mg x=none) (hv:bootBuiltins x=some u) (r:RelV v u) (hn:x ≠ "__name__":=by decide) (hd:(x == ("__debug__":Str))=false:=by decide):PE X (.Name x pos) (tC v):=
 fun _ _ _ H _ I h=>ld_blt I hg hm hv ⟨v,H,I,r,h⟩ hn hd
variable {a b:Expr} {ta tb:TE} {pos:Pos}
def tB (t:TE):TT:=fun σ H Q=>t σ H fun x H1=>∃ c,x=.bl c/\Q c H1
theorem pt_val {e:Expr} {t:TE} (h:PE X e t) (he:∀ whole,isTrue e X.env whole=(do let v <- whole; standAt e.pos; holding [v] (truthy v)):=by intro _; rfl):PT X e (tB t):=by
 intro pins s σ H Q I hw
 refine isTrue_plain (thn (h pins s σ H _ I hw) fun v s1 ⟨x,H1,I1,r1,q1⟩=>?_) (he _)
 obtain ⟨d,rfl,q⟩:=q1
 cases r1
 exact wpAny_truthy_bool ⟨H1,I1,q⟩
variable {tA tB':TT} {rest:List Expr}
def tAnd (t u:TT):TT:=fun σ H Q=>t σ H fun c H1=>if c=true then u σ H1 Q else Q false H1
def tOr (t u:TT):TT:=fun σ H Q=>t σ H fun c H1=>if c=true then Q true H1 else u σ H1 Q
def tNot (t:TT):TT:=fun σ H Q=>t σ H fun c H1=>Q (!c) H1
theorem pw_and1 (ha:PT X a tA):PW X (.BoolOp .And [a] pos) tA:=by
 intro wh pins s σ H Q I h
 refine isTrue_and (thn (ha pins s σ H Q I h) fun c s1 e=>?_)
 cases c with
 | true=>exact isTrue_and_nil e
 | false=>exact e
theorem pw_or1 (ha:PT X a tA):PW X (.BoolOp .Or [a] pos) tA:=by
 intro wh pins s σ H Q I h
 refine isTrue_or (thn (ha pins s σ H Q I h) fun c s1 e=>?_)
 cases c with
 | false=>exact isTrue_or_nil e
 | true=>exact e
theorem pw_and (ha:PT X a tA) (hb:PW X (.BoolOp .And (b :: rest) pos) tB'):PW X (.BoolOp .And (a :: b :: rest) pos) (tAnd tA tB'):=by
 intro wh pins s σ H Q I h
 refine isTrue_and (thn (ha pins s σ H _ I h) fun c s1 ⟨H1,I1,q1⟩=>?_)
 cases c with
 | true=>exact hb wh pins s1 σ H1 Q I1 q1
 | false=>exact ⟨H1,I1,q1⟩
theorem pw_or (ha:PT X a tA) (hb:PW X (.BoolOp .Or (b :: rest) pos) tB'):PW X (.BoolOp .Or (a :: b :: rest) pos) (tOr tA tB'):=by
 intro wh pins s σ H Q I h
 refine isTrue_or (thn (ha pins s σ H _ I h) fun c s1 ⟨H1,I1,q1⟩=>?_)
 cases c with
 | true=>exact ⟨H1,I1,q1⟩
 | false=>exact hb wh pins s1 σ H1 Q I1 q1
theorem pt_not (ha:PT X a tA):PT X (.UnaryOp .Not a pos) (tNot tA):=by
 intro pins s σ H Q I h
 exact isTrue_not (ha pins s σ H (fun c H1=>Q (!c) H1) I h)
def tAndV (ta tb:TE):TE:=fun σ H Q=>ta σ H fun x H1=>∃ c,x=.bl c/\if c=true then tb σ H1 Q else Q (.bl false) H1
def tOrV (ta tb:TE):TE:=fun σ H Q=>ta σ H fun x H1=>∃ c,x=.bl c/\if c=true then Q (.bl true) H1 else tb σ H1 Q
def tNotV (ta:TE):TE:=fun σ H Q=>ta σ H fun x H1=>∃ c,x=.bl c/\Q (.bl (!c)) H1
theorem pe_one {op} {t:TE} (h:PE X a t):PE X (.BoolOp op [a] pos) t:=fun pins s σ H Q I hw=>BoolOp_one (h pins s σ H Q I hw)
theorem pe_and (ha:PE X a ta) (hb:PE X (.BoolOp .And (b :: rest) pos) tb):PE X (.BoolOp .And (a :: b :: rest) pos) (tAndV ta tb):=by
 intro pins s σ H Q I h
 refine BoolOp_and (thn (ha pins s σ H _ I h) fun v s1 ⟨x,H1,I1,r1,q1⟩=>?_)
 obtain ⟨c,rfl,q1⟩:=q1
 cases r1
 refine wpAny_truthy_bool ?_
 cases c with
 | true=>exact hb pins s1 σ H1 Q I1 q1
 | false=>exact ⟨.bl false,H1,I1,rfl,q1⟩
theorem pe_or (ha:PE X a ta) (hb:PE X (.BoolOp .Or (b :: rest) pos) tb):PE X (.BoolOp .Or (a :: b :: rest) pos) (tOrV ta tb):=by
 intro pins s σ H Q I h
 refine BoolOp_or (thn (ha pins s σ H _ I h) fun v s1 ⟨x,H1,I1,r1,q1⟩=>?_)
 obtain ⟨c,rfl,q1⟩:=q1
 cases r1
 refine wpAny_truthy_bool ?_
 cases c with
 | false=>exact hb pins s1 σ H1 Q I1 q1
 | true=>exact ⟨.bl true,H1,I1,rfl,q1⟩
theorem pe_not (ha:PE X a ta):PE X (.UnaryOp .Not a pos) (tNotV ta):=by
 intro pins s σ H Q I h
 refine UnaryOp_ (thn (ha pins s σ H _ I h) fun v s1 ⟨x,H1,I1,r1,q1⟩=>?_)
 obtain ⟨c,rfl,q1⟩:=q1
 cases r1
 exact not_of (wpAny_truthy_bool ⟨.bl (!c),H1,I1,rfl,q1⟩)
def tIf (t:TT) (ta tb:TE):TE:=fun σ H Q=>t σ H fun c H1=>if c=true then ta σ H1 Q else tb σ H1 Q
theorem pe_ifExp {c:Expr} (hc:PT X c tA) (ha:PE X a ta) (hb:PE X b tb):PE X (.IfExp c a b pos) (tIf tA ta tb):=by
 intro pins s σ H Q I h
 refine wpAny_IfExp (thn (hc pins s σ H _ I h) fun d s1 ⟨H1,I1,q1⟩=>?_)
 cases d with
 | true=>exact ha pins s1 σ H1 Q I1 q1
 | false=>exact hb pins s1 σ H1 Q I1 q1
end
end L2
namespace L2
open PySem PySem.Spec PyProof.Rows
def SqL (K:W.Frag) (H:Hp) (a:Addr) (xs:List V):Prop:=
 Rd H a (.lst xs) \/
  ∃ (o:Obj) (its:Array Value) (n:Nat),K.lookup a=some o/\o.cls=.type "list"/\o.dict=none/\o.data=.seq its n/\its.size<=sizeLine/\Vals xs its.toList
def SqT (K:W.Frag) (H:Hp) (a:Addr) (xs:List V):Prop:=
 Rd H a (.tup xs) \/
  ∃ (o:Obj) (its:Array Value) (n:Nat),K.lookup a=some o/\o.cls=.type "tuple"/\o.data=.seq its n/\its.size<=sizeLine/\Vals xs its.toList
def absV:Value->Option V
 | .none=>some .non
 | .bool b=>some (.bl b)
 | .int i _=>some (.int i)
 | .str x _=>some (.str x)
 | .bytes b _=>some (.byt b)
 | .float b _=>some (.flt b)
 | .ref a=>some (.ref a)
 | .type n=>some (.ty n)
 | _=>none
theorem RelV.abs {x:V} {u:Value} (r:RelV x u):absV u=some x:=by
 cases x with
 | non=>cases r; rfl
 | bl _=>cases r; rfl
 | int _=>obtain ⟨t,rfl⟩:=r; rfl
 | str _=>obtain ⟨t,rfl⟩:=r; rfl
 | byt _=>obtain ⟨t,rfl⟩:=r; rfl
 | flt _=>obtain ⟨t,rfl⟩:=r; rfl
 | ref _=>cases r; rfl
 | ty _=>cases r; rfl
theorem RelV.inj {x y:V} {u:Value} (r:RelV x u) (q:RelV y u):x=y:=Option.some.inj (r.abs.symm.trans q.abs)
theorem Vals.inj:∀ {xs ys:List V} {us:List Value},Vals xs us->Vals ys us->xs=ys
 | _,_,_,.nil,.nil=>rfl
 | _,_,_,.cons r t,.cons r' t'=>by rw [r.inj r',Vals.inj t t']
section
variable {X:Cx} {pins:List (Addr × Obj)} {σ:St} {H:Hp} {s:Shared} {a:Addr} {xs ys:List V}
theorem SqL.of {K:W.Frag} (h:H a=some (.lst xs)):SqL K H a xs:=.inl (.inl h)
theorem SqT.of {K:W.Frag} (h:H a=some (.tup xs)):SqT K H a xs:=.inl (.inl h)
theorem Inv.list (I:Inv X pins σ H s) (h:SqL X.K H a xs):∃ its:List Value,Vals xs its/\PlainL s.heap a its.toArray/\xs.length<=sizeLine:=by
 rcases h with h | ⟨o,its,n,hk,hc,hd,hs,hz,r⟩
 ·obtain ⟨z,its,n,r,e⟩:=h.ok I.hok
  exact ⟨its,r,⟨_,n,e,rfl,rfl,rfl⟩,z⟩
 ·refine ⟨its.toList,r,⟨o,n,I.kIn a o hk,hc,hd,by simpa using hs⟩,?_⟩
  have e:=r.length
  simp only [Array.length_toList] at e
  omega
theorem Inv.tuple (I:Inv X pins σ H s) (h:SqT X.K H a xs):∃ its:List Value,Vals xs its/\IsTup s.heap a its.toArray/\xs.length<=sizeLine:=by
 rcases h with h | ⟨o,its,n,hk,hc,hs,hz,r⟩
 ·obtain ⟨z,its,r,p⟩:=h.ok I.hok
  exact ⟨its,r,p,z⟩
 ·refine ⟨its.toList,r,⟨o,I.kIn a o hk,hc,n,by simpa using hs⟩,?_⟩
  have e:=r.length
  simp only [Array.length_toList] at e
  omega
theorem Inv.list_inj (I:Inv X pins σ H s) (h:SqL X.K H a xs) (h':SqL X.K H a ys):xs=ys:=by
 obtain ⟨its,r,⟨o,n,e,_,_,d⟩,_⟩:=I.list h
 obtain ⟨its',r',⟨o',n',e',_,_,d'⟩,_⟩:=I.list h'
 rw [e] at e'; cases e'
 rw [d] at d'
 injection d' with d1 _
 have:its=its':=by simpa using congrArg Array.toList d1
 subst this
 exact r.inj r'
theorem Inv.tuple_inj (I:Inv X pins σ H s) (h:SqT X.K H a xs) (h':SqT X.K H a ys):xs=ys:=by
 obtain ⟨its,r,⟨o,e,_,n,d⟩,_⟩:=I.tuple h
 obtain ⟨its',r',⟨o',e',_,n',d'⟩,_⟩:=I.tuple h'
 rw [e] at e'; cases e'
 rw [d] at d'
 injection d' with d1 _
 have:its=its':=by simpa using congrArg Array.toList d1
 subst this
 exact r.inj r'
end
abbrev Cx.wish (X:Cx) (E:Value->Shared->Prop):Cx:={ X with xe:=E }
abbrev Cx.nox (X:Cx):Cx:=X.wish fun _ _=>False
theorem Cx.Ok.wish {X:Cx} (ok:X.Ok) (E:Value->Shared->Prop):(X.wish E).Ok:=
 ⟨ok.mod,ok.kind,ok.glob,ok.blt,ok.above,ok.inj,ok.has,ok.cab,ok.hd,ok.hs,ok.frames,ok.stk,ok.exf,ok.bs,ok.bsz,ok.noex,ok.exfs,ok.funs,ok.frf⟩
theorem Cx.Ok.unwish {X:Cx} {E:Value->Shared->Prop} (ok:(X.wish E).Ok):X.Ok:=
 ⟨ok.mod,ok.kind,ok.glob,ok.blt,ok.above,ok.inj,ok.has,ok.cab,ok.hd,ok.hs,ok.frames,ok.stk,ok.exf,ok.bs,ok.bsz,ok.noex,ok.exfs,ok.funs,ok.frf⟩
section
variable {X:Cx} {pins:List (Addr × Obj)} {σ:St} {H:Hp} {s:Shared} {E:Value->Shared->Prop}
theorem Inv.wish (I:Inv X pins σ H s) (E:Value->Shared->Prop):Inv (X.wish E) pins σ H s:=⟨I.ok.wish E,I.fzs,I.os,I.bare,I.base,I.loc,I.cell,I.free,I.freeC,I.pin,I.hok,I.len⟩
theorem Inv.unwish (I:Inv (X.wish E) pins σ H s):Inv X pins σ H s:=⟨I.ok.unwish,I.fzs,I.os,I.bare,I.base,I.loc,I.cell,I.free,I.freeC,I.pin,I.hok,I.len⟩
theorem SP.unwish {D:Ends} {f:Flow} {s':Shared} (h:SP (X.wish E) pins D f s'):SP X pins D f s':=by
 cases f with
 | next=>obtain ⟨σ',H',I,q⟩:=h; exact ⟨σ',H',I.unwish,q⟩
 | brk=>obtain ⟨σ',H',I,q⟩:=h; exact ⟨σ',H',I.unwish,q⟩
 | cont=>obtain ⟨σ',H',I,q⟩:=h; exact ⟨σ',H',I.unwish,q⟩
 | ret u=>obtain ⟨v,σ',H',I,r,q⟩:=h; exact ⟨v,σ',H',I.unwish,r,q⟩
theorem PSs.nox {st:List Stmt} {t:TS} (h:PSs X.nox st t):PSs X st t:=fun pins s σ H D I hw=>
 wpAny_mono (h pins s σ H D (I.wish _) hw) (fun _ _ q=>q.unwish) fun _ _ z=>False.elim z
end
section
variable {X:Cx} {st:Stmt} {rest:List Stmt} {t u:TS} {e:Expr} {te:TE} {pos:Pos}
def tNext:TS:=fun D σ H=>D.nx σ H
def tSeq (t u:TS):TS:=fun D σ H=>t { D with nx:=u D } σ H
theorem pss_nil:PSs X [] tNext:=fun _ _ σ H _ I h=>wpAny_execs_nil ⟨σ,H,I,h⟩
theorem pss_cons (h1:PS X st t) (h2:PSs X rest u):PSs X (st :: rest) (tSeq t u):=by
 intro pins s σ H D I h
 refine wpAny_execs_cons (thn (h1 pins s σ H { D with nx:=u D } I h) fun f s1 q=>?_)
 cases f with
 | next=>
  obtain ⟨σ',H',I',q⟩:=q
  exact h2 pins s1 σ' H' D I' q
 | ret v=>exact q
 | brk=>exact q
 | cont=>exact q
theorem pss_one (h1:PS X st t):PSs X [st] t:=by
 intro pins s σ H D I h
 refine wpAny_execs_cons (thn (h1 pins s σ H D I h) fun f s1 q=>?_)
 cases f with
 | next=>exact wpAny_execs_nil q
 | ret v=>exact q
 | brk=>exact q
 | cont=>exact q
theorem Inv.quiet {pins:List (Addr × Obj)} {σ:St} {H:Hp} {s:Shared} (I:Inv X pins σ H s):interactive X.env=false:=by simp [interactive,I.ok.kind]
def tDrop (te:TE):TS:=fun D σ H=>te σ H fun _ H1=>D.nx σ H1
theorem ps_expr (he:PE X e te) (hs:swapsWith e none pos.line X.env=pure false:=by rfl):PS X (.Expr e pos) (tDrop te):=by
 intro pins s σ H D I h
 exact wpAny_Expr_any (thn (he pins s σ H _ I h) fun v s1 ⟨x,H1,I1,r1,q1⟩=>⟨σ,H1,I1,q1⟩) I.quiet hs
def tRet (te:TE):TS:=fun D σ H=>te σ H D.rt
theorem ps_ret (he:PE X e te):PS X (.Return (some e) pos) (tRet te):=by
 intro pins s σ H D I h
 exact wpAny_Return_some (thn (he pins s σ H _ I h) fun v s1 ⟨x,H1,I1,r1,q1⟩=>⟨x,σ,H1,I1,r1,q1⟩)
def tIfS (c:TT) (t u:TS):TS:=fun D σ H=>c σ H fun b H1=>if b=true then t D σ H1 else u D σ H1
theorem ps_if {c:Expr} {a b:List Stmt} {tc:TT} (hc:PT X c tc) (ha:PSs X a t) (hb:PSs X b u):PS X (.If c a b pos) (tIfS tc t u):=by
 intro pins s σ H D I h
 refine wpAny_If (thn (hc pins s σ H _ I h) fun d s1 ⟨H1,I1,q1⟩=>?_)
 cases d with
 | true=>exact ha pins s1 σ H1 D I1 q1
 | false=>exact hb pins s1 σ H1 D I1 q1
def tNever:TS:=fun _ _ _=>False
theorem pss_never {sts:List Stmt}:PSs X sts tNever:=fun _ _ _ _ _ _ h=>h.elim
end
abbrev TG:=V->St->Hp->(St->Hp->Prop)->Prop
abbrev TGs:=List V->St->Hp->(St->Hp->Prop)->Prop
def PG (X:Cx) (target:Expr) (t:TG):Prop:=
 ∀ (pins:List (Addr × Obj)) (s:Shared) (σ:St) (H:Hp) (v:V) (u:Value) (Q:St->Hp->Prop),Inv X pins σ H s->RelV v u->t v σ H Q ->
  wpAny (model X.prog X.w) X.A (assign target X.env u) (fun _ s'=>∃ σ' H',Inv X pins σ' H' s'/\Q σ' H') X.xe s
def PGs (X:Cx) (ts:List Expr) (t:TGs):Prop:=
 ∀ (pins:List (Addr × Obj)) (s:Shared) (σ:St) (H:Hp) (vs:List V) (us:List Value) (Q:St->Hp->Prop),Inv X pins σ H s->Vals vs us->t vs σ H Q ->
  wpAny (model X.prog X.w) X.A (assignInOrder ((assignEach ts X.env).map (·.2)) us) (fun _ s'=>∃ σ' H',Inv X pins σ' H' s'/\Q σ' H') X.xe s
abbrev TSet:=V->V->V->Hp->(Hp->Prop)->Prop
def PSet (X:Cx) (t:TSet):Prop:=
 ∀ (pins:List (Addr × Obj)) (s:Shared) (σ:St) (H:Hp) (o i v:V) (ov iv u:Value) (Q:Hp->Prop),Inv X pins σ H s->RelV o ov->RelV i iv->RelV v u->t o i v H Q ->
  wpAny (model X.prog X.w) X.A (setItem ov iv u) (fun _ s'=>∃ H',Inv X pins σ H' s'/\Q H') X.xe s
section
variable {X:Cx} {pos:Pos}
def gName (i:Nat):TG:=fun v σ H Q=>Q (σ.set i (some v)) H
theorem pg_name {i:Nat} {x:Str} (hN:X.N.Nodup) (hi:X.N[i]?=some x) (hx:Loc X.env.scope x) (hf:X.fn x=true\/X.env.scope.names.lookup x=some .local:=by first | exact .inl rfl | exact .inr rfl | assumption):PG X (.Name x pos) (gName i):=by
 intro pins s σ H v u Q I r h
 exact wpAny_assign_Name (store_ok I hN hi hx r (fun s' I'=>⟨_,H,I',h⟩) hf)
def gNil:TGs:=fun vs σ H Q=>vs=[]/\Q σ H
def gCons (t:TG) (u:TGs):TGs:=fun vs σ H Q=>∃ v r,vs=v :: r/\t v σ H fun σ' H'=>u r σ' H' Q
theorem pgs_nil:PGs X [] gNil:=by
 intro pins s σ H vs us Q I r h
 obtain ⟨e,h⟩:=h
 subst e
 cases r
 exact assignInOrder_nil ⟨σ,H,I,h⟩
theorem pgs_cons {e:Expr} {es:List Expr} {t:TG} {u:TGs} (h1:PG X e t) (h2:PGs X es u)
  (hs:(assignEach (e :: es) X.env).map (·.2)=assign e X.env :: (assignEach es X.env).map (·.2):=by rfl):PGs X (e :: es) (gCons t u):=by
 intro pins s σ H vs us Q I r h
 obtain ⟨v,vr,e1,h⟩:=h
 subst e1
 cases r with
 | cons r rr=>
  rw [hs]
  refine assignInOrder_cons (thn (h1 pins s σ H _ _ _ I r h) fun _ s1 ⟨σ1,H1,I1,q1⟩=>?_)
  exact h2 pins s1 σ1 H1 _ _ Q I1 rr q1
def gTup (K:W.Frag) (n:Nat) (t:TGs):TG:=fun v σ H Q=>∃ a xs,v=.ref a/\SqT K H a xs/\xs.length=n/\t xs σ H Q
theorem pg_tup {es:List Expr} {k:Nat} {t:TGs} {n:Nat} (hc:X.still=true) (h:PGs X es t)
  (hn:(assignEach es X.env).length=n:=by rfl) (hst:(assignEach es X.env).findIdx? (·.1)=none:=by rfl):PG X (.Tuple es k pos) (gTup X.K n t):=by
 intro pins s σ H v u Q I r hw
 obtain ⟨a,xs,e1,hq,hl,hw⟩:=hw
 subst e1
 cases r
 obtain ⟨its,rv,ht,hz⟩:=I.tuple hq
 refine assign_Tuple_still (I.stl hc) ht (by simp [hn,<- hl,rv.length]) hst fun h' hx=>?_
 have I1:Inv X pins σ H { s with heap:=h' }:=I.kept (t':=s.toks) fun b o e=>hx b o (Nat.ne_of_lt (Heap.lt_size e)) e
 exact h pins _ σ H xs _ Q I1 (by simpa using rv) hw
def gSub (to ti:TE) (t:TSet):TG:=fun v σ H Q=>to σ H fun o H1=>ti σ H1 fun i H2=>t o i v H2 fun H3=>Q σ H3
theorem pg_sub {o i:Expr} {to ti:TE} {t:TSet} (ho:PE X o to) (hi:PE X i ti) (hs:PSet X t)
  (ha:∀ v,assign (.Subscript o i pos) X.env v=(do
   let ov <- holding [v] (eval o X.env)
   let iv <- holding [v,ov] (eval i X.env)
   standAt pos
   holding [v,ov,iv] (setItem ov iv v)
   release [v,ov,iv] []):=by intro _; rfl):PG X (.Subscript o i pos) (gSub to ti t):=by
 intro pins s σ H v u Q I r h
 rw [ha]
 refine wpAny_bind (wpAny_holding (thn (ho pins s σ H _ I h) fun ov s1 ⟨x,H1,I1,r1,q1⟩=>?_))
 refine wpAny_bind (wpAny_holding (thn (hi pins s1 σ H1 _ I1 q1) fun iv s2 ⟨y,H2,I2,r2,q2⟩=>?_))
 refine wpAny_bind (wpAny_standAt (wpAny_bind (wpAny_holding (thn (hs pins s2 σ H2 x y v ov iv u _ I2 r1 r2 r q2) fun _ s3 ⟨H3,I3,q3⟩=>?_))))
 exact wpAny_release ⟨σ,H3,I3,q3⟩
def tAsg (te:TE) (g:TG):TS:=fun D σ H=>te σ H fun x H1=>g x σ H1 D.nx
theorem ps_asg {tg e:Expr} {te:TE} {g:TG} (he:PE X e te) (hg:PG X tg g) (hs:swapsWithSole [tg] e pos.line X.env=pure false:=by rfl) (hw:swappedStores [tg] e X.env=pure none:=by rfl)
  (h1:(assignEach [tg] X.env).map (·.2)=[assign tg X.env]:=by rfl):PS X (.Assign [tg] e pos) (tAsg te g):=by
 intro pins s σ H D I h
 refine wpAny_Assign_stores (thn (he pins s σ H _ I h) fun v s1 ⟨x,H1,I1,r1,q1⟩=>?_) hs hw
 rw [h1]
 exact thn (hg pins s1 σ H1 x v _ I1 r1 q1) fun _ s2 q=>q
theorem ps_set {i:Nat} {x:Str} {e:Expr} {te:TE} {pos':Pos} (hN:X.N.Nodup) (hi:X.N[i]?=some x) (hx:Loc X.env.scope x) (he:PE X e te) (hs:swapsWith e (some (.Name x pos')) pos.line X.env=pure false:=by rfl) (hf:X.fn x=true\/X.env.scope.names.lookup x=some .local:=by first | exact .inl rfl | exact .inr rfl | assumption) :
  PS X (.Assign [.Name x pos'] e pos) (tAsg te (gName i)):=by
 intro pins s σ H D I h
 refine wpAny_Assign_Name (thn (he pins s σ H _ I h) fun v s1 ⟨y,H1,I1,r1,q1⟩=>?_) hs
 exact store_ok I1 hN hi hx r1 (fun s2 I2=>⟨_,H1,I2,q1⟩) hf
def tPar (i j:Nat) (ta:TA):TS:=fun D σ H=>ta σ H fun vs H1=>∃ v w,vs=[v,w]/\D.nx ((σ.set i (some v)).set j (some w)) H1
theorem ps_par {i j:Nat} {x y:Str} {a b:Expr} {ta:TA} {px py pt:Pos} {kt k2 pt2} (hc:X.still=true) (hN:X.N.Nodup) (hi:X.N[i]?=some x) (hj:X.N[j]?=some y) (hij:i ≠ j)
  (hx:X.env.scope.names.lookup x=some .local) (hy:X.env.scope.names.lookup y=some .local) (ha:PA X [a,b] ta)
  (hw:swappedStores [.Tuple [.Name x px,.Name y py] kt pt] (.Tuple [a,b] k2 pt2) X.env=pure (some [x,y]))
  (hs:swapsWithSole [.Tuple [.Name x px,.Name y py] kt pt] (.Tuple [a,b] k2 pt2) pos.line X.env=pure false:=by rfl) :
  PS X (.Assign [.Tuple [.Name x px,.Name y py] kt pt] (.Tuple [a,b] k2 pt2) pos) (tPar i j ta):=by
 intro pins s σ H D I h
 rw [exec_Assign_arm]
 refine wpAny_bind (wpAny_standAt ?_)
 rw [hs]
 refine wpAny_bind (wpAny_pure ?_)
 rw [if_neg (by decide)]
 refine wpAny_bind (Tuple_ (thn (ha _ pins s σ H _ I h) fun us s1 ⟨vs,H1,I1,r1,q1⟩=>?_))
 obtain ⟨v,w,e1,q1⟩:=q1
 subst e1
 obtain ⟨u1,u2,rfl,rv,rw'⟩:∃ u1 u2,us=[u1,u2]/\RelV v u1/\RelV w u2:=by
  cases r1 with
  | cons p q=>
   cases q with
   | cons p' q'=>
    cases q'
    exact ⟨_,_,rfl,p,p'⟩
 refine wpAny_newObj_type ?_ (by show 2<=sizeLine; decide)
 have I2:Inv X pins σ H1 { s1 with heap:=s1.heap.push { cls:=.type "tuple",data:=.seq [u1,u2].toArray } }:=I1.kept (t':=s1.toks) fun b o e=>Heap.get?_push_of_some _ e
 rw [hw]
 refine wpAny_bind (wpAny_pure ?_)
 show wpAny (model X.prog X.w) X.A (do rule "assign.swapped-stores"; let items <- unpackItems (.ref s1.heap.objs.size) 2 none; assignInOrder [fun v=>bindName X.env y v,fun v=>bindName X.env x v] items.reverse; pure Flow.next) _ _ _
 refine wpAny_bind (wpAny_rule (wpAny_bind (unpackItems_still (items:=#[u1,u2]) (I2.stl hc) (IsTup.new s1.heap _) fun h' hx'=>?_)))
 have I3:=I2.kept (h':=h') (t':=s1.toks) fun b o e=>hx' b o (Nat.ne_of_lt (Heap.lt_size e)) e
 show wpAny _ _ (assignInOrder [fun v=>bindName X.env y v,fun v=>bindName X.env x v] [u2,u1] >>= fun _=>pure Flow.next) _ _ _
 refine wpAny_bind (assignInOrder_cons (wpAny_bindName (store_ok I3 hN hj (.inl hy) rw' (fun s2 I4=>?_) (.inr hy))))
 refine assignInOrder_cons (wpAny_bindName (store_ok I4 hN hi (.inl hx) rv (fun s3 I5=>assignInOrder_nil (wpAny_pure ?_)) (.inr hx)))
 rw [List.set_comm _ _ (Ne.symm hij)] at I5
 exact ⟨_,H1,I5,q1⟩
end
section
variable {X:Cx} {pos:Pos}
def tWhile (c:TT) (tb:TS):TS:=fun D σ H=>∃ W:Nat->St->Hp->Prop,(∃ m,W m σ H)/\∀ m σ H,W m σ H ->
 c σ H fun b H1=>if b=true then ∃ N:St->Hp->Prop,(∀ σ' H',N σ' H'->∃ m',m' < m/\W m' σ' H')/\tb { D with nx:=N,ct:=N,bk:=D.nx } σ H1 else D.nx σ H1
theorem ps_while {c:Expr} {body:List Stmt} {tc:TT} {tb:TS} (hp:PassesOwn (model X.prog X.w) X.A X.env X.xe) (hc:PT X c tc) (hb:PSs X body tb):PS X (.While c body [] pos) (tWhile tc tb):=by
 intro pins s σ H D I h
 obtain ⟨W,⟨m0,w0⟩,turn⟩:=h
 refine wpAny_While (codeAny_whileLoop (fun n s'=>∃ σ' H',Inv X pins σ' H' s'/\W n σ' H') ?_ m0 ⟨σ,H,I,w0⟩)
 rintro n s1 ⟨σ1,H1,I1,w1⟩
 refine wpAny_passesOwn hp (thn (hc pins s1 σ1 H1 _ I1 (turn n σ1 H1 w1)) fun b s2 ⟨H2,I2,q2⟩=>?_)
 cases b with
 | true=>
  obtain ⟨N,hN,q2⟩:=q2
  rw [if_pos rfl]
  refine wpAny_passesOwn hp (thn (hb pins s2 σ1 H2 _ I2 q2) fun f s3 q3=>?_)
  cases f with
  | next=>
   obtain ⟨σ3,H3,I3,n3⟩:=q3
   obtain ⟨m',hm,w3⟩:=hN σ3 H3 n3
   exact ⟨m',hm,σ3,H3,I3,w3⟩
  | cont=>
   obtain ⟨σ3,H3,I3,n3⟩:=q3
   obtain ⟨m',hm,w3⟩:=hN σ3 H3 n3
   exact ⟨m',hm,σ3,H3,I3,w3⟩
  | brk=>exact q3
  | ret v=>exact q3
 | false=>
  rw [if_neg Bool.false_ne_true]
  exact wpAny_execs_nil ⟨σ1,H2,I2,q2⟩
end
structure It where
 go:Nat->Hp->Prop
 yld:Nat->Hp->V->Hp->Prop
 stop:Nat->Hp->Prop
def FpOk (X:Cx) (pins:List (Addr × Obj)) (H:Hp) (b:Addr):Prop:=
 H b=none/\b ≠ X.env.locals/\b ∉ X.fs/\(b ∈ X.ex\/X.s₀.heap.objs.size<=b)/\(∀ x c,X.env.cells.lookup x=some c->c ≠ b)/\∀ p ∈ X.pn ++ pins,p.1 ≠ b
theorem Inv.fpOk {X:Cx} {pins:List (Addr × Obj)} {σ:St} {H H':Hp} {s:Shared} {b:Addr} (I:Inv X pins σ H s) (hb:s.heap.objs.size<=b) (hn:H' b=none):FpOk X pins H' b:=by
 refine ⟨hn,Nat.ne_of_gt (Nat.lt_of_lt_of_le I.lt hb),I.nofs hb,.inr (Nat.le_trans I.sz hb),fun x c e z=>?_,fun p hp z=>?_⟩
 ·obtain ⟨v,q⟩:=I.cell x c e
  exact absurd (Nat.lt_of_lt_of_le q.lt (by rw [z]; exact hb)) (Nat.lt_irrefl _)
 ·exact absurd (Nat.lt_of_lt_of_le (Heap.lt_size (I.pin p hp).1) (by rw [z]; exact hb)) (Nat.lt_irrefl _)
structure Turn (P:Program) (w:World) (K:W.Frag) (tg:Expr) (J:It) (fp:List Addr) (it:Addr) (tn:Nat->Heap->Prop):Prop where
 mem:it ∈ fp
 obj:∀ i h,tn i h->∀ b ∈ fp,∃ o,h.get? b=some o/\∀ v,o.data ≠ .cell v
 keep:∀ i h h',tn i h->(∀ b ∈ fp,∀ o,h.get? b=some o->h'.get? b=some o)->tn i h'
 item:∀ (X:Cx),X.prog=P->X.w=w->X.K=K->X.still=true->∀ (i:Nat) (pins:List (Addr × Obj)) (s:Shared) (σ:St) (H:Hp) (E:Value->Shared->Prop),Inv X pins σ H s->(∀ b ∈ fp,FpOk X pins H b)->tn i s.heap->J.go i H ->
  wpAny (model P w) X.A (pyNext (.ref it)) (fun r s1=>∃ u,r=some u /\
   wpAny (model P w) X.A (letOwnedTupleGo tg (.ref it) u) (fun _ s2=>∃ x H',Inv X pins σ H' s2/\RelV x u/\J.yld i H x H'/\tn (i+1) s2.heap/\∀ b ∈ fp,H' b=none) E s1) E s
 done:∀ (X:Cx),X.prog=P->X.w=w->X.K=K->X.still=true->∀ (i:Nat) (pins:List (Addr × Obj)) (s:Shared) (σ:St) (H:Hp) (E:Value->Shared->Prop),Inv X pins σ H s->(∀ b ∈ fp,FpOk X pins H b)->tn i s.heap->J.stop i H ->
  wpAny (model P w) X.A (pyNext (.ref it)) (fun r s1=>r=none/\Inv X pins σ H s1) E s
 self:∀ (A:Around) (i:Nat) (s:Shared) (Q:Value->Shared->Prop) (E:Value->Shared->Prop),tn i s.heap->Q (.ref it) s->wpAny (model P w) A (pyIter (.ref it)) Q E s
abbrev TI:=St->Hp->(It->Hp->Prop)->Prop
def PIE (X:Cx) (pins:List (Addr × Obj)) (σ:St) (tg:Expr) (R:It->Hp->Prop) (itv:Value) (s2:Shared):Prop:=
 ∃ (it:Addr) (fp:List Addr) (tn:Nat->Heap->Prop) (J:It) (H':Hp),itv=.ref it/\Inv X pins σ H' s2/\Turn X.prog X.w X.K tg J fp it tn/\tn 0 s2.heap/\(∀ b ∈ fp,FpOk X pins H' b)/\R J H'
def PI (X:Cx) (tg iter:Expr) (wi:TI):Prop:=
 ∀ (pins:List (Addr × Obj)) (s:Shared) (σ:St) (H:Hp) (R:It->Hp->Prop),Inv X pins σ H s->wi σ H R ->
  wpAny (model X.prog X.w) X.A (eval iter X.env) (fun v s1=>wpAny (model X.prog X.w) X.A (pyIter v) (PIE X pins σ tg R) X.xe s1) X.xe s
theorem go_of {M : Model} {A : Around} {E : Value -> Shared -> Prop} {s : Shared} {tg : Expr} {it : Addr} {u : Value} {o : Obj} {n : String} {vs : Array Value} {Q : Unit -> Shared -> Prop} (ho : s.heap.get? it = some o) (hc : o.cls = .type n) (hd : o.data = .fields vs)
    (hn : ["enumerate", "zip", "dict_itemiterator", "dict_reverseitemiterator", "odict_iterator", "itertools.zip_longest", "itertools.pairwise"].contains n = false) (hQ : Q () s) : wpAny M A (letOwnedTupleGo tg (.ref it) u) Q E s := by
  unfold letOwnedTupleGo
  cases tg <;> first
    | exact wpAny_pure hQ
    | (cases u <;> first
        | exact wpAny_pure hQ
        | (refine wpAny_bind (wpAny_load ho ?_)
           rw [hc, hd]
           show wpAny M A (if (["enumerate", "zip", "dict_itemiterator", "dict_reverseitemiterator", "odict_iterator", "itertools.zip_longest", "itertools.pairwise"].contains n && vs[0]? == some (rawInt _)) = true then _ else _) Q E s
           rw [if_neg (by intro h; rw [hn, Bool.false_and] at h; cases h)]
           exact wpAny_pure hQ))
def Itl (K:W.Frag) (a:Addr):It:=
 ⟨fun i H=>∃ xs x,SqL K H a xs/\xs[i]?=some x,fun i H x H'=>H'=H/\∀ xs,SqL K H a xs->xs[i]?=some x,fun i H=>∃ xs,SqL K H a xs/\xs.length<=i⟩
def Itt (K:W.Frag) (a:Addr):It:=
 ⟨fun i H=>∃ xs x,SqT K H a xs/\xs[i]?=some x,fun i H x H'=>H'=H/\∀ xs,SqT K H a xs->xs[i]?=some x,fun i H=>∃ xs,SqT K H a xs/\xs.length<=i⟩
def Itr (lo:Int) (n:Nat):It:=⟨fun i _=>i < n,fun i H x H'=>H'=H/\x=.int (lo+i),fun i _=>n<=i⟩
theorem turn_list {P:Program} {w:World} {K:W.Frag} {tg:Expr} (a it:Addr):Turn P w K tg (Itl K a) [it] it (fun i h=>h.IsListIter it a i) where
 mem:=by simp
 obj:=fun i h st b hb=>by
  have e:b=it:=by simpa using hb
  subst e
  obtain ⟨o,e,c,d⟩:=st
  exact ⟨o,e,fun v z=>by rw [d] at z; cases z⟩
 keep:=fun i h h' st k=>st.at fun o e=>k it (by simp) o e
 item:=by
  intro X hP hw hK hc i pins s σ H E I hf st hg
  subst hP hw hK
  obtain ⟨xs,x,hq,hx⟩:=hg
  obtain ⟨its,rv,p,hz⟩:=I.list hq
  obtain ⟨u,hu,ru⟩:=rv.get hx
  obtain ⟨f0,f1,f2,f3,f4,f5⟩:=hf it (by simp)
  refine wpAny_pyNext_list_item st p.isList (x:=u) (by simpa using hu) fun h' st' sb=>?_
  have I1:Inv X pins σ H { s with heap:=h' }:=I.turned (t':=s.toks) (fun b o hb e=>(sb.2 b hb).trans e) f0 f1 f3 f4 f5
  obtain ⟨o,e,c,d⟩:=id st'
  exact ⟨u,rfl,go_of (s:={ s with heap:=h' }) e c d (by decide) ⟨x,H,I1,ru,⟨rfl,fun ys hy=>by rw [I.list_inj hy hq]; exact hx⟩,st',fun b hb=>(hf b hb).1⟩⟩
 done:=by
  intro X hP hw hK hc i pins s σ H E I hf st hg
  subst hP hw hK
  obtain ⟨xs,hq,hx⟩:=hg
  obtain ⟨its,rv,p,hz⟩:=I.list hq
  obtain ⟨f0,f1,f2,f3,f4,f5⟩:=hf it (by simp)
  have hl:=rv.length
  exact list_end_still (I.stl hc) (I.stn hc f0) st p.isList (by simp; omega) fun h' eb=>⟨rfl,I.turned (t':=s.toks) (fun b o hb e=>eb b o hb e) f0 f1 f3 f4 f5⟩
 self:=fun _ _ _ _ _ st h=>wpAny_pyIter_listiter st h
theorem turn_tuple {P:Program} {w:World} {K:W.Frag} {tg:Expr} (a it:Addr):Turn P w K tg (Itt K a) [it] it (fun i h=>h.IsTupleIter it a i) where
 mem:=by simp
 obj:=fun i h st b hb=>by
  have e:b=it:=by simpa using hb
  subst e
  obtain ⟨o,e,c,d⟩:=st
  exact ⟨o,e,fun v z=>by rw [d] at z; cases z⟩
 keep:=fun i h h' st k=>st.at fun o e=>k it (by simp) o e
 item:=by
  intro X hP hw hK hc i pins s σ H E I hf st hg
  subst hP hw hK
  obtain ⟨xs,x,hq,hx⟩:=hg
  obtain ⟨its,rv,p,hz⟩:=I.tuple hq
  obtain ⟨u,hu,ru⟩:=rv.get hx
  obtain ⟨f0,f1,f2,f3,f4,f5⟩:=hf it (by simp)
  refine wpAny_pyNext_tuple_item st (show s.heap.IsTuple a its.toArray from p) (x:=u) (by simpa using hu) fun h' st' sb=>?_
  have I1:Inv X pins σ H { s with heap:=h' }:=I.turned (t':=s.toks) (fun b o hb e=>(sb.2 b hb).trans e) f0 f1 f3 f4 f5
  obtain ⟨o,e,c,d⟩:=id st'
  exact ⟨u,rfl,go_of (s:={ s with heap:=h' }) e c d (by decide) ⟨x,H,I1,ru,⟨rfl,fun ys hy=>by rw [I.tuple_inj hy hq]; exact hx⟩,st',fun b hb=>(hf b hb).1⟩⟩
 done:=by
  intro X hP hw hK hc i pins s σ H E I hf st hg
  subst hP hw hK
  obtain ⟨xs,hq,hx⟩:=hg
  obtain ⟨its,rv,p,hz⟩:=I.tuple hq
  obtain ⟨f0,f1,f2,f3,f4,f5⟩:=hf it (by simp)
  have hl:=rv.length
  exact tuple_end_still (I.stl hc) (I.stn hc f0) st (show s.heap.IsTuple a its.toArray from p) (by simp; omega) fun h' eb=>⟨rfl,I.turned (t':=s.toks) (fun b o hb e=>eb b o hb e) f0 f1 f3 f4 f5⟩
 self:=fun _ _ _ _ _ st h=>wpAny_pyIter_tupleiter st h
theorem turn_range {P:Program} {w:World} {K:W.Frag} {tg:Expr} (it:Addr) (lo:Int) (n:Nat):Turn P w K tg (Itr lo n) [it] it (fun i h=>IsRangeIter h it (lo+(i:Nat)*1) ((n:Int) - (i:Nat)) 1) where
 mem:=by simp
 obj:=fun i h st b hb=>by
  have e:b=it:=by simpa using hb
  subst e
  exact ⟨_,st,fun v z=>by
   have z':Data.fields _=Data.cell v:=z
   cases z'⟩
 keep:=fun i h h' st k=>k it (by simp) _ st
 item:=by
  intro X hP hw hK hc i pins s σ H E I hf st hg
  subst hP hw hK
  obtain ⟨f0,f1,f2,f3,f4,f5⟩:=hf it (by simp)
  refine range_item_still (c:=1) hg st fun v h' tk hv st' kk=>?_
  obtain ⟨t,rfl⟩:=hv
  have I1:Inv X pins σ H { s with heap:=h',toks:=tk }:=I.turned (fun b o hb e=>kk b o (by simpa using hb) e) f0 f1 f3 f4 f5
  refine ⟨_,rfl,go_of (s:={ s with heap:=h',toks:=tk }) (n:="range_iterator") st' rfl rfl (by decide) ⟨.int (lo+i),H,I1,⟨t,?_⟩,⟨rfl,rfl⟩,st',fun b hb=>(hf b hb).1⟩⟩
  rw [Int.mul_one]
 done:=by
  intro X hP hw hK hc i pins s σ H E I hf st hg
  subst hP hw hK
  obtain ⟨f0,f1,f2,f3,f4,f5⟩:=hf it (by simp)
  exact range_end_still (I.stl hc) st (by have:n<=i:=hg; omega) fun h' eb=>⟨rfl,I.turned (t':=s.toks) (fun b o hb e=>eb b o hb e) f0 f1 f3 f4 f5⟩
 self:=fun _ _ _ _ _ st h=>wpAny_pyIter_rangeiter st h
end L2
namespace L2
open PySem PySem.Spec PyProof.Rows
section
variable {X:Cx} {tg:Expr}
def iList (K:W.Frag) (tl:TE):TI:=fun σ H R=>tl σ H fun x H1=>∃ a,x=.ref a/\(∃ xs,SqL K H1 a xs)/\R (Itl K a) H1
def iTup (K:W.Frag) (tl:TE):TI:=fun σ H R=>tl σ H fun x H1=>∃ a,x=.ref a/\(∃ xs,SqT K H1 a xs)/\R (Itt K a) H1
theorem pi_list {l:Expr} {tl:TE} (hl:PE X l tl):PI X tg l (iList X.K tl):=by
 intro pins s σ H R I h
 refine thn (hl pins s σ H _ I h) fun v s1 ⟨x,H1,I1,r1,q1⟩=>?_
 obtain ⟨a,e,⟨xs,hq⟩,q⟩:=q1
 subst e
 cases r1
 obtain ⟨its,rv,p,hz⟩:=I1.list hq
 refine wpAny_pyIter_list p.isList ?_
 refine ⟨s1.heap.objs.size,[s1.heap.objs.size],_,_,H1,rfl,I1.kept (t':=s1.toks) fun b o e=>Heap.get?_push_of_some _ e,turn_list a _,⟨_,Heap.get?_push_size _ rfl,rfl,rfl⟩,fun b hb=>?_,q⟩
 have e:b=s1.heap.objs.size:=by simpa using hb
 subst e
 exact I1.fpOk (Nat.le_refl _) (I1.hok.fresh (Nat.le_refl _))
theorem pi_tup {l:Expr} {tl:TE} (hl:PE X l tl):PI X tg l (iTup X.K tl):=by
 intro pins s σ H R I h
 refine thn (hl pins s σ H _ I h) fun v s1 ⟨x,H1,I1,r1,q1⟩=>?_
 obtain ⟨a,e,⟨xs,hq⟩,q⟩:=q1
 subst e
 cases r1
 obtain ⟨its,rv,p,hz⟩:=I1.tuple hq
 refine wpAny_pyIter_tuple (show s1.heap.IsTuple a its.toArray from p) ?_
 refine ⟨s1.heap.objs.size,[s1.heap.objs.size],_,_,H1,rfl,I1.kept (t':=s1.toks) fun b o e=>Heap.get?_push_of_some _ e,turn_tuple a _,⟨_,Heap.get?_push_size _ rfl,rfl,rfl⟩,fun b hb=>?_,q⟩
 have e:b=s1.heap.objs.size:=by simpa using hb
 subst e
 exact I1.fpOk (Nat.le_refl _) (I1.hok.fresh (Nat.le_refl _))
theorem range_it {pins:List (Addr × Obj)} {σ:St} {H:Hp} {s:Shared} {R:It->Hp->Prop} {E:Value->Shared->Prop} {lo hi:Int} {t u v:Tok} {tk:Nat} (I:Inv X pins σ H s) (h1:-(2^62)<=lo) (h2:lo < 2^62) (h3:-(2^62)<=hi) (h4:hi < 2^62)
  (q:R (Itr lo (hi - lo).toNat) H):wpAny (model X.prog X.w) X.A (pyIter (.ref s.heap.objs.size)) (PIE X pins σ tg R) E { s with heap:=s.heap.push { cls:=.type "range",data:=.fields #[.int lo t,.int hi u,.int 1 v] },toks:=tk }:=by
 refine wpAny_pyIter_range (IsRange.new ..) (small_one h1 h2 h3 h4) ?_
 have I1:Inv X pins σ H { s with heap:=s.heap.push { cls:=.type "range",data:=.fields #[.int lo t,.int hi u,.int 1 v] },toks:=tk }:=I.kept fun b o e=>Heap.get?_push_of_some _ e
 refine ⟨(s.heap.push { cls:=.type "range",data:=.fields #[.int lo t,.int hi u,.int 1 v] }).objs.size,[(s.heap.push { cls:=.type "range",data:=.fields #[.int lo t,.int hi u,.int 1 v] }).objs.size],_,_,H,rfl,
  I1.kept (t':=tk) fun b o e=>Heap.get?_push_of_some _ e,turn_range _ lo (hi - lo).toNat,?_,fun b hb=>?_,q⟩
 ·have e1:lo+((0:Nat):Int)*1=lo:=by simp
  have e2:(((hi - lo).toNat:Nat):Int) - ((0:Nat):Int)=Builtin.Range.rangeSize lo hi 1:=by rw [rangeSize_one]; split <;> omega
  show IsRangeIter _ _ (lo+((0:Nat):Int)*1) ((((hi - lo).toNat:Nat):Int) - ((0:Nat):Int)) 1
  rw [e1,e2]
  exact Heap.get?_push_size _ rfl
 ·have e:b=(s.heap.push { cls:=.type "range",data:=.fields #[.int lo t,.int hi u,.int 1 v] }).objs.size:=by simpa using hb
  subst e
  exact I1.fpOk (Nat.le_refl _) (I1.hok.fresh (Nat.le_refl _))
def iRng1 (ta:TA):TI:=fun σ H R=>ta σ H fun vs H1=>∃ j:Int,vs=[.int j]/\-(2^62)<=j/\j < 2^62/\R (Itr 0 j.toNat) H1
theorem pi_range1 {a:Expr} {ta:TA} {p pos:Pos} (hg:Gl X "range") (hm:X.mg "range"=none) (ha:PA X [a] ta) (hs:starEach [a] X.env=[(false,eval a X.env)]:=by rfl):PI X tg (.Call (.Name "range" p) [a] [] pos) (iRng1 ta):=by
 intro pins s σ H R I h
 refine Call_ (ld_blt I hg hm boot_range (PyProof.Rows.callWith_type1 (thn (ha pos pins s σ H _ I h) fun us s1 ⟨vs,H1,I1,r1,q1⟩=>?_) hs rfl))
 obtain ⟨j,e,q1,q2,q⟩:=q1
 subst e
 cases r1 with
 | cons r rr=>
  cases rr
  obtain ⟨t,rfl⟩:=r
  exact call_range_1 (range_it I1 (by omega) (by omega) q1 q2 (by simpa using q))
def tFor (wi:TI) (g:TG) (tb:TS):TS:=fun D σ H=>wi σ H fun J H1=>∃ W:Nat->Nat->St->Hp->Prop,(∃ m,W 0 m σ H1)/\∀ i m σ H,W i m σ H ->
 (J.stop i H/\D.nx σ H)\/(J.go i H/\∃ N:St->Hp->Prop,(∀ σ' H',N σ' H'->∃ m',m' < m/\W (i+1) m' σ' H')/\∀ x H',J.yld i H x H'->g x σ H' fun σ2 H2=>tb { D with nx:=N,ct:=N,bk:=D.nx } σ2 H2)
def pinsAt (fp:List Addr) (h:Heap):List (Addr × Obj):=fp.filterMap fun b=>(h.get? b).map fun o=>(b,o)
theorem mem_pinsAt {fp:List Addr} {h:Heap} {b:Addr} {o:Obj} (hb:b ∈ fp) (e:h.get? b=some o):(b,o) ∈ pinsAt fp h:=List.mem_filterMap.mpr ⟨b,hb,by rw [e]; rfl⟩
theorem of_pinsAt {fp:List Addr} {h:Heap} {p:Addr × Obj} (hp:p ∈ pinsAt fp h):p.1 ∈ fp/\h.get? p.1=some p.2:=by
 obtain ⟨b,hb,e⟩:=List.mem_filterMap.mp hp
 cases q:h.get? b with
 | none=>rw [q] at e; cases e
 | some o=>
  rw [q] at e
  have e':(b,o)=p:=Option.some.inj e
  subst e'
  exact ⟨hb,q⟩
theorem Inv.pinned {pins:List (Addr × Obj)} {σ:St} {H:Hp} {s:Shared} {fp:List Addr} (I:Inv X pins σ H s) (hf:∀ b ∈ fp,FpOk X pins H b) (ho:∀ b ∈ fp,∃ o,s.heap.get? b=some o/\∀ v,o.data ≠ .cell v):Inv X (pins ++ pinsAt fp s.heap) σ H s:=
 I.pins_of fun p hp=>(List.mem_append.mp hp).elim (fun z=>I.pin p (List.mem_append_right _ z)) fun z=>by
  obtain ⟨hb,e⟩:=of_pinsAt z
  obtain ⟨f0,f1,f2,_⟩:=hf p.1 hb
  obtain ⟨o,e',d⟩:=ho p.1 hb
  rw [e] at e'; cases e'
  exact ⟨e,f0,f1,f2,d⟩
theorem Inv.unpinned {pins pl:List (Addr × Obj)} {σ:St} {H:Hp} {s:Shared} (I:Inv X (pins ++ pl) σ H s):Inv X pins σ H s:=I.pins_of fun p hp=>I.pin p (List.mem_append_right _ (List.mem_append_left _ hp))
theorem ps_for {iter:Expr} {body:List Stmt} {wi:TI} {g:TG} {tb:TS} {pos:Pos} (hp:PassesOwn (model X.prog X.w) X.A X.env X.xe) (hc:X.still=true) (hi:PI X tg iter wi) (hg:PG X tg g) (hb:PSs X body tb)
  (hs:∀ x,foldedSetIterable iter X.env x=pure x:=by intro _; rfl):PS X (.For tg iter body [] pos) (tFor wi g tb):=by
 intro pins s σ H D I h
 refine wpAny_For (thn (hi pins s σ H _ I h) fun v s1 h1=>thn h1 fun itv s2 h2=>?_) hs
 obtain ⟨it,fp,tn,J,H2,e,I2,T,st2,f2,W,⟨m0,w0⟩,turn⟩:=h2
 subst e
 -- what stays true of the iterator's objects through the loop
 have stat:∀ {H':Hp},(∀ b ∈ fp,H' b=none)->∀ b ∈ fp,FpOk X pins H' b:=fun hn b hb=>⟨hn b hb,(f2 b hb).2⟩
 refine codeAny_forLoop_any (fun n s'=>∃ i σ' H',Inv X pins σ' H' s'/\tn i s'.heap/\(∀ b ∈ fp,H' b=none)/\W i n σ' H') ?_ m0 ⟨0,σ,H2,I2,st2,fun b hb=>(f2 b hb).1,w0⟩
 rintro n s3 ⟨i,σ3,H3,I3,st3,fr3,w3⟩
 rcases turn i n σ3 H3 w3 with ⟨stop,qn⟩ | ⟨go,N,hN,step⟩
 ·refine wpAny_passesOwn hp (thn (T.done X rfl rfl rfl hc i pins s3 σ3 H3 X.xe I3 (stat fr3) st3 stop) fun r s4 ⟨hr,I4⟩=>?_)
  subst hr
  exact wpAny_execs_nil ⟨σ3,H3,I4,qn⟩
 ·refine wpAny_passesOwn hp (thn (T.item X rfl rfl rfl hc i pins s3 σ3 H3 X.xe I3 (stat fr3) st3 go) fun r s4 ⟨u,hr,h4⟩=>?_)
  subst hr
  refine wpAny_passesOwn hp (thn h4 fun _ s5 ⟨x,H5,I5,r5,y5,st5,fr5⟩=>?_)
  have I5':=I5.pinned (stat fr5) (T.obj _ _ st5)
  refine wpAny_passesOwn hp (thn (hg _ s5 σ3 H5 x u _ I5' r5 (step x H5 y5)) fun _ s6 ⟨σ6,H6,I6,q6⟩=>?_)
  refine wpAny_passesOwn hp (thn (hb _ s6 σ6 H6 _ I6 q6) fun f s7 q7=>?_)
  have again:∀ {σ7:St} {H7:Hp},Inv X (pins ++ pinsAt fp s5.heap) σ7 H7 s7->N σ7 H7->∃ m,m < n/\∃ i σ' H',Inv X pins σ' H' s7/\tn i s7.heap/\(∀ b ∈ fp,H' b=none)/\W i m σ' H':=fun {σ7 H7} I7 n7=>by
   obtain ⟨m',hm,w7⟩:=hN σ7 H7 n7
   refine ⟨m',hm,i+1,σ7,H7,I7.unpinned,T.keep _ _ _ st5 fun b hb o e=>(I7.pin (b,o) (List.mem_append_right _ (List.mem_append_right _ (mem_pinsAt hb e)))).1,fun b hb=>?_,w7⟩
   obtain ⟨o,e,d⟩:=T.obj _ _ st5 b hb
   exact (I7.pin (b,o) (List.mem_append_right _ (List.mem_append_right _ (mem_pinsAt hb e)))).2.1
  cases f with
  | next=>obtain ⟨σ7,H7,I7,n7⟩:=q7; exact again I7 n7
  | cont=>obtain ⟨σ7,H7,I7,n7⟩:=q7; exact again I7 n7
  | brk=>obtain ⟨σ7,H7,I7,q7⟩:=q7; exact ⟨σ7,H7,I7.unpinned,q7⟩
  | ret v=>obtain ⟨x7,σ7,H7,I7,r7,q7⟩:=q7; exact ⟨x7,σ7,H7,I7.unpinned,r7,q7⟩
end
theorem for_list {K:W.Frag} {a:Addr} {xs:List V} {g:TG} {tb:TS} {D:Ends} {σ:St} {H:Hp} (Pv:Nat->St->Hp->Prop) (h0:Pv 0 σ H) (hl:∀ i σ H,i<=xs.length->Pv i σ H->SqL K H a xs)
  (hs:∀ i x σ H,xs[i]?=some x->Pv i σ H->g x σ H fun σ2 H2=>tb { D with nx:=Pv (i+1),ct:=Pv (i+1),bk:=D.nx } σ2 H2) (hd:∀ σ H,Pv xs.length σ H->D.nx σ H) :
  ∃ W:Nat->Nat->St->Hp->Prop,(∃ m,W 0 m σ H)/\∀ i m σ H,W i m σ H ->
   ((Itl K a).stop i H/\D.nx σ H)\/((Itl K a).go i H/\∃ N:St->Hp->Prop,(∀ σ' H',N σ' H'->∃ m',m' < m/\W (i+1) m' σ' H')/\∀ x H',(Itl K a).yld i H x H'->g x σ H' fun σ2 H2=>tb { D with nx:=N,ct:=N,bk:=D.nx } σ2 H2):=by
 refine ⟨fun i m σ H=>m=xs.length - i/\i<=xs.length/\Pv i σ H,⟨xs.length,by simp,Nat.zero_le _,h0⟩,?_⟩
 rintro i m σ H ⟨rfl,hi,p⟩
 have q:=hl i σ H hi p
 by_cases hlt:i < xs.length
 ·refine .inr ⟨⟨xs,xs[i],q,by simp [hlt]⟩,Pv (i+1),fun σ' H' p'=>⟨xs.length - (i+1),by omega,rfl,hlt,p'⟩,fun x H' y=>?_⟩
  obtain ⟨e,y⟩:=y
  subst e
  exact hs i x σ _ (y xs q) p
 ·have e:i=xs.length:=by omega
  subst e
  exact .inl ⟨⟨xs,q,Nat.le_refl _⟩,hd σ H p⟩
theorem for_tup {K:W.Frag} {a:Addr} {xs:List V} {g:TG} {tb:TS} {D:Ends} {σ:St} {H:Hp} (Pv:Nat->St->Hp->Prop) (h0:Pv 0 σ H) (hl:∀ i σ H,i<=xs.length->Pv i σ H->SqT K H a xs)
  (hs:∀ i x σ H,xs[i]?=some x->Pv i σ H->g x σ H fun σ2 H2=>tb { D with nx:=Pv (i+1),ct:=Pv (i+1),bk:=D.nx } σ2 H2) (hd:∀ σ H,Pv xs.length σ H->D.nx σ H) :
  ∃ W:Nat->Nat->St->Hp->Prop,(∃ m,W 0 m σ H)/\∀ i m σ H,W i m σ H ->
   ((Itt K a).stop i H/\D.nx σ H)\/((Itt K a).go i H/\∃ N:St->Hp->Prop,(∀ σ' H',N σ' H'->∃ m',m' < m/\W (i+1) m' σ' H')/\∀ x H',(Itt K a).yld i H x H'->g x σ H' fun σ2 H2=>tb { D with nx:=N,ct:=N,bk:=D.nx } σ2 H2):=by
 refine ⟨fun i m σ H=>m=xs.length - i/\i<=xs.length/\Pv i σ H,⟨xs.length,by simp,Nat.zero_le _,h0⟩,?_⟩
 rintro i m σ H ⟨rfl,hi,p⟩
 have q:=hl i σ H hi p
 by_cases hlt:i < xs.length
 ·refine .inr ⟨⟨xs,xs[i],q,by simp [hlt]⟩,Pv (i+1),fun σ' H' p'=>⟨xs.length - (i+1),by omega,rfl,hlt,p'⟩,fun x H' y=>?_⟩
  obtain ⟨e,y⟩:=y
  subst e
  exact hs i x σ _ (y xs q) p
 ·have e:i=xs.length:=by omega
  subst e
  exact .inl ⟨⟨xs,q,Nat.le_refl _⟩,hd σ H p⟩
theorem for_range {lo:Int} {n:Nat} {g:TG} {tb:TS} {D:Ends} {σ:St} {H:Hp} (Pv:Nat->St->Hp->Prop) (h0:Pv 0 σ H)
  (hs:∀ i σ H,i < n->Pv i σ H->g (.int (lo+i)) σ H fun σ2 H2=>tb { D with nx:=Pv (i+1),ct:=Pv (i+1),bk:=D.nx } σ2 H2) (hd:∀ σ H,Pv n σ H->D.nx σ H) :
  ∃ W:Nat->Nat->St->Hp->Prop,(∃ m,W 0 m σ H)/\∀ i m σ H,W i m σ H ->
   ((Itr lo n).stop i H/\D.nx σ H)\/((Itr lo n).go i H/\∃ N:St->Hp->Prop,(∀ σ' H',N σ' H'->∃ m',m' < m/\W (i+1) m' σ' H')/\∀ x H',(Itr lo n).yld i H x H'->g x σ H' fun σ2 H2=>tb { D with nx:=N,ct:=N,bk:=D.nx } σ2 H2):=by
 refine ⟨fun i m σ H=>m=n - i/\i<=n/\Pv i σ H,⟨n,by simp,Nat.zero_le _,h0⟩,?_⟩
 rintro i m σ H ⟨rfl,hi,p⟩
 by_cases hlt:i < n
 ·refine .inr ⟨hlt,Pv (i+1),fun σ' H' p'=>⟨n - (i+1),by omega,rfl,hlt,p'⟩,fun x H' y=>?_⟩
  obtain ⟨e,y⟩:=y
  subst e y
  exact hs i σ _ hlt p
 ·have e:i=n:=by omega
  subst e
  exact .inl ⟨Nat.le_refl _,hd σ H p⟩
end L2
namespace L2
open PySem PySem.Spec PyProof.Rows
abbrev R2:=V->V->Hp->VK->Prop
def OpR (X:Cx) (f:Value->Value->Sem Value) (r:R2):Prop:=
 ∀ (pins:List (Addr × Obj)) (s:Shared) (σ:St) (H:Hp) (x y:V) (v u:Value) (Q:VK),Inv X pins σ H s->RelV x v->RelV y u->r x y H Q ->
  wpAny (model X.prog X.w) X.A (f v u) (EP X pins σ Q) X.xe s
def UnR (X:Cx) (f:Value->Sem Value) (r:V->Hp->VK->Prop):Prop:=
 ∀ (pins:List (Addr × Obj)) (s:Shared) (σ:St) (H:Hp) (x:V) (v:Value) (Q:VK),Inv X pins σ H s->RelV x v->r x H Q ->
  wpAny (model X.prog X.w) X.A (f v) (EP X pins σ Q) X.xe s
def CallR (X:Cx) (f:Value) (r:List V->Hp->VK->Prop):Prop:=
 ∀ (pins:List (Addr × Obj)) (s:Shared) (σ:St) (H:Hp) (xs:List V) (us:List Value) (Q:VK),Inv X pins σ H s->Vals xs us->r xs H Q ->
  wpAny (model X.prog X.w) X.A (call f us) (EP X pins σ Q) X.xe s
def tOp (r:R2) (ta tb:TE):TE:=fun σ H Q=>ta σ H fun x H1=>tb σ H1 fun y H2=>r x y H2 Q
def tUn (r:V->Hp->VK->Prop) (ta:TE):TE:=fun σ H Q=>ta σ H fun x H1=>r x H1 Q
def rI (C:Int->Int->Prop) (g:Int->Int->V):R2:=fun x y H Q=>∃ i j,x=.int i/\y=.int j/\C i j/\Q (g i j) H
def rI0 (g:Int->Int->V):R2:=fun x y H Q=>∃ i j,x=.int i/\y=.int j/\Q (g i j) H
def rU (g:Int->V):V->Hp->VK->Prop:=fun x H Q=>∃ i,x=.int i/\Q (g i) H
section
variable {X:Cx} {a b c:Expr} {ta tb tc:TE} {pos:Pos}
theorem binT (ha:PE X a ta) (hb:PE X b tb) {pins:List (Addr × Obj)} {s:Shared} {σ:St} {H:Hp} {R:V->V->Hp->Prop} (I:Inv X pins σ H s)
  (h:ta σ H fun x H1=>tb σ H1 fun y H2=>R x y H2) {Q:Value->Shared->Prop} {f:Value->Value->Sem Value}
  (hf:∀ v u s2 x y H2,Inv X pins σ H2 s2->RelV x v->RelV y u->R x y H2->wpAny (model X.prog X.w) X.A (f v u) Q X.xe s2) :
  wpAny (model X.prog X.w) X.A (eval a X.env) (fun v s₁=>wpAny (model X.prog X.w) X.A (eval b X.env) (fun u s₂=>wpAny (model X.prog X.w) X.A (f v u) Q X.xe s₂) X.xe s₁) X.xe s:=by
 refine thn (ha pins s σ H _ I h) fun v s1 ⟨x,H1,I1,r1,q1⟩=>?_
 refine thn (hb pins s1 σ H1 _ I1 q1) fun u s2 ⟨y,H2,I2,r2,q2⟩=>?_
 exact hf v u s2 x y H2 I2 r1 r2 q2
theorem pe_op {op:Operator} {r:R2} (ho:OpR X (binaryOp op) r) (ha:PE X a ta) (hb:PE X b tb):PE X (.BinOp a op b pos) (tOp r ta tb):=by
 intro pins s σ H Q I h
 exact wpAny_BinOp (binT ha hb I h fun v u s2 x y H2 I2 rx ry q=>ho pins s2 σ H2 x y v u Q I2 rx ry q)
theorem pe_un {op:UnaryOp} {r:V->Hp->VK->Prop} (ho:UnR X (unaryOp op) r) (ha:PE X a ta):PE X (.UnaryOp op a pos) (tUn r ta):=by
 intro pins s σ H Q I h
 exact UnaryOp_ (thn (ha pins s σ H _ I h) fun v s1 ⟨x,H1,I1,r1,q1⟩=>ho pins s1 σ H1 x v Q I1 r1 q1)
theorem opI {f:Value->Value->Sem Value} {C:Int->Int->Prop} {g:Int->Int->Int}
  (rule:∀ (i j:Int) (t u:Tok) (s:Shared) (Q:Value->Shared->Prop) (E:Value->Shared->Prop),C i j->Q (.int (g i j) s.toks) { s with toks:=s.toks+1 }->wpAny (model X.prog X.w) X.A (f (.int i t) (.int j u)) Q E s) :
  OpR X f (rI C fun i j=>.int (g i j)):=by
 intro pins s σ H x y v u Q I rx ry h
 obtain ⟨i,j,rfl,rfl,hc,q⟩:=h
 obtain ⟨t,rfl⟩:=rx
 obtain ⟨t',rfl⟩:=ry
 exact rule i j t t' s _ _ hc ⟨.int (g i j),H,I.tok _,⟨_,rfl⟩,q⟩
theorem opI0 {f:Value->Value->Sem Value} {g:Int->Int->Int}
  (rule:∀ (i j:Int) (t u:Tok) (s:Shared) (Q:Value->Shared->Prop) (E:Value->Shared->Prop),Q (.int (g i j) s.toks) { s with toks:=s.toks+1 }->wpAny (model X.prog X.w) X.A (f (.int i t) (.int j u)) Q E s) :
  OpR X f (rI0 fun i j=>.int (g i j)):=by
 intro pins s σ H x y v u Q I rx ry h
 obtain ⟨i,j,rfl,rfl,q⟩:=h
 obtain ⟨t,rfl⟩:=rx
 obtain ⟨t',rfl⟩:=ry
 exact rule i j t t' s _ _ ⟨.int (g i j),H,I.tok _,⟨_,rfl⟩,q⟩
theorem opB0 {f:Value->Value->Sem Value} {g:Int->Int->Bool}
  (rule:∀ (i j:Int) (t u:Tok) (s:Shared) (Q:Value->Shared->Prop) (E:Value->Shared->Prop),Q (.bool (g i j)) s->wpAny (model X.prog X.w) X.A (f (.int i t) (.int j u)) Q E s) :
  OpR X f (rI0 fun i j=>.bl (g i j)):=by
 intro pins s σ H x y v u Q I rx ry h
 obtain ⟨i,j,rfl,rfl,q⟩:=h
 obtain ⟨t,rfl⟩:=rx
 obtain ⟨t',rfl⟩:=ry
 exact rule i j t t' s _ _ ⟨.bl (g i j),H,I,rfl,q⟩
def CDiv (i j:Int):Prop:=0 < j/\j < 1073741824
def CPow (i j:Int):Prop:=0<=j/\j<=1000000/\i.natAbs < 2^64
theorem op_add:OpR X (binaryOp .Add) (rI0 fun i j=>.int (i+j)):=opI0 fun _ _ _ _ _ _ _ q=>add_int q
theorem op_sub:OpR X (binaryOp .Sub) (rI0 fun i j=>.int (i - j)):=opI0 fun _ _ _ _ _ _ _ q=>sub_int q
theorem op_fdiv:OpR X (binaryOp .FloorDiv) (rI CDiv fun i j=>.int (i / j)):=opI fun i j _ _ _ _ _ hc q=>by
 have h1:(0:Int) < j:=hc.1
 have h2:j < 1073741824:=hc.2
 exact floordiv_int (by omega) (by rw [Int.fdiv_eq_ediv_of_nonneg i (by omega)]; exact q) (.inl (PyProof.noPylong_small (by omega)))
theorem op_mod:OpR X (binaryOp .Mod) (rI (fun _ j=>0 < j) fun i j=>.int (i % j)):=opI fun i j _ _ _ _ _ hc q=>by
 have h1:(0:Int) < j:=hc
 exact mod_int' (by omega) (by rw [Int.fmod_eq_emod_of_nonneg i (by omega)]; exact q)
theorem op_modN:OpR X (binaryOp .Mod) (rI (fun _ j=>j ≠ 0) fun i j=>.int (i.fmod j)):=opI fun _ _ _ _ _ _ _ hc q=>mod_int' hc q
theorem op_pow:OpR X (binaryOp .Pow) (rI CPow fun i j=>.int (i^j.toNat)):=opI fun _ _ _ _ _ _ _ hc q=>pow_int_small hc.1 hc.2.1 hc.2.2 q
theorem unI {f:Value->Sem Value} {g:Int->Int}
  (rule:∀ (i:Int) (t:Tok) (s:Shared) (Q:Value->Shared->Prop) (E:Value->Shared->Prop),Q (.int (g i) s.toks) { s with toks:=s.toks+1 }->wpAny (model X.prog X.w) X.A (f (.int i t)) Q E s) :
  UnR X f (rU fun i=>.int (g i)):=by
 intro pins s σ H x v Q I rx h
 obtain ⟨i,rfl,q⟩:=h
 obtain ⟨t,rfl⟩:=rx
 exact rule i t s _ _ ⟨.int (g i),H,I.tok _,⟨_,rfl⟩,q⟩
theorem un_neg:UnR X (unaryOp .USub) (rU fun i=>.int (-i)):=unI fun _ _ _ _ _ q=>neg_int q
end
def scal:V->V->Bool
 | .non,.non=>true | .non,.int _=>true | .int _,.non=>true | .non,.bl _=>true | .bl _,.non=>true | .non,.str _=>true | .str _,.non=>true
 | .int _,.int _=>true | .bl _,.bl _=>true | .str _,.str _=>true | .byt _,.byt _=>true
 | .int _,.str _=>true | .str _,.int _=>true | .bl _,.str _=>true | .str _,.bl _=>true
 | _,_=>false
def rEq:R2:=fun x y H Q=>scal x y=true/\Q (.bl (decide (x=y))) H
def rNe:R2:=fun x y H Q=>scal x y=true/\Q (.bl (!decide (x=y))) H
theorem dec_int {i j:Int}:decide (V.int i=V.int j)=(i == j):=by
 rw [Bool.eq_iff_iff]
 simp
theorem dec_bl {i j:Bool}:decide (V.bl i=V.bl j)=(i == j):=by
 rw [Bool.eq_iff_iff]
 simp
theorem dec_str {i j:Str}:decide (V.str i=V.str j)=(i == j):=by
 rw [Bool.eq_iff_iff]
 simp
theorem dec_byt {i j:Array UInt8}:decide (V.byt i=V.byt j)=(i.toList == j.toList):=by
 rw [Bool.eq_iff_iff]
 cases i
 cases j
 simp
section
variable {X:Cx} {a b c:Expr} {ta tb tc:TE} {pos:Pos}
theorem fin_bl {pins:List (Addr × Obj)} {σ:St} {H:Hp} {s:Shared} {Q:VK} {k k':Bool} (I:Inv X pins σ H s) (q:Q (.bl k) H) (e:k=k'):EP X pins σ Q (.bool k') s:=by
 subst e
 exact ⟨.bl k,H,I,rfl,q⟩
theorem op_eq:OpR X (compareOp .Eq) rEq:=by
 intro pins s σ H x y v u Q I rx ry h
 obtain ⟨hs,q⟩:=h
 cases x with
 | non=>
  cases rx
  cases y with
  | non=>cases ry; exact PySem.EqNone.eq_none_none (fin_bl I q (by simp))
  | bl j=>cases ry; exact PySem.EqNone.eq_none_bool (fin_bl I q (by simp))
  | int j=>obtain ⟨t',rfl⟩:=ry; exact PySem.EqNone.eq_none_int (fin_bl I q (by simp))
  | str j=>obtain ⟨t',rfl⟩:=ry; exact PySem.EqNone.eq_none_str (fin_bl I q (by simp))
  | _=>exact absurd (show false=true from hs) Bool.false_ne_true
 | bl i=>
  cases rx
  cases y with
  | non=>cases ry; exact PySem.EqNone.eq_bool_none (fin_bl I q (by simp))
  | bl j=>cases ry; exact eq_bool (fin_bl I q dec_bl)
  | str j=>obtain ⟨t',rfl⟩:=ry; exact PySem.EqMixed.eq_bool_str (fin_bl I q (by simp))
  | _=>exact absurd (show false=true from hs) Bool.false_ne_true
 | int i=>
  obtain ⟨t,rfl⟩:=rx
  cases y with
  | non=>cases ry; exact PySem.EqNone.eq_int_none (fin_bl I q (by simp))
  | int j=>obtain ⟨t',rfl⟩:=ry; exact eq_int (fin_bl I q dec_int)
  | str j=>obtain ⟨t',rfl⟩:=ry; exact PySem.EqMixed.eq_int_str (fin_bl I q (by simp))
  | _=>exact absurd (show false=true from hs) Bool.false_ne_true
 | str i=>
  obtain ⟨t,rfl⟩:=rx
  cases y with
  | non=>cases ry; exact PySem.EqNone.eq_str_none (fin_bl I q (by simp))
  | bl j=>cases ry; exact PySem.EqMixed.eq_str_bool (fin_bl I q (by simp))
  | int j=>obtain ⟨t',rfl⟩:=ry; exact PySem.EqMixed.eq_str_int (fin_bl I q (by simp))
  | str j=>obtain ⟨t',rfl⟩:=ry; exact eq_str (fin_bl I q dec_str)
  | _=>exact absurd (show false=true from hs) Bool.false_ne_true
 | byt i=>
  obtain ⟨t,rfl⟩:=rx
  cases y with
  | byt j=>obtain ⟨t',rfl⟩:=ry; exact W.eq_bytes (fin_bl I q dec_byt)
  | _=>exact absurd (show false=true from hs) Bool.false_ne_true
 | _=>cases y <;> exact absurd (show false=true from hs) Bool.false_ne_true
theorem op_ne:OpR X (compareOp .NotEq) rNe:=by
 intro pins s σ H x y v u Q I rx ry h
 obtain ⟨hs,q⟩:=h
 cases x with
 | non=>
  cases rx
  cases y with
  | non=>cases ry; exact PySem.EqNone.ne_none_none (fin_bl I q (by simp))
  | bl j=>cases ry; exact PySem.EqNone.ne_none_bool (fin_bl I q (by simp))
  | int j=>obtain ⟨t',rfl⟩:=ry; exact PySem.EqNone.ne_none_int (fin_bl I q (by simp))
  | str j=>obtain ⟨t',rfl⟩:=ry; exact PySem.EqNone.ne_none_str (fin_bl I q (by simp))
  | _=>exact absurd (show false=true from hs) Bool.false_ne_true
 | bl i=>
  cases rx
  cases y with
  | non=>cases ry; exact PySem.EqNone.ne_bool_none (fin_bl I q (by simp))
  | bl j=>cases ry; exact ne_bool (fin_bl I q (congrArg not dec_bl))
  | str j=>obtain ⟨t',rfl⟩:=ry; exact PySem.EqMixed.ne_bool_str (fin_bl I q (by simp))
  | _=>exact absurd (show false=true from hs) Bool.false_ne_true
 | int i=>
  obtain ⟨t,rfl⟩:=rx
  cases y with
  | non=>cases ry; exact PySem.EqNone.ne_int_none (fin_bl I q (by simp))
  | int j=>obtain ⟨t',rfl⟩:=ry; exact ne_int (fin_bl I q (congrArg not dec_int))
  | str j=>obtain ⟨t',rfl⟩:=ry; exact PySem.EqMixed.ne_int_str (fin_bl I q (by simp))
  | _=>exact absurd (show false=true from hs) Bool.false_ne_true
 | str i=>
  obtain ⟨t,rfl⟩:=rx
  cases y with
  | non=>cases ry; exact PySem.EqNone.ne_str_none (fin_bl I q (by simp))
  | bl j=>cases ry; exact PySem.EqMixed.ne_str_bool (fin_bl I q (by simp))
  | int j=>obtain ⟨t',rfl⟩:=ry; exact PySem.EqMixed.ne_str_int (fin_bl I q (by simp))
  | str j=>obtain ⟨t',rfl⟩:=ry; exact ne_str (fin_bl I q (congrArg not dec_str))
  | _=>exact absurd (show false=true from hs) Bool.false_ne_true
 | byt i=>
  obtain ⟨t,rfl⟩:=rx
  cases y with
  | byt j=>obtain ⟨t',rfl⟩:=ry; exact W.ne_bytes (fin_bl I q (congrArg not dec_byt))
  | _=>exact absurd (show false=true from hs) Bool.false_ne_true
 | _=>cases y <;> exact absurd (show false=true from hs) Bool.false_ne_true
theorem op_lt:OpR X (compareOp .Lt) (rI0 fun i j=>.bl (decide (i < j))):=opB0 fun _ _ _ _ _ _ _ q=>lt_int q
theorem op_le:OpR X (compareOp .LtE) (rI0 fun i j=>.bl (decide (i<=j))):=opB0 fun _ _ _ _ _ _ _ q=>le_int q
theorem op_gt:OpR X (compareOp .Gt) (rI0 fun i j=>.bl (decide (j < i))):=opB0 fun _ _ _ _ _ _ _ q=>gt_int q
theorem op_isN:OpR X (compareOp .Is) (fun x y H Q=>y=.non/\Q (.bl (decide (x=.non))) H):=by
 intro pins s σ H x y v u Q I rx ry h
 obtain ⟨rfl,q⟩:=h
 cases ry
 refine is_none_gen (fin_bl I q ?_)
 cases x <;> first
  | (cases rx; rfl)
  | (obtain ⟨t,rfl⟩:=rx; rfl)
theorem nomark (b:Expr) {op:CmpOp} (h:op ≠ .In:=by decide) (h2:op ≠ .NotIn:=by decide):behindInMarks op b=false:=by
 have e1:(op == CmpOp.In)=false:=by cases op <;> first | rfl | exact absurd rfl h
 have e2:(op == CmpOp.NotIn)=false:=by cases op <;> first | rfl | exact absurd rfl h2
 cases b <;> simp [behindInMarks,e1,e2]
theorem pe_cmpR {op:CmpOp} {r:R2} (ho:OpR X (compareOp op) r) (ha:PE X a ta) (hb:PE X b tb) (hm:behindInMarks op b=false):PE X (.Compare a [op] [b] pos) (tOp r ta tb):=by
 intro pins s σ H Q I h
 exact wpAny_Compare1 (binT ha hb I h fun v u s2 x y H2 I2 rx ry q=>ho pins s2 σ H2 x y v u Q I2 rx ry q) hm
def tTest (t:TE):TT:=fun σ H Q=>t σ H fun x H'=>∃ k,x=.bl k/\Q k H'
theorem pt_cmpR {op:CmpOp} {r:R2} (ho:OpR X (compareOp op) r) (ha:PE X a ta) (hb:PE X b tb) (hm:behindInMarks op b=false):PT X (.Compare a [op] [b] pos) (tTest (tOp r ta tb)):=by
 intro pins s σ H Q I h
 refine wpAny_isTrue_Compare1 (thn (ha pins s σ H _ I h) fun v s1 ⟨x,H1,I1,r1,q1⟩=>thn (hb pins s1 σ H1 _ I1 q1) fun u s2 ⟨y,H2,I2,r2,q2⟩=>
  thn (ho pins s2 σ H2 x y v u _ I2 r1 r2 q2) fun c s3 ⟨z,H3,I3,r3,k,e,q3⟩=>?_) hm
 subst e
 cases r3
 exact wpAny_truthy_bool ⟨H3,I3,q3⟩
def tChain (r r':R2) (ta tb tc:TE):TE:=fun σ H Q=>ta σ H fun x H1=>tb σ H1 fun y H2=>r x y H2 fun z H3=>∃ k,z=.bl k /\
 (if k=true then tc σ H3 fun w' H4=>r' y w' H4 Q else Q (.bl false) H3)
theorem pe_chain {op op':CmpOp} {r r':R2} (ho:OpR X (compareOp op) r) (ho':OpR X (compareOp op') r') (ha:PE X a ta) (hb:PE X b tb) (hc:PE X c tc)
  (hm:lastMarks [op,op'] [b,c]=false:=by with_unfolding_all rfl):PE X (.Compare a [op,op'] [b,c] pos) (tChain r r' ta tb tc):=by
 intro pins s σ H Q I h
 refine Compare_chain (thn (ha pins s σ H _ I h) fun v s1 ⟨x,H1,I1,r1,q1⟩=>chain_link (thn (hb pins s1 σ H1 _ I1 q1) fun u s2 ⟨y,H2,I2,r2,q2⟩=>
  thn (ho pins s2 σ H2 x y v u _ I2 r1 r2 q2) fun d s3 ⟨z,H3,I3,r3,k,e,q3⟩=>?_)) hm
 subst e
 cases r3
 refine wpAny_truthy_bool ?_
 cases k with
 | false=>exact ite_ff ⟨.bl false,H3,I3,rfl,q3⟩
 | true=>exact ite_tt (chain_last (thn (hc pins s3 σ H3 _ I3 q3) fun w' s4 ⟨z',H4,I4,r4,q4⟩=>ho' pins s4 σ H4 y z' u w' Q I4 r2 r4 q4))
theorem line63:(sizeLine:Nat) < 2^63:=by rw [sizeLine_eq]; decide
theorem vals1 {x:V} {us:List Value} (r:Vals [x] us):∃ u,us=[u]/\RelV x u:=by
 cases r with
 | cons r1 r2=>cases r2; exact ⟨_,rfl,r1⟩
theorem call_abs:CallR X (.builtin "abs") (fun xs H Q=>∃ i,xs=[.int i]/\Q (.int (if i < 0 then -i else i)) H):=by
 intro pins s σ H xs us Q I r h
 obtain ⟨i,rfl,q⟩:=h
 obtain ⟨u,rfl,t,rfl⟩:=vals1 r
 exact call_abs_int fun u tk=>⟨.int (if i < 0 then -i else i),H,I.tok _,⟨_,rfl⟩,q⟩
theorem call_int1:CallR X (.type "int") (fun xs H Q=>(∃ i,xs=[.int i]/\Q (.int i) H)\/∃ k,xs=[.bl k]/\Q (.int (if k then 1 else 0)) H):=by
 intro pins s σ H xs us Q I r h
 rcases h with ⟨i,rfl,q⟩ | ⟨k,rfl,q⟩
 ·obtain ⟨u,rfl,t,rfl⟩:=vals1 r
  exact call_int_int ⟨.int i,H,I,⟨_,rfl⟩,q⟩
 ·obtain ⟨u,rfl,r1⟩:=vals1 r
  cases r1
  exact call_int_bool ⟨.int (if k then 1 else 0),H,I.tok _,⟨_,rfl⟩,q⟩
end
end L2
namespace L2
open PySem PySem.Spec PyProof.Rows
structure ObjM (h:Heap) (x dx C:Addr) (mA:Str->Option Value):Prop where
 obj:h.get? x=some (W.instObj C dx)
 ns:h.Ns1 dx mA
 ne:dx ≠ x
theorem lookIn_ns {h:Heap} {dx:Addr} {mA:Str->Option Value} (n:h.Ns1 dx mA):∃ od,h.get? dx=some od/\∀ name,W.lookIn name od=some (mA name):=by
 obtain ⟨o,es,ep,ho,hd,hk,_,hm⟩:=n
 refine ⟨o,ho,fun name=>?_⟩
 have e:=hm name
 unfold nsFind findBy at e
 rw [<- Array.find?_toList] at e
 unfold W.lookIn
 rw [hd]
 dsimp only
 split
 ·rename_i y q
  rw [q] at e
  exact congrArg some e
 ·rename_i q
  rw [q] at e
  have a:es.toList.any (·.refKey)=false:=by
   rw [List.any_eq_false]
   intro y hy
   obtain ⟨z,t,hkey⟩:=hk y (Array.mem_toList_iff.mp hy)
   simp [DictEntry.refKey,hkey]
  have a':¬ es.toList.any (·.refKey)=true:=by rw [a]; exact Bool.false_ne_true
  rw [if_neg a']
  exact congrArg some e
theorem ObjM.look {h:Heap} {x dx C:Addr} {mA:Str->Option Value} (I:ObjM h x dx C mA):∃ od,W.InstAt h x (W.instObj C dx) C (some od)/\∀ name,W.lookIn name od=some (mA name):=
 let ⟨od,ho,hl⟩:=lookIn_ns I.ns
 ⟨od,⟨I.obj,rfl,rfl,ho⟩,hl⟩
section
variable {prog:Program} {w:World} {A:Around} {E:Value->Shared->Prop} {s:Shared} {K:W.Frag} {x dx C f:Addr} {mA:Str->Option Value} {name:Str} {v:Value}
end
theorem RelO.some_of {v:V} {o:Option Value} (r:RelO (some v) o):∃ u,o=some u/\RelV v u:=by
 cases o with
 | none=>exact (show False from r).elim
 | some u=>exact ⟨u,rfl,r⟩
theorem handed_of {v:V} {u:Value} (r:RelV v u):W.handedIn u=true:=by
 cases v with
 | non=>cases (show u=Value.none from r); rfl
 | bl b=>cases (show u=Value.bool b from r); rfl
 | int i=>obtain ⟨t,e⟩:=(show ∃ t,u=Value.int i t from r); cases e; rfl
 | str x=>obtain ⟨t,e⟩:=(show ∃ t,u=Value.str x t from r); cases e; rfl
 | byt b=>obtain ⟨t,e⟩:=(show ∃ t,u=Value.bytes b t from r); cases e; rfl
 | flt b=>obtain ⟨t,e⟩:=(show ∃ t,u=Value.float b t from r); cases e; rfl
 | ref a=>cases (show u=Value.ref a from r); rfl
 | ty n=>cases (show u=Value.type n from r); rfl
section
variable {P:Program} {w:World} {H H':Hp} {h h':Heap} {a C dx:Addr} {fs fs':List (Str × V)}
theorem ins_get (hok:HOk P w H h) (e:H a=some (.ins C dx fs)):∃ mA,ObjM h a dx C mA/\(∀ f,RelO (fs.lookup f) (mA f))/\PySem.Within mA (fs.map (·.1))/\fs.length<=1000/\H dx=some (.own a):=by
 obtain ⟨d,z,ne,ob,mA,n,r,q⟩:=(show ObjOk P w H h a (.ins C dx fs) from hok a _ e)
 exact ⟨mA,⟨ob,n,ne⟩,r,q,z,d⟩
end
structure Cls (K:W.Frag) (C:Addr):Prop where
 pg:W.plainGet K C Str.empty=true
 hd:W.hasDictIn K C=true
 po:W.plainOver K C=true
 sa:W.findIn K (.ref C) "__setattr__"=some (some (.builtin "object.__setattr__"))
theorem Cls.get {K:W.Frag} {C:Addr} (c:Cls K C) (f:Str):W.plainGet K C f=true:=c.pg
section
variable {X:Cx} {pins:List (Addr × Obj)} {σ:St} {H:Hp} {s:Shared} {a C dx:Addr} {fs:List (Str × V)} {f:Str} {v:V} {A:Around} {E:Value->Shared->Prop}
theorem attr_of {prog:Program} {w:World} {env:Env} {e:Expr} {f:Str} {pos:Pos} {s:Shared} {Q:Value->Shared->Prop} (hb:attributeBase e f env (eval e env)=eval e env)
  (h:wpAny (model prog w) A (eval e env) (fun o s₁=>wpAny (model prog w) A (getAttr o f true) Q E s₁) E s):wpAny (model prog w) A (eval (.Attribute e f pos) env) Q E s:=
 Attribute_any_ h (by rw [arm_eval_Attribute,hb])
end
section
variable {X:Cx} {o e value:Expr} {f:Str} {pos pos' tpos:Pos} {ta tv:TE}
end
section
variable {X:Cx} {pins:List (Addr × Obj)} {σ:St} {H:Hp} {s:Shared} {A:Around} {E:Value->Shared->Prop} {Q:Value->Shared->Prop} {c:Value} {b:Bool}
inductive TyOf (K:W.Frag) (H:Hp):V->Value->Prop where
 | non:TyOf K H .non (.type "NoneType")
 | bl (x:Bool):TyOf K H (.bl x) (.type "bool")
 | int (i:Int):TyOf K H (.int i) (.type "int")
 | str (x:Str):TyOf K H (.str x) (.type "str")
 | flt (x:UInt64):TyOf K H (.flt x) (.type "float")
 | lst {a:Addr} {xs:List V} (e:H a=some (.lst xs)):TyOf K H (.ref a) (.type "list")
 | frz {a:Addr} {o:Obj} {xs:List V} (e:H a=some (.frz o (.lst xs))):TyOf K H (.ref a) (.type "list")
 | tup {a:Addr} {xs:List V} (e:H a=some (.tup xs)):TyOf K H (.ref a) (.type "tuple")
 | dK {a:Addr} {kvs:List (Key × V)} (e:H a=some (.dK kvs)):TyOf K H (.ref a) (.type "dict")
 | dT {a:Addr} {kvs:List (List Key × V)} (e:H a=some (.dT kvs)):TyOf K H (.ref a) (.type "dict")
 | ins {a C dx:Addr} {fs:List (Str × V)} (e:H a=some (.ins C dx fs)) (cl:Cls K C) (ha:W.findIn K (.ref C) "__class__"=some (some (.builtin "object.__class__")))
   (hn:W.specialIn K (.builtin "object.__class__") "__get__"=some (some (.builtin "getset_descriptor.__get__"))) (htk:W.takesIn K (.builtin "object.__class__")=some true)
   (hm:W.mroIn K C (.type "object")=some true):TyOf K H (.ref a) (.ref C)
theorem isinst_ok {x:V} {u t:Value} (I:Inv X pins σ H s) (rx:RelV x u) (ty:TyOf X.K H x t) (e:W.kitOne X.K t c=some b) (h:∀ tk,Q (.bool b) { s with toks:=tk }) :
  wpAny (model X.prog X.w) A (call (.builtin "isinstance") [u,c]) Q E s:=by
 cases ty with
 | non=>cases (show u=Value.none from rx); exact W.kia_one W.kitx_none I.kIn True.intro e (fun z=>nomatch z) h
 | bl y=>cases (show u=Value.bool y from rx); exact W.kia_one W.kitx_bool I.kIn True.intro e (fun z=>nomatch z) h
 | int i=>obtain ⟨t,q⟩:=(show ∃ t,u=Value.int i t from rx); cases q; exact W.kia_one W.kitx_int I.kIn True.intro e (fun z=>nomatch z) h
 | str y=>obtain ⟨t,q⟩:=(show ∃ t,u=Value.str y t from rx); cases q; exact W.kia_one W.kitx_str I.kIn True.intro e (fun z=>nomatch z) h
 | flt y=>obtain ⟨t,q⟩:=(show ∃ t,u=Value.float y t from rx); cases q; exact W.kia_one W.kitx_float I.kIn True.intro e (fun z=>nomatch z) h
 | @lst a xs ea=>
  cases (show u=Value.ref a from rx)
  obtain ⟨_,_,n,_,h1⟩:=(show ObjOk X.prog X.w H s.heap a (.lst xs) from I.hok a _ ea)
  exact W.kia_one W.kitx_list I.kIn ⟨_,h1,rfl⟩ e (fun z=>nomatch z) h
 | @frz a ob xs ea=>
  cases (show u=Value.ref a from rx)
  obtain ⟨_,_,_,n,_,h1⟩:=(show ObjOk X.prog X.w H s.heap a (.frz ob (.lst xs)) from I.hok a _ ea)
  exact W.kia_one W.kitx_list I.kIn ⟨_,h1,rfl⟩ e (fun z=>nomatch z) h
 | @tup a xs ea=>
  cases (show u=Value.ref a from rx)
  obtain ⟨_,_,_,p⟩:=(show ObjOk X.prog X.w H s.heap a (.tup xs) from I.hok a _ ea)
  obtain ⟨o,h1,h2,_⟩:=p
  exact W.kia_one W.kitx_tuple I.kIn ⟨o,h1,h2⟩ e (fun z=>nomatch z) h
 | @dK a kvs ea=>
  cases (show u=Value.ref a from rx)
  obtain ⟨_,_,vs,_,p⟩:=(show ObjOk X.prog X.w H s.heap a (.dK kvs) from I.hok a _ ea)
  obtain ⟨o,es,ep,h1,h2,_⟩:=p
  exact W.kia_one W.kitx_dict I.kIn ⟨o,h1,h2.1⟩ e (fun z=>nomatch z) h
 | @dT a kvs ea=>
  cases (show u=Value.ref a from rx)
  obtain ⟨_,_,xs,_,o,es,ep,h1,h2,_⟩:=(show ObjOk X.prog X.w H s.heap a (.dT kvs) from I.hok a _ ea)
  exact W.kia_one W.kitx_dict I.kIn ⟨o,h1,h2.1⟩ e (fun z=>nomatch z) h
 | @ins a C dx fs ea cl ha hn htk hm=>
  cases (show u=Value.ref a from rx)
  obtain ⟨mA,O,_⟩:=ins_get I.hok ea
  obtain ⟨od,J,_⟩:=O.look
  exact W.kia_one (W.kitx_own (cl.get _) cl.hd ha hn htk hm) I.kIn J e (fun z=>nomatch z) h
end
end L2
namespace L2
open PySem PySem.Spec PyProof.Rows
structure Room (k:Nat) (A:Around):Prop where
 hd:A.handled=none
 dp:A.depth+3*k+5 < recursionLimit
 un:A.units+16*k+200 < cLine
theorem Room.mono {j k:Nat} {A:Around} (r:Room k A) (h:j<=k):Room j A:=⟨r.hd,by have:=r.dp; omega,by have:=r.un; omega⟩
theorem Room.deeper {k:Nat} {A:Around} (r:Room (k+1) A) (env:Env):Room k (A.deeper env):=
 ⟨r.hd,by have:=r.dp; show A.depth+1+3*k+5 < _; omega,by have:=r.un; show A.units+3+16*k+200 < _; omega⟩
theorem make_depth {A:Around} {C:Addr} {us:List Value} {kw:List (Str × Value)}:(A.under (.builtin "type.__call__" ⟨.ref C :: us,kw⟩)).depth=A.depth+1:=by
 first | rfl | simp [Around.under,Code.weight,Code.isCreation,Code.isGuard,Code.isCaller,Code.frames,Code.isFrame,guardIds]
theorem make_units {A:Around} {C:Addr} {us:List Value} {kw:List (Str × Value)}:(A.under (.builtin "type.__call__" ⟨.ref C :: us,kw⟩)).units=A.units+1:=by
 first | rfl | simp [Around.under,Code.cUnits,Code.frames,Code.isFrame]
theorem Room.make {k:Nat} {A:Around} (r:Room (k+1) A) (C:Addr) (us:List Value) (kw:List (Str × Value)):Room k (A.under (.builtin "type.__call__" ⟨.ref C :: us,kw⟩)):=
 ⟨r.hd,by have:=r.dp; rw [make_depth]; omega,by have:=r.un; rw [make_units]; omega⟩
theorem Room.depth {k:Nat} {A:Around} (r:Room k A):A.depth < recursionLimit:=by have:=r.dp; omega
def tNil:TA:=fun _ H Q=>Q [] H
def tCons (ta:TE) (tr:TA):TA:=fun σ H Q=>ta σ H fun x H1=>tr σ H1 fun xs H2=>Q (x :: xs) H2
section
variable {X:Cx} {e:Expr} {es:List Expr} {te:TE} {t:TA} {pos:Pos}
theorem pa_nil:PA X [] tNil:=fun _ _ _ _ H Q I h=>Calls.spliced_nil ⟨[],H,I,.nil,h⟩
theorem pa_cons (ha:PE X e te) (hr:PA X es t) (hs:starEach (e :: es) X.env=(false,eval e X.env) :: starEach es X.env:=by rfl):PA X (e :: es) (tCons te t):=by
 intro pos pins s σ H Q I h
 rw [hs]
 show wpAny _ _ (spliced ((false,eval e X.env) :: backTo pos (starEach es X.env))) _ _ s
 refine Calls.spliced_cons (thn (ha pins s σ H _ I h) fun u s1 ⟨x,H1,I1,r1,q1⟩=>?_)
 exact thn (hr pos pins s1 σ H1 _ I1 q1) fun us s2 ⟨xs,H2,I2,r2,q2⟩=>⟨x :: xs,H2,I2,.cons r1 r2,q2⟩
def tTup (t:TA):TE:=fun σ H Q=>t σ H fun xs H1=>xs.length<=sizeLine/\∀ p,H1 p=none->Q (.ref p) (upd H1 p (.tup xs))
def tLst (t:TA):TE:=fun σ H Q=>t σ H fun xs H1=>xs.length<=sizeLine/\∀ p,H1 p=none->Q (.ref p) (upd H1 p (.lst xs))
theorem pe_tup {x1} (h:PA X es t):PE X (.Tuple es x1 pos) (tTup t):=by
 intro pins s σ H Q I hq
 refine wpAny_Tuple_spliced (thn (h pos pins s σ H _ I hq) fun us s1 ⟨xs,H1,I1,r,z,q⟩=>⟨by rw [<- r.length]; exact z,?_⟩)
 have hf:H1 s1.heap.objs.size=none:=I1.hok.fresh (Nat.le_refl _)
 refine ⟨.ref s1.heap.objs.size,upd H1 s1.heap.objs.size (.tup xs),I1.laid (t':=s1.toks) (fun b u e=>Heap.get?_push_of_some _ e) (Nat.le_refl _) ?_,rfl,q _ hf⟩
 exact ⟨z,us,r,⟨_,Heap.get?_push_size _ rfl,rfl,_,rfl⟩⟩
theorem pe_lst (h:PA X es t):PE X (.List es pos) (tLst t):=by
 intro pins s σ H Q I hq
 refine wpAny_List_spliced (thn (h pos pins s σ H _ I hq) fun us s1 ⟨xs,H1,I1,r,z,q⟩=>⟨by rw [<- r.length]; exact z,?_⟩)
 have hf:H1 s1.heap.objs.size=none:=I1.hok.fresh (Nat.le_refl _)
 refine ⟨.ref s1.heap.objs.size,upd H1 s1.heap.objs.size (.lst xs),I1.laid (t':=s1.toks) (fun b u e=>Heap.get?_push_of_some _ e) (Nat.le_refl _) ?_,rfl,q _ hf⟩
 exact ⟨z,us,0,r,Heap.get?_push_size _ rfl⟩
end
abbrev Sp:=List V->Hp->VK->XK->Prop
abbrev CXT:=List Env->Hp->Shared->XK->Value->Shared->Prop
structure Env0 (P:Program) (w:World) (K:W.Frag) (mg:Str->Option Value) (base:Heap) (A:Around) (outer:List Env) (s:Shared) (H:Hp):Prop where
 frames:A.frames=some outer
 mod:Mod K mg base
 bs:∀ b o,base.get? b=some o->s.heap.get? b=some o/\H b=none
 bsz:base.objs.size<=s.heap.objs.size
 funs:s.heap.FunFrames base outer
 frf:∀ b ∈ frs outer,H b=none
 hok:HOk P w H s.heap
 bare:AllBare s.gens
def CE (outer:List Env) (P:Program) (w:World) (H:Hp) (s:Shared) (Q:VK) (u:Value) (s':Shared):Prop:=
 ∃ v H',s'.os=s.os/\AllBare s'.gens/\Un (frs outer) [] H H' s.heap s'.heap/\HOk P w H' s'.heap/\RelV v u/\Q v H'
def CR (CX:CXT) (outer:List Env) (P:Program) (w:World) (H:Hp) (s:Shared) (Q:VK) (E:XK) (r:Result) (s':Shared):Prop:=
 match r with
 | .ok (.ret u)=>CE outer P w H s Q u s'
 | .ok _=>False
 | .error e=>CX outer H s E e s'
structure FnOk (P:Program) (w:World) (K:W.Frag) (mg:Str->Option Value) (base:Heap) (CX:CXT) (k:Nat) (f:Addr) (fd:FuncData) (ps:List Str) (sp:Sp):Prop where
 len:∀ vs H Q E,sp vs H Q E->vs.length=ps.length
 run:∀ (A:Around) (outer:List Env) (s:Shared) (H:Hp) (args:Args) (us:List Value) (vs:List V) (Q:VK) (E:XK),Room k A->Env0 P w K mg base A outer s H->BindsTo s fd args (ps.zip us)->Vals vs us->sp vs H Q E ->
  codeAny (model P w) A (.call (.ref f) args) (CR CX outer P w H s Q E) s
theorem Env0.make {P:Program} {w:World} {K:W.Frag} {mg:Str->Option Value} {base:Heap} {A:Around} {outer:List Env} {s:Shared} {H:Hp} (e:Env0 P w K mg base A outer s H) (C:Addr) (us:List Value) (kw:List (Str × Value)) :
  Env0 P w K mg base (A.under (.builtin "type.__call__" ⟨.ref C :: us,kw⟩)) outer s H:=⟨by first | exact e.frames | (simpa [Around.under,Code.envs,Code.isFrame,pushEnvs] using e.frames),e.mod,e.bs,e.bsz,e.funs,e.frf,e.hok,e.bare⟩
section
variable {X:Cx} {pins:List (Addr × Obj)} {σ:St} {H:Hp} {s s':Shared}
theorem Inv.env0 (I:Inv X pins σ H s):Env0 X.prog X.w X.K X.mg X.base X.A X.stack s H:=
 ⟨I.ok.frames,I.ok.mod,I.bs,Nat.le_trans I.ok.bsz I.sz,I.stack,I.stkFree,I.hok,I.bare⟩
theorem Inv.after {Q:VK} {u:Value} (I:Inv X pins σ H s) (h:CE X.stack X.prog X.w H s Q u s'):EP X pins σ Q u s':=by
 obtain ⟨v,H',os,bare,un,hok,r,q⟩:=h
 obtain ⟨hh,g,d,t,os'⟩:=s'
 obtain rfl:os'=s.os:=os
 exact ⟨v,H',I.call (h':=hh) (g':=g) (d':=d) (t':=t) (ch:=[]) un hok bare (fun b z=>absurd z (by simp)),r,q⟩
end
def tCall (sp:Sp) (dvs:List V) (E:XK) (t:TA):TE:=fun σ H Q=>t σ H fun vs H1=>sp (vs ++ dvs) H1 Q E
def Binds (K:W.Frag) (fd:FuncData) (ps:List Str) (ds:List Value):Prop:=
 ∀ (s:Shared) (us:List Value),K.In s.heap->(us ++ ds).length=ps.length->BindsTo s fd ⟨us,[]⟩ (ps.zip (us ++ ds))
theorem Binds.all {K:W.Frag} {fd:FuncData} {ps:List Str} (h:∀ us:List Value,us.length=ps.length->bindArgs fd ⟨us,[]⟩=pure (ps.zip us)):Binds K fd ps []:=fun s us _ hl=>by
 rw [List.append_nil] at hl ⊢
 exact .of_eq (h us hl)
def Passes (CX:CXT) (X:Cx) (E:XK):Prop:=∀ (pins:List (Addr × Obj)) (σ:St) (H:Hp) (s:Shared) (e:Value) (s':Shared),Inv X pins σ H s->CX X.stack H s E e s'->X.xe e s'
section
variable {X:Cx} {CX:CXT} {k:Nat} {f C:Addr} {fd:FuncData} {ps:List Str} {sp:Sp} {dvs:List V} {ds:List Value} {E:XK} {x m:Str} {p pos apos:Pos} {e o:Expr} {es:List Expr} {ta:TE} {t:TA}
theorem run_fn {pins:List (Addr × Obj)} {σ:St} {H:Hp} {s:Shared} {Q:VK} {us:List Value} {vs:List V} (F:FnOk X.prog X.w X.K X.mg X.base CX k f fd ps sp) (hr:Room k X.A) (hb:Binds X.K fd ps ds) (hd:Vals dvs ds) (hx:Passes CX X E)
  (I:Inv X pins σ H s) (r:Vals vs us) (h:sp (vs ++ dvs) H Q E):wpAny (model X.prog X.w) X.A (call (.ref f) us) (EP X pins σ Q) X.xe s:=by
 have r2:Vals (vs ++ dvs) (us ++ ds):=r.append hd
 have hl:(us ++ ds).length=ps.length:=by rw [<- r2.length]; exact F.len _ _ _ _ h
 refine wpAny_call (codeAny_mono (F.run X.A X.stack s H ⟨us,[]⟩ (us ++ ds) (vs ++ dvs) Q E hr I.env0 (hb s us I.kIn hl) r2 h) fun r s' hq=>?_)
 cases r with
 | error e=>exact hx pins σ H s e s' I hq
 | ok fl=>
  cases fl with
  | ret u=>exact I.after hq
  | next=>exact False.elim hq
  | brk=>exact False.elim hq
  | cont=>exact False.elim hq
theorem pe_call (F:FnOk X.prog X.w X.K X.mg X.base CX k f fd ps sp) (hr:Room k X.A) (hg:Gl X x) (hm:X.mg x=some (.ref f)) (hk:W.keepIn X.K (.ref f)=true) (hb:Binds X.K fd ps ds) (hd:Vals dvs ds) (hx:Passes CX X E)
  (ha:PA X (e :: es) t) (hdb:(x == ("__debug__":Str))=false:=by decide) (he:starEach (e :: es) X.env=(false,eval e X.env) :: starEach es X.env:=by rfl) (hpl:(backTo pos (starEach es X.env)).any (·.1)=false:=by rfl) :
  PE X (.Call (.Name x p) (e :: es) [] pos) (tCall sp dvs E t):=by
 intro pins s σ H Q I h
 refine wpAny_Call_Name_kw (ld_glob I hg hm ?_ hdb)
 refine W.callWith_K (h₀:=X.base) I.ok.mod.kin hk (thn (ha pos pins s σ H _ I h) fun us s1 ⟨vs,H1,I1,r,q⟩=>⟨I1.kIn,?_⟩) he hpl
 exact run_fn F hr hb hd hx I1 r q
theorem pe_call0 (F:FnOk X.prog X.w X.K X.mg X.base CX k f fd ps sp) (hr:Room k X.A) (hg:Gl X x) (hm:X.mg x=some (.ref f)) (hk:W.keepIn X.K (.ref f)=true) (hb:Binds X.K fd ps ds) (hd:Vals dvs ds) (hx:Passes CX X E)
  (hdb:(x == ("__debug__":Str))=false:=by decide):PE X (.Call (.Name x p) [] [] pos) (tCall sp dvs E tNil):=by
 intro pins s σ H Q I h
 refine wpAny_Call_Name_kw (ld_glob I hg hm ?_ hdb)
 exact W.callWith_K0 I.kIn hk (run_fn (us:=[]) F hr hb hd hx I .nil h)
end
section
variable {X:Cx} {CX:CXT} {k:Nat} {f C:Addr} {fd:FuncData} {ps ks:List Str} {sp:Sp} {E:XK} {x m:Str} {p pos apos kpos:Pos} {e o:Expr} {es:List Expr} {kws:List Keyword} {te ta:TE} {t tk:TA} {nm:Option Str}
variable {g:List Value->List Value->List Value} {gV:List V->List V->List V}
end
structure FnScope (N P:List Str) (sc:Scope):Prop where
 kind:sc.kind=.function
 co:sc.isCoroutine=false
 gen:sc.isGenerator=false
 nd:N.Nodup
 pre:N.take P.length=P
 par:∀ x ∈ P,sc.names.lookup x=some .local\/sc.names.lookup x=some .cell
 nofree:∀ y ∈ sc.names,y.2 ≠ .free
theorem bindL_out {kindOf:Str->Option NameKind} {x:Str}:∀ {binds:List (Str × Value)} {m:Str->Option Value},(∀ v,(x,v) ∉ binds)->bindL kindOf binds m x=m x
 | [],_,_=>rfl
 | (n,v) :: r,m,h=>by
  unfold bindL
  rw [bindL_out fun w hw=>h w (List.mem_cons_of_mem _ hw)]
  split
  ·have:x ≠ n:=by rintro rfl; exact h v List.mem_cons_self
   simp [this]
  ·rfl
theorem bindC_out {kindOf:Str->Option NameKind} {x:Str}:∀ {binds:List (Str × Value)} {m:Str->Option Value},(∀ v,(x,v) ∉ binds)->bindC kindOf binds m x=m x
 | [],_,_=>rfl
 | (n,v) :: r,m,h=>by
  unfold bindC
  rw [bindC_out fun w hw=>h w (List.mem_cons_of_mem _ hw)]
  split
  ·rfl
  ·have:x ≠ n:=by rintro rfl; exact h v List.mem_cons_self
   simp [this]
theorem bindL_get {kindOf:Str->Option NameKind} {x:Str} {v:Value}:∀ {P:List Str} {vs:List Value} {i:Nat} {m:Str->Option Value},P.Nodup->P[i]?=some x->vs[i]?=some v->kindOf x=some .local ->
  bindL kindOf (P.zip vs) m x=some v
 | [],_,_,_,_,h,_,_=>by simp at h
 | _ :: _,[],_,_,_,_,h,_=>by simp at h
 | p :: P,w :: vs,0,m,nd,h1,h2,hk=>by
  simp at h1 h2; subst h1; subst h2
  show bindL kindOf ((p,w) :: P.zip vs) m p=_
  unfold bindL
  rw [bindL_out fun v hv=>(List.nodup_cons.mp nd).1 (List.of_mem_zip hv).1,if_pos hk]
  simp
 | p :: P,w :: vs,i+1,m,nd,h1,h2,hk=>by
  show bindL kindOf ((p,w) :: P.zip vs) m x=_
  unfold bindL
  exact bindL_get (i:=i) (List.nodup_cons.mp nd).2 (by simpa using h1) (by simpa using h2) hk
theorem bindC_get {kindOf:Str->Option NameKind} {x:Str} {v:Value}:∀ {P:List Str} {vs:List Value} {i:Nat} {m:Str->Option Value},P.Nodup->P[i]?=some x->vs[i]?=some v->kindOf x ≠ some .local ->
  bindC kindOf (P.zip vs) m x=some v
 | [],_,_,_,_,h,_,_=>by simp at h
 | _ :: _,[],_,_,_,_,h,_=>by simp at h
 | p :: P,w :: vs,0,m,nd,h1,h2,hk=>by
  simp at h1 h2; subst h1; subst h2
  show bindC kindOf ((p,w) :: P.zip vs) m p=_
  unfold bindC
  rw [bindC_out fun v hv=>(List.nodup_cons.mp nd).1 (List.of_mem_zip hv).1,if_neg hk]
  simp
 | p :: P,w :: vs,i+1,m,nd,h1,h2,hk=>by
  show bindC kindOf ((p,w) :: P.zip vs) m x=_
  unfold bindC
  exact bindC_get (i:=i) (List.nodup_cons.mp nd).2 (by simpa using h1) (by simpa using h2) hk
def start (N:List Str) (vs:List V):St:=vs.map some ++ List.replicate (N.length - vs.length) none
def cxOf (CX:CXT) (P:Program) (w:World) (K:W.Frag) (mg:Str->Option Value) (base:Heap) (N:List Str) (qual:Str) (scope:Scope) (f:Addr) (cd:Value) (A:Around) (outer:List Env) (s:Shared) (H:Hp) (E:XK):Cx where
 prog:=P
 w:=w
 K:=K
 mg:=mg
 base:=base
 A:=A.deeper (envOfC qual scope s.heap.objs.size f cd)
 N:=N
 s₀:=s
 H₀:=H
 env:=envOfC qual scope s.heap.objs.size f cd
 outer:=outer
 stack:=envOfC qual scope s.heap.objs.size f cd :: outer
 ex:=[]
 calm:=true
 still:=true
 fz:=[]
 fn:=fun _=>true
 pn:=[]
 xe:=fun e s'=>wpAny (model P w) (A.deeper (envOfC qual scope s.heap.objs.size f cd)) (leaving (envOfC qual scope s.heap.objs.size f cd) e) (fun _ s''=>CX outer H s E e s'') (fun e' s''=>CX outer H s E e' s'') s'
theorem cell_has {sc:Scope} {n:Nat} {x:Str} (h:sc.names.lookup x=some .cell):∃ c,(cellsFrom n sc.names []).lookup x=some c:=by
 have q:=W.cellsFrom_some sc.names n [] (.inl h)
 exact Option.isSome_iff_exists.mp q
theorem inv_start {CX:CXT} {P:Program} {w:World} {K:W.Frag} {mg:Str->Option Value} {base:Heap} {N ps:List Str} {qual:Str} {scope:Scope} {f:Addr} {cd:Value} {A:Around} {outer:List Env} {s s1:Shared} {H:Hp} {E:XK} {us:List Value} {vs:List V}
  (S:FnScope N ps scope) (hd:A.handled=none) (e0:Env0 P w K mg base A outer s H) (hl:vs.length=ps.length) (r:Vals vs us)
  (x:InCallC s s.heap.objs.size (bindL (envOfC qual scope s.heap.objs.size f cd).kindOf (ps.zip us) fun _=>none) (cellsFrom (s.heap.objs.size+1) scope.names []) (bindC (envOfC qual scope s.heap.objs.size f cd).kindOf (ps.zip us) fun _=>none) s1) :
  Inv (cxOf CX P w K mg base N qual scope f cd A outer s H E) [] (start N vs) H s1:=by
 have hpl:ps.length<=N.length:=by have:=congrArg List.length S.pre; rw [List.length_take] at this; omega
 obtain ⟨h1,tk,rfl,hk⟩:=x.done
 have noA:∀ b:Addr,b ∉ (cxOf CX P w K mg base N qual scope f cd A outer s H E).ex:=fun b z=>absurd (show b ∈ ([]:List Addr) from z) (by simp)
 refine ⟨⟨e0.mod,S.kind,rfl,rfl,Nat.le_refl _,fun y z c h1 h2=>?_,fun y hy=>?_,fun y c _ h=>?_,fun _=>hd,fun _=>.inl hd,Around.frames_deeper e0.frames,.inr ⟨rfl,rfl⟩,fun b z=>absurd z (noA b),e0.bs,e0.bsz,fun b _ _=>noA b,fun b z=>absurd z (noA b),e0.funs,e0.frf⟩,
  (fun p hp=>nomatch hp),rfl,e0.bare,Un.kept hk,⟨_,x.toInCall.ns,fun i y v h1 h2 h3=>?_⟩,fun y c h=>⟨_,x.cell y c h⟩,e0.hok.fresh (Nat.le_refl _),fun y c h=>?_,fun p hp=>absurd (show p ∈ ([]:List (Addr × Obj)) from hp) (by simp),e0.hok.kept hk,?_⟩
 ·exact name_of_addr x.apart (PySem.mem_of_lookup h1) (PySem.mem_of_lookup h2)
 ·have hy:scope.names.lookup y=some .cell\/scope.names.lookup y=some .free:=hy
  rcases hy with hy | hy
  ·exact cell_has hy
  ·exact absurd rfl (S.nofree _ (PySem.mem_of_lookup hy))
 ·exact Nat.le_of_lt (x.above y c (PySem.mem_of_lookup h))
 ·have hi:i < vs.length:=by
   unfold start at h2
   by_cases hi:i < vs.length
   ·exact hi
   ·rw [List.getElem?_append_right (by simpa using hi)] at h2
    rw [List.getElem?_replicate] at h2
    split at h2 <;> cases h2
  have ha:vs[i]?=some v:=by
   unfold start at h2
   rw [List.getElem?_append_left (by simpa using hi),List.getElem?_map] at h2
   cases e:vs[i]? with
   | none=>rw [e] at h2; cases h2
   | some a=>rw [e] at h2; cases h2; rfl
  obtain ⟨u,hu,rv⟩:=r.get ha
  have hp:ps[i]?=some y:=by
   rw [<- S.pre,List.getElem?_take_of_lt (by omega)]; exact h1
  have ndP:ps.Nodup:=by rw [<- S.pre]; exact S.nd.sublist (List.take_sublist _ _)
  refine ⟨u,rv,?_⟩
  rcases S.par y (List.mem_of_getElem? hp) with k | k
  ·exact .inl ⟨k,bindL_get ndP hp hu k⟩
  ·obtain ⟨c,e⟩:=cell_has (n:=s.heap.objs.size+1) k
   refine .inr ⟨.inl k,c,e,?_⟩
   have q:=x.cell y c e
   rw [bindC_get ndP hp hu (by show scope.names.lookup y ≠ _; rw [k]; decide)] at q
   exact q
 ·exact e0.hok.fresh (Nat.le_of_lt (x.above y c (PySem.mem_of_lookup h)))
 ·unfold start
  show _=N.length
  rw [List.length_append,List.length_map,List.length_replicate]
  omega
theorem fn_of {CX:CXT} {P:Program} {w:World} {K:W.Frag} {mg:Str->Option Value} {base:Heap} {k:Nat} {f:Addr} {name qual:Str} {params:Arguments} {body:List Stmt} {scope:Scope} {dV kV doc pm cdv ct oc:Value} {an od:Option Addr}
  {osl:Array (Option Value)} {N ps:List Str} {sp:Sp} (lk:K.lookup f=some ⟨oc,od,.func (W.fnOf name qual params body scope dV kV doc pm an cdv ct),osl⟩) (hcd:W.codeIn K cdv qual=true) (S:FnScope N ps scope)
  (len:∀ vs H Q E,sp vs H Q E->vs.length=ps.length)
  (hbody:∀ (A:Around) (outer:List Env) (s:Shared) (H:Hp) (vs:List V) (Q:VK) (E:XK),Room k (A.deeper (envOfC qual scope s.heap.objs.size f cdv))->sp vs H Q E ->
   ∃ t,PSs (cxOf CX P w K mg base N qual scope f cdv A outer s H E) body t/\t { nx:=fun _ H'=>Q .non H',rt:=Q } (start N vs) H) :
  FnOk P w K mg base CX (k+1) f (W.fnOf name qual params body scope dV kV doc pm an cdv ct) ps sp:=by
 refine ⟨len,fun A outer s H args us vs Q E hr e0 hb r hsp=>?_⟩
 have hl:=len _ _ _ _ hsp
 have KX:K.In s.heap:=e0.mod.kin.keeps fun b o e=>(e0.bs b o e).1
 have lim:s.heap.NoLimit:=e0.mod.nolimit.keeps fun b o e=>(e0.bs b o e).1
 have hkind:∀ y ∈ ps.zip us,scope.names.lookup y.1=some .local\/(scope.names.lookup y.1=some .cell/\((cellsFrom (s.heap.objs.size+1) scope.names []).lookup y.1).isSome=true):=fun ⟨n,v⟩ hy=>by
  rcases S.par n (List.of_mem_zip hy).1 with q | q
  ·exact .inl q
  ·exact .inr ⟨q,W.cellsFrom_some _ _ _ (.inl q)⟩
 refine codeAny_call_function hr.depth (KX _ _ lk) rfl S.co S.gen rfl (W.codeRec_of KX hcd) (hb _ _ _ _ ?_)
 refine wpAny_newFunctionEnv_cells S.kind hkind fun env he s1 x=>?_
 subst he
 refine ⟨lim.keeps x.toInCall.keep,codeAny_func ?_⟩
 obtain ⟨t,ht,hq⟩:=hbody A outer s H vs Q E (hr.deeper _) hsp
 have I:Inv (cxOf CX P w K mg base N qual scope f cdv A outer s H E) [] (start N vs) H s1:=inv_start S hr.hd e0 hl r x
 refine wpAny_mono (ht [] s1 (start N vs) H _ I hq) (fun fl s' hs=>?_) fun e s' hs=>hs
 have fin:∀ {σ':St} {H':Hp} {v:V} {u:Value},Inv (cxOf CX P w K mg base N qual scope f cdv A outer s H E) [] σ' H' s'->RelV v u->Q v H'->CE outer P w H s Q u s':=
  fun {σ' H' v u} J rv q=>⟨v,H',J.os,J.bare,J.base,J.hok,rv,q⟩
 cases fl with
 | ret u=>
  obtain ⟨v,σ',H',J,rv,q⟩:=hs
  exact fin J rv q
 | next=>
  obtain ⟨σ',H',J,q⟩:=hs
  exact fin (v:=V.non) (u:=Value.none) J rfl q
 | brk=>
  obtain ⟨_,_,_,q⟩:=hs
  exact False.elim q
 | cont=>
  obtain ⟨_,_,_,q⟩:=hs
  exact False.elim q
end L2
namespace L2
open PySem PySem.Spec PyProof.Rows
section
variable {X:Cx} {x:Str} {p pos:Pos} {e:Expr} {es:List Expr} {t:TA} {id T:String} {r:List V->Hp->VK->Prop}
def tCB (r:List V->Hp->VK->Prop) (t:TA):TE:=fun σ H Q=>t σ H fun vs H1=>r vs H1 Q
theorem pe_callB (hc:CallR X (.builtin id) r) (hg:Gl X x) (hm:X.mg x=none) (hv:bootBuiltins x=some (.builtin id)) (ha:PA X (e :: es) t) (hn:x ≠ "__name__":=by decide) (hdb:(x == ("__debug__":Str))=false:=by decide)
  (he:starEach (e :: es) X.env=(false,eval e X.env) :: starEach es X.env:=by rfl) (hpl:(backTo pos (starEach es X.env)).any (·.1)=false:=by rfl):PE X (.Call (.Name x p) (e :: es) [] pos) (tCB r t):=by
 intro pins s σ H Q I h
 refine wpAny_Call_Name_kw (ld_blt I hg hm hv ?_ hn hdb)
 exact PyProof.Rows.callWith_builtin1 (thn (ha pos pins s σ H _ I h) fun us s1 ⟨vs,H1,I1,r1,q1⟩=>hc pins s1 σ H1 vs us Q I1 r1 q1) he hpl
theorem pe_callTy (hc:CallR X (.type T) r) (hg:Gl X x) (hm:X.mg x=none) (hv:bootBuiltins x=some (.type T)) (ha:PA X (e :: es) t) (hn:x ≠ "__name__":=by decide) (hdb:(x == ("__debug__":Str))=false:=by decide)
  (he:starEach (e :: es) X.env=(false,eval e X.env) :: starEach es X.env:=by rfl) (hpl:(backTo pos (starEach es X.env)).any (·.1)=false:=by rfl):PE X (.Call (.Name x p) (e :: es) [] pos) (tCB r t):=by
 intro pins s σ H Q I h
 refine wpAny_Call_Name_kw (ld_blt I hg hm hv ?_ hn hdb)
 exact PyProof.Rows.callWith_type1 (thn (ha pos pins s σ H _ I h) fun us s1 ⟨vs,H1,I1,r1,q1⟩=>hc pins s1 σ H1 vs us Q I1 r1 q1) he hpl
end
end L2
namespace HT
open PySem PyProof.Rows
section
open PySem.SeqAt
open PySem.AutoSeq1 (wpAny_loadPart')
open PySem.MeetsSeq PySem.MeetsSeq2 PySem.MeetsSeq3
end
section
variable {prog:Program} {w:World} {A:Around} {E:Value->Shared->Prop} {s:Shared}
def sIx (n d:Nat):Option Int->Nat
 | none=>d
 | some v=>if v < 0 then (v+(n:Int)).toNat else min v.toNat n
end
end HT
namespace L2
open PySem PySem.Spec PyProof.Rows
abbrev TO:=St->Hp->(Option Int->Hp->Prop)->Prop
def PO (X:Cx) (e:Option Expr) (t:TO):Prop:=
 ∀ (pins:List (Addr × Obj)) (s:Shared) (σ:St) (H:Hp) (Q:Option Int->Hp->Prop),Inv X pins σ H s->t σ H Q ->
  wpAny (model X.prog X.w) X.A (evalPart e X.env) (fun u s'=>∃ o H',Inv X pins σ H' s'/\IsPart u o/\Q o H') X.xe s
def tNoPart:TO:=fun _ H Q=>Q none H
def tPart (t:TE):TO:=fun σ H Q=>t σ H fun x H1=>∃ i,x=.int i/\Q (some i) H1
section
variable {X:Cx} {e:Expr} {te:TE} {lo hi:Option Expr} {tl th:TO} {pos p2:Pos}
theorem po_none:PO X none tNoPart:=by
 intro pins s σ H Q I h
 rw [evalPart_none]
 exact wpAny_pure ⟨none,H,I,.none,h⟩
theorem po_some (h:PE X e te):PO X (some e) (tPart te):=by
 intro pins s σ H Q I hw
 rw [evalPart_some]
 refine thn (h pins s σ H _ I hw) fun u s1 ⟨x,H1,I1,r1,q1⟩=>?_
 obtain ⟨i,rfl,q⟩:=q1
 obtain ⟨t,rfl⟩:=r1
 exact ⟨some i,H1,I1,.int i t,q⟩
def SlR (X:Cx) (r:V->Option Int->Option Int->Hp->VK->Prop):Prop:=
 ∀ (pins:List (Addr × Obj)) (s:Shared) (σ:St) (H:Hp) (x:V) (v vl vu:Value) (lo hi:Option Int) (sl:Addr) (Q:VK),Inv X pins σ H s->RelV x v->s.heap.IsSliceOf sl vl vu .none->IsPart vl lo->IsPart vu hi->r x lo hi H Q ->
  ∃ T id,typeLookup (.type T) "__getitem__"=pure (some (.builtin id))/\s.TypeIs v T/\wpAny (model X.prog X.w) X.A (getItem v (.ref sl)) (EP X pins σ Q) X.xe s
def tSl (r:V->Option Int->Option Int->Hp->VK->Prop) (te:TE) (tl th:TO):TE:=fun σ H Q=>te σ H fun x H1=>tl σ H1 fun l H2=>th σ H2 fun u H3=>r x l u H3 Q
theorem pe_slice {r:V->Option Int->Option Int->Hp->VK->Prop} (hr:SlR X r) (he:PE X e te) (hl:PO X lo tl) (hu:PO X hi th):PE X (.Subscript e (.Slice lo hi none p2) pos) (tSl r te tl th):=by
 intro pins s σ H Q I h
 refine Subscript_ (thn (he pins s σ H _ I h) fun v s1 ⟨x,H1,I1,r1,q1⟩=>?_)
 refine wpAny_Slice (thn (hl pins s1 σ H1 _ I1 q1) fun vl s2 ⟨l,H2,I2,pl,q2⟩=>thn (hu pins s2 σ H2 _ I2 q2) fun vu s3 ⟨u,H3,I3,pu,q3⟩=>?_)
 rw [evalPart_none]
 refine wpAny_pure ?_
 have I4:Inv X pins σ H3 { s3 with heap:=s3.heap.push { cls:=.type "slice",data:=.fields #[vl,vu,.none] } }:=I3.kept (t':=s3.toks) fun b ob q=>Heap.get?_push_of_some _ q
 obtain ⟨T,id,hT,ht,hg⟩:=hr pins { s3 with heap:=s3.heap.push { cls:=.type "slice",data:=.fields #[vl,vu,.none] } } σ H3 x v vl vu l u s3.heap.objs.size Q I4 r1 (Heap.IsSliceOf.new ..) pl pu q3
 show wpAny (model X.prog X.w) X.A (subscriptTail e (.Slice lo hi none p2) v (.ref s3.heap.objs.size)) (EP X pins σ Q) X.xe { s3 with heap:=s3.heap.push { cls:=.type "slice",data:=.fields #[vl,vu,.none] } }
 exact tail_any (ops:=[.ref s3.heap.objs.size,v]) ht hT hg (by with_unfolding_all rfl)
def cutV (xs:List V) (lo hi:Option Int):List V:=(xs.drop (HT.sIx xs.length 0 lo)).take (HT.sIx xs.length xs.length hi - HT.sIx xs.length 0 lo)
theorem cutV_length (xs:List V) (lo hi:Option Int):(cutV xs lo hi).length<=xs.length:=by
 unfold cutV
 rw [List.length_take,List.length_drop]
 omega
end
end L2
namespace L2
open PySem PySem.Spec PyProof.Rows
def ixN (n:Nat) (i:Int):Option Nat:=if 0<=i then (if i < n then some i.toNat else none) else if -(n:Int)<=i then some (i+n).toNat else none
def atI {α:Type} (xs:List α) (i:Int):Option α:=(ixN xs.length i).bind fun j=>xs[j]?
theorem ixN_seq {n:Nat} {i:Int} {j:Nat} (h:ixN n i=some j):seqIndex? i n=some j/\j < n/\-(n:Int)<=i/\i < n:=by
 unfold ixN at h
 by_cases h0:0<=i
 ·rw [if_pos h0] at h
  by_cases h1:i < n
  ·rw [if_pos h1] at h
   have e:i.toNat=j:=Option.some.inj h
   exact ⟨by rw [seqIndex_of h0 h1,e],by omega,by omega,h1⟩
  ·rw [if_neg h1] at h; cases h
 ·rw [if_neg h0] at h
  by_cases h1:-(n:Int)<=i
  ·rw [if_pos h1] at h
   have e:(i+n).toNat=j:=Option.some.inj h
   exact ⟨by rw [seqIndex_neg (by omega) h1,e],by omega,h1,by omega⟩
  ·rw [if_neg h1] at h; cases h
theorem atI_get {α:Type} {xs:List α} {i:Int} {v:α} (h:atI xs i=some v):∃ j,seqIndex? i xs.length=some j/\xs[j]?=some v/\j < xs.length/\-(xs.length:Int)<=i/\i < xs.length:=by
 unfold atI at h
 cases e:ixN xs.length i with
 | none=>rw [e] at h; cases h
 | some j=>
  rw [e] at h
  obtain ⟨h1,h2,h3,h4⟩:=ixN_seq e
  exact ⟨j,h1,h,h2,h3,h4⟩
theorem atI_nat {α:Type} {xs:List α} {j:Nat} {v:α} (h:xs[j]?=some v):atI xs (j:Int)=some v:=by
 have hj:j < xs.length:=(List.getElem?_eq_some_iff.mp h).1
 have e:ixN xs.length (j:Int)=some j:=by
  unfold ixN
  rw [if_pos (by omega),if_pos (by omega)]; simp
 unfold atI; rw [e]; exact h
def PlainIx (b:Expr):Prop:=∀ o i,subscripted b false o i=operate [o,i] (getItem o i)
def IxR (X:Cx) (r:R2):Prop:=
 ∀ (value slice:Expr) (pins:List (Addr × Obj)) (s:Shared) (σ:St) (H:Hp) (x y:V) (v u:Value) (Q:VK),Inv X pins σ H s->RelV x v->RelV y u->r x y H Q ->
  subscripted slice false v u=operate [v,u] (getItem v u)->wpAny (model X.prog X.w) X.A (subscriptTail value slice v u) (EP X pins σ Q) X.xe s
def MtR (X:Cx) (id:String) (r:V->List V->Hp->VK->Prop):Prop:=
 ∀ (pins:List (Addr × Obj)) (s:Shared) (σ:St) (H:Hp) (x:V) (xs:List V) (v:Value) (us:List Value) (Q:VK),Inv X pins σ H s->RelV x v->Vals xs us->r x xs H Q ->
  wpAny (model X.prog X.w) X.A (call (.builtin id) (v :: us)) (EP X pins σ Q) X.xe s
section
variable {X:Cx} {a b:Expr} {ta tb:TE} {pos:Pos}
theorem pe_ix {r:R2} (hr:IxR X r) (ha:PE X a ta) (hb:PE X b tb) (hs:PlainIx b):PE X (.Subscript a b pos) (tOp r ta tb):=by
 intro pins s σ H Q I h
 exact Subscript_ (binT ha hb I h fun v u s2 x y H2 I2 rx ry q=>hr a b pins s2 σ H2 x y v u Q I2 rx ry q (hs _ _))
def rIxL (K:W.Frag):R2:=fun x y H Q=>∃ p xs i v,x=.ref p/\y=.int i/\SqL K H p xs/\atI xs i=some v/\Q v H
def rIxT (K:W.Frag):R2:=fun x y H Q=>∃ p xs i v,x=.ref p/\y=.int i/\SqT K H p xs/\atI xs i=some v/\Q v H
theorem ix_list:IxR X (rIxL X.K):=by
 intro value slice pins s σ H x y v u Q I rx ry h hs
 obtain ⟨p,xs,i,z,rfl,rfl,hq,he,q⟩:=h
 cases rx
 obtain ⟨t,rfl⟩:=ry
 obtain ⟨its,r,pl,hz⟩:=I.list hq
 obtain ⟨j,h1,h2,h3,h4,h5⟩:=atI_get he
 obtain ⟨w,ew,rw'⟩:=r.get h2
 have hl:=r.length
 have hn:=line63
 have fin:EP X pins σ Q w s:=⟨z,H,I,rw',q⟩
 by_cases h0:0<=i
 ·have hj:i.toNat=j:=by
   rw [seqIndex_of h0 h5] at h1
   exact Option.some.inj h1
  exact item_listR pl.isList h0 (by omega) (by rw [hj]; simpa using ew) fin hs
 ·have hj:(i+(its.toArray.size:Int)).toNat=j:=by
   rw [seqIndex_neg (by omega) h4] at h1
   rw [List.size_toArray,<- hl]
   exact Option.some.inj h1
  exact subscriptTail_builtinR (x:=w) pl.isList.typeIs slot_list_getitem.lookup
   (wpAny_getItem_list_neg (Q:=fun r s'=>r=w/\EP X pins σ Q r s') pl.isList (by omega) (by rw [List.size_toArray] <;> omega) (by omega) (by rw [hj]; simpa using ew) ⟨rfl,fin⟩) hs
theorem ix_tup:IxR X (rIxT X.K):=by
 intro value slice pins s σ H x y v u Q I rx ry h hs
 obtain ⟨p,xs,i,z,rfl,rfl,hq,he,q⟩:=h
 cases rx
 obtain ⟨t,rfl⟩:=ry
 obtain ⟨its,r,pl,hz⟩:=I.tuple hq
 obtain ⟨j,h1,h2,h3,h4,h5⟩:=atI_get he
 obtain ⟨w,ew,rw'⟩:=r.get h2
 have hl:=r.length
 have hn:=line63
 have fin:EP X pins σ Q w s:=⟨z,H,I,rw',q⟩
 exact subscriptTail_builtinR (x:=w) pl.typeIs slot_tuple_getitem.lookup
  (getItem_tuple (j:=j) (Q:=fun r s'=>r=w/\EP X pins σ Q r s') pl (by omega) (by omega) (by rw [List.size_toArray,<- hl]; exact h1) (by simpa using ew) ⟨rfl,fin⟩) hs
theorem mapSeq_set (its:List Value) (n j:Nat) (u:Value):Obj.mapSeq (·.setIfInBounds j u) { cls:=.type "list",data:=.seq its.toArray n }={ cls:=.type "list",data:=.seq (its.set j u).toArray n }:=by
 simp [Obj.mapSeq]
theorem Inv.lst {pins:List (Addr × Obj)} {σ:St} {H:Hp} {s:Shared} {p:Addr} {xs:List V} (I:Inv X pins σ H s) (h:H p=some (.lst xs)) :
  ∃ (its:List Value) (n:Nat),Vals xs its/\s.heap.get? p=some { cls:=.type "list",data:=.seq its.toArray n }/\xs.length<=sizeLine:=by
 obtain ⟨z,its,n,r,e⟩:=I.hok p _ h
 exact ⟨its,n,r,e,z⟩
theorem Inv.lstUpd {pins:List (Addr × Obj)} {σ:St} {H:Hp} {s:Shared} {p:Addr} {xs ys:List V} {its its':List Value} {n n':Nat} {f:Obj->Obj} (I:Inv X pins σ H s) (h:H p=some (.lst xs))
  (ho:s.heap.get? p=some { cls:=.type "list",data:=.seq its.toArray n }) (hf:f { cls:=.type "list",data:=.seq its.toArray n }={ cls:=.type "list",data:=.seq its'.toArray n' }) (r:Vals ys its') (hz:ys.length<=sizeLine) (t:Nat) :
  Inv X pins σ (upd H p (.lst ys)) { s with heap:=s.heap.update p f,toks:=t }:=by
 have e:(s.heap.update p f).get? p=some { cls:=.type "list",data:=.seq its'.toArray n' }:=by
  rw [Heap.get?_update_self f ho (by rw [hf] <;> rfl),hf]
 refine I.write (x:=p) (e:=p) (by rw [h]; trivial) (.inl rfl) (fun b u hb q=>(Heap.get?_update_other _ _ (Ne.symm hb)).trans q) ⟨_,e⟩ ?_
 exact ⟨hz,its',n',r,e⟩
def rSetL:V->V->V->Hp->(Hp->Prop)->Prop:=fun o i v H Q=>∃ p xs k j,o=.ref p/\i=.int k/\H p=some (.lst xs)/\ixN xs.length k=some j/\Q (upd H p (.lst (xs.set j v)))
theorem set_list:PSet X rSetL:=by
 intro pins s σ H o i v ov iv u Q I ro ri rv h
 obtain ⟨p,xs,k,j,rfl,rfl,hp,hj,q⟩:=h
 cases ro
 obtain ⟨t,rfl⟩:=ri
 obtain ⟨its,n,r,ho,hz⟩:=I.lst hp
 obtain ⟨h1,h2,h3,h4⟩:=ixN_seq hj
 have hl:=r.length
 have hn:=line63
 have I':Inv X pins σ (upd H p (.lst (xs.set j v))) { s with heap:=s.heap.update p (Obj.mapSeq (·.setIfInBounds j u)) }:=
  I.lstUpd hp ho (mapSeq_set its n j u) (r.set rv j) (by rw [List.length_set]; exact hz) s.toks
 by_cases h0:0<=k
 ·have hk:k.toNat=j:=by
   rw [seqIndex_of h0 h4] at h1
   exact Option.some.inj h1
  exact W.ki_setAt ho h0 (by omega) (by rw [List.size_toArray,<- hl]; exact h4) (by rw [hk]; exact ⟨_,I',q⟩)
 ·have hk:(k+(its.toArray.size:Int)).toNat=j:=by
   rw [seqIndex_neg (by omega) h3] at h1
   rw [List.size_toArray,<- hl]
   exact Option.some.inj h1
  exact W.ki_setBack ho (by omega) (by rw [List.size_toArray,<- hl]; exact h3) (by omega) (by rw [hk]; exact ⟨_,I',q⟩)
theorem slice_bounds (lo hi:Option Int) (n:Nat):(sliceBounds lo hi none n).1=((HT.sIx n 0 lo:Nat):Int)/\(sliceBounds lo hi none n).2.1=((HT.sIx n n hi:Nat):Int)/\(sliceBounds lo hi none n).2.2=1:=by
 refine ⟨?_,?_,rfl⟩
 ·cases lo with
  | none=>simp [sliceBounds,HT.sIx]
  | some i=>
   simp only [sliceBounds,HT.sIx,Option.getD_none,show (1:Int) > 0 by decide,if_true]
   by_cases h:i < 0
   ·simp only [h,if_true] <;> omega
   ·simp only [h,if_false] <;> omega
 ·cases hi with
  | none=>simp [sliceBounds,HT.sIx]
  | some i=>
   simp only [sliceBounds,HT.sIx,Option.getD_none,show (1:Int) > 0 by decide,if_true]
   by_cases h:i < 0
   ·simp only [h,if_true] <;> omega
   ·simp only [h,if_false] <;> omega
theorem slicePick_cut (its:List Value) (lo hi:Option Int):slicePick its.toArray lo hi none=((its.drop (HT.sIx its.length 0 lo)).take (HT.sIx its.length its.length hi - HT.sIx its.length 0 lo)).toArray:=by
 obtain ⟨h1,h2,h3⟩:=slice_bounds lo hi its.toArray.size
 unfold slicePick
 rw [h1,h2,h3]
 simp only [sliceRange_one,pick_run,List.size_toArray] <;> rfl
def rSlL (K:W.Frag):V->Option Int->Option Int->Hp->VK->Prop:=fun x lo hi H Q=>∃ a xs,x=.ref a/\SqL K H a xs/\∀ p,H p=none->Q (.ref p) (upd H p (.lst (cutV xs lo hi)))
theorem sl_list:SlR X (rSlL X.K):=by
 intro pins s σ H x v vl vu lo hi sl Q I rx hs pl pu h
 obtain ⟨a,xs,rfl,hx,q⟩:=h
 cases rx
 obtain ⟨its,r,ht,hz⟩:=I.list hx
 have hlen:=r.length
 refine ⟨"list",_,slot_list_getitem.lookup,ht.isList.typeIs,?_⟩
 refine wpAny_getItem_list_slice ht.isList hs pl pu .none (by simp) ?_ (by rw [List.size_toArray] <;> omega)
 rw [slicePick_cut,<- hlen]
 refine ⟨.ref s.heap.objs.size,_,I.laid (t':=s.toks) (o:=.lst (cutV xs lo hi)) (fun b ob q=>Heap.get?_push_of_some _ q) (Nat.le_refl _) ?_,rfl,q _ (I.hok.fresh (Nat.le_refl _))⟩
 exact ⟨Nat.le_trans (cutV_length xs lo hi) hz,_,0,(r.drop (HT.sIx xs.length 0 lo)).take (HT.sIx xs.length xs.length hi - HT.sIx xs.length 0 lo),Heap.get?_push_size _ rfl⟩
def flatV:V->Bool
 | .non=>true
 | .bl _=>true
 | .int _=>true
 | .str _=>true
 | _=>false
def eqV:V->V->Bool
 | .non,.non=>true
 | .bl a,.bl b=>a == b
 | .bl a,.int b=>(if a then 1 else 0) == b
 | .int a,.bl b=>a == (if b then 1 else 0)
 | .int a,.int b=>a == b
 | .str a,.str b=>a == b
 | _,_=>false
theorem eqAt_V {A:Around} {s:Shared} {y x:V} {u v:Value} (ry:RelV y u) (rx:RelV x v) (fy:flatV y=true) (fx:flatV x=true):SeqAt.EqAt A s u v (eqV y x):=by
 cases y with
 | non=>
  cases ry
  cases x with
  | non=>cases rx; exact SeqAt.EqAt.same _
  | bl b=>cases rx; exact SeqAt.EqAt.none_bool b
  | int b=>obtain ⟨t,rfl⟩:=rx; exact SeqAt.EqAt.none_int b t
  | str b=>obtain ⟨t,rfl⟩:=rx; exact SeqAt.EqAt.none_str b t
  | _=>exact absurd (show false=true from fx) Bool.false_ne_true
 | bl a=>
  cases ry
  cases x with
  | non=>cases rx; exact SeqAt.EqAt.bool_none a
  | bl b=>cases rx; exact SeqAt.EqAt.bool_bool a b
  | int b=>obtain ⟨t,rfl⟩:=rx; exact SeqAt.EqAt.bool_int a b t
  | str b=>obtain ⟨t,rfl⟩:=rx; exact SeqAt.EqAt.bool_str a b t
  | _=>exact absurd (show false=true from fx) Bool.false_ne_true
 | int a=>
  obtain ⟨t',rfl⟩:=ry
  cases x with
  | non=>cases rx; exact SeqAt.EqAt.int_none a t'
  | bl b=>cases rx; exact SeqAt.EqAt.int_bool a t' b
  | int b=>obtain ⟨t,rfl⟩:=rx; exact SeqAt.EqAt.int_int a t' b t
  | str b=>obtain ⟨t,rfl⟩:=rx; exact SeqAt.EqAt.int_str a t' b t
  | _=>exact absurd (show false=true from fx) Bool.false_ne_true
 | str a=>
  obtain ⟨t',rfl⟩:=ry
  cases x with
  | non=>cases rx; exact SeqAt.EqAt.str_none a t'
  | bl b=>cases rx; exact SeqAt.EqAt.str_bool a t' b
  | int b=>obtain ⟨t,rfl⟩:=rx; exact SeqAt.EqAt.str_int a t' b t
  | str b=>obtain ⟨t,rfl⟩:=rx; exact SeqAt.EqAt.str_str a t' b t
  | _=>exact absurd (show false=true from fx) Bool.false_ne_true
 | _=>exact absurd (show false=true from fy) Bool.false_ne_true
def eqU (x:V) (u:Value):Bool:=match u with
 | .none=>eqV .non x
 | .bool b=>eqV (.bl b) x
 | .int i _=>eqV (.int i) x
 | .str z _=>eqV (.str z) x
 | _=>false
theorem eqU_of {x y:V} {u:Value} (r:RelV y u) (f:flatV y=true):eqU x u=eqV y x:=by
 cases y with
 | non=>cases r; rfl
 | bl b=>cases r; rfl
 | int i=>obtain ⟨t,rfl⟩:=r; rfl
 | str z=>obtain ⟨t,rfl⟩:=r; rfl
 | _=>exact absurd (show false=true from f) Bool.false_ne_true
theorem any_eqU {x:V}:∀ {xs:List V} {us:List Value},Vals xs us->xs.all flatV=true->us.any (eqU x)=xs.any fun y=>eqV y x
 | _,_,.nil,_=>rfl
 | y :: xs,u :: us,.cons r t,f=>by
  rw [List.all_cons,Bool.and_eq_true] at f
  rw [List.any_cons,List.any_cons,eqU_of r f.1,any_eqU t f.2]
theorem mem_eqAt {A:Around} {s:Shared} {x:V} {v:Value} (rx:RelV x v) (fx:flatV x=true):∀ {xs:List V} {us:List Value},Vals xs us->xs.all flatV=true->∀ u ∈ us,SeqAt.EqAt A s u v (eqU x u)
 | _,_,.nil,_=>fun u hu=>by cases hu
 | y :: xs,u :: us,.cons r t,f=>fun u' hu=>by
  rw [List.all_cons,Bool.and_eq_true] at f
  rcases List.mem_cons.mp hu with rfl | hu
  ·rw [eqU_of r f.1]; exact eqAt_V r rx f.1 fx
  ·exact mem_eqAt rx fx t f.2 u' hu
def inV (x:V) (xs:List V):Bool:=xs.any fun y=>eqV y x
def rIn (K:W.Frag) (neg:Bool):R2:=fun x y H Q=>∃ p xs,y=.ref p/\(SqL K H p xs\/SqT K H p xs)/\flatV x=true/\xs.all flatV=true/\Q (.bl (if neg then !inV x xs else inV x xs)) H
theorem op_in_seq:OpR X (compareOp .In) (rIn X.K false):=by
 intro pins s σ H x y v u Q I rx ry h
 obtain ⟨p,xs,rfl,hq,fx,fs,q⟩:=h
 cases ry
 rcases hq with hq | hq
 ·obtain ⟨its,r,pl,hz⟩:=I.list hq
  refine SeqAt.in_listAt (eqU x) pl.isList (fun w hw=>mem_eqAt rx fx r fs w (by simpa using hw)) ⟨.bl _,H,I,rfl,?_⟩
  rw [show its.toArray.any (eqU x)=its.any (eqU x) by simp,any_eqU r fs]
  exact q
 ·obtain ⟨its,r,pl,hz⟩:=I.tuple hq
  refine SeqAt.in_tupleAt (eqU x) pl (fun w hw=>mem_eqAt rx fx r fs w (by simpa using hw)) ⟨.bl _,H,I,rfl,?_⟩
  rw [show its.toArray.any (eqU x)=its.any (eqU x) by simp,any_eqU r fs]
  exact q
theorem call_len_seq:CallR X (.builtin "len") (fun xs H Q=>∃ p ys,xs=[.ref p]/\(SqL X.K H p ys\/SqT X.K H p ys)/\Q (.int ys.length) H):=by
 intro pins s σ H xs us Q I r h
 obtain ⟨p,ys,rfl,hq,q⟩:=h
 obtain ⟨u,rfl,rx⟩:=vals1 r
 cases rx
 have hn:=line63
 rcases hq with hq | hq
 ·obtain ⟨its,r',pl,hz⟩:=I.list hq
  have hlen:=r'.length
  exact Calls.call_len_list pl.isList (by simp only [List.size_toArray] <;> omega) ⟨.int ys.length,H,I.tok _,⟨s.toks+1,by rw [List.size_toArray,hlen]⟩,q⟩
 ·obtain ⟨its,r',pl,hz⟩:=I.tuple hq
  have hlen:=r'.length
  exact len_tuple pl (by simp only [List.size_toArray] <;> omega) ⟨.int ys.length,H,I.tok _,⟨s.toks+1,by rw [List.size_toArray,hlen]⟩,q⟩
theorem call_tuple_of:CallR X (.type "tuple") (fun xs H Q=>∃ p ys,xs=[.ref p]/\((SqL X.K H p ys/\∀ l,H l=none->Q (.ref l) (upd H l (.tup ys)))\/(SqT X.K H p ys/\Q (.ref p) H))):=by
 intro pins s σ H xs us Q I r h
 obtain ⟨p,ys,rfl,h⟩:=h
 obtain ⟨u,rfl,rx⟩:=vals1 r
 cases rx
 rcases h with ⟨hq,q⟩ | ⟨hq,q⟩
 ·obtain ⟨its,r',pl,hz⟩:=I.list hq
  have hlen:=r'.length
  refine call_tuple_list pl.isList (fun h' kp=>?_) (by simp only [List.size_toArray] <;> omega)
  have I1:Inv X pins σ H { s with heap:=h' }:=I.kept (t':=s.toks) kp
  have I2:Inv X pins σ (upd H h'.objs.size (.tup ys)) { s with heap:=h'.push { cls:=.type "tuple",data:=.seq its.toArray } }:=
   I1.laid (t':=s.toks) (fun b o e=>Heap.get?_push_of_some _ e) (Nat.le_refl _) (show ObjOk X.prog X.w _ _ _ (.tup ys) from ⟨hz,its,r',IsTup.new _ _⟩)
  exact ⟨.ref h'.objs.size,_,I2,rfl,q _ (I1.hok.fresh (Nat.le_refl _))⟩
 ·obtain ⟨its,r',pl,hz⟩:=I.tuple hq
  exact call_tuple_same pl ⟨.ref p,H,I,rfl,q⟩
def tyV (K:W.Frag) (T:String) (x:V) (H:Hp):Prop:=match x with
 | .str _=>T="str"
 | .int _=>T="int"
 | .ref p=>(T="list"/\∃ xs,SqL K H p xs)\/(T="tuple"/\∃ o,K.lookup p=some o/\o.cls=.type "tuple"/\o.dict=none) \/
   (T="dict"/\((∃ kvs,H p=some (.dK kvs))\/∃ kvs,H p=some (.dT kvs)))\/(T="set"/\∃ S n,H p=some (.set S n))
 | _=>False
theorem tyV_is {pins:List (Addr × Obj)} {σ:St} {H:Hp} {s:Shared} {T:String} {x:V} {v:Value} (I:Inv X pins σ H s) (r:RelV x v) (ty:tyV X.K T x H) :
  s.TypeIs v T/\∀ a,v=.ref a->∃ ob,s.heap.get? a=some ob/\ob.dict=none:=by
 cases x with
 | str z=>
  obtain ⟨t,rfl⟩:=r
  cases (show T="str" from ty)
  exact ⟨typeIs_str s z t,fun _ e=>nomatch e⟩
 | int i=>
  obtain ⟨t,rfl⟩:=r
  cases (show T="int" from ty)
  exact ⟨typeIs_int s i t,fun _ e=>nomatch e⟩
 | ref p=>
  cases r
  rcases ty with ⟨rfl,xs,hq⟩ | ⟨rfl,o,hk,hc,hd⟩ | ⟨rfl,hk⟩ | ⟨rfl,S,n,hk⟩
  ·obtain ⟨its,_,pl,_⟩:=I.list hq
   refine ⟨pl.isList.typeIs,fun a e=>?_⟩
   cases e
   obtain ⟨o,n,e,c,hd,_⟩:=pl
   exact ⟨o,e,hd⟩
  ·refine ⟨⟨o,I.kIn p o hk,hc⟩,fun a e=>?_⟩
   cases e
   exact ⟨o,I.kIn _ o hk,hd⟩
  ·have z:∃ o,s.heap.get? p=some o/\o.ExactDict:=by
    rcases hk with ⟨kvs,hk⟩ | ⟨kvs,hk⟩
    ·obtain ⟨_,_,_,_,o,_,_,e,ex,_⟩:=I.hok p _ hk
     exact ⟨o,e,ex⟩
    ·obtain ⟨_,_,_,_,o,_,_,e,ex,_⟩:=I.hok p _ hk
     exact ⟨o,e,ex⟩
   obtain ⟨o,e,ex⟩:=z
   refine ⟨⟨o,e,ex.1⟩,fun a e2=>?_⟩
   cases e2
   exact ⟨o,e,ex.2.1⟩
  ·obtain ⟨o,_,_,_,e,ex,_⟩:=I.hok p _ hk
   refine ⟨⟨o,e,ex.1⟩,fun a e2=>?_⟩
   cases e2
   exact ⟨o,e,ex.2.1⟩
 | _=>exact False.elim ty
def tBM (K:W.Frag) (T:String) (r:V->List V->Hp->VK->Prop) (to:TE) (t:TA):TE:=fun σ H Q=>to σ H fun x H1=>tyV K T x H1/\t σ H1 fun xs H2=>r x xs H2 Q
variable {o e:Expr} {es:List Expr} {to:TE} {t:TA} {name:Str} {apos cpos:Pos} {T id:String} {r:V->List V->Hp->VK->Prop}
theorem pe_bm (pa:PlainAttrs T) (slot:Slot T name id) (hty:typeOf (.builtin id)=pure (.type "method_descriptor")) (hm:MtR X id r) (ho:PE X o to) (ha:PA X (e :: es) t)
  (hbase:attributeBase o name X.env (eval o X.env)=eval o X.env:=by rfl)
  (hfew:((backTo cpos (starEach (e :: es) X.env)).all (fun x=>!x.1) && (backToKw cpos (keywordEach [] X.env)).all (fun x=>x.1.isSome)
   && decide ((e :: es).length+([]:List Keyword).length+(if ([]:List Keyword).isEmpty then 0 else 1) < 30))=true:=by rfl)
  (hline:(apos.endLine == cpos.line)=true:=by rfl) (hs:starEach (e :: es) X.env=(false,eval e X.env) :: starEach es X.env:=by rfl) (hplain:(backTo cpos (starEach es X.env)).any (·.1)=false:=by rfl) :
  PE X (.Call (.Attribute o name apos) (e :: es) [] cpos) (tBM X.K T r to t):=by
 intro pins s σ H Q I h
 refine wpAny_Call_method_late hbase hfew hline rfl (thn (ho pins s σ H _ I h) fun v s1 ⟨x,H1,I1,r1,ty,q1⟩=>?_)
 obtain ⟨h1,h2⟩:=tyV_is I1 r1 ty
 refine ⟨T,id,pa,slot,hty,h1,h2,?_⟩
 have hA:=ha cpos pins s1 σ H1 _ I1 q1
 rw [hs] at hA ⊢
 refine Calls.callWith_builtin (by show (false || (backTo cpos (starEach es X.env)).any (·.1))=false; rw [hplain] <;> rfl) (Calls.evalArgs_plain ?_)
 exact thn hA fun us s2 ⟨vs,H2,I2,r2,q2⟩=>hm pins s2 σ H2 x vs v us Q I2 r1 r2 q2
/- xs.append(e),list.index on a module's tuple .. are MtR facts of 06m -/
end
end L2
namespace L2
open PySem PySem.Spec PyProof.Rows
def MtM (X:Cx) (id:String) (r:V->List V->Hp->VK->Prop):Prop:=
 ∀ (pins:List (Addr × Obj)) (s:Shared) (σ:St) (H:Hp) (x:V) (xs:List V) (v:Value) (us:List Value) (Q:VK),Inv X pins σ H s->RelV x v->Vals xs us->r x xs H Q ->
  wpAny (model X.prog X.w) X.A (call (.builtin id) (v :: us)) (EP X pins σ Q) X.xe s
theorem Vals.one:∀ {x:V} {us:List Value},Vals [x] us->∃ u,us=[u]/\RelV x u
 | _,_,.cons r .nil=>⟨_,rfl,r⟩
theorem Vals.two:∀ {x y:V} {us:List Value},Vals [x,y] us->∃ u v,us=[u,v]/\RelV x u/\RelV y v
 | _,_,_,.cons r (.cons q .nil)=>⟨_,_,rfl,r,q⟩
section
variable {X:Cx} {pins:List (Addr × Obj)} {σ:St} {H:Hp} {s:Shared} {l b:Addr} {xs ys zs:List V}
theorem Inv.lset {its its':List Value} {n:Nat} {f:Array Value->Array Value} {t':Nat} (I:Inv X pins σ H s) (hH:H l=some (.lst xs))
  (e:s.heap.get? l=some { cls:=.type "list",data:=.seq its.toArray n }) (hf:f its.toArray=its'.toArray) (hv:Vals ys its') (hz:ys.length<=sizeLine) :
  Inv X pins σ (upd H l (.lst ys)) { s with heap:=s.heap.update l (Obj.mapSeq f),toks:=t' }:=by
 have q:=PySem.IsL.update e f
 rw [hf] at q
 refine I.write (x:=l) (e:=l) (by rw [hH]; exact trivial) (.inl rfl) (fun b' u hb hu=>(Heap.get?_update_other s.heap (Obj.mapSeq f) (Ne.symm hb)).trans hu) ⟨_,q⟩ ?_
 exact ⟨hz,its',_,hv,q⟩
theorem Inv.lnew {its:List Value} {t':Nat} (I:Inv X pins σ H s) (hv:Vals ys its) (hz:ys.length<=sizeLine) :
  Inv X pins σ (upd H s.heap.objs.size (.lst ys)) { s with heap:=s.heap.push { cls:=.type "list",data:=.seq its.toArray },toks:=t' }:=
 I.laid (fun _ _ q=>Heap.get?_push_of_some _ q) (Nat.le_refl _) ⟨hz,its,0,hv,Heap.get?_push_size _ rfl⟩
theorem Inv.fresh (I:Inv X pins σ H s):H s.heap.objs.size=none:=I.hok.fresh (Nat.le_refl _)
theorem Inv.lstM (I:Inv X pins σ H s) (hH:H l=some (.lst xs)):xs.length<=sizeLine/\∃ (its:List Value) (n:Nat),Vals xs its/\xs.length=its.length/\s.heap.get? l=some { cls:=.type "list",data:=.seq its.toArray n }:=by
 obtain ⟨z,its,n,r,e⟩:=I.hok l _ hH
 exact ⟨z,its,n,r,r.length,e⟩
theorem notLongL {n:Nat} (h:n<=sizeLine):Builtin.List.listTooLong n=false:=by
 unfold Builtin.List.listTooLong
 exact decide_eq_false (by omega)
end
section
variable {X:Cx}
def rAppend:V->List V->Hp->VK->Prop:=fun x vs H Q=>∃ l xs y,x=.ref l/\vs=[y]/\H l=some (.lst xs)/\xs.length < sizeLine/\Q .non (upd H l (.lst (xs ++ [y])))
theorem mt_append:MtM X "list.append" rAppend:=by
 intro pins s σ H x vs v us Q I rx rv h
 obtain ⟨l,xs,y,rfl,rfl,hH,hz,q⟩:=h
 cases rx
 obtain ⟨u,rfl,ru⟩:=rv.one
 obtain ⟨z,its,n,r,hl,e⟩:=I.lstM hH
 refine call_meets F.slot_list_append ⟨_,e,rfl⟩ F.entry_list_append (F.args_list_append_2 _ _) (PySem.list_append l its.toArray n u (by rw [List.size_toArray]; omega)) ⟨e,?_⟩
 refine ⟨.non,_,I.lset (its':=its ++ [u]) hH e (by simp) (r.append (.cons ru .nil)) ?_,rfl,q⟩
 rw [List.length_append,List.length_singleton]
 omega
def rExtend:V->List V->Hp->VK->Prop:=fun x vs H Q=>∃ l b xs zs,x=.ref l/\vs=[.ref b]/\H l=some (.lst xs)/\H b=some (.lst zs)/\xs.length+zs.length<=sizeLine/\Q .non (upd H l (.lst (xs ++ zs)))
theorem mt_extend:MtM X "list.extend" rExtend:=by
 intro pins s σ H x vs v us Q I rx rv h
 obtain ⟨l,b,xs,zs,rfl,rfl,hH,hB,hz,q⟩:=h
 cases rx
 obtain ⟨u,rfl,ru⟩:=rv.one
 cases ru
 obtain ⟨z,its,n,r,hl,e⟩:=I.lstM hH
 obtain ⟨z2,its2,n2,r2,hl2,e2⟩:=I.lstM hB
 have hsz:its.toArray.size+its2.toArray.size<=sizeLine:=by rw [List.size_toArray,List.size_toArray]; omega
 have hlong:¬ (!its.toArray.isEmpty && Builtin.List.listTooLong (its.toArray.size+its2.toArray.size))=true:=by
  rw [notLongL hsz,Bool.and_false]
  exact Bool.false_ne_true
 refine call_meets F.slot_list_extend ⟨_,e,rfl⟩ F.entry_list_extend (F.args_list_extend_2 _ _)
  (AutoSeq1.list_extend_list_list_0 l its.toArray n b its2.toArray n2 hlong (by rw [List.size_toArray]; omega) (by omega)) ⟨e,e2,?_⟩
 refine ⟨.non,_,I.lset (its':=its ++ its2) hH e (by simp) (r.append r2) ?_,rfl,q⟩
 rw [List.length_append]
 omega
def rCat:R2:=fun x y H Q=>∃ l b xs zs,x=.ref l/\y=.ref b/\H l=some (.lst xs)/\H b=some (.lst zs)/\xs.length+zs.length<=sizeLine/\∀ p,H p=none->Q (.ref p) (upd H p (.lst (xs ++ zs)))
theorem op_cat:OpR X (binaryOp .Add) rCat:=by
 intro pins s σ H x y v u Q I rx ry h
 obtain ⟨l,b,xs,zs,rfl,rfl,hH,hB,hz,q⟩:=h
 cases rx
 cases ry
 obtain ⟨z,its,n,r,hl,e⟩:=I.lstM hH
 obtain ⟨z2,its2,n2,r2,hl2,e2⟩:=I.lstM hB
 refine PySem.P.add_list e e2 ?_ (by rw [List.size_toArray,List.size_toArray]; omega)
 have ea:its.toArray ++ its2.toArray=(its ++ its2).toArray:=by simp
 rw [ea]
 exact ⟨.ref _,_,I.lnew (t':=s.toks) (r.append r2) (by rw [List.length_append]; omega),rfl,q _ I.fresh⟩
end
section
variable {prog:Program} {w:World} {A:Around} {E:Value->Shared->Prop} {s:Shared}
end
section
variable {X:Cx}
end
end L2
namespace Att
open PySem PySem.W PySem.Calls PyProof.Rows
theorem ints_of_wellAll {P:Params} {h:Heap}:∀ (ns:List Int) (vs:List Value),WellAll P h vs (ns.map WData.int)->IntsAre vs ns:=by
 intro ns
 induction ns with
 | nil=>
  intro vs w
  rw [List.map_nil] at w
  cases w
  exact .nil
 | cons n ns ih=>
  intro vs w
  rw [List.map_cons] at w
  cases w with
  | cons a b=>
   cases a
   exact .cons _ _ (ih _ b)
theorem script_of {l:OpenLaw} {n:Nat} (hn:l.most=some n) {P:Params} {h:Heap} {args:List WData} {vals:List Value}
  (hpre:l.row.toRowW.claim.pre args=true) (hwl:WellAll P h vals args) :
  ∃ a vs ns,vals=[Value.ref a]/\args=[WData.list (ns.map WData.int)]/\h.get? a=some { cls:=.type "list",data:=.seq vs.toArray }/\IntsAre vs ns/\ns.length<=n:=by
 have hsh:WShape.hasAll [] args [.list .int]=true:=(pre_splitW hpre).1
 have hc:l.pre.holds [] { args:=args }=true:=(pre_splitW hpre).2
 obtain ⟨d,r,rfl,h1,h2⟩:=hasAllW_cons hsh
 obtain rfl:=hasAllW_nil h2
 obtain ⟨xs,rfl,h3⟩:=hasW_list h1
 obtain ⟨ns,rfl⟩:=items_int h3
 have hlen:ns.length<=n:=by
  unfold OpenLaw.pre at hc
  have h4:(WTm.not (.lt (.lit (.int (n:Int))) (.len (.arg 0)))).holds [] { args:=[.list (ns.map .int)] }=true:=by
   have h4:=(holds_andW hc).1
   rw [hn] at h4
   exact h4
  have h5:=condW_of h4 (w_not (w_lt w_lit (w_len_list (w_arg rfl))))
  rw [List.length_map] at h5
  refine Nat.le_of_not_lt fun q=>?_
  have q':(n:Int) < ((ns.length:Nat):Int):=by omega
  first
   | (rw [decide_eq_true q'] at h5; exact absurd h5 (by decide))
   | (simp at h5; omega)
 cases hwl with
 | cons w1 w2=>
  cases w2
  cases w1 with
  | list ho hall=>exact ⟨_,_,ns,rfl,rfl,ho,ints_of_wellAll ns _ hall,hlen⟩
theorem post_true (l:OpenLaw) (args:List WData):l.row.toRowW.claim.post args (.bool true) args=true:=
 postW_of (r:=l.row.toRowW) (X:=(true == true))
  (show WShape.has [] (.bool true) .bool=true by first | rfl | decide | simp [WShape.has,WShape.arms,WShape.armsAll])
  (show (WTm.eq .res (.lit (.bool true))).value [] { args:=args,res:=some (.bool true),after:=args }=some (.bool (true == true)) from w_eq_bool (w_res rfl) w_lit) rfl
section
variable {prog:Program} {w:World} {A:Around} {E:Value->Shared->Prop} {s:Shared} {K:Frag}
end
end Att
namespace L2
open PySem PySem.Spec PyProof.Rows
theorem vals_ints:∀ {vs:List Value} {ns:List Int},IntsAre vs ns->Vals (ns.map V.int) vs
 | _,_,.nil=>.nil
 | _,_,.cons n t h=>.cons ⟨t,rfl⟩ (vals_ints h)
def Only (H:Hp):Prop:=∀ b,H b=none\/∃ o xs,H b=some (.frz o (.lst xs))
theorem law_call {P:Program} {w:World} {K:W.Frag} {mg mb:Str->Option Value} {CX:CXT} {k:Nat} {fa a:Addr} {fd:FuncData} {x:Str} {sp:Sp} {s₁:Shared} {vs:List Value} {ns:List Int}
  (KX:K.In s₁.heap) (hns:s₁.heap.Ns mainGlobals mg) (hb:s₁.heap.Ns builtinsNs mb) (hbb:∀ x:Str,x ≠ "__name__"->mb x=bootBuiltins x) (hlim:s₁.heap.NoLimit) (hg:s₁.gens=#[])
  (ha:s₁.heap.get? a=some { cls:=.type "list",data:=.seq vs.toArray }) (hi:IntsAre vs ns) (hl:ns.length<=sizeLine) (hr:Room k callerA)
  (F:∀ base:Heap,K.In base->base.Ns mainGlobals mg->FnOk P w K mg base CX k fa fd [x] sp) (hbind:∀ (s:Shared) (u:Value),BindsTo s fd ⟨[u],[]⟩ [(x,u)])
  (hsp:∀ H:Hp,Only H->SqL K H a (ns.map V.int)->sp [.ref a] H (fun v _=>v=.bl true) fun _ _ _=>False)
  (hCX:∀ H e s',CX [] H s₁ (fun _ _ _=>False) e s'->False) :
  codeAny (model P w) callerA (.call (.ref fa) ⟨[.ref a],[]⟩) (fun r s'=>r=.ok (.ret (.bool true))/\OldK s₁.heap s'.heap/\s'.os=s₁.os/\AllBare s'.gens) s₁:=by
 have rv:=vals_ints hi
 have lenV:=hi.length
 -- from an abstract heap in which nothing but the script may be tracked
 have core:∀ H:Hp,Only H->SqL K H a (ns.map V.int)->HOk P w H s₁.heap->(∀ b,H b ≠ none->b=a)->(H a ≠ none->K.lookup a=none) ->
   codeAny (model P w) callerA (.call (.ref fa) ⟨[.ref a],[]⟩) (fun r s'=>r=.ok (.ret (.bool true))/\OldK s₁.heap s'.heap/\s'.os=s₁.os/\AllBare s'.gens) s₁:=by
  intro H hO hS hok hA hK
  have base_of:∀ {b:Addr} {o:Obj},s₁.heap.get? b=some o->H b=none->(hidT s₁.heap H).get? b=some o:=fun e n=>hidT_get e n
  have noA:∀ {b:Addr} {o:Obj} {es:Array DictEntry} {ep:Nat},s₁.heap.get? b=some o->o.data=.dict es ep->H b=none:=fun {b o es ep} e d=>by
   cases q:H b with
   | none=>rfl
   | some u=>
    have e':b=a:=hA b (by rw [q]; simp)
    subst e'
    rw [ha] at e; cases e
    have d':Data.seq vs.toArray _=Data.dict es ep:=d
    cases d'
  have nsK:∀ {b:Addr} {m:Str->Option Value},s₁.heap.Ns b m->(hidT s₁.heap H).Ns b m:=fun {b m} ⟨o,es,ep,e,d,r⟩=>⟨o,es,ep,base_of e (noA e d),d,r⟩
  have hKb:K.In (hidT s₁.heap H):=fun b o e=>base_of (KX b o e) (by
   cases q:H b with
   | none=>rfl
   | some u=>
    have e':b=a:=hA b (by rw [q]; simp)
    subst e'
    rw [hK (by rw [q]; simp)] at e; cases e)
  have hM:Mod K mg (hidT s₁.heap H):=⟨hKb,nsK hns,⟨mb,nsK hb,hbb⟩,let ⟨mc,h1,h2⟩:=hlim; ⟨mc,nsK h1,h2⟩⟩
  have e0:Env0 P w K mg (hidT s₁.heap H) callerA [] s₁ H:=⟨rfl,hM,fun b o e=>of_hidT e,Nat.le_of_eq (hidT_size _ _),trivial,fun b hb=>absurd (show b ∈ ([]:List Addr) from hb) (by simp),hok,.of_eq hg⟩
  refine codeAny_mono ((F _ hKb (nsK hns)).run callerA [] s₁ H ⟨[.ref a],[]⟩ [.ref a] [.ref a] _ _ hr e0 (hbind s₁ (.ref a)) (.cons rfl .nil) (hsp H hO hS)) fun r s' h=>?_
  cases r with
  | error e=>exact (hCX H e s' h).elim
  | ok fl=>
   cases fl with
   | next=>exact False.elim h
   | brk=>exact False.elim h
   | cont=>exact False.elim h
   | ret u=>
    obtain ⟨v,H',os,bare,un,hok',r',q⟩:=h
    have q':v=.bl true:=q
    subst q'
    obtain rfl:u=Value.bool true:=r'
    refine ⟨rfl,OldK.of_keep fun b o e=>?_,os,bare⟩
    cases q:H b with
    | none=>exact un.keep b o e q (by intro z; exact absurd (show b ∈ ([]:List Addr) from z) (by simp)) (by simp)
    | some u=>
     rcases hO b with z | ⟨ob,xs,z⟩
     ·rw [q] at z; cases z
     ·have z2:=un.frzs b ob _ z
      obtain ⟨e1,_⟩:=hok b _ z
      obtain ⟨e2,_⟩:=hok' b _ z2
      rw [e] at e1; cases e1
      exact e2
 cases hk:K.lookup a with
 | some o=>
  -- the script is one of the module's own objects
  have e:=KX a o hk
  rw [ha] at e
  cases e
  refine core (fun _=>none) (fun _=>.inl rfl) (.inr ⟨_,vs.toArray,_,hk,rfl,rfl,rfl,by rw [List.size_toArray,lenV]; exact hl,by simpa using rv⟩) (fun b u z=>by have z':(none:Option HO)=some u:=z; cases z') (fun b z=>absurd rfl z) fun z=>absurd rfl z
 | none=>
  refine core (fun b=>if b=a then some (.frz { cls:=.type "list",data:=.seq vs.toArray } (.lst (ns.map V.int))) else none) (fun b=>?_) (.inl (.inr ⟨{ cls:=.type "list",data:=.seq vs.toArray },if_pos rfl⟩)) (fun b u z=>?_) (fun b z=>?_) fun _=>hk
  ·by_cases hb:b=a
   ·exact .inr ⟨_,_,if_pos hb⟩
   ·exact .inl (if_neg hb)
  ·by_cases hb:b=a
   ·have z':=(if_pos hb).symm.trans z
    cases z'
    subst hb
    exact ⟨ha,by rw [List.length_map]; exact hl,vs,_,rv,ha⟩
   ·have z':=(if_neg hb).symm.trans z
    cases z'
  ·by_cases hb:b=a
   ·exact hb
   ·exact absurd (if_neg hb) z
end L2
namespace L2
open PySem PySem.Spec PyProof.Rows
end L2
namespace L2
open PySem PySem.Spec PyProof.Rows
def inClass (s:Stmt) (j:Nat):Stmt:=match s with
 | .ClassDef _ _ _ body _ _ _ _ _ _ _=>body.getD j (.Pass ⟨0,0,0,0⟩)
 | _=>.Pass ⟨0,0,0,0⟩
def defArgs (s:Stmt):Arguments:=match s with
 | .FunctionDef _ a _ _ _ _ _ _ _ _=>a
 | _=>{ posonlyargs:=[],args:=[],vararg:=none,kwonlyargs:=[],kw_defaults:=[],kwarg:=none,defaults:=[] }
def defBody (s:Stmt):List Stmt:=match s with
 | .FunctionDef _ _ b _ _ _ _ _ _ _=>b
 | _=>[]
def defScope (s:Stmt):Scope:=match s with
 | .FunctionDef _ _ _ _ _ _ sc _ _ _=>sc
 | _=>{ kind:=.function,names:=[],isGenerator:=false,isCoroutine:=false }
abbrev CX0:CXT:=fun _ _ _ _ _ _=>False
abbrev E0:XK:=fun _ _ _=>False
theorem pass0 {X:Cx}:Passes CX0 X E0:=fun _ _ _ _ _ _ _ h=>h.elim
structure Fun (K:W.Frag) (x qual:Str) (st:Stmt) (f:Addr) (fd:FuncData):Prop where
 ex:∃ (oc:Value) (od:Option Addr) (kV doc pm:Value) (an:Option Addr) (cdv ct:Value) (osl:Array (Option Value)),
  fd=W.fnOf x qual (defArgs st) (defBody st) (defScope st) .none kV doc pm an cdv ct/\K.lookup f=some ⟨oc,od,.func fd,osl⟩/\W.codeIn K cdv qual=true
 kp:W.keepIn K (.ref f)=true
section
variable {P:Program} {w:World} {K:W.Frag} {mg:Str->Option Value} {base:Heap}
theorem Fun.ok {x qual:Str} {st:Stmt} {f:Addr} {fd:FuncData} {N ps:List Str} {k:Nat} {sp:Sp} (F:Fun K x qual st f fd) (S:FnScope N ps (defScope st)) (len:∀ vs H Q E,sp vs H Q E->vs.length=ps.length)
  (hbody:∀ (cdv:Value) (A:Around) (outer:List Env) (s:Shared) (H:Hp) (vs:List V) (Q:VK) (E:XK),Room k (A.deeper (envOfC qual (defScope st) s.heap.objs.size f cdv))->sp vs H Q E ->
   ∃ t,PSs (cxOf CX0 P w K mg base N qual (defScope st) f cdv A outer s H E).nox (defBody st) t/\t { nx:=fun _ H'=>Q .non H',rt:=Q } (start N vs) H):FnOk P w K mg base CX0 (k+1) f fd ps sp:=by
 obtain ⟨oc,od,kV,doc,pm,an,cdv,ct,osl,rfl,lk,hcd⟩:=F.ex
 refine fn_of lk hcd S len fun A outer s H vs Q E hr hsp=>?_
 obtain ⟨t,h,q⟩:=hbody cdv A outer s H vs Q E hr hsp
 exact ⟨t,h.nox,q⟩
theorem Fun.binds {x qual:Str} {st:Stmt} {f:Addr} {fd:FuncData} {ps:List Str} (F:Fun K x qual st f fd)
  (h:∀ (kV doc pm:Value) (an:Option Addr) (cdv ct:Value) (us:List Value),us.length=ps.length->bindArgs (W.fnOf x qual (defArgs st) (defBody st) (defScope st) .none kV doc pm an cdv ct) ⟨us,[]⟩=pure (ps.zip us)):Binds K fd ps []:=by
 obtain ⟨oc,od,kV,doc,pm,an,cdv,ct,osl,rfl,lk,hcd⟩:=F.ex
 exact .all (h kV doc pm an cdv ct)
theorem fun_mk {x qual:Str} {st:Stmt} {f:Addr} {oc:Value} {od an:Option Addr} {osl:Array (Option Value)} {kV doc pm cdv ct:Value} (l:K.lookup f=some ⟨oc,od,.func (W.fnOf x qual (defArgs st) (defBody st) (defScope st) .none kV doc pm an cdv ct),osl⟩)
  (c:W.codeIn K cdv qual=true) (k:W.keepIn K (.ref f)=true):Fun K x qual st f (W.fnOf x qual (defArgs st) (defBody st) (defScope st) .none kV doc pm an cdv ct):=⟨⟨oc,od,kV,doc,pm,an,cdv,ct,osl,rfl,l,c⟩,k⟩
end
section
variable {X:Cx}
theorem pv (i:Nat) {x:Str} {pos:Pos} (hN:X.N[i]?=some x:=by rfl) (hv:Vis X.env.scope x:=by first | exact Or.inl rfl | exact Or.inr (Or.inl rfl) | exact Or.inr (Or.inr rfl)) (hd:(x == ("__debug__":Str))=false:=by decide)
  (hcd:(x == ("__classdict__":Str))=false:=by decide):PE X (.Name x pos) (tVar i):=pe_var hN hv hd hcd
end
theorem iteF {A B:Prop} (h:B):if false=true then A else B:=by
 rw [if_neg Bool.false_ne_true]
 exact h
theorem iteT {A B:Prop} (h:A):if true=true then A else B:=by
 rw [if_pos rfl]
 exact h
theorem ite2 {c A B:Prop} [Decidable c] (h1:c->A) (h2:¬ c->B):if c then A else B:=by
 by_cases h:c
 ·rw [if_pos h]
  exact h1 h
 ·rw [if_neg h]
  exact h2 h
theorem iteNS {c A B:Prop} [Decidable c] (hc:c) (h:B):if (!decide c)=true then A else B:=by
 rw [decide_eq_true hc]
 exact iteF h
def Same (H H':Hp):Prop:=∀ b o,H b=some o->H' b=some o
theorem Same.refl (H:Hp):Same H H:=fun _ _ h=>h
theorem Same.trans {H H1 H2:Hp} (a:Same H H1) (b:Same H1 H2):Same H H2:=fun c o h=>b c o (a c o h)
theorem Same.free {H H':Hp} (e:Same H H') {l:Addr} (h:H' l=Option.none):H l=Option.none:=by
 cases q:H l with
 | none=>rfl
 | some o=>
  rw [e l o q] at h
  cases h
theorem Same.seq {K:W.Frag} {H H':Hp} {a:Addr} {xs:List V} (e:Same H H') (h:SqL K H a xs):SqL K H' a xs:=by
 rcases h with (h | ⟨o,h⟩) | h
 ·exact .inl (.inl (e _ _ h))
 ·exact .inl (.inr ⟨o,e _ _ h⟩)
 ·exact .inr h
end L2
namespace L2
open PySem PySem.Spec PyProof.Rows
section
variable {X:Cx}
theorem op_mulG:OpR X (binaryOp .Mult) (rI IntMulOk fun i j=>.int (i*j)):=opI fun _ _ _ _ _ _ _ hc q=>mul_int q hc
def CDivL (_ j:Int):Prop:=j ≠ 0/\j.natAbs.log2 < 9000
theorem op_fdivL:OpR X (binaryOp .FloorDiv) (rI CDivL fun i j=>.int (i.fdiv j)):=
 opI fun _ _ _ _ _ _ _ hc q=>floordiv_int hc.1 q (.inl (PyProof.noPylong_of_log2 hc.2))
end
section
variable {P:Program} {w:World} {H H1 H2:Hp} {h h1 h2:Heap} {a:Addr} {o:HO}
theorem ObjOk.there (x:ObjOk P w H h a o):∃ ob,h.get? a=some ob:=by
 cases o with
 | lst xs=>obtain ⟨_,_,_,_,e⟩:=x; exact ⟨_,e⟩
 | tup xs=>obtain ⟨_,_,_,ob,e,_⟩:=x; exact ⟨_,e⟩
 | dK kvs=>obtain ⟨_,_,_,_,ob,_,_,e,_⟩:=x; exact ⟨_,e⟩
 | dT kvs=>obtain ⟨_,_,_,_,ob,_,_,e,_⟩:=x; exact ⟨_,e⟩
 | set S n=>obtain ⟨ob,_,_,_,e,_⟩:=x; exact ⟨_,e⟩
 | ins C dx fs=>obtain ⟨_,_,_,e,_⟩:=x; exact ⟨_,e⟩
 | own y=>exact x
 | xd fs=>obtain ⟨_,⟨ob,_,_,e,_⟩,_⟩:=x; exact ⟨_,e⟩
 | rng lo hi=>obtain ⟨_,_,_,e⟩:=x; exact ⟨_,e⟩
 | frz ob u=>obtain ⟨e,_⟩:=x; exact ⟨_,e⟩
 | tbl ps=>exact ⟨_,(show h.get? a=some _ from x)⟩
 | met f y=>exact ⟨_,(show h.get? a=some _ from x)⟩
 | ext φ=>obtain ⟨_,⟨ob,e⟩,_⟩:=x; exact ⟨_,e⟩
theorem HOk.onward (x : HOk P w H h1) (k : ∀ b ob, H b ≠ none -> h1.get? b = some ob -> h2.get? b = some ob) : HOk P w H h2 := fun c u e =>
  (x c u e).stay (fun b v hb q => k b v (by rcases hb with rfl | hb
                                            · rw [e]; simp
                                            · rw [hb]; simp) q) (fun _ q => q) fun _ _ q => q
theorem Un.onward {fs:List Addr} (u:Un fs [] H H1 h h1) (keep:∀ b ob,h1.get? b=some ob->b ∉ fs->(∃ o',h.get? b=some o')->h2.get? b=some ob)
  (slot:∀ b ob,h1.get? b=some ob->b ∈ fs->(∃ o',h.get? b=some o')->∃ sl,h2.get? b=some { ob with slots:=sl }):Un fs [] H H1 h h2 where
 keep:=fun b ob e n hb hx=>keep b ob (u.keep b ob e n hb hx) hb ⟨ob,e⟩
 slot:=fun b ob e n hb hx=>by
  obtain ⟨sl,e1⟩:=u.slot b ob e n hb hx
  obtain ⟨sl2,e2⟩:=slot b _ e1 hb ⟨ob,e⟩
  exact ⟨sl2,e2⟩
 free:=u.free
 there:=fun b ob e hx=>by
  obtain ⟨o1,e1⟩:=u.there b ob e hx
  by_cases hb:b ∈ fs
  ·obtain ⟨sl,e2⟩:=slot b o1 e1 hb ⟨ob,e⟩
   exact ⟨_,e2⟩
  ·exact ⟨_,keep b o1 e1 hb ⟨ob,e⟩⟩
 tups:=u.tups
 frzs:=u.frzs
 tbls:=u.tbls
theorem Un.andThen {fs fs2:List Addr} (a:Un fs [] H H1 h h1) (b:Un fs2 [] H1 H2 h1 h2) (hs:∀ c ob,h.get? c=some ob->c ∈ fs2->c ∈ fs):Un fs [] H H2 h h2 where
 keep:=fun c ob q n hc hx=>b.keep c ob (a.keep c ob q n hc hx) (a.free c ob q n hx) (fun z=>hc (hs c ob q z)) hx
 slot:=fun c ob q n hc hx=>by
  obtain ⟨sl,e1⟩:=a.slot c ob q n hc hx
  obtain ⟨sl2,e2⟩:=b.any e1 (a.free c ob q n hx) hx
  exact ⟨sl2,e2⟩
 free:=fun c ob q n hx=>by
  obtain ⟨o1,e1⟩:=a.there c ob q hx
  exact b.free c o1 e1 (a.free c ob q n hx) hx
 there:=fun c ob q hx=>by
  obtain ⟨o1,e1⟩:=a.there c ob q hx
  exact b.there c o1 e1 hx
 tups:=fun c xs q=>b.tups c xs (a.tups c xs q)
 frzs:=fun c ob u q=>b.frzs c ob u (a.frzs c ob u q)
 tbls:=fun c ps q=>by
  obtain ⟨m1,e1⟩:=a.tbls c ps q
  obtain ⟨m2,e2⟩:=b.tbls c _ e1
  exact ⟨m1 ++ m2,by rw [e2,Array.append_assoc]⟩
end
structure Fly (P:Program) (w:World) (outer:List Env) (H:Hp) (s:Shared) (cls a0:Value) (ea:Addr) (B:Heap) (H':Hp) (s':Shared):Prop where
 os:s'.os=s.os
 bare:AllBare s'.gens
 un:Un (frs outer) [] H H' s.heap s'.heap
 hok:HOk P w H' s'.heap
 fly:Heap.FlyingW B outer ea cls a0 s'.heap
 frf:∀ b ∈ frs outer,H' b=none
 cov:∀ b o,s'.heap.get? b=some o->b ∉ frs outer->(H' b ≠ none\/∃ o',s.heap.get? b=some o')->B.get? b=some o
def XF (P:Program) (w:World):CXT:=fun outer H s E e s'=>∃ (ea:Addr) (cls a0:Value) (B:Heap) (H':Hp),e=.ref ea/\Fly P w outer H s cls a0 ea B H' s'/\E cls none H'
section
variable {P:Program} {w:World} {K:W.Frag} {mg:Str->Option Value} {base:Heap} {N:List Str} {qual:Str} {scope:Scope} {f:Addr} {cd:Value} {A:Around} {outer:List Env} {s0 s1:Shared} {H0 H1:Hp} {E:XK}
 {pins:List (Addr × Obj)} {σ:St}
theorem frs_tail {env:Env} {l:List Env} {b:Addr} (h:b ∈ frs l):b ∈ frs (env :: l):=by
 unfold frs at h ⊢
 rw [List.filterMap_cons]
 split
 ·exact h
 ·exact List.mem_cons_of_mem _ h
theorem raise_xe {h':Heap} {e:Addr} {cls:Value} {args:List Value} (I:Inv (cxOf (XF P w) P w K mg base N qual scope f cd A outer s0 H0 E) pins σ H1 s1) (hx:Heap.MadeExcOf s1.heap h' e cls args) (hE:E cls none H1) :
  (cxOf (XF P w) P w K mg base N qual scope f cd A outer s0 H0 E).xe (.ref e) { s1 with heap:=h' }:=by
 have st:s1.heap.FunFrames base (envOfC qual scope s0.heap.objs.size f cd :: outer):=I.stack
 have fz:∀ b ∈ frs (envOfC qual scope s0.heap.objs.size f cd :: outer),H1 b=none:=I.stkFree
 have sub:∀ b ∈ frs (envOfC qual scope s0.heap.objs.size f cd :: outer),b=(envOfC qual scope s0.heap.objs.size f cd).locals\/b ∈ frs outer:=fun b hb=>List.mem_cons.mp (I.stkSub b hb)
 have above:s0.heap.objs.size<=(envOfC qual scope s0.heap.objs.size f cd).locals:=I.ok.above
 have old:∀ b o,s0.heap.get? b=some o->b ∉ frs outer->b ∉ frs (envOfC qual scope s0.heap.objs.size f cd :: outer):=fun b o q nb z=>by
  rcases sub b z with z | z
  ·subst z
   exact absurd (Nat.lt_of_lt_of_le (Heap.lt_size q) above) (Nat.lt_irrefl _)
  ·exact nb z
 show wpAny (model P w) (A.deeper (envOfC qual scope s0.heap.objs.size f cd)) (leaving (envOfC qual scope s0.heap.objs.size f cd) (.ref e)) _ _ _
 refine wpAny_leaves_madeW (base:=W.hideAll s1.heap (frs (envOfC qual scope s0.heap.objs.size f cd :: outer))) (h:=s1.heap) I.ok.frames rfl (fun b o q=>W.of_hideAll _ q)
  (W.funFrames_hide st fun env' he a ha=>List.mem_filterMap.mpr ⟨env',he,ha⟩) hx fun h'' t fl tup bt ups=>?_
 have kept:∀ b o,s1.heap.get? b=some o->b ∉ frs (envOfC qual scope s0.heap.objs.size f cd :: outer)->h''.get? b=some o:=fun b o q nb=>fl.1 b o (W.hideAll_get _ q nb)
 have u:Un (frs outer) [] H0 H1 s0.heap s1.heap:=I.base
 refine ⟨e,cls,.ref t,_,H1,rfl,⟨I.os,I.bare,u.onward (fun b o q nb old'=>?_) (fun b o q hb old'=>?_),I.hok.onward fun b o hb q=>kept b o q fun z=>hb (fz b z),fl,fun b hb=>fz b (frs_tail hb),fun b o q nb hc=>?_⟩,hE⟩
 ·obtain ⟨o',q'⟩:=old'
  exact kept b o q (old b o' q' nb)
 ·obtain ⟨_,o',ho',nf⟩:=st.mem (frs_tail hb)
  rw [q] at ho'; cases ho'
  exact ups b o (hx.keeps b o q) nf
 ·have key:∃ o1,s1.heap.get? b=some o1/\b ∉ frs (envOfC qual scope s0.heap.objs.size f cd :: outer):=by
   rcases hc with hc | ⟨o',q'⟩
   ·cases e1:H1 b with
    | none=>exact absurd e1 hc
    | some u1=>
     obtain ⟨o1,q1⟩:=(I.hok b u1 e1).there
     exact ⟨o1,q1,fun z=>hc (fz b z)⟩
   ·obtain ⟨o1,q1⟩:=u.there b o' q' (by simp)
    exact ⟨o1,q1,old b o' q' nb⟩
  obtain ⟨o1,q1,n1⟩:=key
  have z:=kept b o1 q1 n1
  have q2:h''.get? b=some o:=q
  rw [q2] at z; cases z
  exact W.hideAll_get _ q1 n1
theorem passX:Passes (XF P w) (cxOf (XF P w) P w K mg base N qual scope f cd A outer s0 H0 E) E:=by
 rintro pins σ H s e s' I ⟨ea,cls,a0,B,H',rfl,x,hE⟩
 have sub:∀ b ∈ frs (envOfC qual scope s0.heap.objs.size f cd :: outer),b=(envOfC qual scope s0.heap.objs.size f cd).locals\/b ∈ frs outer:=fun b hb=>List.mem_cons.mp (I.stkSub b hb)
 have above:s0.heap.objs.size<=(envOfC qual scope s0.heap.objs.size f cd).locals:=I.ok.above
 have oldT:∀ b o,s0.heap.get? b=some o->b ∈ frs (envOfC qual scope s0.heap.objs.size f cd :: outer)->b ∈ frs outer:=fun b o q z=>by
  rcases sub b z with z | z
  ·subst z
   exact absurd (Nat.lt_of_lt_of_le (Heap.lt_size q) above) (Nat.lt_irrefl _)
  ·exact z
 have x':Fly P w (envOfC qual scope s0.heap.objs.size f cd :: outer) H s cls a0 ea B H' s':=x
 have u0:Un (frs outer) [] H0 H s0.heap s.heap:=I.base
 have u:Un (frs outer) [] H0 H' s0.heap s'.heap:=u0.andThen x'.un oldT
 show wpAny (model P w) (A.deeper (envOfC qual scope s0.heap.objs.size f cd)) (leaving (envOfC qual scope s0.heap.objs.size f cd) (.ref ea)) _ _ _
 refine wpAny_leaves_onW I.ok.frames rfl x'.fly fun h' fl ups=>?_
 have kept:∀ b o,s'.heap.get? b=some o->b ∉ frs (envOfC qual scope s0.heap.objs.size f cd :: outer)->(H' b ≠ none\/∃ o',s.heap.get? b=some o')->h'.get? b=some o:=fun b o q nb hc=>fl.1 b o (x'.cov b o q nb hc)
 refine ⟨ea,cls,a0,B,H',rfl,⟨x'.os.trans I.os,x'.bare,u.onward (fun b o q nb old'=>?_) (fun b o q hb old'=>?_),x'.hok.onward fun b o hb q=>kept b o q (fun z=>hb (x'.frf b z)) (.inl hb),fl,fun b hb=>x'.frf b (frs_tail hb),fun b o q nb hc=>?_⟩,hE⟩
 ·obtain ⟨o',q'⟩:=old'
  obtain ⟨o1,q1⟩:=u0.there b o' q' (by simp)
  exact kept b o q (fun z=>nb (oldT b o' q' z)) (.inr ⟨o1,q1⟩)
 ·obtain ⟨_,o',ho',nf⟩:=x'.fly.2.2.1.mem (frs_tail hb)
  rw [q] at ho'; cases ho'
  exact ups b o q nf
 ·have key:∃ o1,s'.heap.get? b=some o1/\b ∉ frs (envOfC qual scope s0.heap.objs.size f cd :: outer)/\(H' b ≠ none\/∃ o',s.heap.get? b=some o'):=by
   rcases hc with hc | ⟨o',q'⟩
   ·cases e1:H' b with
    | none=>exact absurd e1 hc
    | some u1=>
     obtain ⟨o1,q1⟩:=(x'.hok b u1 e1).there
     exact ⟨o1,q1,fun z=>hc (x'.frf b z),.inl (by rw [e1] at hc; exact hc)⟩
   ·obtain ⟨o1,q1⟩:=u.there b o' q' (by simp)
    obtain ⟨o2,q2⟩:=u0.there b o' q' (by simp)
    exact ⟨o1,q1,fun z=>nb (oldT b o' q' z),.inr ⟨o2,q2⟩⟩
  obtain ⟨o1,q1,n1,c1⟩:=key
  have z:=kept b o1 q1 n1 c1
  have q2:h'.get? b=some o:=q
  rw [q2] at z; cases z
  exact x'.cov b _ q1 n1 c1
end
end L2
namespace L2
open PySem PySem.Spec PyProof.Rows PySem.W PySem.Calls Builtin Builtin.ObjectAttr Builtin.Getset_descriptor
def ExcAt (C e:Addr) (h:Heap):Prop:=∃ o,h.get? e=some o/\o.cls=.ref C/\notCls o=true
theorem ExcAt.stays {C e:Addr} {h1 h2:Heap} (x:ExcAt C e h1) (k:∀ o,h1.get? e=some o->h2.get? e=some o):ExcAt C e h2:=
 let ⟨o,a,b⟩:=x
 ⟨o,k o a,b⟩
theorem ExcAt.type {C e:Addr} {h:Heap} {M:Model} (x:ExcAt C e h):Looks M h (typeOf (.ref e)) (.ref C):=by
 obtain ⟨o,a,b,_⟩:=x
 exact b ▸ (Looks.ld a).andThen .now
structure ExcCls (K:Frag) (C:Addr):Prop where
 cls:(clsIn K C).isSome=true
 ga:findIn K (.ref C) "__getattribute__"=some (some (.builtin "BaseException.__getattribute__"))
 gt:findIn K (.ref C) "__getattr__"=some none
 cl:findIn K (.ref C) "__class__"=some (some (.builtin "object.__class__"))
 get:specialIn K (.builtin "object.__class__") "__get__"=some (some (.builtin "getset_descriptor.__get__"))
 tk:takesIn K (.builtin "object.__class__")=some true
 ob:mroIn K C (.type "object")=some true
 be:mroIn K C (.type "BaseException")=some true
section
variable {prog:Program} {w:World} {A:Around} {E:Value->Shared->Prop} {s:Shared} {K:Frag} {e C:Addr}
theorem exc_find {M:Model} {h:Heap} (X:K.In h) (T:ExcCls K C):Looks M h (Builtin.ObjectAttr.find (.ref e) (.ref C) "__class__") (.bind (.builtin "getset_descriptor.__get__") (.builtin "object.__class__")):=by
 have d:Looks M h (Builtin.ObjectAttr.dataDescriptor? (some (.builtin "object.__class__")) (some (.builtin "getset_descriptor.__get__"))) (some (.builtin "getset_descriptor.__get__",.builtin "object.__class__")):=(looks_takesIn X T.tk).andThen .now
 exact (looks_findIn X T.cl).andThen ((looks_specialIn X T.get).andThen (d.andThen (Looks.tag .now)))
theorem exc_class_get {R:Result->Shared->Prop} {tp:Value} (X:K.In s.heap) (I:ExcAt C e s.heap) (hm:mroIn K C (.type "object")=some true)
  (h:R (.ok (.ret (.ref C))) s):codeAny (model prog w) A (.call (.builtin "getset_descriptor.__get__") ⟨[.builtin "object.__class__",.ref e,tp],[]⟩) R s:=by
 obtain ⟨hp,gs,dr,tk,os⟩:=s
 have l0:=I.type (M:=model prog w)
 have l1:=looks_mroIn (M:=model prog w) X hm
 refine codeAny_call_builtin KF.slot_gs.plain KF.entry_gs ?_
 refine KF.slot_gs.check _ _ _ _ _ _ _ _ KF.type_class (KF.args_gs _ _ _) ?_
 unfold Builtin.«getset_descriptor.__get__» descrGet
 rw [dga_obj]
 refine wpAny_bind (wpAny_pure ?_)
 unfold descrGetter descrCheckInstance descrNameAndClass isInstance
 simp only [KF.owner_class]
 repeat lk
 refine ⟨Code.quiet_builtin _ (by decide +kernel),codeAny_builtin KF.entry_class ?_⟩
 unfold Builtin.«object.__class__» shownTypeOf
 repeat lk
 exact h
theorem exc_entry {tk:Tok} {Q:PySem.Fin->Shared->Prop} (X:K.In s.heap) (T:ExcCls K C) (I:ExcAt C e s.heap) (h:Q (.done (.ret (.ref C))) s) :
  wpAny (model prog w) A (Builtin.«object.__getattribute__» ⟨[.ref e,.str "__class__" tk],[]⟩) Q E s:=by
 obtain ⟨hp,gs,dr,t,os⟩:=s
 have l0:=I.type (M:=model prog w)
 have l1:=exc_find (e:=e) (M:=model prog w) X T
 unfold Builtin.«object.__getattribute__»
 repeat (first | with_reducible refine wpAny_call ?_ | lk)
 refine exc_class_get X I T.ob ?_
 repeat lk
 exact h
theorem exc_class {Q:Option Value->Shared->Prop} (X:K.In s.heap) (T:ExcCls K C) (I:ExcAt C e s.heap) (h:Q (some (.ref C)) { s with toks:=s.toks+1 }):wpAny (model prog w) A (getAttr? (.ref e) "__class__") Q E s:=by
 obtain ⟨hp,gs,dr,t,os⟩:=s
 have l0:=I.type (M:=model prog w)
 have l1:=looks_findIn (M:=model prog w) X T.ga
 have l2:=looks_findIn (M:=model prog w) X T.gt
 have l3:=looks_mroIn (M:=model prog w) X T.be
 unfold getAttr? getAttrBy? getAttrBy
 refine wpAny_bind (wpAny_mkText (wpAny_bind (wpAny_attempt (wpAny_holding (wpAny_bind (l0.at (wpAny_bind (l1.at ?_))))))))
 dsimp only
 have ne:(Value.builtin "BaseException.__getattribute__" == Value.builtin "object.__getattribute__")=false:=by decide +kernel
 rw [if_neg (by rw [ne,Bool.and_false]; exact Bool.false_ne_true)]
 unfold getAttrByItsOwn hookBefore
 repeat (first | with_reducible refine wpAny_call ?_ | with_reducible refine wpAny_attempt ?_ | lk)
 have hk:builtinKind "BaseException.__getattribute__"=some .slot:=by decide +kernel
 have hsplit:splitId "BaseException.__getattribute__"=some ("BaseException","__getattribute__"):=by decide +kernel
 refine codeAny_call_builtin (by decide +kernel) F.entry_bexc_ga ?_
 have ha:=F.args_bexc_ga (.ref e) (.str (Str.ofString "__class__") t)
 show wpAny _ _ (checkBuiltinCall "BaseException.__getattribute__" ⟨[.ref e,.str (Str.ofString "__class__") t],[]⟩) _ _ _
 simp only [checkBuiltinCall,hk,hsplit]
 unfold isInstance
 refine wpAny_bind (wpAny_bind (l0.at (l3.at ?_)))
 simp only [Bool.not_true,Bool.false_eq_true,if_false]
 refine wpAny_of_eq (show _=pure () from ha) ?_
 refine wpAny_mono (exc_entry (E:=fun _ _=>False) (Q:=fun fin s'=>fin=.done (.ret (.ref C))/\s'=⟨hp,gs,dr,t+1,os⟩) X T I ⟨rfl,rfl⟩) (fun fin s' z=>?_) fun _ _ z=>z.elim
 obtain ⟨rfl,rfl⟩:=z
 exact wpAny_pure (wpAny_pure h)
end
theorem kitx_exc {K:Frag} {e C:Addr} (T:ExcCls K C):KitX K (.ref e) (.ref C) (ExcAt C e) where
 ty:=fun _ _ _ I=>I.type
 it:=fun M h X _=>by
  obtain ⟨cd,hc⟩:=Option.isSome_iff_exists.mp T.cls
  unfold clsIn at hc
  split at hc
  ·rename_i c' d' cd' sl' ho
   intro A' Q' E' s' k q
   unfold isType loadHead
   exact wpAny_bind (wpAny_loadPart (k _ _ (X _ _ ho)) (wpAny_pure q))
  ·cases hc
 ne:=fun h tp dd its n sl X htp=>by
  obtain ⟨cd,hc⟩:=Option.isSome_iff_exists.mp T.cls
  refine Bool.eq_false_iff.mpr fun q=>?_
  have ee:C=tp:=Value.ref.inj (beq_iff_eq.mp q)
  subst ee
  unfold clsIn at hc
  split at hc
  ·rename_i c' d' cd' sl' ho
   have z:=(X _ _ ho).symm.trans htp
   cases z
  ·cases hc
 ca:=fun X I k=>exc_class X T I k
end L2
namespace L2
open PySem PySem.Spec PyProof.Rows
section
variable {P:Program} {w:World} {K:W.Frag} {mg:Str->Option Value} {base:Heap}
theorem Fun.okX {x qual:Str} {st:Stmt} {f:Addr} {fd:FuncData} {N ps:List Str} {k:Nat} {sp:Sp} (F:Fun K x qual st f fd) (S:FnScope N ps (defScope st)) (len:∀ vs H Q E,sp vs H Q E->vs.length=ps.length)
  (hbody:∀ (cdv:Value) (A:Around) (outer:List Env) (s:Shared) (H:Hp) (vs:List V) (Q:VK) (E:XK),Room k (A.deeper (envOfC qual (defScope st) s.heap.objs.size f cdv))->sp vs H Q E ->
   ∃ t,PSs (cxOf (XF P w) P w K mg base N qual (defScope st) f cdv A outer s H E) (defBody st) t/\t { nx:=fun _ H'=>Q .non H',rt:=Q } (start N vs) H):FnOk P w K mg base (XF P w) (k+1) f fd ps sp:=by
 obtain ⟨oc,od,kV,doc,pm,an,cdv,ct,osl,rfl,lk,hcd⟩:=F.ex
 exact fn_of lk hcd S len fun A outer s H vs Q E hr hsp=>hbody cdv A outer s H vs Q E hr hsp
end
section
variable {X:Cx} {k:Nat} {f:Addr} {fd:FuncData} {ps:List Str} {sp:Sp} {dvs:List V} {ds:List Value} {x:Str} {p pos:Pos} {e:Expr} {es:List Expr} {t:TA}
end
theorem PS.nox {X:Cx} {st:Stmt} {t:TS} (h:PS X.nox st t):PS X st t:=fun pins s σ H D I hw=>
 wpAny_mono (h pins s σ H D (I.wish _) hw) (fun _ _ q=>q.unwish) fun _ _ z=>z.elim
theorem exc_obj {K:W.Frag} {h:Heap} {C:Addr} {bmB:List Value} {newId:String} (X:K.In h) (q:W.excIn K C bmB newId=true) :
  ∃ bm N nm qn bs hdct sn sub ab col dd k0 k1 k2 k3 k5 mN,h.get? C=some (excClassObj nm qn C N bs bm hdct sn sub ab col dd k0 k1 k2 k3 k5 newId)/\h.Ns N mN/\mN "__init__"=none/\OwnTail h bmB bm:=by
 unfold W.excIn at q
 split at q
 ·rename_i dd cd sl ho
  split at q
  ·rename_i C' bm k0 k1 k2 k3 n k5 hm hs
   simp only [Bool.and_eq_true,beq_iff_eq,Bool.not_eq_true'] at q
   obtain ⟨⟨⟨⟨⟨c1,c2⟩,c3⟩,c4⟩,c5⟩,c6⟩:=q
   subst c1 c2
   obtain ⟨nm,bs,mro,ns,qn,hd,sn,sub,ab,col,del⟩:=cd
   dsimp only at hm c3 c5 c6
   subst hm c3
   obtain ⟨l⟩:=sl
   have hs':l=[k0,k1,k2,k3,some (.builtin n),k5]:=hs
   subst hs'
   exact ⟨bm,ns,nm,qn,bs,hd,sn,sub,ab,col,dd,k0,k1,k2,k3,k5,_,X _ _ ho,.of_isNs (W.isNs_of_in X c5),W.nsMap_none_of_in X c5 c6,W.tail_of_in X c4⟩
  ·cases q
 ·cases q
abbrev bmVE:List Value:=[.type "ValueError",.type "Exception",.type "BaseException",.type "object"]
def tRaise (C:Addr) (E:XK) (ta:TA):TS:=fun _ σ H=>ta σ H fun vs H1=>vs.length<=sizeLine/\E (.ref C) none H1
section
variable {P:Program} {w:World} {K:W.Frag} {mg:Str->Option Value} {base:Heap} {N:List Str} {qual:Str} {scope:Scope} {f:Addr} {cd:Value} {A:Around} {outer:List Env} {s0:Shared} {H0:Hp} {E:XK}
 {x:Str} {C:Addr} {np cpos pos:Pos} {e:Expr} {es:List Expr} {t:TA}
theorem ps_raise (hm:mg x=some (.ref C)) (hq:W.excIn K C bmVE "ValueError.__new__"=true) (hg:Gl (cxOf (XF P w) P w K mg base N qual scope f cd A outer s0 H0 E) x)
  (ha:PA (cxOf (XF P w) P w K mg base N qual scope f cd A outer s0 H0 E) (e :: es) t) (hdb:(x == ("__debug__":Str))=false:=by decide)
  (he:starEach (e :: es) (cxOf (XF P w) P w K mg base N qual scope f cd A outer s0 H0 E).env=(false,eval e (cxOf (XF P w) P w K mg base N qual scope f cd A outer s0 H0 E).env) :: starEach es (cxOf (XF P w) P w K mg base N qual scope f cd A outer s0 H0 E).env:=by rfl)
  (hpl:(backTo cpos (starEach es (cxOf (XF P w) P w K mg base N qual scope f cd A outer s0 H0 E).env)).any (·.1)=false:=by rfl) :
  PS (cxOf (XF P w) P w K mg base N qual scope f cd A outer s0 H0 E) (.Raise (some (.Call (.Name x np) (e :: es) [] cpos)) none pos) (tRaise C E t):=by
 intro pins s σ H D I h
 obtain ⟨bm,Nn,nm,qn,bs,hdct,sn,sub,ab,col,dd,k0,k1,k2,k3,k5,mN,hC,hN,hni,TL⟩:=exc_obj I.mod.kin hq
 have hpl':(backTo cpos (starEach (e :: es) (cxOf (XF P w) P w K mg base N qual scope f cd A outer s0 H0 E).env)).any (·.1)=false:=by
  rw [he]
  show (false || (backTo cpos (starEach es _)).any (·.1))=false
  rw [hpl]
  rfl
 refine wpAny_Raise_call_subT (C:=C) (nm:=nm) (q:=qn) (N:=Nn) (bs:=bs) (bm:=bm) (hdct:=hdct) (sn:=sn) (sub:=sub) (ab:=ab) (col:=col) (dd:=dd) (k0:=k0) (k1:=k1) (k2:=k2) (k3:=k3) (k5:=k5)
  PySem.F.excBase_ValueError (mN:=mN) (TL.hasType PySem.F.excBase_ValueError.hasBase) (I.ok.hd rfl) hpl' hni (ld_glob I hg hm ⟨rfl,?_⟩ hdb)
 have h2:=ha cpos pins s σ H _ I h
 rw [he] at h2 ⊢
 exact Calls.evalArgs_plain (wpAny_mono h2 (fun us s1 ⟨vs,H1,I1,r,z,q⟩=>⟨rfl,by show us.length<=_; rw [<- r.length]; exact z,I1.bk _ _ hC,hN.keeps I1.bk,TL.keeps I1.bk,fun h' ea hm'=>raise_xe I1 hm' q⟩) fun _ _ y=>y)
end
end L2
namespace L2
open PySem PySem.Spec PyProof.Rows
abbrev Cx.marked (X:Cx) (e:Addr):Cx:={ X with A:=X.A.mark (some (.ref e)),calm:=false,still:=false,xe:=fun _ _=>False }
theorem Cx.Ok.marked {X:Cx} (ok:X.Ok) (e:Addr):(X.marked e).Ok:=
 ⟨ok.mod,ok.kind,ok.glob,ok.blt,ok.above,ok.inj,ok.has,ok.cab,(fun h=>by cases h),(fun h=>by cases h),ok.frames,ok.stk,ok.exf,ok.bs,ok.bsz,ok.noex,ok.exfs,ok.funs,ok.frf⟩
section
variable {X:Cx} {pins:List (Addr × Obj)} {σ:St} {H H':Hp} {s s':Shared} {e:Addr}
theorem Inv.marked (I:Inv X pins σ H s) (e:Addr):Inv (X.marked e) pins σ H s:=⟨I.ok.marked e,I.fzs,I.os,I.bare,I.base,I.loc,I.cell,I.free,I.freeC,I.pin,I.hok,I.len⟩
theorem Inv.unmarked (ok:X.Ok) (I:Inv (X.marked e) pins σ H s):Inv X pins σ H s:=⟨ok,I.fzs,I.os,I.bare,I.base,I.loc,I.cell,I.free,I.freeC,I.pin,I.hok,I.len⟩
theorem Un.more {fs:List Addr} {H H1:Hp} {h h1:Heap} {a:Addr} {o:HO} (u:Un fs [] H H1 h h1) (n:h.get? a=none) (n1:H1 a=none):Un fs [] H (upd H1 a o) h h1 where
 keep:=u.keep
 slot:=u.slot
 free:=fun b ob q m hx=>by
  have ne:b ≠ a:=fun z=>by subst z; rw [n] at q; cases q
  rw [upd_ne ne]
  exact u.free b ob q m hx
 there:=u.there
 tups:=fun b xs q=>by
  have z:=u.tups b xs q
  rw [upd_ne (ne_of_none z n1)]
  exact z
 frzs:=fun b ob v q=>by
  have z:=u.frzs b ob v q
  rw [upd_ne (ne_of_none z n1)]
  exact z
 tbls:=fun b ps q=>by
  obtain ⟨m,z⟩:=u.tbls b ps q
  exact ⟨m,by rw [upd_ne (ne_of_none z n1)]; exact z⟩
theorem HOk.more {P:Program} {w:World} {H1:Hp} {h1:Heap} {a:Addr} {o:HO} (x:HOk P w H1 h1) (n1:H1 a=none) (new:ObjOk P w (upd H1 a o) h1 a o):HOk P w (upd H1 a o) h1:=fun b u e=>by
 by_cases hb:b=a
 ·subst hb; rw [upd_same] at e; cases e; exact new
 ·rw [upd_ne hb] at e
  exact (x b u e).stay (fun _ _ _ q=>q) (fun c q=>by rw [upd_ne (ne_of_none q n1)]; exact q) fun c xs q=>by rw [upd_ne (ne_of_none q n1)]; exact q
variable {cls a0:Value} {ea C:Addr} {B h':Heap} {t':Nat}
theorem Fly.unF (x:Fly X.prog X.w X.stack H s cls a0 ea B H' s') (k:B.StaysIn h') (ups:s'.heap.UpToSlots h'):Un (frs X.stack) [] H H' s.heap h':=
 x.un.onward (fun b o q nb old=>k b o (x.cov b o q nb (.inr old))) fun b o q hb old=>by
  obtain ⟨_,o',ho',nf⟩:=x.fly.2.2.1.mem hb
  rw [q] at ho'; cases ho'
  exact ups b o q nf
theorem Fly.hokF (x:Fly X.prog X.w X.stack H s cls a0 ea B H' s') (k:B.StaysIn h'):HOk X.prog X.w H' h':=
 x.hok.onward fun b o hb q=>k b o (x.cov b o q (fun z=>hb (x.frf b z)) (.inl hb))
theorem Fly.notFrame (x:Fly X.prog X.w X.stack H s cls a0 ea B H' s'):ea ∉ frs X.stack:=fun z=>by
 obtain ⟨_,o',ho',nf⟩:=x.fly.2.2.1.mem z
 obtain ⟨oe,vs,he,_,hd,_⟩:=x.fly.first
 rw [he] at ho'; cases ho'
 exact nf vs hd
theorem Fly.new (x:Fly X.prog X.w X.stack H s cls a0 ea B H' s'):s.heap.get? ea=none/\H' ea=none:=by
 obtain ⟨oe,vs,he,_,hd,_⟩:=x.fly.first
 constructor
 ·cases q:s.heap.get? ea with
  | none=>rfl
  | some o'=>
   have z:=x.cov ea oe he x.notFrame (.inr ⟨o',q⟩)
   rw [x.fly.2.1] at z; cases z
 ·cases q:H' ea with
  | none=>rfl
  | some u=>
   have z:=x.cov ea oe he x.notFrame (.inl (by rw [q]; simp))
   rw [x.fly.2.1] at z; cases z
theorem Inv.landed (I:Inv X pins σ H s) (x:Fly X.prog X.w X.stack H s cls a0 ea B H' s') (k:B.StaysIn h') (ups:s'.heap.UpToSlots h'):Inv X pins σ H' { s' with heap:=h',toks:=t' }:=
 I.call' (s':={ s' with heap:=h',toks:=t' }) (ch:=[]) x.os (x.unF k ups) (x.hokF k) x.bare fun b z=>absurd z (by simp)
theorem Inv.landedE (I:Inv X pins σ H s) (x:Fly X.prog X.w X.stack H s (.ref C) a0 ea B H' s') {l:List Env} (fl:Heap.FlyingW B l ea (.ref C) a0 h') (ups:s'.heap.UpToSlots h') :
  Inv X pins σ (upd H' ea (.ext (ExcAt C ea))) { s' with heap:=h',toks:=t' }:=by
 obtain ⟨oe,vs,he,hc,hd,_⟩:=fl.first
 have at_:ExcAt C ea h':=⟨oe,he,hc,by unfold W.notCls; rw [hd]⟩
 exact I.call' (s':={ s' with heap:=h',toks:=t' }) (ch:=[]) x.os ((x.unF fl.1 ups).more x.new.1 x.new.2) ((x.hokF fl.1).more x.new.2 ⟨at_,⟨oe,he⟩,fun h1 h2 p q=>p.stays q⟩) x.bare fun b z=>absurd z (by simp)
theorem unbind_ok {M:Model} {A:Around} {E:Value->Shared->Prop} {i:Nat} {n:Str} {pos:Pos} {Q:Unit->Shared->Prop} (I:Inv X pins σ H s) (hN:X.N.Nodup) (hi:X.N[i]?=some n) (hk:X.env.scope.names.lookup n=some .local)
  (h:∀ s',Inv X pins (σ.set i none) H s'->Q () s'):wpAny M A (do bindName X.env n .none; unbindBehindTheSuite X.env n pos) Q E s:=by
 obtain ⟨m,hn,hl⟩:=id I.loc
 have hcls:(X.env.scope.kind == .class || (X.env.scope.kind == .module && X.env.locals != X.env.globals))=false:=by rw [I.ok.kind]; rfl
 have cne:=I.cne
 obtain ⟨oL,_,_,hoL,_⟩:=id hn
 refine wpAny_nameGoes_keeps hk hn hcls fun h' v hn' hs=>?_
 have old:∀ b o,X.s₀.heap.get? b=some o->h'.get? b=s.heap.get? b:=fun b o e=>hs.2 b (Nat.ne_of_lt (Nat.lt_of_lt_of_le (Heap.lt_size e) I.ok.above))
 refine h _ ⟨I.ok,I.fzs,I.os,I.bare,⟨fun b o e k hb hx=>(old b o e).trans (I.base.keep b o e k hb hx),fun b o e k hb hx=>?_,I.base.free,fun b o e hx=>?_,I.base.tups,I.base.frzs,I.base.tbls⟩,⟨_,hn',fun j y v' e1 e2 e3=>?_⟩,fun y c e=>?_,I.free,I.freeC,fun p hp=>?_,fun b ob e=>?_,by simpa using I.len⟩
 ·obtain ⟨sl,e1⟩:=I.base.slot b o e k hb hx
  exact ⟨sl,(old b o e).trans e1⟩
 ·obtain ⟨o',e1⟩:=I.base.there b o e hx
  exact ⟨o',(old b o e).trans e1⟩
 ·by_cases hj:j=i
  ·subst hj
   exfalso
   have hlt:j < σ.length:=by rw [I.len]; exact (List.getElem?_eq_some_iff.mp hi).1
   rw [List.getElem?_set_self hlt] at e2
   cases e2
  ·rw [List.getElem?_set_ne (Ne.symm hj)] at e2
   obtain ⟨u',r',q⟩:=hl j y v' e1 e2 e3
   refine ⟨u',r',?_⟩
   rcases q with ⟨k,e⟩ | ⟨k,c,e,z⟩
   ·refine .inl ⟨k,?_⟩
    have ne:y ≠ n:=fun z=>hj (nodup_ix hN e1 (z ▸ hi))
    show (if y=n then v else m y)=some u'
    rw [if_neg ne]
    exact e
   ·exact .inr ⟨k,c,e,z.sameBut hs (cne y c e)⟩
 ·obtain ⟨w',z⟩:=I.cell y c e
  exact ⟨w',z.sameBut hs (cne y c e)⟩
 ·obtain ⟨e,k,ne,nf,d⟩:=I.pin p hp
  exact ⟨(hs.2 p.1 ne).trans e,k,ne,nf,d⟩
 ·refine (I.hok b ob e).stay (fun c w' hc q=>(hs.2 c ?_).trans q) (fun _ q=>q) fun _ _ q=>q
  rintro rfl
  rcases hc with rfl | hc
  ·rw [I.free] at e; cases e
  ·rw [I.free] at hc; cases hc
def asEnds (D:Ends) (i:Nat):Ends:={ nx:=fun σ H=>D.nx (σ.set i none) H,rt:=D.rt,bk:=fun σ H=>D.bk (σ.set i none) H,ct:=fun σ H=>D.ct (σ.set i none) H }
end
section
variable {X:Cx} {k:Nat} {f C:Addr} {fd:FuncData} {ps:List Str} {sp:Sp} {g x n:Str} {p pos pos2 pos3 np hpos:Pos} {e:Expr} {es:List Expr} {t:TA} {ts:TS} {b₀:Stmt} {suite:List Stmt} {i:Nat}
end
end L2
namespace L2
open PySem PySem.Spec PyProof.Rows
theorem reads_bools (h:Heap):∀ {bs:List Bool} {us:List Value},Vals (bs.map V.bl) us->ReadsAll h us (bs.map PyData.bool) []
 | [],_,.nil=>.nil
 | b :: r,_,.cons q t=>by
  have q':_=Value.bool b:=q
  subst q'
  exact ReadsAll.cons (as:=[]) (bs:=[]) (.bool b) (reads_bools h t)
inductive TyX (K:W.Frag) (H:Hp):V->Value->Prop where
 | of {x:V} {t:Value} (h:TyOf K H x t):TyX K H x t
 | exc {e C:Addr} (T:ExcCls K C) (h:H e=some (.ext (ExcAt C e))):TyX K H (.ref e) (.ref C)
def valOf:V->Value
 | .ref a=>.ref a
 | .ty n=>.type n
 | _=>.none
def rIsi (K:W.Frag):List V->Hp->VK->Prop:=fun xs H Q=>∃ x c t b,xs=[x,c]/\((∃ a,c=.ref a)\/∃ n,c=.ty n)/\TyX K H x t/\W.kitOne K t (valOf c)=some b/\Q (.bl b) H
theorem call_isi {X:Cx}:CallR X (.builtin "isinstance") (rIsi X.K):=by
 intro pins s σ H xs us Q I rv h
 obtain ⟨x,c,t,b,rfl,hc,ty,e,q⟩:=h
 obtain ⟨u,uc,rfl,ru,rc⟩:=rv.two
 have huc:uc=valOf c:=by
  rcases hc with ⟨a,rfl⟩ | ⟨n,rfl⟩
  ·exact rc
  ·exact rc
 subst huc
 have fin:∀ tk,EP X pins σ Q (.bool b) { s with toks:=tk }:=fun tk=>⟨.bl b,H,I.tok tk,rfl,q⟩
 cases ty with
 | of ty=>exact isinst_ok I ru ty e fin
 | @exc ea C T he=>
  have ru':u=Value.ref ea:=ru
  subst ru'
  obtain ⟨p,_,_⟩:=(show ObjOk X.prog X.w H s.heap ea (.ext (ExcAt C ea)) from I.hok ea _ he)
  exact W.kia_one (kitx_exc T) I.kIn p e (fun z=>nomatch z) fin
theorem bits_of_lay {ns:List Int} (h:W.WData.layableAll [W.WData.list (ns.map W.WData.int)]=true):∀ n ∈ ns,Builtin.Int.intBits n<=1048576:=fun n hn=>by
 have h1:=(W.layW_cons h).1
 have h2:=W.layableW_item h1 (.int n) (List.mem_map.mpr ⟨n,hn,rfl⟩)
 have h3:PyData.layable0 (.int n)=true:=h2
 exact PyData.bits_of_layable h3
theorem walk_b {l:W.OpenLaw} {n k:Nat} {q:Program} {loose:List Str} {XP:(Str->Option Value)->Heap->Prop} {YP:World->Heap->Prop} {d:DefRec} {K:Params->W.Frag} {CX:World->CXT} {sp:World->Sp} {x:Str}
  (hn:l.most=some n) (hn2:n<=sizeLine) (hdf:d.params.defaults=[]) (hr:Room k callerA)
  (hY:∀ (w:World) (h:Heap),YP w h->(K w.params).In h)
  (F:∀ (w:World) (mg:Str->Option Value) (fa:Addr) (h:Heap),(K w.params).In h->h.Ns mainGlobals mg->mg d.name=some (.ref fa) ->
   ∃ fd:FuncData,(∀ (s:Shared) (u:Value),BindsTo s fd ⟨[u],[]⟩ [(x,u)]) /\
    ∀ base:Heap,(K w.params).In base->base.Ns mainGlobals mg->FnOk l.prog w (K w.params) mg base (CX w) k fa fd [x] (sp w))
  (hsp:∀ (w:World) (H:Hp) (a:Addr) (ns:List Int),ns.length<=n->(∀ m ∈ ns,Builtin.Int.intBits m<=1048576)->SqL (K w.params) H a (ns.map V.int)->sp w [.ref a] H (fun v _=>v=.bl true) fun _ _ _=>False)
  (hCX:∀ (w:World) (H:Hp) (s:Shared) (e:Value) (s':Shared),CX w [] H s (fun _ _ _=>False) e s'->False) :
  W.WalkO q loose XP YP l.row.toRowW d [] (fun f vs=>PySem.call f vs):=by
 intro w s₀ s₁ mg mb G Y fa o pm cd doc dV kV ho hd hcd hD hmg hg args vals as hpre hlay hrd hwl hlo
 obtain ⟨a,vs,ns,rfl,rfl,hobj,hints,hlen⟩:=Att.script_of hn hpre hwl
 have KX:=hY w _ Y
 obtain ⟨fd,hb,hF⟩:=F w mg fa _ KX G.T.g hmg
 have call:=law_call KX G.T.g G.T.b G.T.builtins G.T.nolimit hg hobj hints (Nat.le_trans hlen hn2) hr hF hb (fun H hO hS=>hsp w H a ns hlen (bits_of_lay hlay) hS) fun H e s'=>hCX w H s₁ e s'
 refine W.enter_call (codeAny_mono call fun r s' hq=>?_)
 obtain ⟨rfl,h2,h3,h4⟩:=hq
 exact ⟨.inl ⟨.bool true,.bool true,[],rfl,fun _=>rfl,.bool true,Att.post_true l _,fun _=>⟨List.Pairwise.nil,fun _ hm=>(nomatch hm)⟩⟩,h2,h3,h4⟩
def spLaw (K:W.Frag):Sp:=fun vs H Q _=>∃ (a:Addr) (ns:List Int),vs=[.ref a]/\SqL K H a (ns.map V.int)/\ns.length<=63/\(∀ m ∈ ns,Builtin.Int.intBits m<=1048576)/\∀ H',Q (.bl true) H'
end L2
namespace L2
open PySem PySem.Spec PyProof.Rows
def tCut (t u:TS):TS:=fun D σ H=>∃ R:St->Hp->Prop,t { D with nx:=R } σ H/\∀ σ' H',R σ' H'->u D σ' H'
theorem pss_cut {X:Cx} {st:Stmt} {rest:List Stmt} {t u:TS} (h1:PS X st t) (h2:PSs X rest u):PSs X (st :: rest) (tCut t u):=by
 intro pins s σ H D I h
 obtain ⟨R,h,k⟩:=h
 refine wpAny_execs_cons (thn (h1 pins s σ H { D with nx:=R } I h) fun f s1 q=>?_)
 cases f with
 | next=>
  obtain ⟨σ',H',I',q⟩:=q
  exact h2 pins s1 σ' H' D I' (k _ _ q)
 | ret v=>exact q
 | brk=>exact q
 | cont=>exact q
theorem bits_lit {i:Int} {k:Nat} (h:i.natAbs < 2^k) (hk:k<=1048576):Builtin.Int.intBits i<=1048576:=Nat.le_trans (intBits_le h) hk
theorem mulOk {a b:Int} (ha:Builtin.Int.intBits a<=1048576) (hb:Builtin.Int.intBits b<=1048576):IntMulOk a b:=IntMulOk.of_bits ha hb
theorem log2_lt_of {i:Int} {k:Nat} (h:i.natAbs < 2^k) (hk:0 < k):i.natAbs.log2 < k:=by
 by_cases h0:i.natAbs=0
 ·rw [h0]; exact hk
 ·exact (Nat.log2_lt h0).mpr h
def spCell (K:W.Frag):Sp:=fun vs H Q _=>∃ (a:Addr) (ns:List Int) (k:Int),vs=[.ref a,.int k]/\SqL K H a (ns.map V.int)/\0<=k/\Q (.int (ns.getD k.toNat 0)) H
theorem cell_in {ns:List Int} {k:Int} (h0:0<=k) (h:k < ((ns.map V.int).length:Nat)):atI (ns.map V.int) k=some (.int (ns.getD k.toNat 0)):=by
 rw [List.length_map] at h
 have hk:k.toNat < ns.length:=by omega
 have ek:k=((k.toNat:Nat):Int):=by omega
 have q:atI (ns.map V.int) ((k.toNat:Nat):Int)=some (.int (ns.getD k.toNat 0)):=atI_nat (by
  rw [List.getElem?_map,List.getElem?_eq_getElem hk,List.getD_eq_getElem?_getD,List.getElem?_eq_getElem hk]
  rfl)
 rw [<- ek] at q
 exact q
theorem cell_out {ns:List Int} {k:Int} (h:¬ k < ((ns.map V.int).length:Nat)) (h0:0<=k):ns.getD k.toNat 0=0:=by
 rw [List.length_map] at h
 rw [List.getD_eq_getElem?_getD,List.getElem?_eq_none (by omega)]
 rfl
def spWhole:Sp:=fun vs H Q _=>∃ n,vs=[.int n]/\Q (.bl true) H
theorem same_new {H:Hp} {p:Addr} (h:H p=none) (o:HO):Same H (upd H p o):=fun b u q=>by rw [upd_ne (ne_of_none q h)]; exact q
end L2
namespace L2
open PySem PySem.Spec PyProof.Rows
def Has (P:Program) (w:World) (K:W.Frag) (mg:Str->Option Value) (base:Heap) (CX:CXT) (k:Nat) (x:Str) (ps:List Str) (sp:Sp):Prop:=
 ∃ (f:Addr) (fd:FuncData),FnOk P w K mg base CX k f fd ps sp/\Binds K fd ps []/\W.keepIn K (.ref f)=true/\mg x=some (.ref f)
theorem decT {p:Prop} [Decidable p] (h:decide p=true):p:=of_decide_eq_true h
theorem decF {p:Prop} [Decidable p] (h:¬ decide p=true):¬ p:=of_decide_eq_false (Bool.eq_false_iff.mpr h)
theorem int_inj {a b:Int} (h:V.int a=V.int b):a=b:=V.int.inj h
end L2
namespace L2
open PySem PySem.Spec PyProof.Rows
inductive IntsE:List Expr->List Int->Prop where
 | nil:IntsE [] []
 | cons {i:Int} {j:Nat} {pos:Pos} {es:List Expr} {ns:List Int} (h:IntsE es ns):IntsE (.Constant (.int i) j pos :: es) (i :: ns)
theorem pa_ints {X:Cx} {es:List Expr} {ns:List Int} (h:IntsE es ns):PA X es (fun _ H Q=>Q (ns.map V.int) H):=by
 induction h with
 | nil=>exact pa_nil
 | cons h ih=>exact pa_cons pe_int ih
end L2
namespace Pr
theorem quot (x y:Int):x=y*Int.fdiv x y+Int.fmod x y:=by rw [Int.fmod_def]; omega
theorem mul_ge {a b c:Int} (h:1<=b) (ha:c<=a) (hc:0<=c):c<=a*b:=by
 have:=Int.mul_le_mul ha h (by omega) (by omega)
 omega
theorem pow_pos' {p:Int} (hp:1<=p):∀ n:Nat,1<=p^n
 | 0=>by simp
 | n+1=>by
  rw [Int.pow_succ]
  exact mul_ge hp (pow_pos' hp n) (by omega)
def NoDiv (x d:Int):Prop:=∀ k,2<=k->k < d->¬ k ∣ x
structure Prm (p:Int):Prop where
 two:2<=p
 no:∀ k,2<=k->k*k<=p->¬ k ∣ p
theorem sq_lt_of {k d:Int} (hk:0<=k) (hd:0<=d) (h:k*k < d*d):k < d:=by
 rcases Int.lt_or_le k d with h1 | h1
 ·exact h1
 ·have:=Int.mul_le_mul h1 h1 hd hk
  omega
theorem prm_of {d x:Int} (h2:2<=d) (h:NoDiv x d) (hd:d ∣ x):Prm d:=by
 refine ⟨h2,fun k k2 kk hk=>h k k2 ?_ (Int.dvd_trans hk hd)⟩
 have:=Int.mul_le_mul_of_nonneg_right k2 (show 0<=k by omega)
 omega
theorem prm_left {d x:Int} (h2:2<=d) (h:NoDiv x d) (hx:x < d*d) (x1:1 < x):Prm x:=by
 refine ⟨by omega,fun k k2 kk hk=>h k k2 ?_ hk⟩
 exact sq_lt_of (by omega) (by omega) (by omega)
theorem left_ge {d x:Int} (h:NoDiv x d) (x1:1 < x):d<=x:=by
 rcases Int.lt_or_le x d with h1 | h1
 ·exact absurd (Int.dvd_refl x) (h x (by omega) h1)
 ·exact h1
def prodP:List (Int × Int)->Int
 | []=>1
 | x :: r=>x.1^x.2.toNat*prodP r
theorem prodP_app (xs ys:List (Int × Int)):prodP (xs ++ ys)=prodP xs*prodP ys:=by
 induction xs with
 | nil=>simp [prodP]
 | cons x r ih=>simp only [List.cons_append,prodP,ih,Int.mul_assoc]
theorem prodP_one (p e:Int):prodP [(p,e)]=p^e.toNat:=by simp [prodP]
structure Part (x:Int × Int):Prop where
 prime:Prm x.1
 often:1<=x.2
structure Told (n:Int) (xs:List (Int × Int)):Prop where
 all:∀ x ∈ xs,Part x
 rise:xs.Pairwise fun x y=>x.1 < y.1
 prod:prodP xs=n
theorem prodP_pos {xs:List (Int × Int)} (h:∀ x ∈ xs,Part x):1<=prodP xs:=by
 induction xs with
 | nil=>simp [prodP]
 | cons x r ih=>
  simp only [prodP]
  have h1:=ih fun y hy=>h y (.tail _ hy)
  exact mul_ge h1 (pow_pos' (by have:=(h x (.head _)).prime.two; omega) _) (by omega)
theorem pow_le_prodP {xs:List (Int × Int)} (h:∀ x ∈ xs,Part x) {x:Int × Int} (hx:x ∈ xs):x.1^x.2.toNat<=prodP xs:=by
 induction xs with
 | nil=>exact nomatch hx
 | cons y r ih=>
  simp only [prodP]
  have h1:=prodP_pos fun z hz=>h z (.tail _ hz)
  have hy:1<=y.1^y.2.toNat:=pow_pos' (by have:=(h y (.head _)).prime.two; omega) _
  rcases List.mem_cons.mp hx with rfl | hx
  ·exact mul_ge h1 (Int.le_refl _) (by omega)
  ·have h2:=ih (fun z hz=>h z (.tail _ hz)) hx
   rw [Int.mul_comm]
   exact mul_ge hy h2 (by have:=pow_pos' (show 1<=x.1 by have:=(h x (.tail _ hx)).prime.two; omega) x.2.toNat; omega)
theorem two_pow_le {p:Int} (hp:2<=p):∀ n:Nat,(2:Int)^n<=p^n
 | 0=>by simp
 | n+1=>by
  rw [Int.pow_succ,Int.pow_succ]
  exact Int.mul_le_mul (two_pow_le hp n) hp (by omega) (by have:=pow_pos' (show 1<=p by omega) n; omega)
theorem pow_mono {a b:Nat} (h:a<=b):(2:Int)^a<=(2:Int)^b:=by
 obtain ⟨c,rfl⟩:=Nat.exists_eq_add_of_le h
 rw [Int.pow_add]
 exact mul_ge (pow_pos' (by omega) c) (Int.le_refl _) (by have:=pow_pos' (show (1:Int)<=2 by omega) a; omega)
theorem often_le {n:Int} {xs:List (Int × Int)} (h:Told n xs) (hn:n<=10^10) {x:Int × Int} (hx:x ∈ xs):x.2<=40:=by
 rcases Int.lt_or_le 40 x.2 with h1 | h1
 ·exfalso
  have h2:=pow_le_prodP h.all hx
  have h3:=two_pow_le (h.all x hx).prime.two x.2.toNat
  have h4:=pow_mono (show 40<=x.2.toNat by omega)
  rw [h.prod] at h2
  have:(2:Int)^40=1099511627776:=by decide
  omega
 ·exact h1
theorem part_le {n:Int} {xs:List (Int × Int)} (h:Told n xs) {x:Int × Int} (hx:x ∈ xs):x.1<=n:=by
 have h2:=pow_le_prodP h.all hx
 rw [h.prod] at h2
 have h1:=(h.all x hx).often
 obtain ⟨k,hk⟩:∃ k,x.2.toNat=k+1:=⟨x.2.toNat - 1,by omega⟩
 rw [hk,Int.pow_succ] at h2
 have:=mul_ge (pow_pos' (show 1<=x.1 by have:=(h.all x hx).prime.two; omega) k) (Int.le_refl x.1) (by have:=(h.all x hx).prime.two; omega)
 rw [Int.mul_comm] at this
 omega
structure Out (n left d:Int) (xs:List (Int × Int)):Prop where
 all:∀ x ∈ xs,Part x
 rise:xs.Pairwise fun x y=>x.1 < y.1
 below:∀ x ∈ xs,x.1 < d
 prod:prodP xs*left=n
 no:NoDiv left d
 odd:d=2\/d % 2=1
theorem out_start (n:Int):Out n n 2 []:=⟨fun _ h=>(nomatch h),.nil,fun _ h=>(nomatch h),by simp [prodP],fun k h1 h2=>by omega,.inl rfl⟩
theorem out_left {n left d:Int} {xs:List (Int × Int)} (h:Out n left d xs) (l1:1<=left):left<=n:=by
 have:=h.prod
 have:=mul_ge (prodP_pos h.all) (Int.le_refl left) (by omega)
 rw [Int.mul_comm] at this
 omega
structure Inn (left₀ d left often:Int):Prop where
 eq:left₀=d^often.toNat*left
theorem inn_start (left d:Int):Inn left d left 0:=⟨by simp⟩
theorem inn_turn {left₀ d left often:Int} (h:Inn left₀ d left often) (o:0<=often) (hz:Int.fmod left d=0):Inn left₀ d (Int.fdiv left d) (often+1):=by
 have q:=quot left d
 rw [hz] at q
 refine ⟨?_⟩
 have e:(often+1).toNat=often.toNat+1:=by omega
 rw [e,Int.pow_succ,h.eq,Int.mul_assoc]
 congr 1
 omega
theorem fmod_ne {x d:Int} (h:Int.fmod x d ≠ 0):¬ d ∣ x:=fun hd=>h (Int.fmod_eq_zero_of_dvd hd)
theorem nodiv_next {left₀ d left often:Int} (hi:Inn left₀ d left often) (h2:2<=d) (ho:d=2\/d % 2=1) (hn:NoDiv left₀ d) (hz:Int.fmod left d ≠ 0) (d':Int) (hd:d'=if d=2 then 3 else d+2):NoDiv left d'/\(d'=2\/d' % 2=1)/\d < d':=by
 have hl:left ∣ left₀:=⟨d^often.toNat,by rw [hi.eq,Int.mul_comm]⟩
 have up:NoDiv left (d+1):=by
  intro k k2 kd hk
  rcases (show k < d\/k=d by omega) with h | h
  ·exact hn k k2 h (Int.dvd_trans hk hl)
  ·subst h; exact fmod_ne hz hk
 by_cases e:d=2
 ·rw [if_pos e] at hd
  subst hd
  subst e
  exact ⟨up,by omega,by omega⟩
 ·rw [if_neg e] at hd
  subst hd
  refine ⟨?_,by omega,by omega⟩
  intro k k2 kd hk
  rcases (show k < d+1\/k=d+1 by omega) with h | h
  ·exact up k k2 h hk
  ·subst h
   refine up 2 (by omega) (by omega) (Int.dvd_trans ?_ hk)
   omega
theorem out_none {n left₀ left d often:Int} {xs:List (Int × Int)} (h:Out n left₀ d xs) (hi:Inn left₀ d left often) (h2:2<=d) (o:often=0) (hz:Int.fmod left d ≠ 0) {d':Int} (hd:d'=if d=2 then 3 else d+2):Out n left d' xs:=by
 obtain ⟨a,b,c⟩:=nodiv_next hi h2 h.odd h.no hz d' hd
 refine ⟨h.all,h.rise,fun x hx=>by have:=h.below x hx; omega,?_,a,b⟩
 have e:=hi.eq
 subst o
 simp at e
 rw [<- e]
 exact h.prod
theorem out_some {n left₀ left d often:Int} {xs:List (Int × Int)} (h:Out n left₀ d xs) (hi:Inn left₀ d left often) (h2:2<=d) (o:0 < often) (hz:Int.fmod left d ≠ 0) {d':Int} (hd:d'=if d=2 then 3 else d+2):Out n left d' (xs ++ [(d,often)]):=by
 obtain ⟨a,b,c⟩:=nodiv_next hi h2 h.odd h.no hz d' hd
 have dv:d ∣ left₀:=by
  obtain ⟨k,hk⟩:∃ k,often.toNat=k+1:=⟨often.toNat - 1,by omega⟩
  refine ⟨d^k*left,?_⟩
  rw [hi.eq,hk,Int.pow_succ,Int.mul_comm (d^k) d,Int.mul_assoc]
 refine ⟨?_,?_,?_,?_,a,b⟩
 ·intro x hx
  rcases List.mem_append.mp hx with hx | hx
  ·exact h.all x hx
  ·rw [List.mem_singleton.mp hx]
   exact ⟨prm_of h2 h.no dv,by omega⟩
 ·refine List.pairwise_append.mpr ⟨h.rise,List.pairwise_singleton _ _,?_⟩
  intro x hx y hy
  rw [List.mem_singleton.mp hy]
  exact h.below x hx
 ·intro x hx
  rcases List.mem_append.mp hx with hx | hx
  ·have:=h.below x hx; omega
  ·rw [List.mem_singleton.mp hx]; exact c
 ·rw [prodP_app,prodP_one,Int.mul_assoc,<- hi.eq]
  exact h.prod
theorem told_last {n left d:Int} {xs:List (Int × Int)} (h:Out n left d xs) (h2:2<=d) (hx:left < d*d) (l1:1 < left):Told n (xs ++ [(left,1)]):=by
 refine ⟨?_,?_,?_⟩
 ·intro x hx'
  rcases List.mem_append.mp hx' with hx' | hx'
  ·exact h.all x hx'
  ·rw [List.mem_singleton.mp hx']
   exact ⟨prm_left h2 h.no hx l1,by omega⟩
 ·refine List.pairwise_append.mpr ⟨h.rise,List.pairwise_singleton _ _,?_⟩
  intro x hx' y hy
  rw [List.mem_singleton.mp hy]
  have:=h.below x hx'
  have:=left_ge h.no l1
  show x.1 < left
  omega
 ·rw [prodP_app,prodP_one,show (1:Int).toNat=1 from rfl,Int.pow_one]
  exact h.prod
theorem told_none {n left d:Int} {xs:List (Int × Int)} (h:Out n left d xs) (l1:left=1):Told n xs:=by
 refine ⟨h.all,h.rise,?_⟩
 have:=h.prod
 subst l1
 omega
theorem len_le {xs:List (Int × Int)} (h:∀ x ∈ xs,Part x):(2:Int)^xs.length<=prodP xs:=by
 induction xs with
 | nil=>simp [prodP]
 | cons x r ih=>
  have h1:=ih fun y hy=>h y (.tail _ hy)
  have hp:=(h x (.head _)).prime.two
  have ho:=(h x (.head _)).often
  simp only [prodP,List.length_cons]
  rw [Int.pow_succ,Int.mul_comm]
  obtain ⟨k,hk⟩:∃ k,x.2.toNat=k+1:=⟨x.2.toNat - 1,by omega⟩
  have:2<=x.1^x.2.toNat:=by
   rw [hk,Int.pow_succ,Int.mul_comm]
   exact mul_ge (pow_pos' (by omega) k) hp (by omega)
  exact Int.mul_le_mul this h1 (by have:=pow_pos' (show (1:Int)<=2 by omega) r.length; omega) (by omega)
theorem prm_one_or {p k:Int} (h:Prm p) (k1:1<=k) (hk:k ∣ p):k=1\/k=p:=by
 have p2:=h.two
 obtain ⟨m,hm⟩:=hk
 rcases (show k=1\/2<=k by omega) with e | k2
 ·exact .inl e
 ·have m1:1<=m:=by
   rcases Int.lt_or_le m 1 with h1 | h1
   ·have:=Int.mul_le_mul_of_nonneg_left (show m<=0 by omega) (show 0<=k by omega)
    omega
   ·exact h1
  rcases (show m=1\/2<=m by omega) with e | m2
  ·subst e; exact .inr (by omega)
  ·exfalso
   rcases Int.le_total k m with hle | hle
   ·have:=Int.mul_le_mul_of_nonneg_left hle (show 0<=k by omega)
    exact h.no k k2 (by omega) ⟨m,hm⟩
   ·have:=Int.mul_le_mul_of_nonneg_right hle (show 0<=m by omega)
    exact h.no m m2 (by omega) ⟨k,by rw [hm,Int.mul_comm]⟩
theorem prm_coprime {p x:Int} (h:Prm p) (hx:¬ p ∣ x):Nat.Coprime p.natAbs x.natAbs:=by
 have p2:=h.two
 have g1:(Nat.gcd p.natAbs x.natAbs) ∣ p.natAbs:=Nat.gcd_dvd_left _ _
 have g2:(Nat.gcd p.natAbs x.natAbs) ∣ x.natAbs:=Nat.gcd_dvd_right _ _
 have g0:0 < Nat.gcd p.natAbs x.natAbs:=Nat.gcd_pos_of_pos_left _ (by omega)
 show Nat.gcd p.natAbs x.natAbs=1
 generalize Nat.gcd p.natAbs x.natAbs=g at g0 g1 g2
 have d1:(g:Int) ∣ p:=Int.ofNat_dvd_left.mpr g1
 rcases prm_one_or h (by omega) d1 with e | e
 ·omega
 ·exfalso
  apply hx
  rw [<- e]
  exact Int.ofNat_dvd_left.mpr g2
theorem euclid {p x y:Int} (h:Prm p) (hd:p ∣ x*y):p ∣ x\/p ∣ y:=by
 by_cases hx:p ∣ x
 ·exact .inl hx
 ·right
  have c:=prm_coprime h hx
  have d:p.natAbs ∣ x.natAbs*y.natAbs:=by
   rw [<- Int.natAbs_mul]
   exact Int.natAbs_dvd_natAbs.mpr hd
  exact Int.natAbs_dvd_natAbs.mp (c.dvd_of_dvd_mul_left d)
theorem prm_dvd_prm {p q:Int} (h:Prm p) (k:Prm q) (hd:p ∣ q):p=q:=by
 rcases prm_one_or k (by have:=h.two; omega) hd with e | e
 ·have:=h.two; omega
 ·exact e
theorem prm_not_one {p:Int} (h:Prm p):¬ p ∣ 1:=fun hd=>by
 have:=Int.le_of_dvd (by omega) hd
 have:=h.two
 omega
theorem prm_dvd_pow {p q:Int} (h:Prm p):∀ n:Nat,p ∣ q^n->p ∣ q
 | 0,hd=>absurd (by simpa using hd) (prm_not_one h)
 | n+1,hd=>by
  rw [Int.pow_succ] at hd
  rcases euclid h hd with e | e
  ·exact prm_dvd_pow h n e
  ·exact e
theorem prm_in {p:Int} (h:Prm p) {xs:List (Int × Int)} (hx:∀ x ∈ xs,Part x) (hd:p ∣ prodP xs):∃ x ∈ xs,x.1=p:=by
 induction xs with
 | nil=>exact absurd hd (prm_not_one h)
 | cons x r ih=>
  simp only [prodP] at hd
  rcases euclid h hd with e | e
  ·exact ⟨x,.head _,(prm_dvd_prm h (hx x (.head _)).prime (prm_dvd_pow h _ e)).symm⟩
  ·obtain ⟨y,hy,e⟩:=ih (fun y hy=>hx y (.tail _ hy)) e
   exact ⟨y,.tail _ hy,e⟩
theorem prm_some:∀ (n:Nat) (k:Int),2<=k->k.toNat<=n->∃ q,Prm q/\q ∣ k:=by
 intro n
 induction n with
 | zero=>intro k h1 h2; omega
 | succ n ih=>
  intro k h1 h2
  by_cases h:∃ j,2<=j/\j*j<=k/\j ∣ k
  ·obtain ⟨j,j2,jj,hj⟩:=h
   have:=Int.mul_le_mul_of_nonneg_right j2 (show 0<=j by omega)
   obtain ⟨q,hq,hd⟩:=ih j j2 (by omega)
   exact ⟨q,hq,Int.dvd_trans hd hj⟩
  ·exact ⟨k,⟨h1,fun j j2 jj hj=>h ⟨j,j2,jj,hj⟩⟩,Int.dvd_refl k⟩
def coreP:List (Int × Int)->Int
 | []=>1
 | x :: r=>(if x.2 % 2=1 then x.1 else 1)*coreP r
def rootP:List (Int × Int)->Int
 | []=>1
 | x :: r=>x.1^(x.2 / 2).toNat*rootP r
theorem coreP_app (xs ys:List (Int × Int)):coreP (xs ++ ys)=coreP xs*coreP ys:=by
 induction xs with
 | nil=>simp [coreP]
 | cons x r ih=>simp only [List.cons_append,coreP,ih,Int.mul_assoc]
theorem rootP_app (xs ys:List (Int × Int)):rootP (xs ++ ys)=rootP xs*rootP ys:=by
 induction xs with
 | nil=>simp [rootP]
 | cons x r ih=>simp only [List.cons_append,rootP,ih,Int.mul_assoc]
theorem half_pow {p e:Int} (he:0<=e):(if e % 2=1 then p else 1)*(p^(e / 2).toNat*p^(e / 2).toNat)=p^e.toNat:=by
 rw [<- Int.pow_add]
 split
 ·rw [Int.mul_comm,<- Int.pow_succ]
  congr 1
  omega
 ·rw [Int.one_mul]
  congr 1
  omega
theorem core_root {xs:List (Int × Int)} (h:∀ x ∈ xs,Part x):coreP xs*rootP xs*rootP xs=prodP xs:=by
 induction xs with
 | nil=>simp [coreP,rootP,prodP]
 | cons x r ih=>
  have h1:=ih fun y hy=>h y (.tail _ hy)
  simp only [coreP,rootP,prodP]
  rw [<- h1,<- half_pow (p:=x.1) (show 0<=x.2 by have:=(h x (.head _)).often; omega)]
  grind
theorem rootP_pos {xs:List (Int × Int)} (h:∀ x ∈ xs,Part x):1<=rootP xs:=by
 induction xs with
 | nil=>simp [rootP]
 | cons x r ih=>
  simp only [rootP]
  exact mul_ge (ih fun y hy=>h y (.tail _ hy)) (pow_pos' (by have:=(h x (.head _)).prime.two; omega) _) (by omega)
theorem core_in {q:Int} (h:Prm q) {xs:List (Int × Int)} (hx:∀ x ∈ xs,Part x) (hd:q ∣ coreP xs):∃ x ∈ xs,x.1=q:=by
 induction xs with
 | nil=>exact absurd hd (prm_not_one h)
 | cons x r ih=>
  simp only [coreP] at hd
  rcases euclid h hd with e | e
  ·split at e
   ·exact ⟨x,.head _,(prm_dvd_prm h (hx x (.head _)).prime e).symm⟩
   ·exact absurd e (prm_not_one h)
  ·obtain ⟨y,hy,e⟩:=ih (fun y hy=>hx y (.tail _ hy)) e
   exact ⟨y,.tail _ hy,e⟩
theorem core_no_sq {q:Int} (h:Prm q) {xs:List (Int × Int)} (hx:∀ x ∈ xs,Part x) (hr:xs.Pairwise fun x y=>x.1 < y.1):¬ q*q ∣ coreP xs:=by
 induction xs with
 | nil=>
  intro hd
  exact prm_not_one h (Int.dvd_trans ⟨q,rfl⟩ hd)
 | cons x r ih=>
  intro hd
  have hr':=List.pairwise_cons.mp hr
  have hx':=fun y hy=>hx y (List.Mem.tail _ hy)
  simp only [coreP] at hd
  have hp:=(hx x (.head _)).prime
  split at hd
  ·by_cases e:q=x.1
   ·subst e
    have h1:x.1 ∣ coreP r:=by
     obtain ⟨m,hm⟩:=hd
     rw [Int.mul_assoc] at hm
     have:=Int.eq_of_mul_eq_mul_left (by have:=hp.two; omega) hm
     exact ⟨m,this⟩
    obtain ⟨y,hy,e⟩:=core_in h hx' h1
    have:=hr'.1 y hy
    omega
   ·have c:Nat.Coprime q.natAbs x.1.natAbs:=prm_coprime h fun hd'=>e (prm_dvd_prm h hp hd')
    have c2:Nat.Coprime (q*q).natAbs x.1.natAbs:=by rw [Int.natAbs_mul]; exact c.mul_left c
    have d:(q*q).natAbs ∣ x.1.natAbs*(coreP r).natAbs:=by
     rw [<- Int.natAbs_mul]
     exact Int.natAbs_dvd_natAbs.mpr hd
    exact ih hx' hr'.2 (Int.natAbs_dvd_natAbs.mp (c2.dvd_of_dvd_mul_left d))
  ·rw [Int.one_mul] at hd
   exact ih hx' hr'.2 hd
theorem not_in_tail {x:Int × Int} {r:List (Int × Int)} (hx:∀ y ∈ x :: r,Part y) (hr:(x :: r).Pairwise fun x y=>x.1 < y.1):¬ x.1 ∣ prodP r:=by
 intro hd
 obtain ⟨y,hy,e⟩:=prm_in (hx x (.head _)).prime (fun y hy=>hx y (.tail _ hy)) hd
 have:=(List.pairwise_cons.mp hr).1 y hy
 omega
theorem pow_cancel {p A B:Int} (h:Prm p) (hA:¬ p ∣ A) (hB:¬ p ∣ B):∀ a b:Nat,p^a*A=p^b*B->a=b/\A=B
 | 0,0,e=>⟨rfl,by simpa using e⟩
 | 0,b+1,e=>by
  exfalso
  apply hA
  refine ⟨p^b*B,?_⟩
  rw [Int.pow_zero,Int.one_mul,Int.pow_succ,Int.mul_comm (p^b) p,Int.mul_assoc] at e
  exact e
 | a+1,0,e=>by
  exfalso
  apply hB
  refine ⟨p^a*A,?_⟩
  rw [Int.pow_zero,Int.one_mul,Int.pow_succ,Int.mul_comm (p^a) p,Int.mul_assoc] at e
  exact e.symm
 | a+1,b+1,e=>by
  rw [Int.pow_succ,Int.pow_succ,Int.mul_comm (p^a) p,Int.mul_comm (p^b) p,Int.mul_assoc,Int.mul_assoc] at e
  have:=Int.eq_of_mul_eq_mul_left (by have:=h.two; omega) e
  obtain ⟨h1,h2⟩:=pow_cancel h hA hB a b this
  exact ⟨by omega,h2⟩
theorem told_cons_dvd {x:Int × Int} {r:List (Int × Int)} (hx:Part x):x.1 ∣ prodP (x :: r):=by
 obtain ⟨k,hk⟩:∃ k,x.2.toNat=k+1:=⟨x.2.toNat - 1,by have:=hx.often; omega⟩
 refine ⟨x.1^k*prodP r,?_⟩
 simp only [prodP]
 rw [hk,Int.pow_succ,Int.mul_comm (x.1^k),Int.mul_assoc]
theorem told_unique:∀ (xs ys:List (Int × Int)),(∀ x ∈ xs,Part x)->xs.Pairwise (fun x y=>x.1 < y.1)->(∀ y ∈ ys,Part y)->ys.Pairwise (fun x y=>x.1 < y.1)->prodP xs=prodP ys->xs=ys
 | [],[],_,_,_,_,_=>rfl
 | [],y :: s,_,_,hy,_,e=>by
  exfalso
  exact prm_not_one (hy y (.head _)).prime (by have h:=told_cons_dvd (r:=s) (hy y (.head _)); rw [<- e] at h; exact h)
 | x :: r,[],hx,_,_,_,e=>by
  exfalso
  exact prm_not_one (hx x (.head _)).prime (by have h:=told_cons_dvd (r:=r) (hx x (.head _)); rw [e] at h; exact h)
 | x :: r,y :: s,hx,hr,hy,hs,e=>by
  have h1:x.1=y.1:=by
   obtain ⟨y',hy',e1⟩:=prm_in (hx x (.head _)).prime hy (e ▸ told_cons_dvd (hx x (.head _)))
   obtain ⟨x',hx',e2⟩:=prm_in (hy y (.head _)).prime hx (e.symm ▸ told_cons_dvd (hy y (.head _)))
   have a:y.1<=y'.1:=by
    rcases List.mem_cons.mp hy' with rfl | h
    ·omega
    ·have:=(List.pairwise_cons.mp hs).1 y' h; omega
   have b:x.1<=x'.1:=by
    rcases List.mem_cons.mp hx' with rfl | h
    ·omega
    ·have:=(List.pairwise_cons.mp hr).1 x' h; omega
   omega
  have nx:=not_in_tail hx hr
  have ny:=not_in_tail hy hs
  simp only [prodP] at e
  rw [<- h1] at e ny
  obtain ⟨h2,h3⟩:=pow_cancel (hx x (.head _)).prime nx ny _ _ e
  have o1:=(hx x (.head _)).often
  have o2:=(hy y (.head _)).often
  have h4:=told_unique r s (fun z hz=>hx z (.tail _ hz)) (List.pairwise_cons.mp hr).2 (fun z hz=>hy z (.tail _ hz)) (List.pairwise_cons.mp hs).2 h3
  have h5:x=y:=Prod.ext h1 (by omega)
  rw [h4,h5]
end Pr
namespace Jc
def S (f:Nat->Nat):Nat->Nat
 | 0=>0
 | m+1=>S f m+f (m+1)
theorem S_add (f g:Nat->Nat):∀ m,S (fun k=>f k+g k) m=S f m+S g m
 | 0=>rfl
 | m+1=>by simp only [S]; rw [S_add f g m]; omega
theorem S_congr {f g:Nat->Nat}:∀ {m},(∀ k,1<=k->k<=m->f k=g k)->S f m=S g m
 | 0,_=>rfl
 | m+1,h=>by
  simp only [S]
  rw [S_congr (m:=m) fun k h1 h2=>h k h1 (by omega),h (m+1) (by omega) (Nat.le_refl _)]
theorem S_const (c:Nat):∀ m,S (fun _=>c) m=m*c
 | 0=>by simp [S]
 | m+1=>by simp only [S]; rw [S_const c m,Nat.succ_mul]
theorem S_mul (c:Nat) (f:Nat->Nat):∀ m,S (fun k=>c*f k) m=c*S f m
 | 0=>by simp [S]
 | m+1=>by simp only [S]; rw [S_mul c f m,Nat.mul_add]
theorem S_swap (f:Nat->Nat->Nat) (p:Nat):∀ m,S (fun k=>S (fun j=>f k j) p) m=S (fun j=>S (fun k=>f k j) m) p
 | 0=>by
  simp only [S]
  rw [S_const 0 p,Nat.mul_zero]
 | m+1=>by
  simp only [S]
  rw [S_swap f p m,<- S_add]
theorem S_mod {f g:Nat->Nat}:∀ {m},(∀ k,1<=k->k<=m->f k % 2=g k % 2)->S f m % 2=S g m % 2
 | 0,_=>rfl
 | m+1,h=>by
  simp only [S]
  have h1:=S_mod (m:=m) fun k h1 h2=>h k h1 (by omega)
  have h2:=h (m+1) (by omega) (Nat.le_refl _)
  omega
theorem S_list (f:Nat->Nat):∀ m,S f m=((List.range' 1 m).map f).sum
 | 0=>rfl
 | m+1=>by
  simp only [S]
  rw [S_list f m,List.range'_concat,List.map_append,List.sum_append_nat]
  simp [Nat.add_comm]
theorem perm_of {l1:List Nat}:∀ {l2:List Nat},l1.Nodup->(∀ x ∈ l1,x ∈ l2)->l2.length<=l1.length->l1.Perm l2:=by
 induction l1 with
 | nil=>
  intro l2 _ _ h
  have:l2=[]:=List.eq_nil_of_length_eq_zero (by simpa using h)
  subst this
  exact .nil
 | cons x t ih=>
  intro l2 nd sub len
  have hx:=sub x (List.mem_cons_self)
  have p:=List.perm_cons_erase hx
  have nd':=List.nodup_cons.mp nd
  have q:t.Perm (l2.erase x):=ih nd'.2 (fun y hy=>by
   have h1:=sub y (List.mem_cons_of_mem _ hy)
   have ne:y ≠ x:=fun e=>nd'.1 (e ▸ hy)
   exact (List.mem_erase_of_ne ne).mpr h1) (by
   have h1:=List.length_erase_of_mem hx
   have h2:(x :: t).length=t.length+1:=rfl
   omega)
  exact (List.Perm.cons x q).trans p.symm
theorem S_perm (f p:Nat->Nat) {m:Nat} (hin:∀ k,1<=k->k<=m->1<=p k/\p k<=m) (inj:∀ k l,1<=k->k<=m->1<=l->l<=m->p k=p l->k=l):S (fun k=>f (p k)) m=S f m:=by
 rw [S_list,S_list]
 have e:(List.range' 1 m).map (fun k=>f (p k))=((List.range' 1 m).map p).map f:=by rw [List.map_map]; rfl
 rw [e]
 refine List.Perm.sum_nat (List.Perm.map f (perm_of ?_ ?_ ?_))
 ·refine List.pairwise_map.mpr ?_
  have h0:(List.range' 1 m).Nodup:=List.nodup_range'
  refine List.Pairwise.imp_of_mem ?_ h0
  intro a b ha hb ne he
  have ha':=List.mem_range'_1.mp ha
  have hb':=List.mem_range'_1.mp hb
  exact ne (inj a b ha'.1 (by omega) hb'.1 (by omega) he)
 ·intro x hx
  obtain ⟨k,hk,rfl⟩:=List.mem_map.mp hx
  have hk':=List.mem_range'_1.mp hk
  have:=hin k hk'.1 (by omega)
  exact List.mem_range'_1.mpr ⟨this.1,by omega⟩
 ·rw [List.length_map]
  exact Nat.le_refl _
def e (a n k:Nat):Nat:=if n < 2*(a*k % n) then 1 else 0
def pi (a n k:Nat):Nat:=if n < 2*(a*k % n) then n - a*k % n else a*k % n
def mu (a n:Nat):Nat:=S (e a n) (n / 2)
theorem e_mod (a n k:Nat):e (a % n) n k=e a n k:=by
 unfold e
 rw [<- Nat.mod_mul_mod,Nat.mod_mod] <;> simp [Nat.mul_mod]
theorem mu_mod (a n:Nat):mu (a % n) n=mu a n:=by
 unfold mu
 exact S_congr fun k _ _=>e_mod a n k
structure Ok (a n:Nat):Prop where
 odd:n % 2=1
 cop:Nat.gcd a n=1
theorem dvd_of_mul {a n k:Nat} (c:Nat.gcd a n=1) (h:n ∣ a*k):n ∣ k:=by
 have c':Nat.Coprime n a:=by rw [Nat.coprime_iff_gcd_eq_one,Nat.gcd_comm]; exact c
 exact c'.dvd_of_dvd_mul_left h
theorem rest_pos {a n k:Nat} (o:Ok a n) (k1:1<=k) (k2:k<=n / 2):0 < a*k % n:=by
 rcases Nat.eq_zero_or_pos (a*k % n) with h | h
 ·have:=dvd_of_mul o.cop (Nat.dvd_of_mod_eq_zero h)
  have:=Nat.le_of_dvd (by omega) this
  have:=o.odd
  omega
 ·exact h
theorem pi_in {a n k:Nat} (o:Ok a n) (k1:1<=k) (k2:k<=n / 2):1<=pi a n k/\pi a n k<=n / 2:=by
 have h:=rest_pos o k1 k2
 have h2:a*k % n < n:=Nat.mod_lt _ (by have:=o.odd; omega)
 have:=o.odd
 unfold pi
 split <;> omega
theorem mod_eq_sub {x y n:Nat} (h:x % n=y % n):n ∣ x - y:=by
 rcases Nat.le_total y x with l | l
 ·exact (Nat.dvd_iff_mod_eq_zero).mpr (Nat.sub_mod_eq_zero_of_mod_eq h)
 ·rw [Nat.sub_eq_zero_of_le l]; exact Nat.dvd_zero n
theorem pi_inj {a n k l:Nat} (o:Ok a n) (k1:1<=k) (k2:k<=n / 2) (l1:1<=l) (l2:l<=n / 2) (h:pi a n k=pi a n l):k=l:=by
 have n0:0 < n:=by have:=o.odd; omega
 have a1:a*k % n < n:=Nat.mod_lt _ n0
 have a2:a*l % n < n:=Nat.mod_lt _ n0
 have no:=o.odd
 have same:a*k % n=a*l % n->k=l:=fun q=>by
  rcases Nat.le_total l k with z | z
  ·have d:=mod_eq_sub q
   rw [<- Nat.mul_sub] at d
   have d2:=dvd_of_mul o.cop d
   rcases Nat.eq_zero_or_pos (k - l) with w | w
   ·omega
   ·have:=Nat.le_of_dvd w d2
    omega
  ·have d:=mod_eq_sub q.symm
   rw [<- Nat.mul_sub] at d
   have d2:=dvd_of_mul o.cop d
   rcases Nat.eq_zero_or_pos (l - k) with w | w
   ·omega
   ·have:=Nat.le_of_dvd w d2
    omega
 have other:a*k % n+a*l % n=n->False:=fun q=>by
  have d:n ∣ a*(k+l):=by
   rw [Nat.mul_add]
   refine Nat.dvd_of_mod_eq_zero ?_
   rw [Nat.add_mod,q,Nat.mod_self]
  have:=Nat.le_of_dvd (by omega) (dvd_of_mul o.cop d)
  omega
 unfold pi at h
 split at h <;> split at h
 ·exact same (by omega)
 ·exact (other (by omega)).elim
 ·exact (other (by omega)).elim
 ·exact same h
theorem e_le (a n k:Nat):e a n k<=1:=by unfold e; split <;> omega
theorem e_neg {a n k:Nat} (no:n % 2=1) (hr:0 < a*k % n) (r:Nat) (hr2:(r+a*k) % n=0):(if n < 2*(r % n) then 1 else 0)=1 - e a n k:=by
 have n0:0 < n:=by omega
 have h1:a*k % n < n:=Nat.mod_lt _ n0
 have h2:r % n < n:=Nat.mod_lt _ n0
 rw [Nat.add_mod] at hr2
 have h3:r % n+a*k % n=n:=by
  have d:=Nat.dvd_of_mod_eq_zero hr2
  obtain ⟨q,hq⟩:=d
  have:q=1:=by
   rcases q with _ | _ | q
   ·omega
   ·rfl
   ·have:n*(q+1+1)=n*q+2*n:=by rw [Nat.mul_add,Nat.mul_add]; omega
    have:=Nat.zero_le (n*q)
    omega
  subst this
  omega
 unfold e
 split <;> split <;> omega
theorem e_mul {a b n k:Nat} (o:Ok a n) (ob:Ok b n) (k1:1<=k) (k2:k<=n / 2):e (a*b) n k % 2=(e b n k+e a n (pi b n k)) % 2:=by
 have no:=o.odd
 have n0:0 < n:=by omega
 have pin:=pi_in ob k1 k2
 have hb:b*k % n < n:=Nat.mod_lt _ n0
 have key:a*b*k % n=a*(b*k % n) % n:=by rw [Nat.mul_assoc,Nat.mul_mod,Nat.mul_mod a (b*k % n),Nat.mod_mod]
 by_cases c:n < 2*(b*k % n)
 ·have e1:e b n k=1:=by unfold e; rw [if_pos c]
  have e2:pi b n k=n - b*k % n:=by unfold pi; rw [if_pos c]
  have r:=rest_pos o pin.1 pin.2
  have z:(a*(b*k % n)+a*pi b n k) % n=0:=by
   rw [<- Nat.mul_add,e2,Nat.add_sub_cancel' (Nat.le_of_lt hb),Nat.mul_mod_left]
  have:=e_neg no r (a*(b*k % n)) z
  have e3:e (a*b) n k=1 - e a n (pi b n k):=by
   rw [<- this]
   unfold e
   rw [key]
  have:=e_le a n (pi b n k)
  omega
 ·have e1:e b n k=0:=by unfold e; rw [if_neg c]
  have e2:pi b n k=b*k % n:=by unfold pi; rw [if_neg c]
  have e3:e (a*b) n k=e a n (pi b n k):=by
   unfold e
   rw [key,e2]
  omega
theorem mu_mul {a b n:Nat} (o:Ok a n) (ob:Ok b n):mu (a*b) n % 2=(mu a n+mu b n) % 2:=by
 unfold mu
 rw [S_mod (g:=fun k=>e b n k+e a n (pi b n k)) fun k h1 h2=>e_mul o ob h1 h2,S_add,S_perm (e a n) (pi b n) (fun k h1 h2=>pi_in ob h1 h2) fun k l h1 h2 h3 h4 h=>pi_inj ob h1 h2 h3 h4 h,Nat.add_comm]
theorem mu_one {n:Nat} (no:n % 2=1):mu 1 n=0:=by
 unfold mu
 rw [S_congr (g:=fun _=>0),S_const,Nat.mul_zero]
 intro k k1 k2
 unfold e
 rw [Nat.one_mul,Nat.mod_eq_of_lt (by omega),if_neg (by omega)]
theorem S_count (n x:Nat) (n0:0 < n):∀ m,S (fun j=>if j*n<=x then 1 else 0) m=min m (x / n)
 | 0=>by simp [S]
 | m+1=>by
  simp only [S]
  rw [S_count n x n0 m]
  have h:(m+1)*n<=x ↔ m+1<=x / n:=(Nat.le_div_iff_mul_le n0).symm
  split
  ·next c=>
   have:=h.mp c
   omega
  ·next c=>
   have:¬ m+1<=x / n:=fun z=>c (h.mpr z)
   omega
theorem mu_two {n:Nat} (no:n % 2=1):mu 2 n=n / 2 - n / 4:=by
 unfold mu
 have h:S (fun k=>(if k*4<=n then 1 else 0)+e 2 n k) (n / 2)=S (fun _=>1) (n / 2):=S_congr fun k k1 k2=>by
  unfold e
  rw [Nat.mod_eq_of_lt (by omega)]
  split <;> split <;> omega
 rw [S_add,S_count 4 n (by decide),S_const] at h
 omega
theorem mu_floor {a n:Nat} (o:Ok a n) (ao:a % 2=1):mu a n % 2=S (fun k=>a*k / n) (n / 2) % 2:=by
 have no:=o.odd
 have n0:0 < n:=by omega
 have h1:S (fun k=>a*k) (n / 2)=S (fun k=>n*(a*k / n)+a*k % n) (n / 2):=S_congr fun k _ _=>(Nat.div_add_mod _ _).symm
 rw [S_add,S_mul,S_mul] at h1
 have h2:S (fun k=>a*k % n) (n / 2) % 2=S (fun k=>pi a n k+e a n k) (n / 2) % 2:=S_mod fun k k1 k2=>by
  have:a*k % n < n:=Nat.mod_lt _ n0
  unfold pi e
  split <;> omega
 rw [S_add,S_perm (fun k=>k) (pi a n) (fun k h1 h2=>pi_in o h1 h2) fun k l h1 h2 h3 h4 h=>pi_inj o h1 h2 h3 h4 h] at h2
 have h3:S (e a n) (n / 2)=mu a n:=rfl
 rw [h3] at h2
 have m1:a*S (fun k=>k) (n / 2) % 2=S (fun k=>k) (n / 2) % 2:=by rw [Nat.mul_mod,ao,Nat.one_mul,Nat.mod_mod]
 have m2:n*S (fun k=>a*k / n) (n / 2) % 2=S (fun k=>a*k / n) (n / 2) % 2:=by rw [Nat.mul_mod,no,Nat.one_mul,Nat.mod_mod]
 omega
theorem lattice {a n:Nat} (ao:a % 2=1) (no:n % 2=1) (c:Nat.gcd a n=1):S (fun k=>a*k / n) (n / 2)+S (fun j=>n*j / a) (a / 2)=(n / 2)*(a / 2):=by
 have n0:0 < n:=by omega
 have a0:0 < a:=by omega
 have half:∀ {a n k:Nat},a % 2=1->n % 2=1->k<=n / 2->a*k / n<=a / 2:=fun {a n k} ao no h=>by
  have n0:0 < n:=by omega
  have h1:a*k<=a*(n / 2):=Nat.mul_le_mul_left a h
  have h2:2*(a*(n / 2))=a*(n - 1):=by
   rw [<- Nat.mul_assoc,Nat.mul_comm 2 a,Nat.mul_assoc]
   congr 1
   omega
  have h3:a*(n - 1) < a*n:=Nat.mul_lt_mul_of_pos_left (by omega) (by omega)
  have h4:a*k / n*n<=a*k:=Nat.div_mul_le_self _ _
  rcases Nat.lt_or_ge (a / 2) (a*k / n) with z | z
  ·have h5:(a / 2+1)*n<=a*k / n*n:=Nat.mul_le_mul_right n z
   have h6:2*((a / 2+1)*n)=(a+1)*n:=by
    rw [<- Nat.mul_assoc]
    congr 1
    omega
   have h7:(a+1)*n=a*n+n:=by rw [Nat.add_mul,Nat.one_mul]
   omega
  ·exact z
 have e1:S (fun k=>a*k / n) (n / 2)=S (fun k=>S (fun j=>if j*n<=a*k then 1 else 0) (a / 2)) (n / 2):=S_congr fun k k1 k2=>by
  rw [S_count n (a*k) n0]
  have:=half ao no k2
  omega
 have e2:S (fun j=>n*j / a) (a / 2)=S (fun j=>S (fun k=>if k*a<=n*j then 1 else 0) (n / 2)) (a / 2):=S_congr fun j j1 j2=>by
  rw [S_count a (n*j) a0]
  have:=half no ao j2
  omega
 rw [e1,e2,S_swap (fun j k=>if k*a<=n*j then 1 else 0),<- S_add]
 rw [S_congr (g:=fun _=>a / 2),S_const]
 intro k k1 k2
 rw [<- S_add,S_congr (g:=fun _=>1),S_const,Nat.mul_one]
 intro j j1 j2
 have ne:j*n ≠ a*k:=fun z=>by
  have d:n ∣ a*k:=⟨j,by rw [<- z,Nat.mul_comm]⟩
  have:=Nat.le_of_dvd (by omega) (dvd_of_mul c d)
  omega
 have c1:k*a=a*k:=Nat.mul_comm _ _
 have c2:n*j=j*n:=Nat.mul_comm _ _
 rw [c1,c2]
 split <;> split <;> omega
theorem mu_turn {a n:Nat} (ao:a % 2=1) (no:n % 2=1) (c:Nat.gcd a n=1):(mu a n+mu n a) % 2=(n / 2)*(a / 2) % 2:=by
 have h1:=mu_floor ⟨no,c⟩ ao
 have h2:=mu_floor (a:=n) (n:=a) ⟨ao,by rw [Nat.gcd_comm]; exact c⟩ no
 have h3:=lattice ao no c
 omega
def sg (k:Nat):Int:=if k % 2=0 then 1 else -1
theorem sg_add (k l:Nat):sg (k+l)=sg k*sg l:=by
 unfold sg
 split <;> split <;> split <;> omega
theorem sg_mod {k l:Nat} (h:k % 2=l % 2):sg k=sg l:=by unfold sg; rw [h]
theorem sg_sq (k:Nat):sg k*sg k=1:=by unfold sg; split <;> rfl
theorem sg_or (k:Nat):sg k=1\/sg k=-1:=by unfold sg; split <;> simp
def jac (a n:Nat):Int:=if Nat.gcd a n=1 then sg (mu a n) else 0
theorem jac_cop {a n:Nat} (h:Nat.gcd a n=1):jac a n=sg (mu a n):=if_pos h
theorem jac_not {a n:Nat} (h:Nat.gcd a n ≠ 1):jac a n=0:=if_neg h
theorem gcd_mod (a n:Nat):Nat.gcd (a % n) n=Nat.gcd a n:=by rw [<- Nat.gcd_rec,Nat.gcd_comm]
theorem jac_mod (a n:Nat):jac (a % n) n=jac a n:=by
 by_cases c:Nat.gcd a n=1
 ·rw [jac_cop c,jac_cop ((gcd_mod a n).trans c),mu_mod]
 ·rw [jac_not c,jac_not fun z=>c ((gcd_mod a n).symm.trans z)]
theorem jac_mul {n:Nat} (no:n % 2=1) (a b:Nat):jac (a*b) n=jac a n*jac b n:=by
 by_cases c:Nat.gcd (a*b) n=1
 ·obtain ⟨c1,c2⟩:=Nat.coprime_mul_iff_left.mp (Nat.coprime_iff_gcd_eq_one.mpr c)
  have d1:=Nat.coprime_iff_gcd_eq_one.mp c1
  have d2:=Nat.coprime_iff_gcd_eq_one.mp c2
  rw [jac_cop c,jac_cop d1,jac_cop d2,<- sg_add]
  exact sg_mod (mu_mul ⟨no,d1⟩ ⟨no,d2⟩)
 ·rw [jac_not c]
  by_cases d1:Nat.gcd a n=1
  ·by_cases d2:Nat.gcd b n=1
   ·exact absurd (Nat.coprime_iff_gcd_eq_one.mp (Nat.Coprime.mul_left (Nat.coprime_iff_gcd_eq_one.mpr d1) (Nat.coprime_iff_gcd_eq_one.mpr d2))) c
   ·rw [jac_not d2,Int.mul_zero]
  ·rw [jac_not d1,Int.zero_mul]
theorem jac_one {n:Nat} (no:n % 2=1):jac 1 n=1:=by
 rw [jac_cop (Nat.gcd_one_left n),mu_one no]
 rfl
theorem jac_by1 (a:Nat):jac a 1=1:=by
 rw [jac_cop (Nat.gcd_one_right a)]
 rfl
theorem jac_zero {n:Nat} (h:n ≠ 1):jac 0 n=0:=jac_not (by rw [Nat.gcd_zero_left]; exact h)
theorem jac_or (a n:Nat):jac a n=1\/jac a n=0\/jac a n=-1:=by
 by_cases c:Nat.gcd a n=1
 ·rw [jac_cop c]
  rcases sg_or (mu a n) with h | h <;> rw [h] <;> simp
 ·rw [jac_not c]
  simp
def two (n:Nat):Int:=if n % 8=3\/n % 8=5 then -1 else 1
theorem jac_two {n:Nat} (no:n % 2=1):jac 2 n=two n:=by
 have c:Nat.gcd 2 n=1:=by
  rw [Nat.gcd_rec,no]; rfl
 rw [jac_cop c,mu_two no]
 unfold sg two
 split <;> split <;> omega
def turn (a n:Nat):Int:=if a % 4=3/\n % 4=3 then -1 else 1
theorem half_mul (a n:Nat) (ao:a % 2=1) (no:n % 2=1):sg ((n / 2)*(a / 2))=turn a n:=by
 have h:(n / 2)*(a / 2) % 2=(n / 2 % 2)*(a / 2 % 2) % 2:=by rw [Nat.mul_mod]
 unfold sg turn
 rw [h]
 have h1:n / 2 % 2=0\/n / 2 % 2=1:=by omega
 have h2:a / 2 % 2=0\/a / 2 % 2=1:=by omega
 rcases h1 with h1 | h1 <;> rcases h2 with h2 | h2 <;> rw [h1,h2] <;> simp <;> omega
theorem jac_turn {a n:Nat} (ao:a % 2=1) (no:n % 2=1):jac a n=turn a n*jac n a:=by
 by_cases c:Nat.gcd a n=1
 ·have c':Nat.gcd n a=1:=by rw [Nat.gcd_comm]; exact c
  rw [jac_cop c,jac_cop c',<- half_mul a n ao no]
  have h:=sg_mod (mu_turn ao no c)
  rw [sg_add] at h
  rw [<- h,Int.mul_assoc,sg_sq,Int.mul_one]
 ·rw [jac_not c,jac_not (by rw [Nat.gcd_comm]; exact c),Int.mul_zero]
theorem jac_step {b o k:Nat} (bo:b % 2=1) (oo:o % 2=1):jac (2^k*o) b=(if k % 2=1 then two b else 1)*turn o b*jac (b % o) o:=by
 have pw:∀ k,jac (2^k) b=if k % 2=1 then two b else 1:=by
  intro k
  induction k with
  | zero=>rw [Nat.pow_zero,jac_one bo]; rfl
  | succ k ih=>
   rw [Nat.pow_succ,jac_mul bo,ih,jac_two bo]
   have t:two b*two b=1:=by unfold two; split <;> rfl
   by_cases h:k % 2=1
   ·rw [if_pos h,if_neg (by omega),t]
   ·rw [if_neg h,if_pos (by omega),Int.one_mul]
 rw [jac_mul bo,pw,jac_mod,Int.mul_assoc,<- jac_turn oo bo]
end Jc
namespace Jc
@[irreducible] def J (x n:Int):Int:=jac (x % n).toNat n.toNat
theorem J_eq (x n:Int):J x n=jac (x % n).toNat n.toNat:=by unfold J; rfl
theorem J_mod {x y n:Int} (h:x % n=y % n):J x n=J y n:=by rw [J_eq,J_eq,h]
theorem J_nat {n:Int} (n0:0 < n) {x:Int} (x0:0<=x):J x n=jac x.toNat n.toNat:=by
 rw [J_eq,Int.toNat_emod x0 (Int.le_of_lt n0),jac_mod]
theorem J_mul {n:Int} (n0:0 < n) (no:n % 2=1) (x y:Int):J (x*y) n=J x n*J y n:=by
 have hx:=Int.emod_nonneg x (show n ≠ 0 by omega)
 have hy:=Int.emod_nonneg y (show n ≠ 0 by omega)
 have e:J (x*y) n=J ((x % n)*(y % n)) n:=J_mod (by rw [Int.mul_emod])
 rw [e,J_nat n0 (Int.mul_nonneg hx hy),Int.toNat_mul hx hy,jac_mul (by omega),J_eq,J_eq]
theorem J_one {n:Int} (n0:0 < n) (no:n % 2=1):J 1 n=1:=by
 rw [J_nat n0 (by decide)]
 exact jac_one (by omega)
theorem J_by1 (x:Int):J x 1=1:=by
 rw [J_eq]
 exact jac_by1 _
theorem J_zero {n:Int} (n0:0 < n) (h:n ≠ 1):J 0 n=0:=by
 rw [J_nat n0 (by decide)]
 exact jac_zero (by omega)
theorem J_or (x n:Int):J x n=1\/J x n=0\/J x n=-1:=by
 rw [J_eq]
 exact jac_or _ _
def twoI (n:Int):Int:=if n % 8=3\/n % 8=5 then -1 else 1
def turnI (a n:Int):Int:=if a % 4=3/\n % 4=3 then -1 else 1
theorem turn_eq {a n:Int} (a0:0 < a) (n0:0 < n):turn a.toNat n.toNat=turnI a n:=by
 unfold turn turnI
 split <;> split <;> omega
theorem two_eq {n:Int} (n0:0 < n):two n.toNat=twoI n:=by
 unfold two twoI
 split <;> split <;> omega
def GG (a b:Int):Nat:=Nat.gcd (a % b).toNat b.toNat
theorem J_cop {x n:Int} (h:GG x n=1):J x n*J x n=1:=by
 have h':Nat.gcd (x % n).toNat n.toNat=1:=h
 rw [J_eq,jac_cop h',sg_sq]
theorem J_step {b l o:Int} (b0:0 < b) (bo:b % 2=1) (l0:0 < l) (lo:l % 2=1) (o0:0<=o):J (2^o.toNat*l) b=(if o % 2=1 then twoI b else 1)*turnI l b*J (b % l) l:=by
 have p:0 < (2:Int)^o.toNat*l:=Int.mul_pos (Int.pow_pos (by decide)) l0
 have e:((2:Int)^o.toNat*l).toNat=2^o.toNat*l.toNat:=by
  rw [Int.toNat_mul (Int.le_of_lt (Int.pow_pos (by decide))) (Int.le_of_lt l0)]
  congr 1
 rw [J_nat b0 (Int.le_of_lt p),e,jac_step (by omega) (by omega),J_nat l0 (Int.emod_nonneg _ (by omega)),Int.toNat_emod (Int.le_of_lt b0) (Int.le_of_lt l0),turn_eq l0 b0,two_eq b0]
 have:(o.toNat % 2=1)=(o % 2=1):=by
  apply propext
  omega
 simp only [this]
end Jc
namespace Jc
structure Dec (x p l o:Int):Prop where
 eq:x=p^o.toNat*l
 o0:0<=o
 nd:¬ p ∣ l
theorem dec_aux {p l l':Int} (p0:p ≠ 0) (h:¬ p ∣ l) (h':¬ p ∣ l'):∀ k m:Nat,p^k*l=p^m*l'->k=m/\l=l'
 | 0,0,e=>by
  rw [Int.pow_zero,Int.one_mul,Int.one_mul] at e
  exact ⟨rfl,e⟩
 | 0,m+1,e=>by
  rw [Int.pow_zero,Int.one_mul,Int.pow_succ,Int.mul_comm (p^m) p,Int.mul_assoc] at e
  exact absurd ⟨_,e⟩ h
 | k+1,0,e=>by
  rw [Int.pow_zero,Int.one_mul,Int.pow_succ,Int.mul_comm (p^k) p,Int.mul_assoc] at e
  exact absurd ⟨_,e.symm⟩ h'
 | k+1,m+1,e=>by
  rw [Int.pow_succ,Int.pow_succ,Int.mul_comm (p^k) p,Int.mul_comm (p^m) p,Int.mul_assoc,Int.mul_assoc] at e
  obtain ⟨a,b⟩:=dec_aux p0 h h' k m (Int.eq_of_mul_eq_mul_left p0 e)
  exact ⟨by omega,b⟩
theorem Dec.unique {x p l o l' o':Int} (p0:p ≠ 0) (h:Dec x p l o) (h':Dec x p l' o'):o=o'/\l=l':=by
 have e:=h.eq.symm.trans h'.eq
 obtain ⟨a,b⟩:=dec_aux p0 h.nd h'.nd _ _ e
 have:=h.o0
 have:=h'.o0
 exact ⟨by omega,b⟩
theorem Dec.of_inn {x p l o:Int} (h:Pr.Inn x p l o) (o0:0<=o) (z:l.fmod p ≠ 0):Dec x p l o:=⟨h.eq,o0,fun d=>z (Int.fmod_eq_zero_of_dvd d)⟩
def odd4 (p o1 l1 o2 l2:Int):Int:=if o1 % 2=1 then (if o2 % 2=1 then J (-l1*l2) p else J l2 p) else (if o2 % 2=1 then J l1 p else 1)
def two4 (o1 l1 o2 l2:Int):Int:=turnI l1 l2*(if o1 % 2=1 then twoI l2 else 1)*(if o2 % 2=1 then twoI l1 else 1)
def hs (p o1 l1 o2 l2:Int):Int:=if p=2 then two4 o1 l1 o2 l2 else odd4 p o1 l1 o2 l2
end Jc
namespace Jc
open Pr (Prm)
theorem dec_ex {p:Int} (p2:2<=p):∀ (m:Nat) (x:Int),x ≠ 0->x.natAbs<=m->∃ l o,Dec x p l o
 | 0,x,x0,h=>absurd (Int.natAbs_eq_zero.mp (by omega)) x0
 | m+1,x,x0,h=>by
  by_cases d:p ∣ x
  ·obtain ⟨k,hk⟩:=d
   have k0:k ≠ 0:=fun z=>x0 (by rw [hk,z,Int.mul_zero])
   have e:x.natAbs=p.natAbs*k.natAbs:=by rw [hk,Int.natAbs_mul]
   have:2*k.natAbs<=p.natAbs*k.natAbs:=Nat.mul_le_mul_right _ (by omega)
   obtain ⟨l,o,D⟩:=dec_ex p2 m k k0 (by omega)
   refine ⟨l,o+1,⟨?_,by have:=D.o0; omega,D.nd⟩⟩
   rw [show (o+1).toNat=o.toNat+1 by have:=D.o0; omega,Int.pow_succ,hk,D.eq]
   grind
  ·exact ⟨x,0,⟨by rw [show (0:Int).toNat=0 from rfl,Int.pow_zero,Int.one_mul],by decide,d⟩⟩
theorem J_unit {p l:Int} (hp:Prm p) (h:¬ p ∣ l):J l p*J l p=1:=by
 refine J_cop ?_
 have p2:=hp.two
 have c:=Pr.prm_coprime hp (x:=l % p) (fun d=>h (by have e:=Int.emod_add_mul_ediv l p; rw [<- e]; exact Int.dvd_add d (Int.dvd_mul_right _ _)))
 have r0:=Int.emod_nonneg l (show p ≠ 0 by omega)
 unfold GG
 have c':=Nat.coprime_iff_gcd_eq_one.mp c
 rw [Nat.gcd_comm]
 rw [show p.toNat=p.natAbs by omega,show (l % p).toNat=(l % p).natAbs by omega]
 exact c'
theorem prm_odd {p:Int} (h:Prm p) (n2:p ≠ 2):p % 2=1:=by
 rcases (show p % 2=0\/p % 2=1 by omega) with z | z
 ·have:=h.two
  exact absurd (Int.dvd_of_emod_eq_zero z) (h.no 2 (by omega) (by omega))
 ·exact z
end Jc
namespace Pw
theorem mulC {n a a' b b':Int} (h1:a % n=a' % n) (h2:b % n=b' % n):a*b % n=a'*b' % n:=by
 rw [Int.mul_emod,h1,h2,<- Int.mul_emod]
theorem powC {n a b:Int} (h:a % n=b % n):∀ k:Nat,a^k % n=b^k % n
 | 0=>by rw [Int.pow_zero,Int.pow_zero]
 | k+1=>by rw [Int.pow_succ,Int.pow_succ]; exact mulC (powC h k) h
theorem restC (a n:Int):(a % n) % n=a % n:=Int.emod_emod a n
@[irreducible] def PM (x:Int) (k:Nat) (n:Int):Int:=x^k % n
theorem PM_eq (x:Int) (k:Nat) (n:Int):PM x k n=x^k % n:=by unfold PM; rfl
theorem PM_nonneg {x n:Int} {k:Nat} (h:0 < n):0<=PM x k n:=by rw [PM_eq]; exact Int.emod_nonneg _ (by omega)
theorem PM_lt {x n:Int} {k:Nat} (h:0 < n):PM x k n < n:=by rw [PM_eq]; exact Int.emod_lt_of_pos _ h
theorem PM_succ (x n:Int) (k:Nat):PM x (k+1) n=PM x k n*x % n:=by
 rw [PM_eq,PM_eq,Int.pow_succ]; exact mulC (restC _ _).symm rfl
theorem PM_cong {x y n:Int} (k:Nat) (h:x % n=y % n):PM x k n=PM y k n:=by rw [PM_eq,PM_eq]; exact powC h k
theorem PM_add (x n:Int) (k m:Nat):PM x (k+m) n=PM x k n*PM x m n % n:=by
 rw [PM_eq,PM_eq,PM_eq,Int.pow_add]; exact mulC (restC _ _).symm (restC _ _).symm
theorem start (x n:Int) (k:Nat):(1 % n)*(x % n)^k % n=PM x k n:=by
 rw [PM_eq]
 have h:(1 % n)*(x % n)^k % n=1*x^k % n:=mulC (restC 1 n) (powC (restC x n) k)
 rw [h,Int.one_mul]
theorem split (f:Int) (l:Nat):f^l=(f*f)^(l / 2)*f^(l % 2):=by
 have h:l=2*(l / 2)+l % 2:=by omega
 have e:f^2=f*f:=by rw [Int.pow_succ,Int.pow_succ,Int.pow_zero,Int.one_mul]
 rw [<- e,<- Int.pow_mul,<- Int.pow_add,<- h]
theorem turn_odd {p f n v:Int} {l:Nat} (h:p*f^l % n=v) (o:l % 2=1):(p*f % n)*(f*f % n)^(l / 2) % n=v:=by
 rw [<- h,split f l,o,Int.pow_succ,Int.pow_zero,Int.one_mul]
 have e:p*((f*f)^(l / 2)*f)=p*f*(f*f)^(l / 2):=by
  rw [Int.mul_comm ((f*f)^(l / 2)) f,Int.mul_assoc]
 rw [e]
 exact mulC (restC _ _) (powC (restC _ _) _)
theorem turn_even {p f n v:Int} {l:Nat} (h:p*f^l % n=v) (o:l % 2=0):p*(f*f % n)^(l / 2) % n=v:=by
 rw [<- h,split f l,o,Int.pow_zero,Int.mul_one]
 exact mulC rfl (powC (restC _ _) _)
theorem done {p f n v:Int} (h:p*f^0 % n=v) (h0:0<=p) (h1:p < n):p=v:=by
 rw [Int.pow_zero,Int.mul_one,Int.emod_eq_of_lt h0 h1] at h
 exact h
end Pw
namespace Jc
open Pr (Prm)
def PN (f:Nat->Nat):Nat->Nat
 | 0=>1
 | m+1=>PN f m*f (m+1)
theorem PN_list (f:Nat->Nat):∀ m,PN f m=((List.range' 1 m).map f).prod
 | 0=>rfl
 | m+1=>by
  simp only [PN]
  rw [PN_list f m,List.range'_concat,List.map_append,List.prod_append_nat]
  simp [Nat.add_comm]
theorem PN_perm (p:Nat->Nat) {m:Nat} (hin:∀ k,1<=k->k<=m->1<=p k/\p k<=m) (inj:∀ k l,1<=k->k<=m->1<=l->l<=m->p k=p l->k=l):PN p m=PN (fun k=>k) m:=by
 rw [PN_list,PN_list]
 refine List.Perm.prod_nat ?_
 have e:(List.range' 1 m).map (fun k=>k)=List.range' 1 m:=by simp
 rw [e]
 refine perm_of ?_ ?_ ?_
 ·refine List.pairwise_map.mpr ?_
  have h0:(List.range' 1 m).Nodup:=List.nodup_range'
  refine List.Pairwise.imp_of_mem ?_ h0
  intro a b ha hb ne he
  have ha':=List.mem_range'_1.mp ha
  have hb':=List.mem_range'_1.mp hb
  exact ne (inj a b ha'.1 (by omega) hb'.1 (by omega) he)
 ·intro x hx
  obtain ⟨k,hk,rfl⟩:=List.mem_map.mp hx
  have hk':=List.mem_range'_1.mp hk
  have:=hin k hk'.1 (by omega)
  exact List.mem_range'_1.mpr ⟨this.1,by omega⟩
 ·rw [List.length_map]
  exact Nat.le_refl _
theorem PN_scale (a:Nat):∀ m,PN (fun k=>a*k) m=a^m*PN (fun k=>k) m
 | 0=>by simp [PN]
 | m+1=>by
  simp only [PN]
  rw [PN_scale a m,Nat.pow_succ]
  grind
theorem PN_sign {a n:Nat} (o:Ok a n):∀ m,m<=n / 2->((PN (fun k=>a*k) m:Nat):Int) % n=sg (S (e a n) m)*((PN (pi a n) m:Nat):Int) % n
 | 0,_=>by simp [PN,S,sg]
 | m+1,hm=>by
  have n0:0 < n:=by have:=o.odd; omega
  have ih:=PN_sign o m (by omega)
  simp only [PN,S]
  rw [Int.natCast_mul (PN (fun k=>a*k) m) (a*(m+1)),Int.natCast_mul (PN (pi a n) m) (pi a n (m+1)),sg_add]
  have step:((a*(m+1):Nat):Int) % n=sg (e a n (m+1))*((pi a n (m+1):Nat):Int) % n:=by
   have h2:a*(m+1) % n < n:=Nat.mod_lt _ n0
   have q:=Int.emod_add_mul_ediv ((a*(m+1):Nat):Int) n
   have r:((a*(m+1):Nat):Int) % n=((a*(m+1) % n:Nat):Int):=by rw [Int.natCast_emod]
   unfold e pi sg
   by_cases c:n < 2*(a*(m+1) % n)
   ·rw [if_pos c,if_pos c,if_neg (by decide),r]
    have:(-1:Int)*((n - a*(m+1) % n:Nat):Int)=((a*(m+1) % n:Nat):Int)+n*(-1):=by
     rw [Int.natCast_sub (Nat.le_of_lt h2)]
     omega
    rw [this,Int.add_mul_emod_self_left,Int.emod_eq_of_lt (by omega) (by omega)]
   ·rw [if_neg c,if_neg c,if_pos rfl,Int.one_mul,r,Int.emod_eq_of_lt (by omega) (by omega)]
  have z:=Pw.mulC ih step
  rw [z]
  congr 1
  grind
theorem PN_unit {p:Int} (hp:Prm p):∀ m:Nat,(m:Int) < p->¬ p ∣ ((PN (fun k=>k) m:Nat):Int)
 | 0,_,d=>Pr.prm_not_one hp d
 | m+1,h,d=>by
  simp only [PN] at d
  rw [Int.natCast_mul] at d
  rcases Pr.euclid hp d with z | z
  ·exact PN_unit hp m (by omega) z
  ·have:=Int.le_of_dvd (by omega) z
   omega
theorem gauss {p:Nat} (hp:Prm (p:Int)) (po:p % 2=1) {a:Nat} (c:Nat.gcd a p=1):(p:Int) ∣ (a:Int)^(p / 2) - sg (mu a p):=by
 have o:Ok a p:=⟨po,c⟩
 have h1:=PN_sign o (p / 2) (Nat.le_refl _)
 rw [PN_scale,PN_perm (pi a p) (fun k h1 h2=>pi_in o h1 h2) fun k l h1 h2 h3 h4 h=>pi_inj o h1 h2 h3 h4 h] at h1
 have h2:=Int.emod_eq_emod_iff_emod_sub_eq_zero.mp h1
 rw [Int.natCast_mul,Int.natCast_pow,<- Int.sub_mul] at h2
 have d:=Int.dvd_of_emod_eq_zero h2
 rcases Pr.euclid hp d with z | z
 ·exact z
 ·exact absurd z (PN_unit hp (p / 2) (by have:=hp.two; omega))
theorem euler {p:Int} (hp:Prm p) (po:p % 2=1) (x:Int):Pw.PM x (p / 2).toNat p=J x p % p:=by
 have p2:=hp.two
 obtain ⟨q,rfl⟩:∃ q:Nat,p=(q:Int):=⟨p.toNat,by omega⟩
 have hx:=Int.emod_nonneg x (show (q:Int) ≠ 0 by omega)
 rw [show ((q:Int) / 2).toNat=q / 2 by omega]
 rw [Pw.PM_cong _ (Pw.restC x q).symm]
 obtain ⟨r,hr⟩:∃ r:Nat,x % (q:Int)=(r:Int):=⟨(x % (q:Int)).toNat,by omega⟩
 rw [J_eq,hr,Int.toNat_natCast,Int.toNat_natCast,Pw.PM_eq]
 by_cases c:Nat.gcd r q=1
 ·rw [jac_cop c]
  exact Int.emod_eq_emod_iff_emod_sub_eq_zero.mpr (Int.emod_eq_zero_of_dvd (gauss hp (by omega) c))
 ·rw [jac_not c]
  have d:(q:Int) ∣ (r:Int):=by
   by_cases d:(q:Int) ∣ (r:Int)
   ·exact d
   ·have k:=Pr.prm_coprime hp d
    rw [Int.natAbs_natCast,Int.natAbs_natCast] at k
    exact absurd (by rw [Nat.gcd_comm]; exact Nat.coprime_iff_gcd_eq_one.mp k) c
  have z:(r:Int) % q=0 % q:=by rw [Int.emod_eq_zero_of_dvd d,Int.zero_emod]
  rw [Pw.powC z]
  obtain ⟨k,hk⟩:∃ k,q / 2=k+1:=⟨q / 2 - 1,by omega⟩
  rw [hk,Int.pow_succ,Int.mul_zero]
end Jc
namespace Jc
open Pr (Prm)
def Df (f:Int->Int):Int->Int:=fun x=>f (x+1) - f x
def Dg:Nat->Int->(Int->Int)->Prop
 | 0,c,f=>∀ x,f x=c
 | k+1,c,f=>Dg k (((k:Int)+1)*c) (Df f)
theorem Dg.congr:∀ {k:Nat} {c:Int} {f g:Int->Int},Dg k c f->(∀ x,f x=g x)->Dg k c g
 | 0,c,f,g,h,e=>fun x=>by rw [<- e]; exact h x
 | k+1,c,f,g,h,e=>Dg.congr (k:=k) h fun x=>by unfold Df; rw [e,e]
theorem Dg.add:∀ {k:Nat} {c d:Int} {f g:Int->Int},Dg k c f->Dg k d g->Dg k (c+d) (fun x=>f x+g x)
 | 0,c,d,f,g,h,h'=>fun x=>by show f x+g x=c+d; rw [h x,h' x]
 | k+1,c,d,f,g,h,h'=>by
  show Dg k (((k:Int)+1)*(c+d)) _
  rw [Int.mul_add]
  exact (Dg.add (k:=k) h h').congr fun x=>by show (f (x+1) - f x)+(g (x+1) - g x)=(f (x+1)+g (x+1)) - (f x+g x); omega
theorem Dg.up:∀ {k:Nat} {c:Int} {f:Int->Int},Dg k c f->Dg (k+1) 0 f
 | 0,c,f,h=>fun x=>by
  show f (x+1) - f x=((0:Nat)+1:Int)*0
  rw [h,h]
  omega
 | k+1,c,f,h=>by
  show Dg (k+1) (((k+1:Nat)+1:Int)*0) (Df f)
  rw [Int.mul_zero]
  exact Dg.up (k:=k) h
theorem Dg.mulx:∀ {k:Nat} {c:Int} {f:Int->Int},Dg k c f->Dg (k+1) c (fun x=>x*f x)
 | 0,c,f,h=>fun x=>by
  show (x+1)*f (x+1) - x*f x=((0:Nat)+1:Int)*c
  rw [h,h]
  grind
 | k+1,c,f,h=>by
  have h1:Dg k (((k:Int)+1)*c) (Df f):=h
  have a:=Dg.mulx (k:=k) h1
  have b:Dg (k+1) c f:=h
  have d:=h1.up
  have s:=(a.add b).add d
  show Dg (k+1) (((k+1:Nat)+1:Int)*c) _
  have e:((k:Int)+1)*c+c+0=((k+1:Nat)+1:Int)*c:=by
   rw [Int.add_zero,Int.add_mul (((k+1:Nat):Int)),Int.one_mul]
   rfl
  rw [<- e]
  refine s.congr fun x=>?_
  show x*(f (x+1) - f x)+f x+(f (x+1) - f x)=(x+1)*f (x+1) - x*f x
  grind
theorem dg_pow:∀ k:Nat,Dg k 1 (fun x=>x^k)
 | 0=>fun x=>by simp
 | k+1=>(dg_pow k).mulx.congr fun x=>by rw [Int.pow_succ,Int.mul_comm]
theorem Dg.zero {p:Int}:∀ {k:Nat} {c:Int} {f:Int->Int},Dg k c f->∀ x0:Int,(∀ j:Nat,j<=k->p ∣ f (x0+j))->p ∣ c*((PN (fun k=>k) k:Nat):Int)
 | 0,c,f,h,x0,z=>by
  have:=z 0 (Nat.le_refl 0)
  rw [h] at this
  show p ∣ c*(1:Nat)
  simpa using this
 | k+1,c,f,h,x0,z=>by
  have:=Dg.zero (k:=k) h x0 fun j hj=>by
   have h1:=z (j+1) (by omega)
   have h2:=z j (by omega)
   unfold Df
   refine Int.dvd_sub ?_ h2
   rw [show x0+(j:Int)+1=x0+((j+1:Nat):Int) by omega]
   exact h1
  show p ∣ c*((PN (fun k=>k) k*(k+1):Nat):Int)
  rw [Int.natCast_mul]
  have e:((k:Int)+1)*c*((PN (fun k=>k) k:Nat):Int)=c*(((PN (fun k=>k) k:Nat):Int)*((k+1:Nat):Int)):=by
   rw [show ((k+1:Nat):Int)=(k:Int)+1 by omega]
   grind
  rw [e] at this
  exact this
theorem non_ex {p:Int} (hp:Prm p) (n2:p ≠ 2):∃ z:Int,2<=z/\z < p/\J z p=-1:=by
 have po:=prm_odd hp n2
 have p3:3<=p:=by have:=hp.two; omega
 have key:∃ z:Int,1<=z/\z < p/\J z p ≠ 1:=Classical.byContradiction fun no=>by
  have all:∀ z:Int,1<=z->z < p->J z p=1:=fun z h1 h2=>Classical.byContradiction fun h=>no ⟨z,h1,h2,h⟩
  obtain ⟨k,hk⟩:∃ k:Nat,(p / 2).toNat=k+1:=⟨(p / 2).toNat - 1,by omega⟩
  have f0:Dg (k+1) 1 (fun x=>x^(k+1)+(-1)):=by
   have c0:Dg (k+1) 0 (fun _=>(-1:Int)):=by
    have:∀ m:Nat,Dg (m+1) 0 (fun _=>(-1:Int)):=fun m=>by
     induction m with
     | zero=>exact Dg.up (k:=0) (c:=-1) fun _=>rfl
     | succ m ih=>exact ih.up
    exact this k
   have:=(dg_pow (k+1)).add c0
   rwa [Int.add_zero] at this
  have:=Dg.zero (p:=p) f0 1 fun j hj=>by
   have e:=euler hp po (1+(j:Int))
   rw [all (1+(j:Int)) (by omega) (by omega),hk,Pw.PM_eq,Int.emod_eq_of_lt (show (0:Int)<=1 by decide) (by omega)] at e
   show p ∣ (1+(j:Int))^(k+1)+(-1)
   refine Int.dvd_of_emod_eq_zero ?_
   have:=Int.emod_eq_emod_iff_emod_sub_eq_zero.mp (e.trans (Int.emod_eq_of_lt (show (0:Int)<=1 by decide) (by omega:(1:Int) < p)).symm)
   rw [<- Int.sub_eq_add_neg]
   exact this
  rw [Int.one_mul] at this
  exact PN_unit hp (k+1) (by omega) this
 obtain ⟨z,z1,z2,hz⟩:=key
 have nd:¬ p ∣ z:=fun h=>by have:=Int.le_of_dvd (by omega) h; omega
 have u:=J_unit hp nd
 have jm:J z p=-1:=by
  rcases J_or z p with e | e | e
  ·exact absurd e hz
  ·rw [e] at u; cases u
  ·exact e
 refine ⟨z,?_,z2,jm⟩
 by_cases c:2<=z
 ·exact c
 ·have e1:z=1:=by omega
  rw [e1,J_one (by omega) po] at jm
  cases jm
end Jc
namespace Jc
open Pr (Prm)
structure Ton (p n root over turner:Int) (h:Nat):Prop where
 ro:root*root % p=n*over % p
 ov:over^(if h=0 then 1 else 2*h) % p=1 % p
 tu:h ≠ 0->turner^(2*h) % p=(-1) % p
 two:h=0\/∃ j,h=2^j
theorem half_two {h:Nat} (h0:h ≠ 0) (t:h=0\/∃ j,h=2^j):(h / 2=0\/∃ j,h / 2=2^j)/\(if h / 2=0 then 1 else 2*(h / 2))=h:=by
 rcases t with z | ⟨j,rfl⟩
 ·exact absurd z h0
 ·cases j with
  | zero=>exact ⟨.inl rfl,rfl⟩
  | succ j=>
   have e:2^(j+1) / 2=2^j:=by rw [Nat.pow_succ]; omega
   have p:0 < 2^j:=Nat.pow_pos (by decide)
   rw [e]
   exact ⟨.inr ⟨j,rfl⟩,by rw [if_neg (by omega),Nat.pow_succ]; omega⟩
theorem sq_pow (t:Int) (h:Nat):(t*t)^h=t^(2*h):=by
 rw [Int.pow_mul]
 congr 1
 rw [Int.pow_succ,Int.pow_succ,Int.pow_zero,Int.one_mul]
theorem tu_next {p turner:Int} {h:Nat} (h0:h ≠ 0) (t:h=0\/∃ j,h=2^j) (tu:turner^(2*h) % p=(-1) % p):h / 2 ≠ 0->(turner*turner % p)^(2*(h / 2)) % p=(-1) % p:=fun z=>by
 have e:=(half_two h0 t).2
 rw [if_neg z] at e
 rw [e,Pw.powC (Pw.restC _ _),sq_pow]
 exact tu
theorem Ton.keep {p n root over turner:Int} {h:Nat} (T:Ton p n root over turner h) (h0:h ≠ 0) (c:over^h % p=1 % p):Ton p n root over (turner*turner % p) (h / 2):=by
 obtain ⟨a,b⟩:=half_two h0 T.two
 exact ⟨T.ro,by rw [b]; exact c,tu_next h0 T.two (T.tu h0),a⟩
theorem Ton.turn {p n root over turner:Int} {h:Nat} (hp:Prm p) (T:Ton p n root over turner h) (h0:h ≠ 0) (c:¬ over^h % p=1 % p):Ton p n (root*turner % p) (over*turner*turner % p) (turner*turner % p) (h / 2):=by
 obtain ⟨a,b⟩:=half_two h0 T.two
 have ov:=T.ov
 rw [if_neg h0] at ov
 have m1:over^h % p=(-1) % p:=by
  have d:p ∣ (over^h - 1)*(over^h+1):=by
   refine Int.dvd_of_emod_eq_zero ?_
   have z:=Int.emod_eq_emod_iff_emod_sub_eq_zero.mp ov
   rw [show over^(2*h)=over^h*over^h by rw [show 2*h=h+h by omega,Int.pow_add]] at z
   rw [show (over^h - 1)*(over^h+1)=over^h*over^h - 1 by grind]
   exact z
  rcases Pr.euclid hp d with z | z
  ·exact absurd (Int.emod_eq_emod_iff_emod_sub_eq_zero.mpr (Int.emod_eq_zero_of_dvd z)) c
  ·exact Int.emod_eq_emod_iff_emod_sub_eq_zero.mpr (Int.emod_eq_zero_of_dvd (by rw [Int.sub_neg]; exact z))
 refine ⟨?_,?_,tu_next h0 T.two (T.tu h0),a⟩
 ·have e1:(root*turner % p)*(root*turner % p) % p=(root*root)*(turner*turner) % p:=by
   rw [Pw.mulC (Pw.restC _ _) (Pw.restC _ _)]
   congr 1
   grind
  have e2:n*(over*turner*turner % p) % p=(n*over)*(turner*turner) % p:=by
   rw [Pw.mulC rfl (Pw.restC _ _)]
   congr 1
   grind
  rw [e1,e2]
  exact Pw.mulC T.ro rfl
 ·rw [b,Pw.powC (Pw.restC _ _),Int.mul_assoc,Int.mul_pow,sq_pow,Pw.mulC m1 (T.tu h0)]
  rfl
theorem Ton.done {p n root over turner:Int} (T:Ton p n root over turner 0):root*root % p=n % p:=by
 have ov:=T.ov
 rw [if_pos rfl,Int.pow_succ,Int.pow_zero,Int.one_mul] at ov
 rw [T.ro,Pw.mulC rfl ov,Int.mul_one]
theorem ton_start {p n z:Int} {o:Nat} {e:Nat} (hp:Prm p) (po:p % 2=1) (hn:J n p=1) (hz:J z p=-1) (oo:o % 2=1) (pe:p - 1=2^e*(o:Int)) (e1:1<=e) :
  Ton p n (Pw.PM n ((o+1) / 2) p) (Pw.PM n o p) (Pw.PM z o p) (2^e / 4):=by
 have p2:=hp.two
 have hf:(p / 2).toNat=o*2^(e - 1):=by
  obtain ⟨k,rfl⟩:∃ k,e=k+1:=⟨e - 1,by omega⟩
  have q:p - 1=2*((o*2^k:Nat):Int):=by
   rw [pe,Int.pow_succ,Int.natCast_mul,Int.natCast_pow]
   show (2:Int)^k*2*(o:Int)=2*((o:Int)*2^k)
   grind
  rw [show k+1 - 1=k by omega]
  omega
 have en:n^(o*2^(e - 1)) % p=1 % p:=by
  have h:=euler hp po n
  rw [hf,hn,Pw.PM_eq] at h
  exact h
 have ez:z^(o*2^(e - 1)) % p=(-1) % p:=by
  have h:=euler hp po z
  rw [hf,hz,Pw.PM_eq] at h
  exact h
 refine ⟨?_,?_,fun h0=>?_,?_⟩
 ·have h:=(Pw.PM_add n p ((o+1) / 2) ((o+1) / 2)).symm
  rw [h,show (o+1) / 2+(o+1) / 2=o+1 by omega,Pw.PM_succ,Int.mul_comm]
 ·rw [Pw.PM_eq,Pw.powC (Pw.restC _ _),<- Int.pow_mul]
  have k:(if 2^e / 4=0 then 1 else 2*(2^e / 4))=2^(e - 1):=by
   rcases (show e=1\/2<=e by omega) with z | z
   ·subst z; rfl
   ·obtain ⟨j,rfl⟩:∃ j,e=j+2:=⟨e - 2,by omega⟩
    have p:0 < 2^j:=Nat.pow_pos (by decide)
    rw [show j+2 - 1=j+1 by omega,Nat.pow_succ,Nat.pow_succ,if_neg (by omega)]
    omega
  rw [k]
  exact en
 ·rw [Pw.PM_eq,Pw.powC (Pw.restC _ _),<- Int.pow_mul]
  have k:2*(2^e / 4)=2^(e - 1):=by
   rcases (show e=1\/2<=e by omega) with z | z
   ·subst z; exact absurd rfl h0
   ·obtain ⟨j,rfl⟩:∃ j,e=j+2:=⟨e - 2,by omega⟩
    rw [show j+2 - 1=j+1 by omega,Nat.pow_succ,Nat.pow_succ]
    omega
  rw [k]
  exact ez
 ·rcases (show e=1\/2<=e by omega) with z | z
  ·subst z; exact .inl rfl
  ·obtain ⟨j,rfl⟩:∃ j,e=j+2:=⟨e - 2,by omega⟩
   refine .inr ⟨j,?_⟩
   rw [Nat.pow_succ,Nat.pow_succ]
   omega
end Jc
namespace Jc
open Pr (Prm)
theorem ton_end {p n:Int} (hp:Prm p):∀ (m h:Nat),h<=m->∀ (root over turner:Int),Ton p n root over turner h->∃ r:Int,r*r % p=n % p
 | m,0,_,root,over,turner,T=>⟨root,T.done⟩
 | 0,h+1,hm,_,_,_,_=>by omega
 | m+1,h+1,hm,root,over,turner,T=>by
  by_cases c:over^(h+1) % p=1 % p
  ·exact ton_end hp m ((h+1) / 2) (by omega) _ _ _ (T.keep (by omega) c)
  ·exact ton_end hp m ((h+1) / 2) (by omega) _ _ _ (T.turn hp (by omega) c)
theorem twos:∀ (m k:Nat),k<=m->0 < k->∃ e o:Nat,o % 2=1/\k=2^e*o
 | 0,k,h,h0=>by omega
 | m+1,k,h,h0=>by
  by_cases c:k % 2=1
  ·exact ⟨0,k,c,by simp⟩
  ·obtain ⟨e,o,oo,ek⟩:=twos m (k / 2) (by omega) (by omega)
   refine ⟨e+1,o,oo,?_⟩
   have:k=2*(k / 2):=by omega
   rw [this,ek,Nat.pow_succ]
   grind
theorem root_ex {p n:Int} (hp:Prm p) (n2:p ≠ 2) (hn:J n p=1):∃ r:Int,p ∣ r*r - n:=by
 have po:=prm_odd hp n2
 have p2:=hp.two
 obtain ⟨z,_,_,hz⟩:=non_ex hp n2
 obtain ⟨e,o,oo,ek⟩:=twos (p - 1).toNat (p - 1).toNat (Nat.le_refl _) (by omega)
 have e1:1<=e:=by
  cases e with
  | zero=>simp at ek; omega
  | succ e=>omega
 have pe:p - 1=2^e*(o:Int):=by
  have:((p - 1).toNat:Int)=p - 1:=by omega
  rw [<- this,ek,Int.natCast_mul,Int.natCast_pow]
  rfl
 obtain ⟨r,hr⟩:=ton_end hp _ _ (Nat.le_refl _) _ _ _ (ton_start hp po hn hz oo pe e1)
 exact ⟨r,Int.dvd_of_emod_eq_zero (Int.emod_eq_emod_iff_emod_sub_eq_zero.mp hr)⟩
theorem Dg.smul (d:Int):∀ {k:Nat} {c:Int} {f:Int->Int},Dg k c f->Dg k (d*c) (fun x=>d*f x)
 | 0,c,f,h=>fun x=>by show d*f x=d*c; rw [h x]
 | k+1,c,f,h=>by
  have h1:Dg k (((k:Int)+1)*c) (Df f):=h
  have:=Dg.smul d (k:=k) h1
  show Dg k (((k:Int)+1)*(d*c)) _
  rw [show ((k:Int)+1)*(d*c)=d*(((k:Int)+1)*c) by grind]
  exact this.congr fun x=>by show d*(f (x+1) - f x)=d*f (x+1) - d*f x; grind
theorem Dg.quad (D N:Int) {k:Nat} {c:Int} {f:Int->Int} (h:Dg k c f):Dg (k+2) (-D*c) (fun x=>-(D*(x*x)+N)*f x):=by
 have a:=(h.mulx.mulx).smul (-D)
 have b:=(h.smul (-N)).up.up
 have s:=a.add b
 rw [Int.add_zero] at s
 exact s.congr fun x=>by grind
theorem dg_quad (D N:Int):∀ h:Nat,Dg (2*h) ((-D)^h) (fun x=>(-(D*(x*x)+N))^h)
 | 0=>fun x=>by simp
 | h+1=>by
  have:=(dg_quad D N h).quad D N
  rw [show 2*(h+1)=2*h+2 by omega,Int.pow_succ,Int.mul_comm ((-D)^h)]
  exact this.congr fun x=>by rw [Int.pow_succ,Int.mul_comm]
theorem prm_pow {p x:Int} (hp:Prm p):∀ k:Nat,p ∣ x^k->p ∣ x
 | 0,h=>by
  rw [Int.pow_zero] at h
  exact absurd h (Pr.prm_not_one hp)
 | k+1,h=>by
  rw [Int.pow_succ] at h
  rcases Pr.euclid hp h with z | z
  ·exact prm_pow hp k z
  ·exact z
theorem conic_ex {p D N:Int} (hp:Prm p) (n2:p ≠ 2) (hD:¬ p ∣ D):∃ X Y:Int,p ∣ Y*Y+(D*(X*X)+N):=Classical.byContradiction fun no=>by
 have po:=prm_odd hp n2
 have p3:3<=p:=by have:=hp.two; omega
 have neg:∀ X:Int,J (-(D*(X*X)+N)) p=-1:=fun X=>by
  have nd:¬ p ∣ -(D*(X*X)+N):=fun h=>no ⟨X,0,by simpa using Int.dvd_neg.mp h⟩
  have u:=J_unit hp nd
  rcases J_or (-(D*(X*X)+N)) p with e | e | e
  ·obtain ⟨r,hr⟩:=root_ex hp n2 e
   refine absurd ⟨X,r,?_⟩ no
   rwa [Int.sub_neg] at hr
  ·rw [e] at u; cases u
  ·exact e
 obtain ⟨k,hk⟩:∃ k:Nat,(p / 2).toNat=k+1:=⟨(p / 2).toNat - 1,by omega⟩
 have f0:Dg (2*(k+1)) ((-D)^(k+1)) (fun x=>(-(D*(x*x)+N))^(k+1)+1):=by
  have c0:∀ m:Nat,Dg (m+1) 0 (fun _=>(1:Int)):=fun m=>by
   induction m with
   | zero=>exact Dg.up (k:=0) (c:=1) fun _=>rfl
   | succ m ih=>exact ih.up
  have:=(dg_quad D N (k+1)).add (c0 (2*k+1))
  rwa [Int.add_zero] at this
 have:=Dg.zero (p:=p) f0 0 fun j hj=>by
  have e:=euler hp po (-(D*((0+(j:Int))*(0+(j:Int)))+N))
  rw [neg,hk,Pw.PM_eq] at e
  show p ∣ (-(D*((0+(j:Int))*(0+(j:Int)))+N))^(k+1)+1
  refine Int.dvd_of_emod_eq_zero ?_
  have:=Int.emod_eq_emod_iff_emod_sub_eq_zero.mp e
  rwa [Int.sub_neg] at this
 rcases Pr.euclid hp this with z | z
 ·exact hD (Int.dvd_neg.mp (prm_pow hp _ z))
 ·exact PN_unit hp (2*(k+1)) (by omega) z
end Jc
namespace Jc
open Pr (Prm)
def noDivs (p:Nat) (m:Nat):Bool:=(List.range m).all fun k=>Nat.ble k 1 || !(p % k == 0)
theorem prm_by {p m:Nat} (p2:2<=p) (hm:p < m*m) (h:noDivs p m=true):Prm (p:Int):=by
 refine ⟨by omega,fun k k2 kk hd=>?_⟩
 obtain ⟨j,rfl⟩:∃ j:Nat,k=(j:Int):=⟨k.toNat,by omega⟩
 have jj:j*j<=p:=by
  have:((j*j:Nat):Int)<=(p:Int):=by rw [Int.natCast_mul]; exact kk
  omega
 have jm:j < m:=by
  rcases Nat.lt_or_ge j m with z | z
  ·exact z
  ·have:=Nat.mul_le_mul z z
   omega
 have c:=List.all_eq_true.mp h j (List.mem_range.mpr jm)
 have d:p % j=0:=Nat.mod_eq_zero_of_dvd (Int.natCast_dvd_natCast.mp hd)
 rw [d] at c
 have c':Nat.ble j 1=true:=by simpa using c
 have:=Nat.le_of_ble_eq_true c'
 omega
end Jc
namespace Jc
open Pr (Prm)
def HS (p a b v:Int):Prop:=∃ l1 o1 l2 o2,Dec a p l1 o1/\Dec b p l2 o2/\v=hs p o1 l1 o2 l2
open Classical in
noncomputable def H (p a b:Int):Int:=if h:∃ v,HS p a b v then choose h else 1
theorem H_eq {p a b l1 o1 l2 o2:Int} (hp:Prm p) (d1:Dec a p l1 o1) (d2:Dec b p l2 o2):H p a b=hs p o1 l1 o2 l2:=by
 have h:∃ v,HS p a b v:=⟨_,l1,o1,l2,o2,d1,d2,rfl⟩
 unfold H
 rw [dif_pos h]
 obtain ⟨m1,q1,m2,q2,e1,e2,e3⟩:=Classical.choose_spec h
 have p0:p ≠ 0:=by have:=hp.two; omega
 obtain ⟨rfl,rfl⟩:=e1.unique p0 d1
 obtain ⟨rfl,rfl⟩:=e2.unique p0 d2
 exact e3
theorem decs {p x:Int} (hp:Prm p) (h:x ≠ 0):∃ l o,Dec x p l o:=dec_ex hp.two _ x h (Nat.le_refl _)
theorem dec_out {p x:Int} (h:¬ p ∣ x):Dec x p x 0:=⟨by simp,by decide,h⟩
def inf (a b:Int):Int:=if a < 0/\b < 0 then -1 else 1
section
variable {L:List Int}
theorem prm_2:Prm 2:=prm_by (p:=2) (m:=2) (by decide) (by decide) (by decide)
end
end Jc
namespace Jc
def ordR (p r:Nat):Int:=if r % p=0 then 1 else 0
def unitR (p r:Nat):Int:=if r % p=0 then (r / p:Nat) else (r:Nat)
def hsR (p ra rb:Nat):Int:=hs p (ordR p ra) (unitR p ra) (ordR p rb) (unitR p rb)
end Jc
namespace Jc
theorem two4_cong {o1 l1 o2 l2 l1' l2':Int} (h1:l1 % 8=l1' % 8) (h2:l2 % 8=l2' % 8):two4 o1 l1 o2 l2=two4 o1 l1' o2 l2':=by
 unfold two4
 have t1:twoI l1=twoI l1':=by unfold twoI; rw [h1]
 have t2:twoI l2=twoI l2':=by unfold twoI; rw [h2]
 have t3:turnI l1 l2=turnI l1' l2':=by
  unfold turnI
  rw [show l1 % 4=l1' % 4 by omega,show l2 % 4=l2' % 4 by omega]
 rw [t1,t2,t3]
theorem dec_few {a p l o:Int} (p0:p ≠ 0) (d:Dec a p l o) (h:¬ p*p ∣ a):(o=0/\a=l)\/(o=1/\a=p*l):=by
 have o0:=d.o0
 have e:=d.eq
 rcases (show o=0\/o=1\/2<=o by omega) with z | z | z
 ·rw [z,show (0:Int).toNat=0 from rfl,Int.pow_zero,Int.one_mul] at e
  exact .inl ⟨z,e⟩
 ·rw [z,show (1:Int).toNat=1 from rfl,Int.pow_succ,Int.pow_zero,Int.one_mul] at e
  exact .inr ⟨z,e⟩
 ·exfalso
  obtain ⟨k,hk⟩:∃ k,o.toNat=k+2:=⟨o.toNat - 2,by omega⟩
  rw [hk,Int.pow_succ,Int.pow_succ] at e
  exact h ⟨p^k*l,by rw [e]; grind⟩
theorem decR2 {a l o:Int} (d:Dec a 2 l o) (h:¬ (2:Int)*2 ∣ a):o=ordR 2 (a % (16:Nat)).toNat/\l % 8=unitR 2 (a % (16:Nat)).toNat % 8/\(a % (16:Nat)).toNat % (2*2) ≠ 0:=by
 have nd:=d.nd
 have h':¬ (4:Int) ∣ a:=h
 unfold ordR unitR
 rcases dec_few (by decide) d h with ⟨z,e⟩ | ⟨z,e⟩
 ·subst z
  subst e
  rw [if_neg (show ¬ (a % (16:Nat)).toNat % 2=0 by omega),if_neg (show ¬ (a % (16:Nat)).toNat % 2=0 by omega)]
  omega
 ·subst z
  rw [if_pos (show (a % (16:Nat)).toNat % 2=0 by omega),if_pos (show (a % (16:Nat)).toNat % 2=0 by omega)]
  omega
end Jc
namespace Pl
open Jc
def F27 (a b c:Nat):Bool:=[0,1,4].any fun x=>[0,1,4].any fun y=>[0,1,4].any fun z=>(x == 1 || y == 1 || z == 1) && (a*x+b*y+c*z) % 8 == 0
def adm (a b c:Nat):Bool:=(a % 4 != 0) && (b % 4 != 0) && (c % 4 != 0) && !(a % 2 == 0 && b % 2 == 0) && !(b % 2 == 0 && c % 2 == 0) && !(c % 2 == 0 && a % 2 == 0)
def chk2 (a b c:Nat):Bool:=!(adm a b c) || (decide (hsR 2 ((16 - a)*c % 16) ((16 - b)*c % 16)=-1) == !(F27 a b c))
theorem chk2_all:((List.range 16).all fun a=>(List.range 16).all fun b=>(List.range 16).all fun c=>chk2 a b c)=true:=by decide +kernel
end Pl
namespace Pl
open Pr (Prm Told)
open Jc
theorem mem_dvd {p:Int}:∀ {ps:List Int},p ∈ ps->p ∣ ps.prod
 | q :: r,h=>by
  rw [List.prod_cons]
  rcases List.mem_cons.mp h with rfl | h
  ·exact Int.dvd_mul_right _ _
  ·exact Int.dvd_trans (mem_dvd h) (Int.dvd_mul_left _ _)
theorem prm_mem {p:Int} (hp:Prm p):∀ {ps:List Int},(∀ q ∈ ps,Prm q)->p ∣ ps.prod->p ∈ ps
 | [],_,hd=>absurd hd (by rw [List.prod_nil]; exact Pr.prm_not_one hp)
 | q :: r,h,hd=>by
  rw [List.prod_cons] at hd
  rcases Pr.euclid hp hd with z | z
  ·rw [Pr.prm_dvd_prm hp (h q (List.mem_cons_self ..)) z]
   exact List.mem_cons_self ..
  ·exact List.mem_cons_of_mem _ (prm_mem hp (fun x m=>h x (List.mem_cons_of_mem _ m)) z)
theorem no_sq {p:Int} (hp:Prm p):∀ {ps:List Int},(∀ q ∈ ps,Prm q)->ps.Nodup->¬ p*p ∣ ps.prod
 | [],_,_,hd=>Pr.prm_not_one hp (by rw [List.prod_nil] at hd; exact Int.dvd_trans (Int.dvd_mul_right _ _) hd)
 | q :: r,h,nd,hd=>by
  rw [List.prod_cons] at hd
  obtain ⟨n1,n2⟩:=List.nodup_cons.mp nd
  have hr:∀ x ∈ r,Prm x:=fun x m=>h x (List.mem_cons_of_mem _ m)
  have hq:=h q (List.mem_cons_self ..)
  have p0:p ≠ 0:=by have:=hp.two; omega
  by_cases e:p=q
  ·subst e
   have:p ∣ r.prod:=Int.dvd_of_mul_dvd_mul_left p0 hd
   exact n1 (prm_mem hp hr this)
  ·have nq:¬ p ∣ q:=fun z=>e (Pr.prm_dvd_prm hp hq z)
   have d1:p ∣ r.prod:=(Pr.euclid hp (Int.dvd_trans (Int.dvd_mul_right _ _) hd)).resolve_left nq
   obtain ⟨R,eR⟩:=d1
   rw [eR,show q*(p*R)=p*(q*R) by grind] at hd
   have d2:p ∣ q*R:=Int.dvd_of_mul_dvd_mul_left p0 hd
   obtain ⟨S,eS⟩:=(Pr.euclid hp d2).resolve_left nq
   exact no_sq hp hr n2 ⟨S,by rw [eR,eS]; grind⟩
structure Pln (a b c:Int):Prop where
 a0:a ≠ 0
 b0:b ≠ 0
 c0:c ≠ 0
 sa:∀ p,Prm p->¬ p*p ∣ a
 sb:∀ p,Prm p->¬ p*p ∣ b
 sc:∀ p,Prm p->¬ p*p ∣ c
 ab:∀ p,Prm p->p ∣ a->¬ p ∣ b
 bc:∀ p,Prm p->p ∣ b->¬ p ∣ c
 ca:∀ p,Prm p->p ∣ c->¬ p ∣ a
theorem Pln.rot {a b c:Int} (h:Pln a b c):Pln b c a:=⟨h.b0,h.c0,h.a0,h.sb,h.sc,h.sa,h.bc,h.ca,h.ab⟩
theorem root_one {n:Int} {xs:List (Int × Int)} (h:Told n xs) (sq:∀ p,Prm p->¬ p*p ∣ n):Pr.rootP xs=1:=by
 have r1:=Pr.rootP_pos h.all
 by_cases e:Pr.rootP xs=1
 ·exact e
 ·obtain ⟨q,hq,hd⟩:=Pr.prm_some (Pr.rootP xs).toNat (Pr.rootP xs) (by omega) (Nat.le_refl _)
  exfalso
  refine sq q hq ?_
  rw [<- h.prod,<- Pr.core_root h.all,Int.mul_assoc]
  exact Int.dvd_trans (Int.mul_dvd_mul hd hd) (Int.dvd_mul_left _ _)
theorem gcd_one {a b g:Int} (h:∀ p,Prm p->p ∣ a->¬ p ∣ b) (a0:a ≠ 0) (g0:0<=g) (ga:g ∣ a) (gb:g ∣ b):g=1:=by
 by_cases e:g=1
 ·exact e
 ·exfalso
  have gn:g ≠ 0:=fun z=>a0 (Int.zero_dvd.mp (z ▸ ga))
  obtain ⟨q,hq,hd⟩:=Pr.prm_some g.toNat g (by omega) (Nat.le_refl _)
  exact h q hq (Int.dvd_trans hd ga) (Int.dvd_trans hd gb)
theorem told_mem {n:Int} {xs:List (Int × Int)} (h:Told n xs) {p:Int}:p ∈ xs.map (·.1) ↔ Prm p/\p ∣ n:=by
 constructor
 ·intro m
  obtain ⟨x,hx,rfl⟩:=List.mem_map.mp m
  have pt:=h.all x hx
  refine ⟨pt.prime,?_⟩
  rw [<- h.prod]
  clear h
  induction xs with
  | nil=>cases hx
  | cons y ys ih=>
   rcases List.mem_cons.mp hx with rfl | hx
   ·exact Pr.told_cons_dvd pt
   ·have:=ih hx (List.mem_map.mpr ⟨x,hx,rfl⟩)
    exact Int.dvd_trans this (Int.dvd_mul_left _ _)
 ·rintro ⟨hp,hd⟩
  rw [<- h.prod] at hd
  obtain ⟨x,hx,e⟩:=Pr.prm_in hp h.all hd
  exact List.mem_map.mpr ⟨x,hx,e⟩
def Rt (x p:Int):Prop:=∃ r:Int,p ∣ r*r - x
def Fit8 (a b c:Int):Prop:=∃ x y z:Int,(x % 2=1\/y % 2=1\/z % 2=1)/\(a*x*x+b*y*y+c*z*z) % 8=0
def Bad (a b c x:Int):Prop:=(x=0/\((a < 0/\b < 0/\c < 0)\/(0 < a/\0 < b/\0 < c)))\/(x=2/\¬ Fit8 a b c) \/
 (Prm x/\x ≠ 2/\((x ∣ a/\¬ Rt (-(b*c)) x)\/(x ∣ b/\¬ Rt (-(c*a)) x)\/(x ∣ c/\¬ Rt (-(a*b)) x)))
theorem Fit8.rot {a b c:Int} (h:Fit8 a b c):Fit8 b c a:=by
 obtain ⟨x,y,z,o,e⟩:=h
 exact ⟨y,z,x,by omega,by rw [<- e]; congr 1; omega⟩
theorem bad_zero {a b c:Int} (P:Pln a b c):(if -a*c < 0/\-b*c < 0 then (-1:Int) else 1)=-1 ↔ Bad a b c 0:=by
 have eb:Bad a b c 0 ↔ ((a < 0/\b < 0/\c < 0)\/(0 < a/\0 < b/\0 < c)):=by
  constructor
  ·rintro (⟨_,z⟩ | ⟨z,_⟩ | ⟨hp,_,_⟩)
   ·exact z
   ·cases z
   ·have:=hp.two
    omega
  ·exact fun z=>.inl ⟨rfl,z⟩
 rw [eb]
 have key:∀ x:Int,x ≠ 0->(-x*c < 0 ↔ (x < 0/\c < 0)\/(0 < x/\0 < c)):=by
  intro x hx
  have c0:=P.c0
  rw [Int.neg_mul]
  rcases Int.lt_or_gt_of_ne hx with h | h <;> rcases Int.lt_or_gt_of_ne c0 with k | k
  ·have:=Int.mul_pos_of_neg_of_neg h k
   omega
  ·have:=Int.mul_neg_of_neg_of_pos h k
   omega
  ·have:=Int.mul_neg_of_pos_of_neg h k
   omega
  ·have:=Int.mul_pos h k
   omega
 have ka:=key a P.a0
 have kb:=key b P.b0
 split
 ·rename_i h
  have:=ka.mp h.1
  have:=kb.mp h.2
  constructor
  ·intro _
   omega
  ·intro _
   rfl
 ·rename_i h
  constructor
  ·intro z
   cases z
  ·intro z
   exact absurd ⟨ka.mpr (by omega),kb.mpr (by omega)⟩ h
theorem sq8 (x:Int):(x % 2=1/\x*x % 8=1)\/(x % 2=0/\(x*x % 8=0\/x*x % 8=4)):=by
 have h:x % 8=0\/x % 8=1\/x % 8=2\/x % 8=3\/x % 8=4\/x % 8=5\/x % 8=6\/x % 8=7:=by omega
 rcases h with h | h | h | h | h | h | h | h
 all_goals (rw [Int.mul_emod,h])
 all_goals (have:x % 2=x % 8 % 2:=by omega)
 all_goals (rw [h] at this)
 all_goals (rw [this])
 all_goals decide
theorem f27_iff (a b c:Nat):F27 a b c=true ↔ ∃ x y z:Nat,x ∈ [0,1,4]/\y ∈ [0,1,4]/\z ∈ [0,1,4]/\(x=1\/y=1\/z=1)/\(a*x+b*y+c*z) % 8=0:=by
 unfold F27
 constructor
 ·intro h
  obtain ⟨x,hx,h⟩:=List.any_eq_true.mp h
  obtain ⟨y,hy,h⟩:=List.any_eq_true.mp h
  obtain ⟨z,hz,h⟩:=List.any_eq_true.mp h
  rw [Bool.and_eq_true,Bool.or_eq_true,Bool.or_eq_true] at h
  refine ⟨x,y,z,hx,hy,hz,?_,by simpa using h.2⟩
  rcases h.1 with (w | w) | w
  ·exact .inl (by simpa using w)
  ·exact .inr (.inl (by simpa using w))
  ·exact .inr (.inr (by simpa using w))
 ·rintro ⟨x,y,z,hx,hy,hz,o,e⟩
  refine List.any_eq_true.mpr ⟨x,hx,List.any_eq_true.mpr ⟨y,hy,List.any_eq_true.mpr ⟨z,hz,?_⟩⟩⟩
  rw [Bool.and_eq_true,Bool.or_eq_true,Bool.or_eq_true]
  refine ⟨?_,by simpa using e⟩
  rcases o with o | o | o
  ·exact .inl (.inl (by simpa using o))
  ·exact .inl (.inr (by simpa using o))
  ·exact .inr (by simpa using o)
theorem sq_in (x:Int):(x*x % 8).toNat ∈ [0,1,4]:=by
 rcases sq8 x with ⟨_,h⟩ | ⟨_,h | h⟩ <;> rw [h] <;> decide
theorem val8 (a b c x y z:Int):(((a % 16).toNat*(x*x % 8).toNat+(b % 16).toNat*(y*y % 8).toNat+(c % 16).toNat*(z*z % 8).toNat) % 8=0) ↔ (a*x*x+b*y*y+c*z*z) % 8=0:=by
 have k:∀ u v:Int,(((u % 16).toNat*(v*v % 8).toNat:Nat):Int) % 8=(u*v*v) % 8:=by
  intro u v
  have h1:=Int.emod_nonneg u (show (16:Int) ≠ 0 by decide)
  have h2:=Int.emod_nonneg (v*v) (show (8:Int) ≠ 0 by decide)
  rw [Int.natCast_mul,Int.toNat_of_nonneg h1,Int.toNat_of_nonneg h2,Int.mul_assoc u v v,Int.mul_emod,Int.mul_emod u (v*v),Int.emod_emod_of_dvd u (by decide:(8:Int) ∣ 16),Int.emod_emod_of_dvd (v*v) (Int.dvd_refl 8)]
 have ka:=k a x
 have kb:=k b y
 have kc:=k c z
 generalize (a % 16).toNat*(x*x % 8).toNat=A at *
 generalize (b % 16).toNat*(y*y % 8).toNat=B at *
 generalize (c % 16).toNat*(z*z % 8).toNat=C at *
 generalize a*x*x=A' at *
 generalize b*y*y=B' at *
 generalize c*z*z=C' at *
 omega
theorem fit_iff (a b c:Int):Fit8 a b c ↔ F27 (a % 16).toNat (b % 16).toNat (c % 16).toNat=true:=by
 rw [f27_iff]
 constructor
 ·rintro ⟨x,y,z,o,e⟩
  refine ⟨_,_,_,sq_in x,sq_in y,sq_in z,?_,(val8 a b c x y z).mpr e⟩
  have kx:=sq8 x
  have ky:=sq8 y
  have kz:=sq8 z
  generalize x*x % 8=X at *
  generalize y*y % 8=Y at *
  generalize z*z % 8=Z at *
  omega
 ·rintro ⟨x,y,z,hx,hy,hz,o,e⟩
  have rt:∀ x:Nat,x ∈ [0,1,4]->∃ r:Int,(r*r % 8).toNat=x/\(x=1->r % 2=1):=by
   intro x hx
   rcases List.mem_cons.mp hx with rfl | hx
   ·exact ⟨0,rfl,by decide⟩
   ·rcases List.mem_cons.mp hx with rfl | hx
    ·exact ⟨1,rfl,by decide⟩
    ·rcases List.mem_cons.mp hx with rfl | hx
     ·exact ⟨2,rfl,by decide⟩
     ·cases hx
  obtain ⟨r,er,or⟩:=rt x hx
  obtain ⟨s,es,os⟩:=rt y hy
  obtain ⟨t,et,ot⟩:=rt z hz
  refine ⟨r,s,t,?_,(val8 a b c r s t).mp (by rw [er,es,et]; exact e)⟩
  rcases o with o | o | o
  ·exact .inl (or o)
  ·exact .inr (.inl (os o))
  ·exact .inr (.inr (ot o))
theorem prm2:Prm 2:=⟨by decide,fun k h1 h2=>by have:=Int.mul_le_mul h1 h1 (by decide) (by omega); omega⟩
theorem neg_mod (a c:Int):((-a*c) % (16:Nat)).toNat=(16 - (a % 16).toNat)*(c % 16).toNat % 16:=by
 have a0:=Int.emod_nonneg a (show (16:Int) ≠ 0 by decide)
 have a1:=Int.emod_lt_of_pos a (show (0:Int) < 16 by decide)
 have c0:=Int.emod_nonneg c (show (16:Int) ≠ 0 by decide)
 have e:(((16 - (a % 16).toNat)*(c % 16).toNat % 16:Nat):Int)=(-a*c) % 16:=by
  rw [Int.natCast_emod,Int.natCast_mul,Int.toNat_of_nonneg c0,show ((16 - (a % 16).toNat:Nat):Int)=16 - a % 16 by omega]
  show (16 - a % 16)*(c % 16) % 16=_
  rw [Int.mul_emod,Int.emod_emod_of_dvd c (Int.dvd_refl 16),show (16 - a % 16) % 16=(-a) % 16 by omega,<- Int.mul_emod]
 show ((-a*c) % 16).toNat=_
 omega
theorem mod4_of {x:Int} (h:x % 4 ≠ 0):(x % 16).toNat % 4 ≠ 0:=by omega
theorem ev2 {x y:Int} (h:¬ (x % 2=0/\y % 2=0)):((x % 16).toNat % 2 == 0 && (y % 16).toNat % 2 == 0)=false:=by
 rw [Bool.and_eq_false_iff,beq_eq_false_iff_ne,beq_eq_false_iff_ne]
 by_cases k:x % 2=0
 ·have:¬ y % 2=0:=fun z=>h ⟨k,z⟩
  right
  clear h k
  omega
 ·left
  clear h
  omega
theorem adm_of {x y z:Nat} (hx:x % 4 ≠ 0) (hy:y % 4 ≠ 0) (hz:z % 4 ≠ 0) (h1:(x % 2 == 0 && y % 2 == 0)=false) (h2:(y % 2 == 0 && z % 2 == 0)=false) (h3:(z % 2 == 0 && x % 2 == 0)=false):adm x y z=true:=by
 unfold adm
 rw [h1,h2,h3,(bne_iff_ne (a:=x % 4) (b:=0)).mpr hx,(bne_iff_ne (a:=y % 4) (b:=0)).mpr hy,(bne_iff_ne (a:=z % 4) (b:=0)).mpr hz]
 rfl
theorem bad_two {a b c:Int} (P:Pln a b c) {o1 l1 o2 l2:Int} (d1:Dec (-a*c) 2 l1 o1) (d2:Dec (-b*c) 2 l2 o2):hs 2 o1 l1 o2 l2=-1 ↔ Bad a b c 2:=by
 have eb:Bad a b c 2 ↔ ¬ Fit8 a b c:=by
  constructor
  ·rintro (⟨z,_⟩ | ⟨_,z⟩ | ⟨_,z,_⟩)
   ·cases z
   ·exact z
   ·exact absurd rfl z
  ·exact fun z=>.inr (.inl ⟨rfl,z⟩)
 rw [eb,fit_iff]
 have s4:∀ {x:Int},(∀ p,Prm p->¬ p*p ∣ x)->x % 4 ≠ 0:=fun h z=>h 2 prm2 (Int.dvd_of_emod_eq_zero z)
 have a4:=s4 P.sa
 have b4:=s4 P.sb
 have c4:=s4 P.sc
 have cop:∀ {x y:Int},(∀ p,Prm p->p ∣ x->¬ p ∣ y)->¬ (x % 2=0/\y % 2=0):=fun h z=>h 2 prm2 (Int.dvd_of_emod_eq_zero z.1) (Int.dvd_of_emod_eq_zero z.2)
 have ab:=cop P.ab
 have bc:=cop P.bc
 have ca:=cop P.ca
 have n4:∀ {x:Int},x % 4 ≠ 0->¬ (x % 2=0/\c % 2=0)->¬ (2:Int)*2 ∣ -x*c:=by
  intro x hx hn z
  have z':=Int.emod_eq_zero_of_dvd z
  have e:(-x*c) % 4=((-x) % 4)*(c % 4) % 4:=Int.mul_emod _ _ _
  have z2:(-x) % 4*(c % 4) % 4=0:=by rw [<- e]; exact z'
  have hx':(-x) % 4=1\/(-x) % 4=2\/(-x) % 4=3:=by omega
  have hc':c % 4=1\/c % 4=2\/c % 4=3:=by omega
  rcases hx' with h1 | h1 | h1 <;> rcases hc' with h2 | h2 | h2 <;> rw [h1,h2] at z2 <;> first | omega | cases z2
 obtain ⟨e1,f1,_⟩:=decR2 d1 (n4 a4 (fun z=>ca ⟨z.2,z.1⟩))
 obtain ⟨e2,f2,_⟩:=decR2 d2 (n4 b4 bc)
 rw [neg_mod] at e1 f1 e2 f2
 have ra:(a % 16).toNat < 16:=by omega
 have rb:(b % 16).toNat < 16:=by omega
 have rc:(c % 16).toNat < 16:=by omega
 have ch:=List.all_eq_true.mp (List.all_eq_true.mp (List.all_eq_true.mp chk2_all _ (List.mem_range.mpr ra)) _ (List.mem_range.mpr rb)) _ (List.mem_range.mpr rc)
 have ad:adm (a % 16).toNat (b % 16).toNat (c % 16).toNat=true:=by
  have k4:∀ {x:Int},x % 4 ≠ 0->(x % 16).toNat % 4 ≠ 0:=mod4_of
  exact adm_of (k4 a4) (k4 b4) (k4 c4) (ev2 ab) (ev2 bc) (ev2 ca)
 unfold chk2 at ch
 rw [ad] at ch
 have ch':(decide (hsR 2 ((16 - (a % 16).toNat)*(c % 16).toNat % 16) ((16 - (b % 16).toNat)*(c % 16).toNat % 16)=-1) == !(F27 (a % 16).toNat (b % 16).toNat (c % 16).toNat))=true:=by simpa using ch
 have hv:hs 2 o1 l1 o2 l2=hsR 2 ((16 - (a % 16).toNat)*(c % 16).toNat % 16) ((16 - (b % 16).toNat)*(c % 16).toNat % 16):=by
  unfold hsR hs
  rw [if_pos rfl,if_pos (show ((2:Nat):Int)=2 from rfl),e1,e2]
  exact two4_cong f1 f2
 rw [hv]
 have ch2:=eq_of_beq ch'
 cases hF:F27 (a % 16).toNat (b % 16).toNat (c % 16).toNat with
 | true=>
  rw [hF] at ch2
  constructor
  ·intro z
   rw [decide_eq_true z] at ch2
   cases ch2
  ·intro z
   exact absurd rfl z
 | false=>
  rw [hF] at ch2
  constructor
  ·intro _ z
   cases z
  ·intro _
   exact of_decide_eq_true ch2
end Pl
namespace Jc
open Pr (Prm)
noncomputable def At0 (a b x:Int):Int:=if x=0 then inf a b else H x a b
theorem at_a {a b c p l:Int} (hp:Prm p) (n2:p ≠ 2) (ea:a=p*l) (nl:¬ p ∣ l) (nb:¬ p ∣ b) (nc:¬ p ∣ c):H p (-a*c) (-b*c)=J (-(b*c)) p:=by
 have d1:Dec (-a*c) p (-l*c) 1:=⟨by rw [ea]; show _=p^(1:Nat)*_; rw [Int.pow_succ,Int.pow_zero]; grind,by decide,fun d=>(Pr.euclid hp d).elim (fun h=>nl (Int.dvd_neg.mp h)) nc⟩
 have d2:Dec (-b*c) p (-b*c) 0:=dec_out fun d=>(Pr.euclid hp d).elim (fun h=>nb (Int.dvd_neg.mp h)) nc
 rw [H_eq hp d1 d2]
 unfold hs odd4
 rw [if_neg n2,if_pos (by decide),if_neg (by decide),Int.neg_mul]
theorem at_b {a b c p l:Int} (hp:Prm p) (n2:p ≠ 2) (eb:b=p*l) (nl:¬ p ∣ l) (na:¬ p ∣ a) (nc:¬ p ∣ c):H p (-a*c) (-b*c)=J (-(c*a)) p:=by
 have d1:Dec (-a*c) p (-a*c) 0:=dec_out fun d=>(Pr.euclid hp d).elim (fun h=>na (Int.dvd_neg.mp h)) nc
 have d2:Dec (-b*c) p (-l*c) 1:=⟨by rw [eb]; show _=p^(1:Nat)*_; rw [Int.pow_succ,Int.pow_zero]; grind,by decide,fun d=>(Pr.euclid hp d).elim (fun h=>nl (Int.dvd_neg.mp h)) nc⟩
 rw [H_eq hp d1 d2]
 unfold hs odd4
 rw [if_neg n2,if_neg (by decide),if_pos (by decide),Int.neg_mul,Int.mul_comm a c]
theorem at_c {a b c p l:Int} (hp:Prm p) (n2:p ≠ 2) (ec:c=p*l) (nl:¬ p ∣ l) (na:¬ p ∣ a) (nb:¬ p ∣ b):H p (-a*c) (-b*c)=J (-(a*b)) p:=by
 have d1:Dec (-a*c) p (-a*l) 1:=⟨by rw [ec]; show _=p^(1:Nat)*_; rw [Int.pow_succ,Int.pow_zero]; grind,by decide,fun d=>(Pr.euclid hp d).elim (fun h=>na (Int.dvd_neg.mp h)) nl⟩
 have d2:Dec (-b*c) p (-b*l) 1:=⟨by rw [ec]; show _=p^(1:Nat)*_; rw [Int.pow_succ,Int.pow_zero]; grind,by decide,fun d=>(Pr.euclid hp d).elim (fun h=>nb (Int.dvd_neg.mp h)) nl⟩
 rw [H_eq hp d1 d2]
 unfold hs odd4
 rw [if_neg n2,if_pos (by decide),if_pos (by decide)]
 have e:-(-a*l)*(-b*l)=-(a*b)*(l*l):=by grind
 have po:=prm_odd hp n2
 have p0:0 < p:=by have:=hp.two; omega
 rw [e,J_mul p0 po,J_mul p0 po l l,J_unit hp nl,Int.mul_one]
def BadJ (a b c x:Int):Prop:=(x=0/\((a < 0/\b < 0/\c < 0)\/(0 < a/\0 < b/\0 < c)))\/(x=2/\¬ Pl.Fit8 a b c) \/
 (Prm x/\x ≠ 2/\((x ∣ a/\J (-(b*c)) x=-1)\/(x ∣ b/\J (-(c*a)) x=-1)\/(x ∣ c/\J (-(a*b)) x=-1)))
theorem BadJ.rot1 {a b c x:Int} (h:BadJ a b c x):BadJ b c a x:=by
 rcases h with ⟨e,h⟩ | ⟨e,h⟩ | ⟨p,n,h⟩
 ·exact .inl ⟨e,by omega⟩
 ·exact .inr (.inl ⟨e,fun z=>h (z.rot.rot)⟩)
 ·refine .inr (.inr ⟨p,n,?_⟩)
  rcases h with h | h | h
  ·exact .inr (.inr h)
  ·exact .inl h
  ·exact .inr (.inl h)
theorem BadJ.rot {a b c x:Int}:BadJ b c a x ↔ BadJ a b c x:=⟨fun h=>h.rot1.rot1,fun h=>h.rot1⟩
theorem once1 {n p:Int} (sq:¬ p*p ∣ n) (h:p ∣ n):∃ l,n=p*l/\¬ p ∣ l:=by
 obtain ⟨l,e⟩:=h
 exact ⟨l,e,fun ⟨m,em⟩=>sq ⟨m,by rw [e,em,Int.mul_assoc]⟩⟩
theorem at0_bad {a b c x:Int} (P:Pl.Pln a b c) (h:x=0\/x=2\/(Prm x/\x ≠ 2/\(x ∣ a\/x ∣ b\/x ∣ c))):At0 (-a*c) (-b*c) x=-1 ↔ BadJ a b c x:=by
 have nz:∀ {x:Int},x ≠ 0->-x*c ≠ 0:=fun h z=>by
  rcases Int.mul_eq_zero.mp z with w | w
  ·omega
  ·exact P.c0 w
 rcases h with rfl | rfl | ⟨hp,n2,hd⟩
 ·have e:At0 (-a*c) (-b*c) 0=inf (-a*c) (-b*c):=if_pos rfl
  rw [e]
  refine (Pl.bad_zero P).trans ⟨fun h=>?_,fun h=>?_⟩
  ·rcases h with h | ⟨e,_⟩ | ⟨hp,_⟩
   ·exact .inl h
   ·cases e
   ·exact absurd hp.two (by decide)
  ·rcases h with h | ⟨e,_⟩ | ⟨hp,_⟩
   ·exact .inl h
   ·cases e
   ·exact absurd hp.two (by decide)
 ·have e:At0 (-a*c) (-b*c) 2=H 2 (-a*c) (-b*c):=if_neg (by decide)
  obtain ⟨l1,o1,d1⟩:=decs prm_2 (nz P.a0)
  obtain ⟨l2,o2,d2⟩:=decs prm_2 (nz P.b0)
  rw [e,H_eq prm_2 d1 d2]
  refine (Pl.bad_two P d1 d2).trans ⟨fun h=>?_,fun h=>?_⟩
  ·rcases h with ⟨e,_⟩ | h | ⟨_,n,_⟩
   ·cases e
   ·exact .inr (.inl h)
   ·exact absurd rfl n
  ·rcases h with ⟨e,_⟩ | h | ⟨_,n,_⟩
   ·cases e
   ·exact .inr (.inl h)
   ·exact absurd rfl n
 ·have x2:=hp.two
  have e:At0 (-a*c) (-b*c) x=H x (-a*c) (-b*c):=if_neg (by omega)
  rw [e]
  have out:∀ {A:Prop},A->((BadJ a b c x) ↔ ((x ∣ a/\J (-(b*c)) x=-1)\/(x ∣ b/\J (-(c*a)) x=-1)\/(x ∣ c/\J (-(a*b)) x=-1))):=fun _=>⟨fun h=>by
   rcases h with ⟨e,_⟩ | ⟨e,_⟩ | ⟨_,_,h⟩
   ·omega
   ·omega
   ·exact h,fun h=>.inr (.inr ⟨hp,n2,h⟩)⟩
  rw [out trivial]
  rcases hd with hd | hd | hd
  ·obtain ⟨l,el,nl⟩:=once1 (P.sa x hp) hd
   have nb:=P.ab x hp hd
   have nc:¬ x ∣ c:=fun z=>P.ca x hp z hd
   rw [at_a hp n2 el nl nb nc]
   simp [hd,nb,nc]
  ·obtain ⟨l,el,nl⟩:=once1 (P.sb x hp) hd
   have nc:=P.bc x hp hd
   have na:¬ x ∣ a:=fun z=>P.ab x hp z hd
   rw [at_b hp n2 el nl na nc]
   simp [hd,na,nc]
  ·obtain ⟨l,el,nl⟩:=once1 (P.sc x hp) hd
   have na:=P.ca x hp hd
   have nb:¬ x ∣ b:=fun z=>P.bc x hp z hd
   rw [at_c hp n2 el nl na nb]
   simp [hd,na,nb]
end Jc
namespace Jc
open Pr (Prm)
section
variable {a b p x y z:Int}
end
theorem prm_div:∀ (m:Nat) (n:Int),n.natAbs<=m->2<=n->∃ p,Prm p/\p ∣ n
 | 0,n,h,n2=>by omega
 | m+1,n,h,n2=>by
  by_cases c:∃ k,2<=k/\k*k<=n/\k ∣ n
  ·obtain ⟨k,k2,kk,d⟩:=c
   have lt:k < n:=by
    have:=Int.mul_le_mul_of_nonneg_right k2 (show 0<=k by omega)
    omega
   obtain ⟨p,hp,hd⟩:=prm_div m k (by omega) k2
   exact ⟨p,hp,Int.dvd_trans hd d⟩
  ·exact ⟨n,⟨n2,fun k k2 kk d=>c ⟨k,k2,kk,d⟩⟩,Int.dvd_refl n⟩
end Jc
set_option maxHeartbeats 1000000
namespace Jc
open Pr
theorem pos_ {p:Int} (hp:Prm p):0 < p:=by have:=hp.two; omega
theorem J_nz {p x:Int} (hp:Prm p) (h:J x p=1):¬ p ∣ x:=fun d=>by
 have e:J x p=J 0 p:=J_mod (by rw [Int.emod_eq_zero_of_dvd d,Int.zero_emod])
 rw [e,J_zero (pos_ hp) (by have:=hp.two; omega)] at h
 cases h
theorem J_sq {p x y:Int} (hp:Prm p) (n2:p ≠ 2) (h:p ∣ y*y - x) (nx:¬ p ∣ x):J x p=1:=by
 have e:J x p=J (y*y) p:=J_mod (Int.emod_eq_emod_iff_emod_sub_eq_zero.mpr (Int.emod_eq_zero_of_dvd (by
  rw [show x - y*y=-(y*y - x) by omega]
  exact Int.dvd_neg.mpr h)))
 rw [e,J_mul (pos_ hp) (prm_odd hp n2)]
 exact J_unit hp fun d=>nx (by
  have h2:p ∣ y*y:=Int.dvd_trans d (Int.dvd_mul_right y y)
  have:=Int.dvd_sub h2 h
  rwa [show y*y - (y*y - x)=x by omega] at this)
def Lead (p A B C:Int):Prop:=¬ p ∣ A/\∃ s:Int,0<=s/\s<=p/\((p=2/\(A+B*(s*s)+C) % 8=0)\/(p ≠ 2/\J (-(A*(B*(s*s)+C))) p=1))
theorem lead_div {p a b c:Int} (hp:Prm p) (n2:p ≠ 2) (hc:p ∣ c) (na:¬ p ∣ a) (nb:¬ p ∣ b) (h:J (-(a*b)) p ≠ -1):Lead p a b c:=by
 refine ⟨na,1,by decide,by have:=hp.two; omega,.inr ⟨n2,?_⟩⟩
 obtain ⟨m,rfl⟩:=hc
 have e:J (-(a*(b*(1*1)+p*m))) p=J (-(a*b)) p:=J_mod (by
  rw [show -(a*(b*(1*1)+p*m))=-(a*b)+p*(-(a*m)) by grind]
  exact Int.add_mul_emod_self_left _ _ _)
 rw [e]
 have nd:¬ p ∣ -(a*b):=fun d=>(euclid hp (Int.dvd_neg.mp d)).elim na nb
 have u:=J_unit hp nd
 rcases J_or (-(a*b)) p with z | z | z
 ·exact z
 ·rw [z] at u; cases u
 ·exact absurd z h
theorem lead_none {p a b c:Int} (hp:Prm p) (n2:p ≠ 2) (na:¬ p ∣ a) (nb:¬ p ∣ b) (nc:¬ p ∣ c):Lead p a b c\/Lead p c a b:=by
 obtain ⟨X,Y,h⟩:=conic_ex (N:=a*c) hp n2 (fun d=>(euclid hp d).elim na nb:¬ p ∣ a*b)
 have p0:=(pos_ hp)
 by_cases y:p ∣ Y
 ·right
  have h2:p ∣ a*(b*(X*X)+c):=by
   have:=Int.dvd_sub h (Int.dvd_trans y (Int.dvd_mul_right Y Y))
   rwa [show Y*Y+(a*b*(X*X)+a*c) - Y*Y=a*(b*(X*X)+c) by grind] at this
  have h3:=(euclid hp h2).resolve_left na
  refine ⟨nc,0,by decide,by omega,.inr ⟨n2,?_⟩⟩
  rw [show -(c*(a*(0*0)+b))=-(c*b) by grind]
  refine J_sq (y:=b*X) hp n2 ?_ fun d=>(euclid hp (Int.dvd_neg.mp d)).elim nc nb
  rw [show b*X*(b*X) - -(c*b)=b*(b*(X*X)+c) by grind]
  exact Int.dvd_trans h3 (Int.dvd_mul_left _ _)
 ·left
  refine ⟨na,X % p,Int.emod_nonneg _ (by omega),by have:=Int.emod_lt_of_pos X p0; omega,.inr ⟨n2,?_⟩⟩
  have em:=Int.mul_ediv_add_emod X p
  generalize X % p=s at em ⊢
  have h2:p ∣ Y*Y - -(a*(b*(s*s)+c)):=by
   rw [show Y*Y - -(a*(b*(s*s)+c))=Y*Y+(a*b*(X*X)+a*c) - p*(a*b*((X / p)*(X+s))) by
    have:X*X - s*s=p*((X / p)*(X+s)):=by rw [show X*X - s*s=(X - s)*(X+s) by grind,show X - s=p*(X / p) by omega,Int.mul_assoc]
    grind]
   exact Int.dvd_sub h (Int.dvd_mul_right _ _)
  refine J_sq hp n2 h2 fun d=>y ?_
  have h3:=Int.dvd_add h2 d
  rw [show Y*Y - -(a*(b*(s*s)+c))+-(a*(b*(s*s)+c))=Y*Y by omega] at h3
  exact (euclid hp h3).elim id id
theorem sq8 (x:Int):(x*x % 8=0/\x % 2=0)\/(x*x % 8=4/\x % 2=0)\/(x*x % 8=1/\x % 2=1):=by
 have h:x % 8=0\/x % 8=1\/x % 8=2\/x % 8=3\/x % 8=4\/x % 8=5\/x % 8=6\/x % 8=7:=by omega
 have e:x*x % 8=(x % 8)*(x % 8) % 8:=by rw [Int.mul_emod]
 rcases h with h | h | h | h | h | h | h | h <;> rw [h] at e <;> omega
theorem dvd4 {a:Int} (h:¬ (2:Int)*2 ∣ a):a % 4 ≠ 0:=fun e=>h (Int.dvd_of_emod_eq_zero e)
theorem lead_two {a b c:Int} (P:Pl.Pln a b c) (h:Pl.Fit8 a b c):Lead 2 a b c\/Lead 2 b c a\/Lead 2 c a b:=by
 obtain ⟨x,y,z,o,e⟩:=h
 have ma:=dvd4 (P.sa 2 prm_2)
 have mb:=dvd4 (P.sb 2 prm_2)
 have mc:=dvd4 (P.sc 2 prm_2)
 have pab:¬ (a % 2=0/\b % 2=0):=fun ⟨u,v⟩=>P.ab 2 prm_2 (Int.dvd_of_emod_eq_zero u) (Int.dvd_of_emod_eq_zero v)
 have pbc:¬ (b % 2=0/\c % 2=0):=fun ⟨u,v⟩=>P.bc 2 prm_2 (Int.dvd_of_emod_eq_zero u) (Int.dvd_of_emod_eq_zero v)
 have pca:¬ (c % 2=0/\a % 2=0):=fun ⟨u,v⟩=>P.ca 2 prm_2 (Int.dvd_of_emod_eq_zero u) (Int.dvd_of_emod_eq_zero v)
 have lead:∀ {A B C s:Int},A % 2=1->0<=s->s<=2->(A+B*(s*s)+C) % 8=0->Lead 2 A B C:=fun {A B C s} h1 h2 h3 h4=>⟨fun d=>by have:=Int.emod_eq_zero_of_dvd d; omega,s,h2,h3,.inl ⟨rfl,h4⟩⟩
 have e':(a*(x*x % 8)+b*(y*y % 8)+c*(z*z % 8)) % 8=0:=by
  rw [Int.mul_assoc,Int.mul_assoc,Int.mul_assoc] at e
  have f:∀ u v:Int,u*v % 8=u*(v % 8) % 8:=fun u v=>by rw [Int.mul_emod u (v % 8),Int.emod_emod,<- Int.mul_emod]
  have f1:=f a (x*x)
  have f2:=f b (y*y)
  have f3:=f c (z*z)
  generalize a*(x*x)=g1 at *
  generalize b*(y*y)=g2 at *
  generalize c*(z*z)=g3 at *
  generalize a*(x*x % 8)=k1 at *
  generalize b*(y*y % 8)=k2 at *
  generalize c*(z*z % 8)=k3 at *
  omega
 rcases sq8 x with ⟨e1,o1⟩ | ⟨e1,o1⟩ | ⟨e1,o1⟩ <;> rcases sq8 y with ⟨e2,o2⟩ | ⟨e2,o2⟩ | ⟨e2,o2⟩ <;> rcases sq8 z with ⟨e3,o3⟩ | ⟨e3,o3⟩ | ⟨e3,o3⟩ <;> rw [e1,e2,e3] at e' <;>
  first
  | (exfalso; omega)
  | exact .inl (lead (s:=0) (by omega) (by decide) (by decide) (by omega))
  | exact .inl (lead (s:=2) (by omega) (by decide) (by decide) (by omega))
  | exact .inr (.inl (lead (s:=0) (by omega) (by decide) (by decide) (by omega)))
  | exact .inr (.inl (lead (s:=2) (by omega) (by decide) (by decide) (by omega)))
  | exact .inr (.inr (lead (s:=0) (by omega) (by decide) (by decide) (by omega)))
  | exact .inr (.inr (lead (s:=2) (by omega) (by decide) (by decide) (by omega)))
  | exact (Classical.em (a % 2=1)).elim (fun q=>.inl (lead (s:=1) q (by decide) (by decide) (by omega))) fun q=>.inr (.inl (lead (s:=1) (by omega) (by decide) (by decide) (by omega)))
theorem leads {p a b c:Int} (hp:Prm p) (P:Pl.Pln a b c) (h:¬ BadJ a b c p):Lead p a b c\/Lead p b c a\/Lead p c a b:=by
 by_cases n2:p=2
 ·subst n2
  refine lead_two P (Classical.byContradiction fun n=>h (.inr (.inl ⟨rfl,n⟩)))
 ·have k:∀ {q:Prop},((p ∣ a/\J (-(b*c)) p=-1)\/(p ∣ b/\J (-(c*a)) p=-1)\/(p ∣ c/\J (-(a*b)) p=-1))->q:=fun z=>absurd (.inr (.inr ⟨hp,n2,z⟩)) h
  by_cases da:p ∣ a
  ·exact .inr (.inl (lead_div hp n2 da (P.ab p hp da) (fun d=>P.ca p hp d da) fun z=>k (.inl ⟨da,z⟩)))
  by_cases db:p ∣ b
  ·exact .inr (.inr (lead_div hp n2 db (P.bc p hp db) da fun z=>k (.inr (.inl ⟨db,z⟩))))
  by_cases dc:p ∣ c
  ·exact .inl (lead_div hp n2 dc da db fun z=>k (.inr (.inr ⟨dc,z⟩)))
  ·exact (lead_none hp n2 da db dc).elim .inl fun z=>.inr (.inr z)
def Las (p q:Int):Prop:=(p=2/\q % 8=1)\/(p ≠ 2/\J q p=1)
theorem two_pow (k:Nat) (h:1<=k):(2:Int)^k=2\/(2:Int)^k=4\/(8:Int) ∣ 2^k:=by
 match k,h with
 | 1,_=>exact .inl rfl
 | 2,_=>exact .inr (.inl rfl)
 | k+3,_=>exact .inr (.inr ⟨2^k,by rw [show (2:Int)^(k+3)=2^k*2^3 from Int.pow_add ..,Int.mul_comm]; rfl⟩)
theorem pow_dvd_self {p:Int} {k:Nat} (h:1<=k):p ∣ p^k:=by
 obtain ⟨j,rfl⟩:∃ j,k=j+1:=⟨k - 1,by omega⟩
 exact ⟨p^j,by rw [Int.pow_succ,Int.mul_comm]⟩
theorem las_of {p A B C s o:Int} {k:Nat} (hp:Prm p) (nA:¬ p ∣ A) (k1:1<=k) (ho:p^k ∣ o*A+1) (h:(p=2/\(A+B*(s*s)+C) % 8=0)\/(p ≠ 2/\J (-(A*(B*(s*s)+C))) p=1)):Las p ((o*(B*s*s+C)) % p^k):=by
 rw [Int.mul_assoc B s s]
 rcases h with ⟨rfl,h⟩ | ⟨n2,h⟩
 ·refine .inl ⟨rfl,?_⟩
  obtain ⟨m,hm⟩:=ho
  obtain ⟨n,hn⟩:=Int.dvd_of_emod_eq_zero h
  have e:o*(B*(s*s)+C)=8*(o*n) - 2^k*m+1:=by
   have:o*(A+B*(s*s)+C)=o*(8*n):=by rw [hn]
   grind
  rw [e]
  generalize o*n=w
  rcases two_pow k k1 with z | z | ⟨v,z⟩
  ·rw [z]; omega
  ·rw [z]; omega
  ·rw [Int.emod_emod_of_dvd _ ⟨v,z⟩,z,Int.mul_assoc]
   generalize v*m=u
   omega
 ·refine .inr ⟨n2,?_⟩
  have d:=pow_dvd_self (p:=p) k1
  have e:J (o*(B*(s*s)+C) % p^k) p=J (o*(B*(s*s)+C)) p:=J_mod (Int.emod_emod_of_dvd _ d)
  rw [e]
  generalize B*(s*s)+C=X at *
  have po:=prm_odd hp n2
  have e2:J (o*X*(A*A)) p=J (-(A*X)) p:=J_mod (Int.emod_eq_emod_iff_emod_sub_eq_zero.mpr (Int.emod_eq_zero_of_dvd (by
   rw [show o*X*(A*A) - -(A*X)=(o*A+1)*(A*X) by grind]
   exact Int.dvd_trans (Int.dvd_trans d ho) (Int.dvd_mul_right _ _))))
  rw [h,J_mul (pos_ hp) po (o*X),J_mul (pos_ hp) po A,J_unit hp nA,Int.mul_one] at e2
  exact e2
theorem fit_of {w A B C s o r:Int} (ho:w ∣ o*A+1) (hr:w ∣ r*r - (o*(B*s*s+C)) % w):w ∣ A*r*r+B*s*s+C:=by
 have e:=Int.mul_ediv_add_emod (o*(B*s*s+C)) w
 generalize (o*(B*s*s+C)) % w=q at *
 generalize (o*(B*s*s+C)) / w=d at *
 generalize B*s*s=Y at *
 obtain ⟨m,hm⟩:=ho
 obtain ⟨n,hn⟩:=hr
 refine ⟨A*n - A*d+m*(Y+C),?_⟩
 have e1:A*r*r+Y+C=A*(r*r - q)+A*(q - o*(Y+C))+(o*A+1)*(Y+C):=by grind
 rw [e1,hn,hm,show q - o*(Y+C)=-(w*d) by omega]
 grind
theorem newton {p q r i:Int} {k e:Nat} (h:p^e ∣ r*r - q) (hi:p^k ∣ 2*r*i - 1):p^(min (2*e) k) ∣ ((r - (r*r - q)*i) % p^k)*((r - (r*r - q)*i) % p^k) - q:=by
 have em:=Int.mul_ediv_add_emod (r - (r*r - q)*i) (p^k)
 generalize (r - (r*r - q)*i) % p^k=x at *
 generalize (r - (r*r - q)*i) / p^k=d at *
 obtain ⟨m,hm⟩:=h
 obtain ⟨n,hn⟩:=hi
 have up:∀ {a b:Nat},a<=b->p^a ∣ p^b:=fun {a b} h=>⟨p^(b - a),by rw [<- Int.pow_add]; congr 1; omega⟩
 have d1:p^(min (2*e) k) ∣ p^k:=up (Nat.min_le_right _ _)
 have d2:p^(min (2*e) k) ∣ p^e*p^e:=by rw [<- Int.pow_add]; exact up (by have:=Nat.min_le_left (2*e) k; omega)
 have e1:x=r - (r*r - q)*i - p^k*d:=by omega
 rw [e1]
 generalize p^k=u at *
 have e2:(r - (r*r - q)*i - u*d)*(r - (r*r - q)*i - u*d) - q=u*(-(n*(r*r - q)) - 2*d*(r - (r*r - q)*i)+u*d*d)+p^e*p^e*(m*m*(i*i)):=by
  have e3:(r*r - q)*(1 - 2*r*i)=-(u*n*(r*r - q)):=by
   rw [show (1:Int) - 2*r*i=-(u*n) by omega]; grind
  have e4:(r*r - q)*i*((r*r - q)*i)=p^e*p^e*(m*m*(i*i)):=by rw [hm]; grind
  rw [<- e4]
  grind
 rw [e2]
 exact Int.dvd_add (Int.dvd_trans d1 (Int.dvd_mul_right _ _)) (Int.dvd_trans d2 (Int.dvd_mul_right _ _))
theorem half_step {w q r:Int} (ro:r % 2=1) (h:8*w ∣ r*r - q) (n:¬ 16*w ∣ r*r - q):16*w ∣ (r+4*w)*(r+4*w) - q:=by
 obtain ⟨m,hm⟩:=h
 have mo:m % 2=1:=by
  rcases Int.emod_two_eq m with z | z
  ·exact absurd ⟨m / 2,by rw [hm,show (16:Int)*w*(m / 2)=8*w*(2*(m / 2)) by grind]; congr 1; omega⟩ n
  ·exact z
 refine ⟨(m+r) / 2+w,?_⟩
 have e:(r+4*w)*(r+4*w) - q=8*w*(m+r+2*w):=by
  rw [show (r+4*w)*(r+4*w) - q=(r*r - q)+8*w*r+16*(w*w) by grind,hm]; grind
 rw [e,show (16:Int)*w*((m+r) / 2+w)=8*w*(2*((m+r) / 2)+2*w) by grind]
 congr 1
 omega
theorem cop {p x g:Int} {k:Nat} (hp:Prm p) (nx:¬ p ∣ x) (g0:0<=g) (h1:g ∣ x) (h2:g ∣ p^k):g=1:=by
 have p0:=(pos_ hp)
 by_cases z:g=0
 ·subst z
  have:=Int.zero_dvd.mp h2
  have:0 < p^k:=Int.pow_pos p0
  omega
 by_cases o:g=1
 ·exact o
 obtain ⟨q,hq,d⟩:=prm_div g.natAbs g (Nat.le_refl _) (by omega)
 have:=prm_dvd_prm hq hp (prm_dvd_pow hq k (Int.dvd_trans d h2))
 subst this
 exact absurd (Int.dvd_trans d h1) nx
end Jc
namespace Jc
open Pr (Prm)
def noDiv2 (p m:Nat):Bool:=(List.range m).all fun k=>Nat.ble k 1 || (Nat.blt p (k*k) || !(p % k == 0))
theorem prm_by2 {p m:Nat} (p2:2<=p) (hm:p < m*m) (h:noDiv2 p m=true):Prm (p:Int):=by
 refine ⟨by omega,fun k k2 kk hd=>?_⟩
 obtain ⟨j,rfl⟩:∃ j:Nat,k=(j:Int):=⟨k.toNat,by omega⟩
 have jj:j*j<=p:=by
  have:((j*j:Nat):Int)<=(p:Int):=by rw [Int.natCast_mul]; exact kk
  omega
 have jm:j < m:=by
  rcases Nat.lt_or_ge j m with z | z
  ·exact z
  ·have:=Nat.mul_le_mul z z
   omega
 have c:=List.all_eq_true.mp h j (List.mem_range.mpr jm)
 have d:p % j=0:=Nat.mod_eq_zero_of_dvd (Int.natCast_dvd_natCast.mp hd)
 have b2:Nat.blt p (j*j)=false:=by
  rcases hb:Nat.blt p (j*j) with _ | _
  ·rfl
  ·have:=Nat.le_of_ble_eq_true hb
   omega
 rw [d,b2] at c
 have c':Nat.ble j 1=true:=by simpa using c
 have:=Nat.le_of_ble_eq_true c'
 omega
end Jc
namespace Sh
theorem quot (x y:Int):x=y*Int.fdiv x y+Int.fmod x y:=by rw [Int.fmod_def]; omega
structure Rows (x y a s t b u v:Int):Prop where
 up:a=s*x+t*y
 lo:b=u*x+v*y
 one:∃ p q,x=p*a+q*b
 two:∃ p q,y=p*a+q*b
theorem rows_start (x y:Int):Rows x y x 1 0 y 0 1:=⟨by omega,by omega,⟨1,0,by omega⟩,⟨0,1,by omega⟩⟩
theorem rows_turn {x y a s t b u v:Int} (h:Rows x y a s t b u v) (q:Int):Rows x y b u v (a - q*b) (s - q*u) (t - q*v):=by
 obtain ⟨h1,h2,⟨p1,q1,h3⟩,⟨p2,q2,h4⟩⟩:=h
 refine ⟨h2,by grind,⟨p1*q+q1,p1,?_⟩,⟨p2*q+q2,p2,?_⟩⟩ <;> grind
theorem rows_end {x y a s t b u v:Int} (h:Rows x y a s t b u v) (hb:b=0):a=s*x+t*y/\(∃ p,x=p*a)/\(∃ p,y=p*a):=by
 obtain ⟨h1,h2,⟨p1,q1,h3⟩,⟨p2,q2,h4⟩⟩:=h
 subst hb
 exact ⟨h1,⟨p1,by grind⟩,⟨p2,by grind⟩⟩
structure Sz (B a s t b u v:Int):Prop where
 a0:a.natAbs<=B.natAbs
 b0:b.natAbs<=B.natAbs
 s0:s.natAbs<=B.natAbs
 t0:t.natAbs<=B.natAbs
 u0:u.natAbs<=B.natAbs
 v0:v.natAbs<=B.natAbs
 way:(s=1/\t=0/\u=0/\v=1/\a.natAbs+2*b.natAbs<=B.natAbs) \/
  ((0<=a/\0<=b\/a<=0/\b<=0)/\s.natAbs*b.natAbs+u.natAbs*a.natAbs<=B.natAbs/\t.natAbs*b.natAbs+v.natAbs*a.natAbs<=B.natAbs)
theorem le_of_mul {m n B:Nat} (h:m*n<=B) (hn:n ≠ 0):m<=B:=Nat.le_trans (Nat.le_mul_of_pos_right m (Nat.pos_of_ne_zero hn)) h
theorem fmod_abs {a b:Int} (hb:b ≠ 0):(Int.fmod a b).natAbs < b.natAbs:=by
 rcases Int.lt_or_gt_of_ne hb with h | h
 ·have h1:=Int.fmod_lt_of_pos (-a) (show 0 < -b by omega)
  have h2:=Int.fmod_nonneg_of_pos (-a) (show 0 < -b by omega)
  rw [Int.neg_fmod_neg] at h1 h2
  omega
 ·have h1:=Int.fmod_lt_of_pos a h
  have h2:=Int.fmod_nonneg_of_pos a h
  omega
theorem fmod_sign {a b:Int} (hb:b ≠ 0):0<=b/\0<=Int.fmod a b\/b<=0/\Int.fmod a b<=0:=by
 rcases Int.lt_or_gt_of_ne hb with h | h
 ·have h2:=Int.fmod_nonneg_of_pos (-a) (show 0 < -b by omega)
  rw [Int.neg_fmod_neg] at h2
  omega
 ·have h2:=Int.fmod_nonneg_of_pos a h
  omega
theorem abs_sub_mul (s q u:Int):(s - q*u).natAbs<=s.natAbs+q.natAbs*u.natAbs:=by
 have:=Int.natAbs_sub_le s (q*u)
 rw [Int.natAbs_mul] at this
 exact this
theorem sum_turn {s u a b q r:Int} (hq:(q*b).natAbs+r.natAbs<=a.natAbs):u.natAbs*r.natAbs+(s - q*u).natAbs*b.natAbs<=s.natAbs*b.natAbs+u.natAbs*a.natAbs:=by
 have h1:=Nat.mul_le_mul_right b.natAbs (abs_sub_mul s q u)
 have h2:=Nat.mul_le_mul_left u.natAbs hq
 rw [Int.natAbs_mul] at h2
 rw [Nat.add_mul] at h1
 rw [Nat.mul_add] at h2
 have e:q.natAbs*u.natAbs*b.natAbs=u.natAbs*(q.natAbs*b.natAbs):=by
  rw [Nat.mul_comm q.natAbs,Nat.mul_assoc]
 omega
theorem sz_start {x y:Int}:Sz ((x.natAbs:Int)+2*y.natAbs+1) x 1 0 y 0 1:=by
 refine ⟨by omega,by omega,by omega,by omega,by omega,by omega,.inl ⟨rfl,rfl,rfl,rfl,by omega⟩⟩
theorem sz_turn {B a s t b u v:Int} (h:Sz B a s t b u v) (hb:b ≠ 0) (q r:Int) (hq:a=b*q+r) (hr:r=Int.fmod a b) :
  Sz B b u v r (s - q*u) (t - q*v):=by
 have ra:r.natAbs < b.natAbs:=hr ▸ fmod_abs hb
 have rs:0<=b/\0<=r\/b<=0/\r<=0:=hr ▸ fmod_sign hb
 have eq:q*b=a - r:=by rw [Int.mul_comm]; omega
 rcases h.way with ⟨rfl,rfl,rfl,rfl,h1⟩ | ⟨hs,h1,h2⟩
 ·have hq':(q*b).natAbs<=a.natAbs+r.natAbs:=by rw [eq]; omega
  have hqb:q.natAbs<=(q*b).natAbs:=by
   rw [Int.natAbs_mul]
   exact Nat.le_mul_of_pos_right _ (by omega)
  have e1:(1 - q*0).natAbs=1:=by rw [Int.mul_zero]; rfl
  have e2:(0 - q*1).natAbs=q.natAbs:=by rw [Int.mul_one]; omega
  have b0:=h.b0
  refine ⟨h.b0,by omega,h.u0,h.v0,by rw [e1]; omega,by rw [e2]; omega,.inr ⟨rs,?_,?_⟩⟩
  ·rw [e1]; simp; omega
  ·have e3:q.natAbs*b.natAbs=(q*b).natAbs:=(Int.natAbs_mul q b).symm
   have e4:(1:Int).natAbs*r.natAbs=r.natAbs:=by rw [show (1:Int).natAbs=1 from rfl,Nat.one_mul]
   rw [e2,e3,e4]
   omega
 ·have hq':(q*b).natAbs+r.natAbs<=a.natAbs:=by
   have q0:0<=q:=by
    rcases (show 0<=q\/q<=-1 by omega) with h0 | h0
    ·exact h0
    ·exfalso
     rcases (show 0 < b\/b < 0 by omega) with hb' | hb'
     ·have:=Int.mul_le_mul_of_nonneg_left h0 (Int.le_of_lt hb')
      omega
     ·have:=Int.mul_le_mul_of_nonneg_left h0 (show 0<=-b by omega)
      rw [Int.neg_mul,Int.neg_mul] at this
      omega
   rcases (show 0 < b\/b < 0 by omega) with hb' | hb'
   ·have:=Int.mul_nonneg q0 (Int.le_of_lt hb')
    omega
   ·have:=Int.mul_nonneg q0 (show 0<=-b by omega)
    rw [Int.mul_neg] at this
    omega
  have k1:=sum_turn (s:=s) (u:=u) hq'
  have k2:=sum_turn (s:=t) (u:=v) hq'
  refine ⟨h.b0,by have:=h.b0; omega,h.u0,h.v0,?_,?_,.inr ⟨rs,by omega,by omega⟩⟩
  ·exact le_of_mul (n:=b.natAbs) (by omega) (by omega)
  ·exact le_of_mul (n:=b.natAbs) (by omega) (by omega)
end Sh
namespace L2
open PySem PySem.Spec PyProof.Rows
def cxC (X:Cx) (N:List Str) (scope:Scope) (cl:List (Str × Addr)) (C:Addr) (s0:Shared) (H0:Hp) (fp:List Addr) (pins:List (Addr × Obj)):Cx:=
 { X with N:=N,s₀:=s0,H₀:=H0,env:=compEnvC scope cl C X.env,outer:=X.stack,ex:=fp,fn:=fun _=>false,pn:=X.pn ++ pins,xe:=fun _ _=>False }
structure CompScope (X:Cx) (N:List Str) (fr:List Nat) (x:Str) (scope:Scope) (cl:List (Str × Addr)):Prop where
 kind:scope.kind=.function
 nocell:∀ y ∈ scope.names,y.2 ≠ .cell
 loc:∀ y ∈ scope.names,y.2=.local->scope.names.lookup y.1=some .local
 own:scope.names.lookup x=some .local
 clos:closureFor scope X.env=pure cl
 sub:∀ y c,cl.lookup y=some c->X.env.cells.lookup y=some c
 has:∀ y,((relabel scope X.env).names.lookup y=some .cell\/(relabel scope X.env).names.lookup y=some .free)->∃ c,cl.lookup y=some c
 nd:N.Nodup
 hN:N[0]?=some x
 len:N.length=fr.length+1
 ownOnly:∀ (j:Nat) (y:Str),N[j+1]?=some y->(relabel scope X.env).names.lookup y ≠ some .local
 out:∀ (j k:Nat),fr[j]?=some k->∃ y,N[j+1]?=some y/\X.N[k]?=some y/\X.env.kindOf y=some .cell
def compSt (σ:St) (fr:List Nat) (v:Option V):St:=v :: fr.map fun k=>(σ[k]?).join
def tComp (wi:TI) (fr:List Nat) (te:TE):TE:=fun σ H Q=>wi σ H fun J H1=>∀ acc,H1 acc=none->∃ W:Nat->Nat->Hp->List V->Prop,(∃ m,W 0 m (upd H1 acc (.lst [])) []) /\
 ∀ i m H' vs,W i m H' vs->H' acc=some (.lst vs)/\((J.stop i H'/\Q (.ref acc) H')\/(J.go i H'/\vs.length < sizeLine/\∀ x H2,J.yld i H' x H2->te (compSt σ fr (some x)) H2 fun y H3=>H3 acc=some (.lst vs)/\∃ m',m' < m/\W (i+1) m' (upd H3 acc (.lst (vs ++ [y]))) (vs ++ [y])))
def tCompIf (wi:TI) (fr:List Nat) (tc:TT) (te:TE):TE:=fun σ H Q=>wi σ H fun J H1=>∀ acc,H1 acc=none->∃ W:Nat->Nat->Hp->List V->Prop,(∃ m,W 0 m (upd H1 acc (.lst [])) []) /\
 ∀ i m H' vs,W i m H' vs->H' acc=some (.lst vs)/\((J.stop i H'/\Q (.ref acc) H')\/(J.go i H'/\vs.length < sizeLine/\∀ x H2,J.yld i H' x H2->tc (compSt σ fr (some x)) H2 fun b H3=>
  if b=true then te (compSt σ fr (some x)) H3 fun y H4=>H4 acc=some (.lst vs)/\∃ m',m' < m/\W (i+1) m' (upd H4 acc (.lst (vs ++ [y]))) (vs ++ [y]) else ∃ m',m' < m/\W (i+1) m' H3 vs))
section
variable {X:Cx} {N:List Str} {fr:List Nat} {x:Str} {scope:Scope} {cl:List (Str × Addr)} {elt iter:Expr} {px pos:Pos} {wi:TI} {te:TE}
theorem cxC_ok {pins:List (Addr × Obj)} {σ:St} {H:Hp} {s:Shared} {fp:List Addr} {C:Addr} (S:CompScope X N fr x scope cl) (I:Inv X pins σ H s) (hf:∀ b ∈ fp,FpOk X pins H b) (hC:s.heap.objs.size<=C) (hfl:∀ b ∈ fp,b < s.heap.objs.size):(cxC X N scope cl C s H fp pins).Ok where
 mod:=I.ok.mod
 kind:=S.kind
 glob:=I.ok.glob
 blt:=I.ok.blt
 above:=hC
 inj:=fun y z c h1 h2=>I.ok.inj y z c (S.sub _ _ h1) (S.sub _ _ h2)
 has:=fun y h=>S.has y h
 cab:=fun y c h=>by cases h
 hd:=I.ok.hd
 hs:=I.ok.hs
 frames:=I.ok.frames
 stk:=.inl rfl
 exf:=fun b hb=>⟨Nat.ne_of_lt (Nat.lt_of_lt_of_le (hfl b hb) hC),fun y c h=>(hf b hb).2.2.2.2.1 y c (S.sub _ _ h)⟩
 bs:=fun b o e=>I.bs b o e
 bsz:=Nat.le_trans I.ok.bsz I.sz
 noex:=fun b o e hb=>by
  rcases (hf b hb).2.2.2.1 with z | z
  ·exact I.ok.noex b o e z
  ·exact absurd (Nat.lt_of_lt_of_le (Heap.lt_size e) (Nat.le_trans I.ok.bsz z)) (Nat.lt_irrefl _)
 exfs:=fun b hb z=>by
  rcases List.mem_cons.mp (I.stkSub b z) with e | e
  ·exact (hf b hb).2.1 e
  ·exact (hf b hb).2.2.1 e
 funs:=I.stack
 frf:=I.stkFree
theorem cxC_start {pins:List (Addr × Obj)} {σ:St} {H:Hp} {s s4:Shared} {fp:List Addr} {C:Addr} {m:Str->Option Value} (S:CompScope X N fr x scope cl) (I:Inv X pins σ H s) (hf:∀ b ∈ fp,FpOk X pins H b) (hC:s.heap.objs.size<=C) (hfl:∀ b ∈ fp,b < s.heap.objs.size)
  (hn:s4.heap.Ns C m) (hk:∀ b o,s.heap.get? b=some o->s4.heap.get? b=some o) (ho:s4.os=s.os) (hg:s4.gens=s.gens):Inv (cxC X N scope cl C s H fp pins) [] (compSt σ fr none) H s4:=by
 obtain ⟨m0,hn0,hl⟩:=id I.loc
 refine ⟨cxC_ok S I hf hC hfl,I.fzs,ho,by rw [hg]; exact I.bare,Un.kept hk,⟨m,hn,fun i y v e1 e2 e3=>?_⟩,fun y c h=>?_,I.hok.fresh hC,fun y c h=>I.freeC y c (S.sub _ _ h),fun p hp=>?_,I.hok.kept hk,?_⟩
 ·cases i with
  | zero=>cases e2
  | succ j=>
   have e2':(fr.map fun k=>(σ[k]?).join)[j]?=some (some v):=e2
   rw [List.getElem?_map] at e2'
   cases ek:fr[j]? with
   | none=>rw [ek] at e2'; cases e2'
   | some k=>
    rw [ek] at e2'
    have e4:(σ[k]?).join=some v:=Option.some.inj e2'
    obtain ⟨y',h1,h2,h3⟩:=S.out j k ek
    have e1':N[j+1]?=some y:=e1
    obtain rfl:y'=y:=Option.some.inj (h1.symm.trans e1')
    have e5:σ[k]?=some (some v):=by
     cases q:σ[k]? with
     | none=>rw [q] at e4; cases e4
     | some w=>rw [q] at e4; exact congrArg some e4
    obtain ⟨u,r,lk⟩:=hl k y' v h2 e5 (.inr (.inl h3))
    refine ⟨u,r,.inr ?_⟩
    rcases lk with ⟨z,_⟩ | ⟨_,c,hc,hcell⟩
    ·rw [h3] at z; cases z
    ·have e6:Vis (relabel scope X.env) y':=e3
     have hk2:(relabel scope X.env).names.lookup y'=some .cell\/(relabel scope X.env).names.lookup y'=some .free:=by
      rcases e6 with e6 | e6 | e6
      ·exfalso
       have nd:=S.nd
       -- a name of the block's own is the first one
       exact S.ownOnly _ _ h1 e6
      ·exact .inl e6
      ·exact .inr e6
     obtain ⟨c2,hc2⟩:=S.has y' hk2
     have:=S.sub _ _ hc2
     rw [hc] at this; cases this
     obtain ⟨o,z1,z2⟩:=hcell
     exact ⟨hk2,c,hc2,o,hk _ _ z1,z2⟩
 ·obtain ⟨v,o,z1,z2⟩:=I.cell y c (S.sub _ _ h)
  exact ⟨v,o,hk _ _ z1,z2⟩
 ·rw [List.append_nil] at hp
  obtain ⟨e,k,ne,nf,d⟩:=I.pin p hp
  refine ⟨hk _ _ e,k,Nat.ne_of_lt (Nat.lt_of_lt_of_le (Heap.lt_size e) hC),fun z=>?_,d⟩
  rcases List.mem_cons.mp (I.stkSub _ z) with q | q
  ·exact ne q
  ·exact nf q
 ·show (compSt σ fr none).length=N.length
  rw [S.len]
  simp [compSt]
theorem cxC_end {pins:List (Addr × Obj)} {σ σ':St} {H H':Hp} {s s':Shared} {fp:List Addr} {C:Addr} {h':Heap} (I:Inv X pins σ H s) (hf:∀ b ∈ fp,FpOk X pins H b) (hC:s.heap.objs.size<=C) (J:Inv (cxC X N scope cl C s H fp pins) [] σ' H' s') (hs:Heap.SameBut C s'.heap h') :
  Inv X pins σ H' { s' with heap:=h' }:=by
 have ne:∀ b o,s.heap.get? b=some o->b ≠ C:=fun b o e=>Nat.ne_of_lt (Nat.lt_of_lt_of_le (Heap.lt_size e) hC)
 have u:Un (frs X.stack) fp H H' s.heap s'.heap:=J.base
 have u2:Un (frs X.stack) fp H H' s.heap h':=⟨fun b o e n hb hx=>(hs.2 b (ne b o e)).trans (u.keep b o e n hb hx),fun b o e n hb hx=>(by
   obtain ⟨sl,q⟩:=u.slot b o e n hb hx
   exact ⟨sl,(hs.2 b (ne b o e)).trans q⟩),u.free,fun b o e hx=>(by
   obtain ⟨o',q⟩:=u.there b o e hx
   exact ⟨o',(hs.2 b (ne b o e)).trans q⟩),u.tups,u.frzs,u.tbls⟩
 have nC:H' C=none:=J.free
 refine I.call' (s':={ s' with heap:=h' }) (ch:=fp) J.os u2 (J.hok.onward fun b o hb q=>(hs.2 b fun z=>hb (z ▸ nC)).trans q) J.bare fun b hb=>?_
 obtain ⟨_,f2,_,f4,f5,f6⟩:=hf b hb
 exact ⟨f4,f2,f5,f6⟩
def PTs (X:Cx) (ifs:List Expr) (t:TT):Prop:=
 ∀ (pins:List (Addr × Obj)) (s:Shared) (σ:St) (H:Hp) (Q:Bool->Hp->Prop),Inv X pins σ H s->t σ H Q->wpAny (model X.prog X.w) X.A (forIn ifs true fun c r=>if r=true then do let ok <- PySem.isTrue c X.env (eval c X.env); pure (ForInStep.yield ok) else pure (ForInStep.yield r)) (TP X pins σ Q) X.xe s
theorem pts_one {X:Cx} {c:Expr} {t:TT} (h:PT X c t):PTs X [c] t:=fun pins s σ H Q I q=>wpAny_tests_one (h pins s σ H Q I q)
theorem pts_nil {X:Cx}:PTs X [] (fun _ H Q=>Q true H):=fun pins s σ H Q I q=>by
 show wpAny _ _ (pure true) _ _ _
 exact wpAny_pure ⟨H,I,q⟩
theorem comp_core {ifs:List Expr} {tc:TT} {use:Option (Value->Sem Unit)} {R:Value->Shared->Prop} {Q:VK} {pins:List (Addr × Obj)} {s:Shared} {σ:St} {H:Hp} {ep:Pos} (hc:X.still=true) (S:CompScope X N fr x scope cl) (hi:PI X (.Name x px) iter wi)
  (ht:∀ (C:Addr) (s0:Shared) (H0:Hp) (fp:List Addr) (pins:List (Addr × Obj)),PTs (cxC X N scope cl C s0 H0 fp pins) ifs tc) (he:∀ (C:Addr) (s0:Shared) (H0:Hp) (fp:List Addr) (pins:List (Addr × Obj)),PE (cxC X N scope cl C s0 H0 fp pins) elt te)
  (hs:∀ y,foldedSetIterable iter X.env y=pure y) (I:Inv X pins σ H s) (h:tCompIf wi fr tc te σ H Q)
  (fin:∀ (acc C:Addr) (m:Str->Option Value) (H6:Hp) (s7:Shared),Q (.ref acc) H6->s7.heap.Ns C m->(∀ h':Heap,Heap.SameBut C s7.heap h'->Inv X pins σ H6 { s7 with heap:=h' })->H6 C=none->X.env.locals ≠ C->(∀ z c,X.env.cells.lookup z=some c->c ≠ C)->(∀ p ∈ X.pn ++ pins,p.1 ≠ C)->X.s₀.heap.objs.size<=C->compPost (model X.prog X.w) X.A X.xe use R (.ref acc) C (.ok .next) s7) :
  wpAny (model X.prog X.w) X.A (comprehension (.ListComp elt [⟨.Name x px,iter,ifs,0⟩] scope pos) scope X.env ep (newList []) false (eval iter X.env) use) R X.xe s:=by
 refine wpAny_comprehension_free (use:=use) rfl hs S.clos S.kind S.loc (thn (hi pins s σ H _ I h) fun v s1 h1=>thn h1 fun itv s2 h2=>?_)
 obtain ⟨it,fp,tn,J,H2,e,I2,T,st2,f2,hW⟩:=h2
 subst e
 have hfl:∀ b ∈ fp,b < s2.heap.objs.size:=fun b hb=>by
  obtain ⟨o,q,_⟩:=T.obj _ _ st2 b hb
  exact Heap.lt_size q
 have hfr:H2 s2.heap.objs.size=none:=I2.hok.fresh (Nat.le_refl _)
 refine wpAny_newObj_type ?_
 have keep3:∀ b o,s2.heap.get? b=some o->(s2.heap.push { cls:=.type "list",dict:=none,data:=.seq ([]:List Value).toArray }).get? b=some o:=fun b o q=>Heap.get?_push_of_some _ q
 have I3:Inv X pins σ (upd H2 s2.heap.objs.size (.lst [])) { s2 with heap:=s2.heap.push { cls:=.type "list",dict:=none,data:=.seq ([]:List Value).toArray } }:=
  I2.laid (t':=s2.toks) keep3 (Nat.le_refl _) ⟨Nat.zero_le _,[],0,.nil,Heap.get?_push_size _ rfl⟩
 obtain ⟨W,⟨m0,w0⟩,turn⟩:=hW s2.heap.objs.size hfr
 have f3:∀ b ∈ fp,FpOk X pins (upd H2 s2.heap.objs.size (.lst [])) b:=fun b hb=>⟨by rw [upd_ne (Nat.ne_of_lt (hfl b hb))]; exact (f2 b hb).1,(f2 b hb).2⟩
 refine wpAny_newFunctionEnv S.nocell (by intro y hy; simp at hy) (fun h4 hns hsb=>?_) S.kind
 have hfl3:∀ b ∈ fp,b < (s2.heap.push { cls:=.type "list",dict:=none,data:=.seq ([]:List Value).toArray }).objs.size:=fun b hb=>by
  rw [Heap.size_push]
  exact Nat.lt_succ_of_lt (hfl b hb)
 have keep4:∀ b o,(s2.heap.push { cls:=.type "list",dict:=none,data:=.seq ([]:List Value).toArray }).get? b=some o->h4.get? b=some o:=fun b o q=>
  (hsb.2 b (Nat.ne_of_lt (Heap.lt_size q))).trans (Heap.get?_push_of_some _ q)
 have I4:Inv (cxC X N scope cl (s2.heap.push { cls:=.type "list",dict:=none,data:=.seq ([]:List Value).toArray }).objs.size { s2 with heap:=s2.heap.push { cls:=.type "list",dict:=none,data:=.seq ([]:List Value).toArray } } (upd H2 s2.heap.objs.size (.lst [])) fp pins) [] (compSt σ fr none) (upd H2 s2.heap.objs.size (.lst []))
   { s2 with heap:=h4,toks:=s2.toks+([]:List (Str × Value)).length }:=cxC_start S I3 f3 (Nat.le_refl _) hfl3 hns keep4 rfl rfl
 have st4:tn 0 h4:=T.keep _ _ _ st2 fun b hb o q=>keep4 b o (keep3 b o q)
 generalize hY:cxC X N scope cl (s2.heap.push { cls:=.type "list",dict:=none,data:=.seq ([]:List Value).toArray }).objs.size { s2 with heap:=s2.heap.push { cls:=.type "list",dict:=none,data:=.seq ([]:List Value).toArray } } (upd H2 s2.heap.objs.size (.lst [])) fp pins=Y at I4
 have hel:PE Y elt te:=hY ▸ he _ _ _ _ _
 have htl:PTs Y ifs tc:=hY ▸ ht _ _ _ _ _
 have eA:Y.A=X.A:=by rw [<- hY]; rfl
 have eP:Y.prog=X.prog:=by rw [<- hY]; rfl
 have ew:Y.w=X.w:=by rw [<- hY]; rfl
 have eK:Y.K=X.K:=by rw [<- hY]; rfl
 have eC:Y.still=true:=by rw [<- hY]; exact hc
 have eE:Y.env=compEnvC scope cl (s2.heap.push { cls:=.type "list",dict:=none,data:=.seq ([]:List Value).toArray }).objs.size X.env:=by rw [<- hY]; rfl
 have eX:Y.xe=fun _ _=>False:=by rw [<- hY]; rfl
 have hg:PG Y (.Name x px) (gName 0):=by
  subst hY
  exact pg_name (i:=0) S.nd S.hN (.inl (lookup_relabel_local S.own)) (.inr (lookup_relabel_local S.own))
 have fY:∀ {H':Hp},(∀ b ∈ fp,H' b=none)->∀ b ∈ fp,FpOk Y [] H' b:=fun {H'} hn b hb=>by
  subst hY
  obtain ⟨_,g2,g3,g4,g5,g6⟩:=f3 b hb
  refine ⟨hn b hb,Nat.ne_of_lt (hfl3 b hb),fun z=>?_,.inl hb,fun y c q=>g5 y c (S.sub _ _ q),fun p hp=>?_⟩
  ·rcases List.mem_cons.mp (I3.stkSub b z) with q | q
   ·exact g2 q
   ·exact g3 q
  ·rw [List.append_nil] at hp
   exact g6 p hp
 have loop:∀ s5:Shared,s5={ s2 with heap:=h4,toks:=s2.toks+([]:List (Str × Value)).length } ->
   codeAny (model X.prog X.w) X.A (.compLoop (.ListComp elt [⟨.Name x px,iter,ifs,0⟩] scope pos) 0 (.ref it) (.ref s2.heap.objs.size) (compEnvC scope cl (s2.heap.push { cls:=.type "list",dict:=none,data:=.seq ([]:List Value).toArray }).objs.size X.env))
    (compPost (model X.prog X.w) X.A X.xe use R (.ref s2.heap.objs.size) (s2.heap.push { cls:=.type "list",dict:=none,data:=.seq ([]:List Value).toArray }).objs.size) s5:=by
  rintro s5 rfl
  refine codeAny_compLoop_tests (fun n s'=>∃ i v H' vs,Inv Y [] (compSt σ fr v) H' s'/\tn i s'.heap/\(∀ b ∈ fp,H' b=none)/\W i n H' vs) ?_ m0 ⟨0,none,_,[],I4,st4,fun b hb=>(f3 b hb).1,w0⟩
  rintro n s6 ⟨i,v6,H6,vs,I6,st6,fr6,w6⟩
  obtain ⟨hacc,hgo⟩:=turn i n H6 vs w6
  rcases hgo with ⟨stop,qn⟩ | ⟨go,hz,step⟩
  ·have hd:=T.done Y eP ew eK eC i [] s6 _ H6 (fun _ _=>False) I6 (fY fr6) st6 stop
   rw [eA] at hd
   refine wpAny_mono hd (fun r s7 ⟨hr,I7⟩=>?_) fun _ _ z=>z.elim
   subst hr
   obtain ⟨m,hn,_⟩:=id I7.loc
   rw [eE] at hn
   have hend:∀ h':Heap,Heap.SameBut (s2.heap.push { cls:=.type "list",dict:=none,data:=.seq ([]:List Value).toArray }).objs.size s7.heap h'->Inv X pins σ H6 { s7 with heap:=h' }:=fun h' hs'=>by
    subst hY
    exact cxC_end I3 f3 (Nat.le_refl _) I7 hs'
   have cf:H6 (s2.heap.push { cls:=.type "list",dict:=none,data:=.seq ([]:List Value).toArray }).objs.size=none:=by
    subst hY
    exact I7.free
   have big:∀ b o,s2.heap.get? b=some o->b ≠ (s2.heap.push { cls:=.type "list",dict:=none,data:=.seq ([]:List Value).toArray }).objs.size:=fun b o q=>Nat.ne_of_lt (by rw [Heap.size_push]; exact Nat.lt_succ_of_lt (Heap.lt_size q))
   obtain ⟨m2,hn2,_⟩:=id I2.loc
   obtain ⟨oL,_,_,hoL,_⟩:=id hn2
   exact fin _ _ m H6 s7 qn hn hend cf (big _ _ hoL) (fun z c q=>by
    obtain ⟨_,o,w1,_⟩:=I2.cell z c q
    exact big _ _ w1) (fun p hp=>by
    obtain ⟨e,_⟩:=I2.pin p hp
    exact big _ _ e) (by
    rw [Heap.size_push]
    exact Nat.le_succ_of_le (Nat.le_trans (Nat.le_refl _) I2.sz))
  ·have hd:=T.item Y eP ew eK eC i [] s6 _ H6 (fun _ _=>False) I6 (fY fr6) st6 go
   rw [eA] at hd
   refine wpAny_mono hd (fun r s7 ⟨u,hr,h7⟩=>?_) fun _ _ z=>z.elim
   subst hr
   show wpAny _ _ ((pure ():Sem Unit) >>= fun _=>assign (.Name x px) _ u) _ _ s7
   refine wpAny_bind (wpAny_mono h7 (fun _ s8 ⟨y,H8,I8,r8,y8,st8,fr8⟩=>?_) fun _ _ z=>z.elim)
   have I8':=I8.pinned (fY fr8) (T.obj _ _ st8)
   have h9:=hg _ s8 _ H8 y u (fun σ9 H9=>σ9=compSt σ fr (some y)/\H9=H8) I8' r8 ⟨rfl,rfl⟩
   rw [eA,eP,ew,eE,eX] at h9
   refine wpAny_mono h9 (fun _ s9 ⟨σ9,H9,I9,e9,e9'⟩=>?_) fun _ _ z=>z.elim
   subst e9 e9'
   have ht10:=htl _ s9 _ _ _ I9 (step y _ y8)
   rw [eA,eP,ew,eE,eX] at ht10
   refine wpAny_mono ht10 (fun ok s9t ⟨H9t,I9t,q9t⟩=>?_) fun _ _ z=>z.elim
   cases ok with
   | false=>
    rw [if_neg Bool.false_ne_true] at q9t
    rw [if_neg Bool.false_ne_true]
    obtain ⟨m',hm,w10⟩:=q9t
    refine ⟨m',hm,i+1,some y,_,vs,I9t.unpinned,T.keep _ _ _ st8 fun b hb o q=>(I9t.pin (b,o) (List.mem_append_right _ (List.mem_append_right _ (mem_pinsAt hb q)))).1,fun b hb=>?_,w10⟩
    obtain ⟨o,q,_⟩:=T.obj _ _ st8 b hb
    exact (I9t.pin (b,o) (List.mem_append_right _ (List.mem_append_right _ (mem_pinsAt hb q)))).2.1
   | true=>
   rw [if_pos rfl] at q9t
   rw [if_pos rfl]
   have h10:=hel _ s9t _ _ _ I9t q9t
   rw [eA,eP,ew,eE,eX] at h10
   refine wpAny_mono h10 (fun u10 s10 ⟨z10,H10,I10,r10,a10,m',hm,w10⟩=>?_) fun _ _ z=>z.elim
   have h11:=mt_append _ s10 _ H10 (.ref s2.heap.objs.size) [z10] (.ref s2.heap.objs.size) [u10] (fun _ H11=>H11=upd H10 s2.heap.objs.size (.lst (vs ++ [z10]))) I10 rfl (.cons r10 .nil) ⟨_,vs,z10,rfl,rfl,a10,hz,rfl⟩
   rw [eA,eP,ew,eX] at h11
   refine wpAny_mono h11 (fun _ s11 ⟨_,H11,I11,_,e11⟩=>?_) fun _ _ z=>z.elim
   subst e11
   refine ⟨m',hm,i+1,some y,_,vs ++ [z10],I11.unpinned,T.keep _ _ _ st8 fun b hb o q=>(I11.pin (b,o) (List.mem_append_right _ (List.mem_append_right _ (mem_pinsAt hb q)))).1,fun b hb=>?_,w10⟩
   obtain ⟨o,q,_⟩:=T.obj _ _ st8 b hb
   exact (I11.pin (b,o) (List.mem_append_right _ (List.mem_append_right _ (mem_pinsAt hb q)))).2.1
 exact codeAny_compStart_list (loop _ rfl) (T.self _ 0 _ _ _ st4 (loop _ rfl))
theorem pe_comp (hc:X.still=true) (S:CompScope X N fr x scope cl) (hi:PI X (.Name x px) iter wi) (he:∀ (C:Addr) (s0:Shared) (H0:Hp) (fp:List Addr) (pins:List (Addr × Obj)),PE (cxC X N scope cl C s0 H0 fp pins) elt te)
  (hs:∀ y,foldedSetIterable iter X.env y=pure y:=by intro _; rfl):PE X (.ListComp elt [⟨.Name x px,iter,[],0⟩] scope pos) (tComp wi fr te):=by
 intro pins s σ H Q I h
 rw [eval_ListComp]
 exact comp_core (tc:=fun _ H Q=>Q true H) (use:=none) hc S hi (fun _ _ _ _ _=>pts_nil) he hs I h fun acc C m H6 s7 qn hn hend _ _ _ _ _=>⟨m,hn,fun h' hs'=>⟨.ref acc,H6,hend h' hs',rfl,qn⟩⟩
end
end L2
namespace L2
open PySem PySem.Spec PyProof.Rows
theorem call_all {X:Cx} (hc:X.still=true):CallR X (.builtin "all") (fun xs H Q=>∃ (l:Addr) (bs:List Bool),xs=[.ref l]/\H l=some (.lst (bs.map V.bl))/\Q (.bl (bs.all id)) H):=by
 intro pins s σ H xs us Q I rv h
 obtain ⟨l,bs,rfl,hH,q⟩:=h
 obtain ⟨u,rfl,ru⟩:=rv.one
 cases ru
 obtain ⟨z,its,n,r,hl,e⟩:=I.lstM hH
 have hlt:l < s.heap.objs.size:=Heap.lt_size e
 refine call_all_walk (wpAny_pyIter_list (A:=X.A.in1) ⟨_,e,rfl,n,rfl⟩ ?_)
 obtain ⟨fp,st,W,st0,_⟩:=walks_list_any (P:=X.prog) (w:=X.w) (I.stl hc).in1 s.heap.objs.size l (Nat.ne_of_lt hlt) (I.stn hc (I.hok.fresh (Nat.le_refl _))) its.toArray
 refine ⟨s.heap.objs.size,_,_,_,_,_,fun i=>bs.getD i true,rfl,W,st0 _ ⟨_,Heap.get?_push_size _ rfl,rfl,rfl⟩ ⟨_,Heap.get?_push_of_some _ e,rfl,n,rfl⟩ (fun b o x=>Heap.get?_push_of_some _ x),?_,?_⟩
 ·intro i v s' Q' E' hP hQ
  have hv:its[i]?=some v:=by simpa using hP
  obtain ⟨b,hb,rfl⟩:∃ b,bs[i]?=some b/\v=Value.bool b:=by
   cases hbi:bs[i]? with
   | none=>
    have h1:=r.none_of (i:=i) (by rw [List.getElem?_map,hbi]; rfl)
    rw [h1] at hv; cases hv
   | some b=>
    obtain ⟨u',h1,h2⟩:=r.get (i:=i) (x:=.bl b) (by rw [List.getElem?_map,hbi]; rfl)
    rw [h1] at hv; cases hv
    exact ⟨b,rfl,h2⟩
  have hQ2:Q' (bs.getD i true) s':=hQ
  rw [List.getD_eq_getElem?_getD,hb] at hQ2
  exact wpAny_truthy_bool hQ2
 ·intro h' tk hk
  have e2:((List.range its.toArray.size).all fun i=>bs.getD i true)=bs.all id:=by
   have hlen:its.toArray.size=bs.length:=by
    rw [List.size_toArray,<- r.length,List.length_map]
   rw [hlen]
   rw [Bool.eq_iff_iff,List.all_eq_true,List.all_eq_true]
   constructor
   ·intro hA b hb
    obtain ⟨i,hi,e⟩:=List.getElem_of_mem hb
    have:=hA i (List.mem_range.mpr hi)
    rw [List.getD_eq_getElem?_getD,List.getElem?_eq_getElem hi,e] at this
    exact this
   ·intro hA i hi
    have hi':=List.mem_range.mp hi
    rw [List.getD_eq_getElem?_getD,List.getElem?_eq_getElem hi']
    exact hA _ (List.getElem_mem hi')
  rw [e2]
  refine ⟨.bl (bs.all id),H,?_,rfl,q⟩
  exact I.kept (h':=h') (t':=tk) fun b o q'=>hk b o (fun zz=>by
   have:b=s.heap.objs.size:=by simpa using zz
   subst this
   exact absurd (Heap.lt_size q') (Nat.lt_irrefl _)) (Heap.get?_push_of_some _ q')
end L2
namespace L2
open PySem PySem.Spec PyProof.Rows
section
variable {κ:Type} [DecidableEq κ]
end
section
variable {P:Program} {w:World} {H:Hp} {h:Heap} {a:Addr}
end
section
variable {X:Cx} {pins:List (Addr × Obj)} {σ:St} {H:Hp} {s:Shared} {a:Addr} {y v:V} {u r:Value} {o:Option V} {A:Around} {E:Value->Shared->Prop}
end
section
variable {X:Cx} {pins:List (Addr × Obj)} {σ:St} {H:Hp} {s:Shared} {a:Addr} {kvs:List (Key × V)} {k:Key} {u:Value} {A:Around} {E:Value->Shared->Prop}
end
section
variable {X:Cx} {o i e value:Expr} {pos pos' tpos:Pos} {td ty tv:TE}
end
section
variable {X:Cx} {pos:Pos}
end
section
variable {X:Cx} {pins:List (Addr × Obj)} {σ:St} {H:Hp} {s:Shared} {a:Addr} {y d:V} {u r:Value} {o:Option V} {A:Around} {E:Value->Shared->Prop}
end
section
variable {X:Cx} {o e f:Expr} {apos cpos:Pos} {td ty tx:TE}
end
section
variable {X:Cx} {pins:List (Addr × Obj)} {σ:St} {H:Hp} {s:Shared} {a:Addr} {y:V} {u:Value} {A:Around} {E:Value->Shared->Prop}
end
end L2
namespace L2
open PySem PySem.Spec PyProof.Rows
section
variable {P:Program} {w:World} {K:W.Frag} {mg:Str->Option Value} {base:Heap}
end
section
variable {X:Cx}
end
section
variable {κ:Type} [DecidableEq κ]
end
end L2
namespace L2
open PySem PySem.Spec PyProof.Rows
theorem vals_intsOf:∀ {us:List Value} {ns:List Int},IntsAre us ns->Vals (ns.map V.int) us
 | _,_,.nil=>.nil
 | _,_,.cons a t r=>.cons ⟨t,rfl⟩ (vals_intsOf r)
abbrev pairD (x:Int × Int):PyData:=.tuple [.int x.1,.int x.2]
theorem reads_tup2 {X:Cx} {pins:List (Addr × Obj)} {σ:St} {H:Hp} {s:Shared} {r:Addr} {x:Int × Int} (I:Inv X pins σ H s) (h:H r=some (.tup [.int x.1,.int x.2])):Reads s.heap (.ref r) (pairD x) []:=by
 obtain ⟨its,rv,⟨o,e1,e2,n,e3⟩,_⟩:=I.tuple (SqT.of h)
 cases rv with
 | cons r1 rv=>
  cases rv with
  | cons r2 rv=>
   cases rv
   obtain ⟨t1,rfl⟩:=r1
   obtain ⟨t2,rfl⟩:=r2
   exact .tuple e1 e2 e3 (.cons (.int _ _) (.cons (.int _ _) .nil))
theorem reads_all2 {X:Cx} {pins:List (Addr × Obj)} {σ:St} {H:Hp} {s:Shared} (I:Inv X pins σ H s):∀ {rs:List Addr} {xs:List (Int × Int)} {us:List Value},Paired (fun (r:Addr) (x:Int × Int)=>H r=some (.tup [.int x.1,.int x.2])) rs xs->Vals (rs.map V.ref) us->ReadsAll s.heap us (xs.map pairD) []
 | _,_,_,.nil,r=>by cases r; exact .nil
 | _,_,_,.cons h t,r=>by
  cases r with
  | cons r1 r2=>
   cases r1
   exact .cons (reads_tup2 I h) (reads_all2 I t r2)
theorem lay_pairs:∀ xs:List (Int × Int),PyData.canLayAll0 (xs.map pairD)=true
 | []=>rfl
 | x :: xs=>by
  show (PyData.canLay0 (pairD x) && PyData.canLayAll0 (xs.map pairD))=true
  rw [lay_pairs xs]
  rfl
theorem depth_pairs:∀ xs:List (Int × Int),PyData.depthAll (xs.map pairD)<=1
 | []=>Nat.zero_le _
 | x :: xs=>by
  show max (PyData.depth (pairD x)) (PyData.depthAll (xs.map pairD))<=1
  exact Nat.max_le.mpr ⟨Nat.le_refl 1,depth_pairs xs⟩
theorem CompScope.one {X:Cx} {x y:Str} {k:Nat} {c:Addr} {scope:Scope} (ns':List (Str × NameKind)) (kind:scope.kind=.function) (nocell:∀ z ∈ scope.names,z.2 ≠ .cell) (loc:∀ z ∈ scope.names,z.2=.local->scope.names.lookup z.1=some .local) (own:scope.names.lookup x=some .local)
  (clos:closureFor scope X.env=pure [(y,c)]) (hc:X.env.cells.lookup y=some c) (rl:(relabel scope X.env).names=ns') (only:∀ p ∈ ns',p.2=.cell\/p.2=.free->p.1=y) (ne:x ≠ y) (ny:ns'.lookup y ≠ some .local)
  (hk:X.N[k]?=some y) (kd:X.env.kindOf y=some .cell):CompScope X [x,y] [k] x scope [(y,c)]:=by
 subst rl
 refine ⟨kind,nocell,loc,own,clos,fun z b h=>?_,fun z h=>?_,by simp [ne],rfl,rfl,fun j z h=>?_,fun j k' h=>?_⟩
 ·rw [List.lookup_cons] at h
  by_cases e:z=y
  ·subst e
   simp at h
   subst h
   exact hc
  ·have:(z == y)=false:=by simpa using e
   rw [this] at h
   simp at h
 ·have e:z=y:=by
   rcases h with h | h
   ·exact only _ (PySem.mem_of_lookup h) (.inl rfl)
   ·exact only _ (PySem.mem_of_lookup h) (.inr rfl)
  subst e
  exact ⟨c,by simp⟩
 ·cases j with
  | zero=>
   have e:y=z:=by simpa using h
   subst e
   exact ny
  | succ j=>simp at h
 ·cases j with
  | zero=>
   have e:k=k':=by simpa using h
   subst e
   exact ⟨y,rfl,hk,kd⟩
  | succ j=>simp at h
end L2
namespace L2
open PySem PySem.Spec PyProof.Rows
section
variable {X:Cx} {N:List Str} {fr:List Nat} {x:Str} {scope:Scope} {cl:List (Str × Addr)} {elt iter:Expr} {px pos:Pos} {wi:TI} {te:TE}
theorem pe_compIf {cnd:Expr} {tc:TT} (hc:X.still=true) (S:CompScope X N fr x scope cl) (hi:PI X (.Name x px) iter wi) (ht:∀ (C:Addr) (s0:Shared) (H0:Hp) (fp:List Addr) (pins:List (Addr × Obj)),PT (cxC X N scope cl C s0 H0 fp pins) cnd tc) (he:∀ (C:Addr) (s0:Shared) (H0:Hp) (fp:List Addr) (pins:List (Addr × Obj)),PE (cxC X N scope cl C s0 H0 fp pins) elt te)
  (hs:∀ y,foldedSetIterable iter X.env y=pure y:=by intro _; rfl):PE X (.ListComp elt [⟨.Name x px,iter,[cnd],0⟩] scope pos) (tCompIf wi fr tc te):=by
 intro pins s σ H Q I h
 rw [eval_ListComp]
 exact comp_core (use:=none) hc S hi (fun _ _ _ _ _=>pts_one (ht _ _ _ _ _)) he hs I h fun acc C m H6 s7 qn hn hend _ _ _ _ _=>⟨m,hn,fun h' hs'=>⟨.ref acc,H6,hend h' hs',rfl,qn⟩⟩
end
end L2
namespace L2
open PySem PySem.Spec PyProof.Rows
theorem exc_obj2 {v:Value} {K:W.Frag} {h:Heap} {C:Addr} {bmB:List Value} {newId:String} (X:K.In h) (q:W.excIn K C bmB newId=true) (em:W.mroIn K C v=some true) :
  ∃ bm N nm qn bs hdct sn sub ab col dd k0 k1 k2 k3 k5 mN,h.get? C=some (excClassObj nm qn C N bs bm hdct sn sub ab col dd k0 k1 k2 k3 k5 newId)/\h.Ns N mN/\mN "__init__"=none/\OwnTail h bmB bm/\(Value.ref C :: bm).contains v=true:=by
 unfold W.excIn at q
 split at q
 ·rename_i dd cd sl ho
  split at q
  ·rename_i C' bm k0 k1 k2 k3 n k5 hm hs
   have hin:cd.mro.contains v=true:=by
    unfold W.mroIn W.clsIn at em
    rw [ho] at em
    obtain ⟨cd',a,b⟩:=Option.bind_eq_some_iff.mp em
    cases a
    split at b
    ·cases b
    ·exact Option.some.inj b
   rw [hm] at hin
   simp only [Bool.and_eq_true,beq_iff_eq,Bool.not_eq_true'] at q
   obtain ⟨⟨⟨⟨⟨c1,c2⟩,c3⟩,c4⟩,c5⟩,c6⟩:=q
   subst c1 c2
   obtain ⟨nm,bs,mro,ns,qn,hd,sn,sub,ab,col,del⟩:=cd
   dsimp only at hm c3 c5 c6
   subst hm c3
   obtain ⟨l⟩:=sl
   have hs':l=[k0,k1,k2,k3,some (.builtin n),k5]:=hs
   subst hs'
   exact ⟨bm,ns,nm,qn,bs,hd,sn,sub,ab,col,dd,k0,k1,k2,k3,k5,_,X _ _ ho,.of_isNs (W.isNs_of_in X c5),W.nsMap_none_of_in X c5 c6,W.tail_of_in X c4,hin⟩
  ·cases q
 ·cases q
section
variable {M:Model} {A:Around} {E:Value->Shared->Prop}
variable {nm q nm' q':Str} {C N D N':Addr} {bs bm bs' bm':List Value} {hdct hdct':Bool} {sn sn':List Str} {sub sub':List Value} {ab ab':Bool} {col col':Option Bool} {dd dd':Option Addr} {k0 k1 k2 k3 k5 j0 j1 j2 j3 j5:Option Value} {newId newId':String}
theorem excMatches_up {h:Heap} {g:Array GenState} {d:Drawn} {t:Nat} {os:OsState} {e:Addr} {oe:Obj} {Q:Bool->Shared->Prop}
  (hC:h.get? C=some (excClassObj nm q C N bs bm hdct sn sub ab col dd k0 k1 k2 k3 k5 newId)) (hD:h.get? D=some (excClassObj nm' q' D N' bs' bm' hdct' sn' sub' ab' col' dd' j0 j1 j2 j3 j5 newId')) (he:h.get? e=some oe) (hcls:oe.cls=.ref C)
  (hbase:bm'.contains (.type "BaseException")=true) (hcC:(Value.ref C :: bm).contains (.ref D)=true)
  (hq:Q true ⟨h,g,d,t,os⟩):wpAny M A (excMatches (.ref e) (.ref D)) Q E ⟨h,g,d,t,os⟩:=by
 have hcB:(Value.ref D :: bm').contains (.type "BaseException")=true:=by rw [List.contains_cons,hbase,Bool.or_true]
 have f:=tc_notTuple
 unfold excMatches
 repeat (first | (with_reducible refine wpAny_loadPart_at he ?_; rw [hcls]) | with_reducible refine wpAny_loadPart_at hD ?_ | with_reducible refine wpAny_loadPart_at hC ?_ | (with_reducible refine wpAny_isSubtype_exc hD ?_; rw [hcB]) | (with_reducible refine wpAny_isSubtype_exc hC ?_; rw [hcC]) | wp_step)
 exact hq
end
section
variable {X:Cx} {pins:List (Addr × Obj)} {σ:St} {H H':Hp} {s s':Shared} {e:Addr} {cls a0:Value} {ea C:Addr} {B h':Heap} {t':Nat}
theorem handle_as2 {Dc:Addr} {D:Ends} {ts:TS} {x n:Str} {np hpos:Pos} {b₀:Stmt} {suite:List Stmt} {i:Nat} (I:Inv X pins σ H s) (fly:Fly X.prog X.w X.stack H s (.ref C) a0 ea B H' s') (hst:X.stack=X.env :: X.outer) (hf:X.env.frame=some X.env.locals)
  (hm:X.mg x=some (.ref Dc)) (hg:Gl X x) (hq:W.excIn X.K C bmVE "ValueError.__new__"=true) (hqD:W.excIn X.K Dc bmVE "ValueError.__new__"=true) (hcd:W.mroIn X.K C (.ref Dc)=some true) (hN:X.N.Nodup) (hi:X.N[i]?=some n) (hk:X.env.scope.names.lookup n=some .local)
  (hsu:PSs (X.marked ea) (b₀ :: suite) ts) (h:ts (asEnds D i) (σ.set i (some (.ref ea))) (upd H' ea (.ext (ExcAt C ea)))) (hdb:(x == ("__debug__":Str))=false) :
  wpAny (model X.prog X.w) X.A (noteFrame (.ref ea) X.env) (fun _ s₂=>wpAny (model X.prog X.w) X.A (setFlight (.ref ea) none) (fun _ s₃=>
   wpAny (model X.prog X.w) X.A (handleBy (.ref ea) X.env [.ExceptHandler (some (.Name x np)) (some n) (b₀ :: suite) hpos]) (SP X pins D) X.xe s₃) X.xe s₂) X.xe s':=by
 obtain ⟨hp,gs,dr,tk,os⟩:=s'
 have fr:X.A.frames=some (X.env :: X.outer):=by rw [<- hst]; exact I.ok.frames
 have fl:Heap.FlyingW B (X.env :: X.outer) ea (.ref C) a0 hp:=by rw [<- hst]; exact fly.fly
 refine wpAny_looks_onW fr hf fl fun h4 held4 u4=>?_
 refine wpAny_landsW held4 fun h5 fl5 u5=>?_
 have I5:Inv X pins σ H' ⟨h5,gs,dr,tk,os⟩:=I.landed (t':=tk) fly fl5.1 (u4.trans u5)
 obtain ⟨ob,hob,hobc⟩:=fl5.there
 refine wpAny_handleBy_cons (codeAny_handlers_test (ld_glob (I5.marked ea) hg hm ?_ hdb)) (by intro q; cases q)
 obtain ⟨bm,Nn,nm,qn,bs,hdct,sn,sub,ab,col,dd,k0,k1,k2,k3,k5,mN,hC,hNs,hni,TL,hin⟩:=exc_obj2 I5.kIn hq hcd
 obtain ⟨bm',Nn',nm',qn',bs',hdct',sn',sub',ab',col',dd',j0,j1,j2,j3,j5,mN',hD,hNs',hni',TL'⟩:=exc_obj I5.kIn hqD
 refine excMatches_up hC hD hob hobc (TL'.hasType PySem.F.excBase_ValueError.hasBase) hin ?_
 refine codeAny_handlers_suite_as ?_
 refine lands_againW fl5 fun h6 fl6 u6=>?_
 have I6:Inv X pins σ (upd H' ea (.ext (ExcAt C ea))) ⟨h6,gs,dr,tk,os⟩:=I.landedE (t':=tk) fly fl6 ((u4.trans u5).trans u6)
 refine store_ok (X:=X.marked ea) (i:=i) (v:=.ref ea) (I6.marked ea) hN hi (.inl hk) rfl (fun s7 I7=>?_) (.inr hk)
 refine wpAny_mono (hsu pins s7 _ _ _ I7 h) (fun fw s8 q=>?_) fun _ _ z=>False.elim z
 cases fw with
 | next=>
  obtain ⟨σ2,H2,J,q⟩:=q
  exact unbind_ok (J.unmarked I.ok) hN hi hk fun s9 J9=>⟨_,_,J9,q⟩
 | ret v=>
  obtain ⟨v',σ2,H2,J,r,q⟩:=q
  exact unbind_ok (J.unmarked I.ok) hN hi hk fun s9 J9=>⟨v',_,_,J9,r,q⟩
 | brk=>
  obtain ⟨σ2,H2,J,q⟩:=q
  exact unbind_ok (J.unmarked I.ok) hN hi hk fun s9 J9=>⟨_,_,J9,q⟩
 | cont=>
  obtain ⟨σ2,H2,J,q⟩:=q
  exact unbind_ok (J.unmarked I.ok) hN hi hk fun s9 J9=>⟨_,_,J9,q⟩
end
section
variable {X:Cx} {k:Nat} {f C:Addr} {fd:FuncData} {ps:List Str} {sp:Sp} {g x n:Str} {p pos pos2 pos3 np hpos:Pos} {e:Expr} {es:List Expr} {t:TA} {ts:TS} {b₀:Stmt} {suite:List Stmt} {i:Nat}
end
end L2
namespace L2
open PySem PySem.Spec PyProof.Rows
def bls (c:Int) (i:Nat):List Bool:=(List.range i).map fun (j:Nat)=>decide (V.int (0+(j:Int))=V.int c)
theorem bls_len (c:Int) (i:Nat):(bls c i).length=i:=by unfold bls; rw [List.length_map,List.length_range]
theorem bls_more (c:Int) (i:Nat):bls c (i+1)=bls c i ++ [decide (V.int (0+(i:Int))=V.int c)]:=by
 unfold bls
 rw [List.range_succ,List.map_append]
 rfl
end L2
namespace L2
open PySem PySem.Spec PyProof.Rows
theorem eqv_pairs:∀ xs ys:List (Int × Int),PyData.eqvAll (xs.map pairD) (ys.map pairD)=decide (xs=ys)
 | [],[]=>by simp [PyData.eqvAll]
 | [],_ :: _=>by simp [PyData.eqvAll]
 | _ :: _,[]=>by simp [PyData.eqvAll]
 | (a,b) :: xs,(c,d) :: ys=>by
  have h:PyData.eqv (pairD (a,b)) (pairD (c,d))=decide ((a,b)=(c,d)):=by
   show ((a == c) && ((b == d) && true))=_
   by_cases h1:a=c <;> by_cases h2:b=d <;> simp [h1,h2]
  rw [List.map_cons,List.map_cons,PyData.eqvAll,h,eqv_pairs xs ys]
  by_cases h1:(a,b)=(c,d) <;> by_cases h2:xs=ys <;> simp [h1,h2]
theorem op_eqPairs {X:Cx} (hu:X.A.units+64 < cLine):OpR X (compareOp .Eq) (fun x y H Q=>∃ (p p':Addr) (rs rs':List Addr) (xs ys:List (Int × Int)),x=.ref p/\y=.ref p'/\H p=some (.lst (rs.map V.ref))/\Paired (fun (r:Addr) (x:Int × Int)=>H r=some (.tup [.int x.1,.int x.2])) rs xs /\
  H p'=some (.lst (rs'.map V.ref))/\Paired (fun (r:Addr) (x:Int × Int)=>H r=some (.tup [.int x.1,.int x.2])) rs' ys/\Q (.bl (decide (xs=ys))) H):=by
 intro pins s σ H x y v u Q I rx ry h
 obtain ⟨p,p',rs,rs',xs,ys,rfl,rfl,hp,tp,hp',tp',q⟩:=h
 cases rx
 cases ry
 obtain ⟨its,rv,⟨o,n,e1,e2,_,e3⟩,_⟩:=I.list (SqL.of hp)
 obtain ⟨its',rv',⟨o',n',e1',e2',_,e3'⟩,_⟩:=I.list (SqL.of hp')
 have ra:Reads s.heap (.ref p) (.list (xs.map pairD)) [p]:=.list e1 e2 e3 (reads_all2 I tp rv)
 have rb:Reads s.heap (.ref p') (.list (ys.map pairD)) [p']:=.list e1' e2' e3' (reads_all2 I tp' rv')
 have sh:∀ zs:List (Int × Int),SeqAt.shaped (.list (zs.map pairD))=true:=fun zs=>by
  have cl:PyData.canLay0 (.list (zs.map pairD))=true:=lay_pairs zs
  unfold SeqAt.shaped
  rw [cl,Bool.true_and]
  exact decide_eq_true (by have:=depth_pairs zs; show PyData.depthAll (zs.map pairD)+1<=64; omega)
 refine eq_dataH ra rb (sh xs) (sh ys) hu ?_
 have e:PyData.eqv (.list (xs.map pairD)) (.list (ys.map pairD))=decide (xs=ys):=by
  rw [PyData.eqv]
  exact eqv_pairs xs ys
 rw [e]
 exact ⟨.bl (decide (xs=ys)),H,I,rfl,q⟩
end L2
namespace L2
open PySem PySem.Spec PyProof.Rows
theorem eqv_bools:∀ xs ys:List Bool,PyData.eqvAll (xs.map PyData.bool) (ys.map PyData.bool)=decide (xs=ys)
 | [],[]=>by simp [PyData.eqvAll]
 | [],_ :: _=>by simp [PyData.eqvAll]
 | _ :: _,[]=>by simp [PyData.eqvAll]
 | a :: xs,b :: ys=>by
  rw [List.map_cons,List.map_cons,PyData.eqvAll,eqv_bools xs ys,PyData.eqv]
  by_cases h1:a=b <;> by_cases h2:xs=ys <;> simp [h1,h2]
theorem op_eqBlG {X:Cx} (hu:X.A.units+64 < cLine):OpR X (compareOp .Eq) (fun x y H Q=>∃ (p p':Addr) (bs bs':List Bool),x=.ref p/\y=.ref p'/\H p=some (.lst (bs.map V.bl))/\H p'=some (.lst (bs'.map V.bl))/\SeqAt.shaped (.list (bs.map PyData.bool))=true/\SeqAt.shaped (.list (bs'.map PyData.bool))=true/\Q (.bl (decide (bs=bs'))) H):=by
 intro pins s σ H x y v u Q I rx ry h
 obtain ⟨p,p',bs,bs',rfl,rfl,hp,hp',sh,sh',q⟩:=h
 cases rx
 cases ry
 obtain ⟨its,rv,⟨o,n,e1,e2,_,e3⟩,_⟩:=I.list (SqL.of hp)
 obtain ⟨its',rv',⟨o',n',e1',e2',_,e3'⟩,_⟩:=I.list (SqL.of hp')
 have ra:Reads s.heap (.ref p) (.list (bs.map PyData.bool)) [p]:=.list e1 e2 e3 (reads_bools _ rv)
 have rb:Reads s.heap (.ref p') (.list (bs'.map PyData.bool)) [p']:=.list e1' e2' e3' (reads_bools _ rv')
 refine eq_dataH ra rb sh sh' hu ?_
 have e:PyData.eqv (.list (bs.map PyData.bool)) (.list (bs'.map PyData.bool))=decide (bs=bs'):=by
  rw [PyData.eqv]
  exact eqv_bools bs bs'
 rw [e]
 exact ⟨.bl (decide (bs=bs')),H,I,rfl,q⟩
theorem reads_ints (h:Heap):∀ {ns:List Int} {us:List Value},Vals (ns.map V.int) us->ReadsAll h us (ns.map PyData.int) []
 | [],_,.nil=>.nil
 | n :: r,_,.cons q t=>by
  obtain ⟨k,rfl⟩:=q
  exact ReadsAll.cons (as:=[]) (bs:=[]) (.int n k) (reads_ints h t)
theorem lay_ints:∀ ns:List Int,PyData.canLay0 (.list (ns.map PyData.int))=true/\PyData.depthAll (ns.map PyData.int)<=1
 | []=>⟨rfl,by simp [PyData.depthAll]⟩
 | n :: r=>by
  obtain ⟨a,b⟩:=lay_ints r
  constructor
  ·simp only [PyData.canLay0,List.map_cons] at a ⊢
   simp_all [PyData.canLay0,PyData.canLayAll0]
  ·simp only [List.map_cons,PyData.depthAll,PyData.depth]
   omega
theorem op_neNil {X:Cx} (hu:X.A.units+64 < cLine):OpR X (compareOp .NotEq) (fun x y H Q=>∃ (p p':Addr) (ns:List Int),x=.ref p/\y=.ref p'/\H p=some (.lst (ns.map V.int))/\H p'=some (.lst [])/\Q (.bl (!ns.isEmpty)) H):=by
 intro pins s σ H x y v u Q I rx ry h
 obtain ⟨p,p',ns,rfl,rfl,hp,hp',q⟩:=h
 cases rx
 cases ry
 obtain ⟨its,rv,⟨o,n,e1,e2,_,e3⟩,_⟩:=I.list (SqL.of hp)
 obtain ⟨its',rv',⟨o',n',e1',e2',_,e3'⟩,_⟩:=I.list (SqL.of hp')
 have ra:Reads s.heap (.ref p) (.list (ns.map PyData.int)) [p]:=.list e1 e2 e3 (reads_ints _ rv)
 have rb:Reads s.heap (.ref p') (.list (([]:List Int).map PyData.int)) [p']:=.list e1' e2' e3' (reads_ints _ (ns:=[]) rv')
 have sh:∀ zs:List Int,SeqAt.shaped (.list (zs.map PyData.int))=true:=fun zs=>by
  unfold SeqAt.shaped
  rw [(lay_ints zs).1,Bool.true_and]
  exact decide_eq_true (by have:=(lay_ints zs).2; show PyData.depthAll (zs.map PyData.int)+1<=64; omega)
 refine ne_dataH ra rb (sh ns) (sh []) hu ?_
 have e:(!PyData.eqv (.list (ns.map PyData.int)) (.list (([]:List Int).map PyData.int)))=!ns.isEmpty:=by
  rw [PyData.eqv]
  cases ns <;> rfl
 rw [e]
 exact ⟨.bl (!ns.isEmpty),H,I,rfl,q⟩
section
variable {X:Cx} {k:Nat} {f C:Addr} {fd:FuncData} {ps:List Str} {sp:Sp} {g x n:Str} {p pos pos2 pos3 np hpos:Pos} {e:Expr} {es:List Expr} {t:TA} {ts:TS} {b₀:Stmt} {suite:List Stmt} {i:Nat}
end
end L2
namespace L2
open PySem PySem.Spec PyProof.Rows
inductive IsiE (X:Cx) (C0:Addr):List Expr->List Bool->Prop where
 | nil:IsiE X C0 [] []
 | cons {x:Str} {C:Addr} {b:Bool} {p p2 p3 p4:Pos} {es:List Expr} {bs:List Bool} (h5:Gl X x) (h6:X.mg x=some (.ref C)) (h7:(x == ("__debug__":Str))=false) (k:W.kitOne X.K (.ref C0) (.ref C)=some b) (h:IsiE X C0 es bs) :
   IsiE X C0 (.Call (.Name "isinstance" p) [.Name "_law_e" p2,.Name x p3] [] p4 :: es) (b :: bs)
end L2
namespace L2
open PySem PySem.Spec PyProof.Rows
def tSetC (wi:TI) (fr:List Nat) (tc:TT) (te:TE) (k:Nat):TS:=fun D σ H=>tCompIf wi fr tc te σ H fun v H'=>D.nx (σ.set k (some v)) H'
theorem Inv.off {X:Cx} {pins:List (Addr × Obj)} {σ:St} {H:Hp} {s:Shared} {C:Addr} {h':Heap} (I:Inv X pins σ H s) (hs:Heap.SameBut C s.heap h') (hC0:X.s₀.heap.objs.size<=C) (hH:H C=none) (hL:C ≠ X.env.locals) (hc:∀ y c,X.env.cells.lookup y=some c->c ≠ C) (hp:∀ p ∈ X.pn ++ pins,p.1 ≠ C):Inv X pins σ H { s with heap:=h' }:=by
 obtain ⟨m,hn,hl⟩:=id I.loc
 have old:∀ b o,X.s₀.heap.get? b=some o->h'.get? b=s.heap.get? b:=fun b o e=>hs.2 b (Nat.ne_of_lt (Nat.lt_of_lt_of_le (Heap.lt_size e) hC0))
 refine ⟨I.ok,I.fzs,I.os,I.bare,⟨fun b o e k hb hx=>(old b o e).trans (I.base.keep b o e k hb hx),fun b o e k hb hx=>?_,I.base.free,fun b o e hx=>?_,I.base.tups,I.base.frzs,I.base.tbls⟩,⟨m,hn.sameBut hs hL.symm,fun j y v' e1 e2 e3=>?_⟩,fun y c e=>?_,I.free,I.freeC,fun p q=>?_,fun b ob e=>?_,I.len⟩
 ·obtain ⟨sl,e1⟩:=I.base.slot b o e k hb hx
  exact ⟨sl,(old b o e).trans e1⟩
 ·obtain ⟨o',e1⟩:=I.base.there b o e hx
  exact ⟨o',(old b o e).trans e1⟩
 ·obtain ⟨u',r',q⟩:=hl j y v' e1 e2 e3
  refine ⟨u',r',?_⟩
  rcases q with q | ⟨k,c,e,z⟩
  ·exact .inl q
  ·exact .inr ⟨k,c,e,z.sameBut hs (hc y c e)⟩
 ·obtain ⟨w',z⟩:=I.cell y c e
  exact ⟨w',z.sameBut hs (hc y c e)⟩
 ·obtain ⟨e,k,ne,nf,d⟩:=I.pin p q
  exact ⟨(hs.2 p.1 (hp p q)).trans e,k,ne,nf,d⟩
 ·refine (I.hok b ob e).stay (fun c w' hc' q=>(hs.2 c ?_).trans q) (fun _ q=>q) fun _ _ q=>q
  rintro rfl
  rcases hc' with rfl | hc'
  ·rw [hH] at e; cases e
  ·rw [hH] at hc'; cases hc'
section
variable {X:Cx} {N:List Str} {fr:List Nat} {x:Str} {scope:Scope} {cl:List (Str × Addr)} {elt iter:Expr} {px pos:Pos} {wi:TI} {te:TE}
theorem ps_setC {cnd:Expr} {tc:TT} {y:Str} {py spos:Pos} {k:Nat} (hN:X.N.Nodup) (hk:X.N[k]?=some y) (hy:Loc X.env.scope y) (hsw:swapsWith (.ListComp elt [⟨.Name x px,iter,[cnd],0⟩] scope pos) (some (.Name y py)) spos.line X.env=pure true) (hc:X.still=true) (S:CompScope X N fr x scope cl) (hi:PI X (.Name x px) iter wi) (ht:∀ (C:Addr) (s0:Shared) (H0:Hp) (fp:List Addr) (pins:List (Addr × Obj)),PT (cxC X N scope cl C s0 H0 fp pins) cnd tc) (he:∀ (C:Addr) (s0:Shared) (H0:Hp) (fp:List Addr) (pins:List (Addr × Obj)),PE (cxC X N scope cl C s0 H0 fp pins) elt te)
  (hf:X.fn y=true\/X.env.scope.names.lookup y=some .local) (hs:∀ y,foldedSetIterable iter X.env y=pure y:=by intro _; rfl):PS X (.Assign [.Name y py] (.ListComp elt [⟨.Name x px,iter,[cnd],0⟩] scope pos) spos) (tSetC wi fr tc te k):=by
 intro pins s σ H D I h
 rw [exec_Assign_Name_used _ _ _ _ hsw]
 refine wpAny_bind (wpAny_standAt (wpAny_bind ?_))
 show wpAny _ X.A (do let _ <- comprehension (.ListComp elt [⟨.Name x px,iter,[cnd],0⟩] scope pos) scope X.env _ (newList []) false (eval iter X.env) (some (assign (.Name y py) X.env))) _ _ s
 refine wpAny_bind (wpAny_mono (comp_core (use:=some (assign (.Name y py) X.env)) (R:=fun _ s'=>SP X pins D .next s') hc S hi (fun _ _ _ _ _=>pts_one (ht _ _ _ _ _)) he hs I h (fun acc C m H6 s7 qn hn hend cf cL cC cP cS=>by
  have J7:Inv X pins σ H6 s7:=hend s7.heap ⟨rfl,fun _ _=>rfl⟩
  show wpAny _ X.A (assign (.Name y py) X.env (.ref acc)) _ _ _
  refine wpAny_assign_Name (store_ok2 J7 hN hk hy (v:=.ref acc) rfl (fun s8 J8 ⟨a,hsa,ha⟩=>?_) hf)
  have aC:C ≠ a:=by
   rcases ha with e | e
   ·rw [e]; exact Ne.symm cL
   ·exact Ne.symm (cC _ _ e)
  exact ⟨m,hn.sameBut hsa aC,fun h' hs'=>⟨_,H6,J8.off hs' cS cf (Ne.symm cL) cC cP,qn⟩⟩)) (fun _ s' hq=>wpAny_pure (wpAny_pure hq)) fun _ _ e=>e)
end
end L2
namespace L2
open PySem PySem.Spec PyProof.Rows
def CompEnd (J:It) (Q:VK) (H1:Hp) (te:TE) (σ:V->St):Prop:=∀ acc,H1 acc=none->∃ W:Nat->Nat->Hp->List V->Prop,(∃ m,W 0 m (upd H1 acc (.lst [])) []) /\
 ∀ i m H' vs,W i m H' vs->H' acc=some (.lst vs)/\((J.stop i H'/\Q (.ref acc) H')\/(J.go i H'/\vs.length < sizeLine/\∀ x H2,J.yld i H' x H2->te (σ x) H2 fun y H3=>H3 acc=some (.lst vs)/\∃ m',m' < m/\W (i+1) m' (upd H3 acc (.lst (vs ++ [y]))) (vs ++ [y])))
def CompIfEnd (J:It) (Q:VK) (H1:Hp) (tc:TT) (te:TE) (σ:V->St):Prop:=∀ acc,H1 acc=none->∃ W:Nat->Nat->Hp->List V->Prop,(∃ m,W 0 m (upd H1 acc (.lst [])) []) /\
 ∀ i m H' vs,W i m H' vs->H' acc=some (.lst vs)/\((J.stop i H'/\Q (.ref acc) H')\/(J.go i H'/\vs.length < sizeLine/\∀ x H2,J.yld i H' x H2->tc (σ x) H2 fun b H3=>
  if b=true then te (σ x) H3 fun y H4=>H4 acc=some (.lst vs)/\∃ m',m' < m/\W (i+1) m' (upd H4 acc (.lst (vs ++ [y]))) (vs ++ [y]) else ∃ m',m' < m/\W (i+1) m' H3 vs))
def tCompC (wi:TI) (fr:List Nat) (te:TE):TE:=fun σ H Q=>wi σ H fun J H1=>CompEnd J Q H1 te (fun x=>compSt σ fr (some x))
def tCompIfC (wi:TI) (fr:List Nat) (tc:TT) (te:TE):TE:=fun σ H Q=>wi σ H fun J H1=>CompIfEnd J Q H1 tc te (fun x=>compSt σ fr (some x))
section
variable {X:Cx} {N:List Str} {fr:List Nat} {x:Str} {scope:Scope} {cl:List (Str × Addr)} {elt iter:Expr} {px pos:Pos} {wi:TI} {te:TE}
end
section
variable {X:Cx} {N:List Str} {fr:List Nat} {x:Str} {scope:Scope} {cl:List (Str × Addr)} {elt iter:Expr} {px pos:Pos} {wi:TI} {te:TE}
theorem pe_compC (hc:X.still=true) (S:CompScope X N fr x scope cl) (hi:PI X (.Name x px) iter wi) (he:∀ (C:Addr) (s0:Shared) (H0:Hp) (fp:List Addr) (pins:List (Addr × Obj)),PE (cxC X N scope cl C s0 H0 fp pins) elt te)
  (hs:∀ y,foldedSetIterable iter X.env y=pure y:=by intro _; rfl):PE X (.ListComp elt [⟨.Name x px,iter,[],0⟩] scope pos) (tCompC wi fr te):=pe_comp hc S hi he hs
theorem pe_compIfC {cnd:Expr} {tc:TT} (hc:X.still=true) (S:CompScope X N fr x scope cl) (hi:PI X (.Name x px) iter wi) (ht:∀ (C:Addr) (s0:Shared) (H0:Hp) (fp:List Addr) (pins:List (Addr × Obj)),PT (cxC X N scope cl C s0 H0 fp pins) cnd tc) (he:∀ (C:Addr) (s0:Shared) (H0:Hp) (fp:List Addr) (pins:List (Addr × Obj)),PE (cxC X N scope cl C s0 H0 fp pins) elt te)
  (hs:∀ y,foldedSetIterable iter X.env y=pure y:=by intro _; rfl):PE X (.ListComp elt [⟨.Name x px,iter,[cnd],0⟩] scope pos) (tCompIfC wi fr tc te):=pe_compIf hc S hi ht he hs
end
theorem same_upd {H0 H:Hp} {p:Addr} {o:HO} (g:Same H0 H) (h:H0 p=none):Same H0 (upd H p o):=fun b u q=>by
 rw [upd_ne (ne_of_none q h)]
 exact g b u q
theorem comp_tupF {K:W.Frag} {a:Addr} {xs:List V} {te:TE} {σ:V->St} {H:Hp} {Q:VK} (hx:SqT K H a xs) (hn:xs.length < sizeLine) (f:V->V) (hK:∀ H',Same H H'->SqT K H' a xs)
  (he:∀ (i:Nat) (x:V) (H':Hp) (Q':VK),xs[i]?=some x->Same H H'->(∀ H2,Same H' H2->Q' (f x) H2)->te (σ x) H' Q')
  (q:∀ p H',Same H H'->H p=none->H' p=some (.lst (xs.map f))->Q (.ref p) H'):CompEnd (Itt K a) Q H te σ:=by
 intro acc hacc
 refine ⟨fun i m H' vs=>i<=xs.length/\m=xs.length - i/\Same H H'/\H' acc=some (.lst vs)/\vs=(xs.take i).map f,⟨xs.length,Nat.zero_le _,by simp,same_new hacc _,upd_same,by simp⟩,?_⟩
 rintro i m H' vs ⟨hi,rfl,g,ha,rfl⟩
 refine ⟨ha,?_⟩
 by_cases h:i=xs.length
 ·refine .inl ⟨⟨xs,hK _ g,by omega⟩,q acc H' g hacc ?_⟩
  rw [ha,h,List.take_length]
 ·have hlt:i < xs.length:=by omega
  refine .inr ⟨⟨xs,xs[i],hK _ g,by simp [hlt]⟩,by rw [List.length_map,List.length_take]; omega,?_⟩
  rintro z H2 ⟨rfl,hz⟩
  have hz':=hz xs (hK _ g)
  refine he i z H2 _ hz' g fun H3 g3=>⟨g3 _ _ ha,xs.length - (i+1),by omega,by omega,rfl,same_upd (g.trans g3) hacc,upd_same,?_⟩
  rw [List.take_succ,hz',List.map_append]
  rfl
theorem compIf_walk {J:It} {xs:List V} {tc:TT} {te:TE} {σ:V->St} {H:Hp} {Q:VK} (hn:xs.length < sizeLine) (p:V->Bool) (f:V->V)
  (hstop:∀ H',Same H H'->J.stop xs.length H') (hgo:∀ (i:Nat) H',i < xs.length->Same H H'->J.go i H') (hyld:∀ (i:Nat) H' x H2,Same H H'->J.yld i H' x H2->H2=H'/\xs[i]?=some x)
  (ht:∀ (i:Nat) (x:V) (H':Hp) (Q':Bool->Hp->Prop),xs[i]?=some x->Same H H'->(∀ H2,Same H' H2->Q' (p x) H2)->tc (σ x) H' Q')
  (he:∀ (i:Nat) (x:V) (H':Hp) (Q':VK),xs[i]?=some x->p x=true->Same H H'->(∀ H2,Same H' H2->Q' (f x) H2)->te (σ x) H' Q')
  (q:∀ a H',Same H H'->H a=none->H' a=some (.lst ((xs.filter p).map f))->Q (.ref a) H'):CompIfEnd J Q H tc te σ:=by
 intro acc hacc
 refine ⟨fun i m H' vs=>i<=xs.length/\m=xs.length - i/\Same H H'/\H' acc=some (.lst vs)/\vs=((xs.take i).filter p).map f,⟨xs.length,Nat.zero_le _,by simp,same_new hacc _,upd_same,by simp⟩,?_⟩
 rintro i m H' vs ⟨hi,rfl,g,ha,rfl⟩
 refine ⟨ha,?_⟩
 by_cases h:i=xs.length
 ·refine .inl ⟨h ▸ hstop _ g,q acc H' g hacc ?_⟩
  rw [ha,h,List.take_length]
 ·have hlt:i < xs.length:=by omega
  refine .inr ⟨hgo i _ hlt g,?_,?_⟩
  ·rw [List.length_map]
   have h1:=List.length_filter_le p (xs.take i)
   rw [List.length_take] at h1
   omega
  intro z H2 hz
  obtain ⟨rfl,hz'⟩:=hyld i _ _ _ g hz
  refine ht i z H2 _ hz' g fun H3 g3=>?_
  have ts:xs.take (i+1)=xs.take i ++ [z]:=by rw [List.take_succ,hz']; rfl
  cases e:p z with
  | true=>
   rw [if_pos rfl]
   refine he i z H3 _ hz' e (g.trans g3) fun H4 g4=>⟨g4 _ _ (g3 _ _ ha),xs.length - (i+1),by omega,by omega,rfl,same_upd (g.trans (g3.trans g4)) hacc,upd_same,?_⟩
   rw [ts,List.filter_append,List.map_append]
   have:[z].filter p=[z]:=by simp [e]
   rw [this]
   rfl
  | false=>
   rw [if_neg Bool.false_ne_true]
   refine ⟨xs.length - (i+1),by omega,by omega,rfl,g.trans g3,g3 _ _ ha,?_⟩
   rw [ts,List.filter_append,List.map_append]
   have:[z].filter p=[]:=by simp [e]
   rw [this]
   simp
theorem compIf_listF {K:W.Frag} {a:Addr} {xs:List V} {tc:TT} {te:TE} {σ:V->St} {H:Hp} {Q:VK} (hn:xs.length < sizeLine) (p:V->Bool) (f:V->V) (hK:∀ H',Same H H'->SqL K H' a xs)
  (ht:∀ (i:Nat) (x:V) (H':Hp) (Q':Bool->Hp->Prop),xs[i]?=some x->Same H H'->(∀ H2,Same H' H2->Q' (p x) H2)->tc (σ x) H' Q')
  (he:∀ (i:Nat) (x:V) (H':Hp) (Q':VK),xs[i]?=some x->p x=true->Same H H'->(∀ H2,Same H' H2->Q' (f x) H2)->te (σ x) H' Q')
  (q:∀ a H',Same H H'->H a=none->H' a=some (.lst ((xs.filter p).map f))->Q (.ref a) H'):CompIfEnd (Itl K a) Q H tc te σ:=
 compIf_walk hn p f (fun H' g=>⟨xs,hK _ g,Nat.le_refl _⟩) (fun i H' hi g=>⟨xs,xs[i],hK _ g,by simp [hi]⟩) (fun i H' x H2 g h=>⟨h.1,h.2 xs (hK _ g)⟩) ht he q
mutual
inductive DA (H:Hp):V->PyData->Prop where
 | int {i:Int}:DA H (.int i) (.int i)
 | bl {b:Bool}:DA H (.bl b) (.bool b)
 | str {x:Str}:DA H (.str x) (.str x)
 | lst {p:Addr} {xs:List V} {ds:List PyData}:H p=some (.lst xs)->DAs H xs ds->DA H (.ref p) (.list ds)
 | tup {p:Addr} {xs:List V} {ds:List PyData}:H p=some (.tup xs)->DAs H xs ds->DA H (.ref p) (.tuple ds)
inductive DAs (H:Hp):List V->List PyData->Prop where
 | nil:DAs H [] []
 | cons {x:V} {d:PyData} {xs:List V} {ds:List PyData}:DA H x d->DAs H xs ds->DAs H (x :: xs) (d :: ds)
end
mutual
theorem DA.reads {X:Cx} {pins:List (Addr × Obj)} {σ:St} {H:Hp} {s:Shared} (I:Inv X pins σ H s):∀ {v:V} {d:PyData} {u:Value},DA H v d->RelV v u->∃ as,Reads s.heap u d as
 | _,_,_,.int,r=>by obtain ⟨t,rfl⟩:=r; exact ⟨_,.int _ _⟩
 | _,_,_,.bl,r=>by cases r; exact ⟨_,.bool _⟩
 | _,_,_,.str,r=>by obtain ⟨t,rfl⟩:=r; exact ⟨_,.str _ _⟩
 | _,_,_,.lst h hs,r=>by
  cases r
  obtain ⟨its,rv,⟨o,n,e1,e2,_,e3⟩,_⟩:=I.list (SqL.of h)
  obtain ⟨as,z⟩:=DAs.reads I hs rv
  exact ⟨_,.list e1 e2 e3 z⟩
 | _,_,_,.tup h hs,r=>by
  cases r
  obtain ⟨its,rv,⟨o,e1,e2,n,e3⟩,_⟩:=I.tuple (SqT.of h)
  obtain ⟨as,z⟩:=DAs.reads I hs rv
  exact ⟨_,.tuple e1 e2 e3 z⟩
theorem DAs.reads {X:Cx} {pins:List (Addr × Obj)} {σ:St} {H:Hp} {s:Shared} (I:Inv X pins σ H s):∀ {vs:List V} {ds:List PyData} {us:List Value},DAs H vs ds->Vals vs us->∃ as,ReadsAll s.heap us ds as
 | _,_,_,.nil,r=>by cases r; exact ⟨_,.nil⟩
 | _,_,_,.cons h hs,r=>by
  cases r with
  | cons r1 r2=>
   obtain ⟨a1,z1⟩:=DA.reads I h r1
   obtain ⟨a2,z2⟩:=DAs.reads I hs r2
   exact ⟨_,.cons z1 z2⟩
end
def rEqD:R2:=fun x y H Q=>∃ da db:PyData,DA H x da/\DA H y db/\SeqAt.shaped da=true/\SeqAt.shaped db=true/\Q (.bl (PyData.eqv da db)) H
def rNeD:R2:=fun x y H Q=>∃ da db:PyData,DA H x da/\DA H y db/\SeqAt.shaped da=true/\SeqAt.shaped db=true/\Q (.bl (!PyData.eqv da db)) H
theorem op_eqD {X:Cx} (hu:X.A.units+64 < cLine):OpR X (compareOp .Eq) rEqD:=by
 intro pins s σ H x y v u Q I rx ry h
 obtain ⟨da,db,ha,hb,sa,sb,q⟩:=h
 obtain ⟨as,ra⟩:=ha.reads I rx
 obtain ⟨bs,rb⟩:=hb.reads I ry
 exact eq_dataH ra rb sa sb hu ⟨.bl _,H,I,rfl,q⟩
theorem op_neD {X:Cx} (hu:X.A.units+64 < cLine):OpR X (compareOp .NotEq) rNeD:=by
 intro pins s σ H x y v u Q I rx ry h
 obtain ⟨da,db,ha,hb,sa,sb,q⟩:=h
 obtain ⟨as,ra⟩:=ha.reads I rx
 obtain ⟨bs,rb⟩:=hb.reads I ry
 exact ne_dataH ra rb sa sb hu ⟨.bl _,H,I,rfl,q⟩
end L2
namespace L2
open PySem PySem.Spec PyProof.Rows
structure CompScope2 (X:Cx) (N:List Str) (fr:List Nat) (x x2:Str) (scope:Scope) (cl:List (Str × Addr)):Prop where
 kind:scope.kind=.function
 nocell:∀ y ∈ scope.names,y.2 ≠ .cell
 loc:∀ y ∈ scope.names,y.2=.local->scope.names.lookup y.1=some .local
 own:scope.names.lookup x=some .local
 own2:scope.names.lookup x2=some .local
 clos:closureFor scope X.env=pure cl
 sub:∀ y c,cl.lookup y=some c->X.env.cells.lookup y=some c
 has:∀ y,((relabel scope X.env).names.lookup y=some .cell\/(relabel scope X.env).names.lookup y=some .free)->∃ c,cl.lookup y=some c
 nd:N.Nodup
 hN:N[0]?=some x
 hN2:N[1]?=some x2
 len:N.length=fr.length+2
 ownOnly:∀ (j:Nat) (y:Str),N[j+2]?=some y->(relabel scope X.env).names.lookup y ≠ some .local
 out:∀ (j k:Nat),fr[j]?=some k->∃ y,N[j+2]?=some y/\X.N[k]?=some y/\X.env.kindOf y=some .cell
def compSt2 (σ:St) (fr:List Nat) (v v2:Option V):St:=v :: v2 :: fr.map fun k=>(σ[k]?).join
def CompPEnd (K:W.Frag) (J:It) (Q:VK) (H1:Hp) (te:TE) (σ:V->V->St):Prop:=∀ acc,H1 acc=none->∃ W:Nat->Nat->Hp->List V->Prop,(∃ m,W 0 m (upd H1 acc (.lst [])) []) /\
 ∀ i m H' vs,W i m H' vs->H' acc=some (.lst vs)/\((J.stop i H'/\Q (.ref acc) H')\/(J.go i H'/\vs.length < sizeLine/\∀ x H2,J.yld i H' x H2->∃ (t:Addr) (v1 v2:V),x=.ref t/\SqT K H2 t [v1,v2]/\te (σ v1 v2) H2 fun y H3=>H3 acc=some (.lst vs)/\∃ m',m' < m/\W (i+1) m' (upd H3 acc (.lst (vs ++ [y]))) (vs ++ [y])))
def tCompP (K:W.Frag) (wi:TI) (fr:List Nat) (te:TE):TE:=fun σ H Q=>wi σ H fun J H1=>CompPEnd K J Q H1 te (fun v1 v2=>compSt2 σ fr (some v1) (some v2))
theorem compLoop_pairIf {P:Program} {w:World} {A:Around} {s:Shared} {elt iter:Expr} {ifs:List Expr} {es:List Expr} {x1:Nat} {tp:Pos} {scope:Scope} {pos:Pos} {it acc:Value} {env:Env} {R:Result->Shared->Prop} (I:Nat->Shared->Prop)
  (turn:∀ n s,I n s->wpAny (model P w) A (pyNext it) (fun r s₁=>match r with
   | none=>R (.ok .next) s₁
   | some v=>wpAny (model P w) A (letOwnedTupleGo (.Tuple es x1 tp) it v) (fun _ s₁'=>wpAny (model P w) A (assign (.Tuple es x1 tp) env v) (fun _ s₂=>
     wpAny (model P w) A (forIn ifs true fun c r=>if r=true then do let ok <- isTrue c env (eval c env); pure (ForInStep.yield ok) else pure (ForInStep.yield r)) (fun ok s₃=>
      if ok=true then wpAny (model P w) A (eval elt env) (fun x s₄=>
       wpAny (model P w) A (call (.builtin "list.append") [acc,x]) (fun _ s₅=>∃ m,m < n/\I m s₅) (notedBy (model P w) A env fun e s'=>R (.error e) s') s₄) (notedBy (model P w) A env fun e s'=>R (.error e) s') s₃
      else ∃ m,m < n/\I m s₃) (notedBy (model P w) A env fun e s'=>R (.error e) s') s₂)
     (notedBy (model P w) A env fun e s'=>R (.error e) s') s₁') (notedBy (model P w) A env fun e s'=>R (.error e) s') s₁) (notedBy (model P w) A env fun e s'=>R (.error e) s') s)
  (n:Nat) (h:I n s):codeAny (model P w) A (.compLoop (.ListComp elt [⟨.Tuple es x1 tp,iter,ifs,0⟩] scope pos) 0 it acc env) R s:=by
 refine codeAny_loop rfl I (fun m s1 hI=>?_) n h
 show wpAny _ A ((compTurn (.ListComp elt [⟨.Tuple es x1 tp,iter,ifs,0⟩] scope pos) 0 it acc env).onRaise (fun x=>do noteFrame x env; theTreesLotGoes x)) _ _ s1
 refine wpAny_noted ?_
 rw [compTurn_list]
 refine wpAny_bind (wpAny_standAt (wpAny_bind (wpAny_mono (turn m s1 hI) (fun r s2 k2=>?_) fun _ _ z=>z)))
 cases r with
 | none=>exact wpAny_pure k2
 | some v=>
  refine wpAny_bind (wpAny_mono k2 (fun _ s3 k3=>?_) fun _ _ z=>z)
  refine wpAny_bind (wpAny_mono k3 (fun _ s4 k4=>wpAny_bind (wpAny_mono k4 (fun ok s5 k5=>?_) fun _ _ z=>z)) fun _ _ z=>z)
  cases ok with
  | false=>exact wpAny_pure ⟨rfl,k5⟩
  | true=>
   exact wpAny_bind (wpAny_bind (wpAny_mono k5 (fun x s6 k6=>wpAny_bind (wpAny_mono k6 (fun _ s7 k7=>wpAny_pure (wpAny_pure ⟨rfl,k7⟩)) fun _ _ z=>z)) fun _ _ z=>z))
def CompPIEnd (K:W.Frag) (J:It) (Q:VK) (H1:Hp) (tc:TT) (te:TE) (σ:V->V->St):Prop:=∀ acc,H1 acc=none->∃ W:Nat->Nat->Hp->List V->Prop,(∃ m,W 0 m (upd H1 acc (.lst [])) []) /\
 ∀ i m H' vs,W i m H' vs->H' acc=some (.lst vs)/\((J.stop i H'/\Q (.ref acc) H')\/(J.go i H'/\vs.length < sizeLine/\∀ x H2,J.yld i H' x H2->∃ (t:Addr) (v1 v2:V),x=.ref t/\SqT K H2 t [v1,v2]/\tc (σ v1 v2) H2 fun b H3=>
  if b=true then te (σ v1 v2) H3 fun y H4=>H4 acc=some (.lst vs)/\∃ m',m' < m/\W (i+1) m' (upd H4 acc (.lst (vs ++ [y]))) (vs ++ [y]) else ∃ m',m' < m/\W (i+1) m' H3 vs))
def tCompPI (K:W.Frag) (wi:TI) (fr:List Nat) (tc:TT) (te:TE):TE:=fun σ H Q=>wi σ H fun J H1=>CompPIEnd K J Q H1 tc te (fun v1 v2=>compSt2 σ fr (some v1) (some v2))
section
variable {X:Cx} {N:List Str} {fr:List Nat} {x x2:Str} {scope:Scope} {cl:List (Str × Addr)} {elt iter:Expr} {px px2 tp pos:Pos} {kt:Nat} {wi:TI} {te:TE}
theorem cxC_ok2 {pins:List (Addr × Obj)} {σ:St} {H:Hp} {s:Shared} {fp:List Addr} {C:Addr} (S:CompScope2 X N fr x x2 scope cl) (I:Inv X pins σ H s) (hf:∀ b ∈ fp,FpOk X pins H b) (hC:s.heap.objs.size<=C) (hfl:∀ b ∈ fp,b < s.heap.objs.size):(cxC X N scope cl C s H fp pins).Ok where
 mod:=I.ok.mod
 kind:=S.kind
 glob:=I.ok.glob
 blt:=I.ok.blt
 above:=hC
 inj:=fun y z c h1 h2=>I.ok.inj y z c (S.sub _ _ h1) (S.sub _ _ h2)
 has:=fun y h=>S.has y h
 cab:=fun y c h=>by cases h
 hd:=I.ok.hd
 hs:=I.ok.hs
 frames:=I.ok.frames
 stk:=.inl rfl
 exf:=fun b hb=>⟨Nat.ne_of_lt (Nat.lt_of_lt_of_le (hfl b hb) hC),fun y c h=>(hf b hb).2.2.2.2.1 y c (S.sub _ _ h)⟩
 bs:=fun b o e=>I.bs b o e
 bsz:=Nat.le_trans I.ok.bsz I.sz
 noex:=fun b o e hb=>by
  rcases (hf b hb).2.2.2.1 with z | z
  ·exact I.ok.noex b o e z
  ·exact absurd (Nat.lt_of_lt_of_le (Heap.lt_size e) (Nat.le_trans I.ok.bsz z)) (Nat.lt_irrefl _)
 exfs:=fun b hb z=>by
  rcases List.mem_cons.mp (I.stkSub b z) with e | e
  ·exact (hf b hb).2.1 e
  ·exact (hf b hb).2.2.1 e
 funs:=I.stack
 frf:=I.stkFree
theorem cxC_start2 {pins:List (Addr × Obj)} {σ:St} {H:Hp} {s s4:Shared} {fp:List Addr} {C:Addr} {m:Str->Option Value} (S:CompScope2 X N fr x x2 scope cl) (I:Inv X pins σ H s) (hf:∀ b ∈ fp,FpOk X pins H b) (hC:s.heap.objs.size<=C) (hfl:∀ b ∈ fp,b < s.heap.objs.size)
  (hn:s4.heap.Ns C m) (hk:∀ b o,s.heap.get? b=some o->s4.heap.get? b=some o) (ho:s4.os=s.os) (hg:s4.gens=s.gens):Inv (cxC X N scope cl C s H fp pins) [] (compSt2 σ fr none none) H s4:=by
 obtain ⟨m0,hn0,hl⟩:=id I.loc
 refine ⟨cxC_ok2 S I hf hC hfl,I.fzs,ho,by rw [hg]; exact I.bare,Un.kept hk,⟨m,hn,fun i y v e1 e2 e3=>?_⟩,fun y c h=>?_,I.hok.fresh hC,fun y c h=>I.freeC y c (S.sub _ _ h),fun p hp=>?_,I.hok.kept hk,?_⟩
 ·match i,e1,e2 with
  | 0,e1,e2=>cases e2
  | 1,e1,e2=>cases e2
  | j+2,e1,e2=>
   have e2':(fr.map fun k=>(σ[k]?).join)[j]?=some (some v):=e2
   rw [List.getElem?_map] at e2'
   cases ek:fr[j]? with
   | none=>rw [ek] at e2'; cases e2'
   | some k=>
    rw [ek] at e2'
    have e4:(σ[k]?).join=some v:=Option.some.inj e2'
    obtain ⟨y',h1,h2,h3⟩:=S.out j k ek
    have e1':N[j+2]?=some y:=e1
    obtain rfl:y'=y:=Option.some.inj (h1.symm.trans e1')
    have e5:σ[k]?=some (some v):=by
     cases q:σ[k]? with
     | none=>rw [q] at e4; cases e4
     | some w=>rw [q] at e4; exact congrArg some e4
    obtain ⟨u,r,lk⟩:=hl k y' v h2 e5 (.inr (.inl h3))
    refine ⟨u,r,.inr ?_⟩
    rcases lk with ⟨z,_⟩ | ⟨_,c,hc,hcell⟩
    ·rw [h3] at z; cases z
    ·have e6:Vis (relabel scope X.env) y':=e3
     have hk2:(relabel scope X.env).names.lookup y'=some .cell\/(relabel scope X.env).names.lookup y'=some .free:=by
      rcases e6 with e6 | e6 | e6
      ·exfalso
       have nd:=S.nd
       -- a name of the block's own is the first one
       exact S.ownOnly _ _ h1 e6
      ·exact .inl e6
      ·exact .inr e6
     obtain ⟨c2,hc2⟩:=S.has y' hk2
     have:=S.sub _ _ hc2
     rw [hc] at this; cases this
     obtain ⟨o,z1,z2⟩:=hcell
     exact ⟨hk2,c,hc2,o,hk _ _ z1,z2⟩
 ·obtain ⟨v,o,z1,z2⟩:=I.cell y c (S.sub _ _ h)
  exact ⟨v,o,hk _ _ z1,z2⟩
 ·rw [List.append_nil] at hp
  obtain ⟨e,k,ne,nf,d⟩:=I.pin p hp
  refine ⟨hk _ _ e,k,Nat.ne_of_lt (Nat.lt_of_lt_of_le (Heap.lt_size e) hC),fun z=>?_,d⟩
  rcases List.mem_cons.mp (I.stkSub _ z) with q | q
  ·exact ne q
  ·exact nf q
 ·show (compSt2 σ fr none none).length=N.length
  rw [S.len]
  simp [compSt2]
theorem comp_core2 {ifs:List Expr} {tc:TT} {use:Option (Value->Sem Unit)} {R:Value->Shared->Prop} {Q:VK} {pins:List (Addr × Obj)} {s:Shared} {σ:St} {H:Hp} {ep:Pos} (hc:X.still=true) (S:CompScope2 X N fr x x2 scope cl) (hi:PI X (.Tuple [.Name x px,.Name x2 px2] kt tp) iter wi)
  (ht:∀ (C:Addr) (s0:Shared) (H0:Hp) (fp:List Addr) (pins:List (Addr × Obj)),PTs (cxC X N scope cl C s0 H0 fp pins) ifs tc) (he:∀ (C:Addr) (s0:Shared) (H0:Hp) (fp:List Addr) (pins:List (Addr × Obj)),PE (cxC X N scope cl C s0 H0 fp pins) elt te)
  (hs:∀ y,foldedSetIterable iter X.env y=pure y) (I:Inv X pins σ H s) (h:tCompPI X.K wi fr tc te σ H Q)
  (fin:∀ (acc C:Addr) (m:Str->Option Value) (H6:Hp) (s7:Shared),Q (.ref acc) H6->s7.heap.Ns C m->(∀ h':Heap,Heap.SameBut C s7.heap h'->Inv X pins σ H6 { s7 with heap:=h' })->H6 C=none->X.env.locals ≠ C->(∀ z c,X.env.cells.lookup z=some c->c ≠ C)->(∀ p ∈ X.pn ++ pins,p.1 ≠ C)->X.s₀.heap.objs.size<=C->compPost (model X.prog X.w) X.A X.xe use R (.ref acc) C (.ok .next) s7) :
  wpAny (model X.prog X.w) X.A (comprehension (.ListComp elt [⟨.Tuple [.Name x px,.Name x2 px2] kt tp,iter,ifs,0⟩] scope pos) scope X.env ep (newList []) false (eval iter X.env) use) R X.xe s:=by
 refine wpAny_comprehension_free (use:=use) rfl hs S.clos S.kind S.loc (thn (hi pins s σ H _ I h) fun v s1 h1=>thn h1 fun itv s2 h2=>?_)
 obtain ⟨it,fp,tn,J,H2,e,I2,T,st2,f2,hW⟩:=h2
 subst e
 have hfl:∀ b ∈ fp,b < s2.heap.objs.size:=fun b hb=>by
  obtain ⟨o,q,_⟩:=T.obj _ _ st2 b hb
  exact Heap.lt_size q
 have hfr:H2 s2.heap.objs.size=none:=I2.hok.fresh (Nat.le_refl _)
 refine wpAny_newObj_type ?_
 have keep3:∀ b o,s2.heap.get? b=some o->(s2.heap.push { cls:=.type "list",dict:=none,data:=.seq ([]:List Value).toArray }).get? b=some o:=fun b o q=>Heap.get?_push_of_some _ q
 have I3:Inv X pins σ (upd H2 s2.heap.objs.size (.lst [])) { s2 with heap:=s2.heap.push { cls:=.type "list",dict:=none,data:=.seq ([]:List Value).toArray } }:=
  I2.laid (t':=s2.toks) keep3 (Nat.le_refl _) ⟨Nat.zero_le _,[],0,.nil,Heap.get?_push_size _ rfl⟩
 obtain ⟨W,⟨m0,w0⟩,turn⟩:=hW s2.heap.objs.size hfr
 have f3:∀ b ∈ fp,FpOk X pins (upd H2 s2.heap.objs.size (.lst [])) b:=fun b hb=>⟨by rw [upd_ne (Nat.ne_of_lt (hfl b hb))]; exact (f2 b hb).1,(f2 b hb).2⟩
 refine wpAny_newFunctionEnv S.nocell (by intro y hy; simp at hy) (fun h4 hns hsb=>?_) S.kind
 have hfl3:∀ b ∈ fp,b < (s2.heap.push { cls:=.type "list",dict:=none,data:=.seq ([]:List Value).toArray }).objs.size:=fun b hb=>by
  rw [Heap.size_push]
  exact Nat.lt_succ_of_lt (hfl b hb)
 have keep4:∀ b o,(s2.heap.push { cls:=.type "list",dict:=none,data:=.seq ([]:List Value).toArray }).get? b=some o->h4.get? b=some o:=fun b o q=>
  (hsb.2 b (Nat.ne_of_lt (Heap.lt_size q))).trans (Heap.get?_push_of_some _ q)
 have I4:Inv (cxC X N scope cl (s2.heap.push { cls:=.type "list",dict:=none,data:=.seq ([]:List Value).toArray }).objs.size { s2 with heap:=s2.heap.push { cls:=.type "list",dict:=none,data:=.seq ([]:List Value).toArray } } (upd H2 s2.heap.objs.size (.lst [])) fp pins) [] (compSt2 σ fr none none) (upd H2 s2.heap.objs.size (.lst []))
   { s2 with heap:=h4,toks:=s2.toks+([]:List (Str × Value)).length }:=cxC_start2 S I3 f3 (Nat.le_refl _) hfl3 hns keep4 rfl rfl
 have st4:tn 0 h4:=T.keep _ _ _ st2 fun b hb o q=>keep4 b o (keep3 b o q)
 generalize hY:cxC X N scope cl (s2.heap.push { cls:=.type "list",dict:=none,data:=.seq ([]:List Value).toArray }).objs.size { s2 with heap:=s2.heap.push { cls:=.type "list",dict:=none,data:=.seq ([]:List Value).toArray } } (upd H2 s2.heap.objs.size (.lst [])) fp pins=Y at I4
 have hel:PE Y elt te:=hY ▸ he _ _ _ _ _
 have htl:PTs Y ifs tc:=hY ▸ ht _ _ _ _ _
 have eA:Y.A=X.A:=by rw [<- hY]; rfl
 have eP:Y.prog=X.prog:=by rw [<- hY]; rfl
 have ew:Y.w=X.w:=by rw [<- hY]; rfl
 have eK:Y.K=X.K:=by rw [<- hY]; rfl
 have eC:Y.still=true:=by rw [<- hY]; exact hc
 have eE:Y.env=compEnvC scope cl (s2.heap.push { cls:=.type "list",dict:=none,data:=.seq ([]:List Value).toArray }).objs.size X.env:=by rw [<- hY]; rfl
 have eX:Y.xe=fun _ _=>False:=by rw [<- hY]; rfl
 have hg:PG Y (.Tuple [.Name x px,.Name x2 px2] kt tp) (gTup Y.K 2 (gCons (gName 0) (gCons (gName 1) gNil))):=by
  refine pg_tup eC (pgs_cons ?_ (pgs_cons ?_ pgs_nil)) (by rfl) (by rfl)
  ·subst hY
   exact pg_name (i:=0) S.nd S.hN (.inl (lookup_relabel_local S.own)) (.inr (lookup_relabel_local S.own))
  ·subst hY
   exact pg_name (i:=1) S.nd S.hN2 (.inl (lookup_relabel_local S.own2)) (.inr (lookup_relabel_local S.own2))
 have fY:∀ {H':Hp},(∀ b ∈ fp,H' b=none)->∀ b ∈ fp,FpOk Y [] H' b:=fun {H'} hn b hb=>by
  subst hY
  obtain ⟨_,g2,g3,g4,g5,g6⟩:=f3 b hb
  refine ⟨hn b hb,Nat.ne_of_lt (hfl3 b hb),fun z=>?_,.inl hb,fun y c q=>g5 y c (S.sub _ _ q),fun p hp=>?_⟩
  ·rcases List.mem_cons.mp (I3.stkSub b z) with q | q
   ·exact g2 q
   ·exact g3 q
  ·rw [List.append_nil] at hp
   exact g6 p hp
 have loop:∀ s5:Shared,s5={ s2 with heap:=h4,toks:=s2.toks+([]:List (Str × Value)).length } ->
   codeAny (model X.prog X.w) X.A (.compLoop (.ListComp elt [⟨.Tuple [.Name x px,.Name x2 px2] kt tp,iter,ifs,0⟩] scope pos) 0 (.ref it) (.ref s2.heap.objs.size) (compEnvC scope cl (s2.heap.push { cls:=.type "list",dict:=none,data:=.seq ([]:List Value).toArray }).objs.size X.env))
    (compPost (model X.prog X.w) X.A X.xe use R (.ref s2.heap.objs.size) (s2.heap.push { cls:=.type "list",dict:=none,data:=.seq ([]:List Value).toArray }).objs.size) s5:=by
  rintro s5 rfl
  refine compLoop_pairIf (fun n s'=>∃ i v v2 H' vs,Inv Y [] (compSt2 σ fr v v2) H' s'/\tn i s'.heap/\(∀ b ∈ fp,H' b=none)/\W i n H' vs) ?_ m0 ⟨0,none,none,_,[],I4,st4,fun b hb=>(f3 b hb).1,w0⟩
  rintro n s6 ⟨i,v6,v62,H6,vs,I6,st6,fr6,w6⟩
  obtain ⟨hacc,hgo⟩:=turn i n H6 vs w6
  rcases hgo with ⟨stop,qn⟩ | ⟨go,hz,step⟩
  ·have hd:=T.done Y eP ew eK eC i [] s6 _ H6 (fun _ _=>False) I6 (fY fr6) st6 stop
   rw [eA] at hd
   refine wpAny_mono hd (fun r s7 ⟨hr,I7⟩=>?_) fun _ _ z=>z.elim
   subst hr
   obtain ⟨m,hn,_⟩:=id I7.loc
   rw [eE] at hn
   have hend:∀ h':Heap,Heap.SameBut (s2.heap.push { cls:=.type "list",dict:=none,data:=.seq ([]:List Value).toArray }).objs.size s7.heap h'->Inv X pins σ H6 { s7 with heap:=h' }:=fun h' hs'=>by
    subst hY
    exact cxC_end I3 f3 (Nat.le_refl _) I7 hs'
   have cf:H6 (s2.heap.push { cls:=.type "list",dict:=none,data:=.seq ([]:List Value).toArray }).objs.size=none:=by
    subst hY
    exact I7.free
   have big:∀ b o,s2.heap.get? b=some o->b ≠ (s2.heap.push { cls:=.type "list",dict:=none,data:=.seq ([]:List Value).toArray }).objs.size:=fun b o q=>Nat.ne_of_lt (by rw [Heap.size_push]; exact Nat.lt_succ_of_lt (Heap.lt_size q))
   obtain ⟨m2,hn2,_⟩:=id I2.loc
   obtain ⟨oL,_,_,hoL,_⟩:=id hn2
   exact fin _ _ m H6 s7 qn hn hend cf (big _ _ hoL) (fun z c q=>by
    obtain ⟨_,o,w1,_⟩:=I2.cell z c q
    exact big _ _ w1) (fun p hp=>by
    obtain ⟨e,_⟩:=I2.pin p hp
    exact big _ _ e) (by
    rw [Heap.size_push]
    exact Nat.le_succ_of_le (Nat.le_trans (Nat.le_refl _) I2.sz))
  ·have hd:=T.item Y eP ew eK eC i [] s6 _ H6 (fun _ _=>False) I6 (fY fr6) st6 go
   rw [eA] at hd
   refine wpAny_mono hd (fun r s7 ⟨u,hr,h7⟩=>?_) fun _ _ z=>z.elim
   subst hr
   refine wpAny_mono h7 (fun _ s8 ⟨y,H8,I8,r8,y8,st8,fr8⟩=>?_) fun _ _ z=>z.elim
   have I8':=I8.pinned (fY fr8) (T.obj _ _ st8)
   obtain ⟨ta,va,vb,ey,hta,step'⟩:=step y _ y8
   have h9:=hg _ s8 _ H8 y u (fun σ9 H9=>σ9=compSt2 σ fr (some va) (some vb)/\H9=H8) I8' r8 ⟨ta,[va,vb],ey,by rw [eK]; exact hta,rfl,va,[vb],rfl,vb,[],rfl,rfl,rfl,rfl⟩
   rw [eA,eP,ew,eE,eX] at h9
   refine wpAny_mono h9 (fun _ s9 ⟨σ9,H9,I9,e9,e9'⟩=>?_) fun _ _ z=>z.elim
   subst e9 e9'
   have ht10:=htl _ s9 _ _ _ I9 step'
   rw [eA,eP,ew,eE,eX] at ht10
   refine wpAny_mono ht10 (fun ok s9t ⟨H9t,I9t,q9t⟩=>?_) fun _ _ z=>z.elim
   cases ok with
   | false=>
    rw [if_neg Bool.false_ne_true] at q9t
    rw [if_neg Bool.false_ne_true]
    obtain ⟨m',hm,w10⟩:=q9t
    refine ⟨m',hm,i+1,some va,some vb,_,vs,I9t.unpinned,T.keep _ _ _ st8 fun b hb o q=>(I9t.pin (b,o) (List.mem_append_right _ (List.mem_append_right _ (mem_pinsAt hb q)))).1,fun b hb=>?_,w10⟩
    obtain ⟨o,q,_⟩:=T.obj _ _ st8 b hb
    exact (I9t.pin (b,o) (List.mem_append_right _ (List.mem_append_right _ (mem_pinsAt hb q)))).2.1
   | true=>
   rw [if_pos rfl] at q9t
   rw [if_pos rfl]
   have h10:=hel _ s9t _ _ _ I9t q9t
   rw [eA,eP,ew,eE,eX] at h10
   refine wpAny_mono h10 (fun u10 s10 ⟨z10,H10,I10,r10,a10,m',hm,w10⟩=>?_) fun _ _ z=>z.elim
   have h11:=mt_append _ s10 _ H10 (.ref s2.heap.objs.size) [z10] (.ref s2.heap.objs.size) [u10] (fun _ H11=>H11=upd H10 s2.heap.objs.size (.lst (vs ++ [z10]))) I10 rfl (.cons r10 .nil) ⟨_,vs,z10,rfl,rfl,a10,hz,rfl⟩
   rw [eA,eP,ew,eX] at h11
   refine wpAny_mono h11 (fun _ s11 ⟨_,H11,I11,_,e11⟩=>?_) fun _ _ z=>z.elim
   subst e11
   refine ⟨m',hm,i+1,some va,some vb,_,vs ++ [z10],I11.unpinned,T.keep _ _ _ st8 fun b hb o q=>(I11.pin (b,o) (List.mem_append_right _ (List.mem_append_right _ (mem_pinsAt hb q)))).1,fun b hb=>?_,w10⟩
   obtain ⟨o,q,_⟩:=T.obj _ _ st8 b hb
   exact (I11.pin (b,o) (List.mem_append_right _ (List.mem_append_right _ (mem_pinsAt hb q)))).2.1
 exact codeAny_compStart_list (loop _ rfl) (T.self _ 0 _ _ _ st4 (loop _ rfl))
theorem pe_compPair (hc:X.still=true) (S:CompScope2 X N fr x x2 scope cl) (hi:PI X (.Tuple [.Name x px,.Name x2 px2] kt tp) iter wi) (he:∀ (C:Addr) (s0:Shared) (H0:Hp) (fp:List Addr) (pins:List (Addr × Obj)),PE (cxC X N scope cl C s0 H0 fp pins) elt te)
  (hs:∀ y,foldedSetIterable iter X.env y=pure y:=by intro _; rfl):PE X (.ListComp elt [⟨.Tuple [.Name x px,.Name x2 px2] kt tp,iter,[],0⟩] scope pos) (tCompP X.K wi fr te):=by
 intro pins s σ H Q I h
 rw [eval_ListComp]
 exact comp_core2 (tc:=fun _ H Q=>Q true H) (use:=none) hc S hi (fun _ _ _ _ _=>pts_nil) he hs I h fun acc C m H6 s7 qn hn hend _ _ _ _ _=>⟨m,hn,fun h' hs'=>⟨.ref acc,H6,hend h' hs',rfl,qn⟩⟩
end
end L2
namespace L2
open PySem PySem.Spec PyProof.Rows
section
variable {X:Cx} {N:List Str} {fr:List Nat} {x:Str} {scope:Scope} {cl:List (Str × Addr)} {elt iter:Expr} {px pos:Pos} {wi:TI} {te:TE}
end
end L2
namespace L2
open PySem PySem.Spec PyProof.Rows
theorem preSum_take (ns:List Int):∀ k,k<=ns.length->preSum (fun i=>ns.getD i 0) k=(ns.take k).sum
 | 0,_=>by simp [preSum]
 | k+1,h=>by
  have hk:k < ns.length:=h
  show preSum (fun i=>ns.getD i 0) k+ns.getD k 0=_
  rw [preSum_take ns k (Nat.le_of_lt hk),List.take_succ,List.getElem?_eq_getElem hk,List.getD_eq_getElem?_getD,List.getElem?_eq_getElem hk,List.sum_append]
  show _+ns[k]=_+([ns[k]]:List Int).sum
  simp
theorem call_sum {X:Cx} (hc:X.still=true):CallR X (.builtin "sum") (fun xs H Q=>∃ (l:Addr) (ns:List Int),xs=[.ref l]/\H l=some (.lst (ns.map V.int))/\Q (.int ns.sum) H):=by
 intro pins s σ H xs us Q I rv h
 obtain ⟨l,ns,rfl,hH,q⟩:=h
 obtain ⟨u,rfl,ru⟩:=rv.one
 cases ru
 obtain ⟨z,its,n,r,hl,e⟩:=I.lstM hH
 have hlt:l < s.heap.objs.size:=Heap.lt_size e
 refine call_sum_walkAnyS (wpAny_pyIter_list (A:=X.A.in1) ⟨_,e,rfl,n,rfl⟩ ?_)
 obtain ⟨fp,st,W0,st0,hfp⟩:=walks_list_any (P:=X.prog) (w:=X.w) (I.stl hc).in1 s.heap.objs.size l (Nat.ne_of_lt hlt) (I.stn hc (I.hok.fresh (Nat.le_refl _))) its.toArray
 have W:=W0.toS
 refine ⟨s.heap.objs.size,_,_,_,_,_,_,fun i=>ns.getD i 0,rfl,W,?_,?_,?_,?_⟩
 ·exact st0 _ ⟨_,Heap.get?_push_size _ rfl,rfl,rfl⟩ ⟨_,Heap.get?_push_of_some _ e,rfl,n,rfl⟩ (fun b o x=>Heap.get?_push_of_some _ x)
 ·intro b hb
  have:=hfp b hb
  rw [Heap.size_push]
  rcases this with rfl | rfl | ⟨o,ho⟩
  ·exact Nat.lt_succ_self _
  ·exact Nat.lt_succ_of_lt hlt
  ·exact Nat.lt_succ_of_lt (Heap.lt_size ho)
 ·intro i v hP
  have hv:its[i]?=some v:=by simpa using hP
  cases hn:ns[i]? with
  | none=>
   have h1:=r.none_of (i:=i) (by rw [List.getElem?_map,hn]; rfl)
   rw [h1] at hv; cases hv
  | some m=>
   obtain ⟨u',h1,t,h2⟩:=r.get (i:=i) (x:=.int m) (by rw [List.getElem?_map,hn]; rfl)
   rw [h1] at hv; cases hv
   exact ⟨t,by show v=Value.int (ns.getD i 0) t; rw [List.getD_eq_getElem?_getD,hn]; exact h2⟩
 ·intro s' t' hm
  have hlen:its.toArray.size=ns.length:=by rw [List.size_toArray,<- r.length,List.length_map]
  rw [hlen,preSum_take ns _ (Nat.le_refl _),List.take_length]
  obtain ⟨h',g',d',tk,o'⟩:=s'
  obtain rfl:g'=s.gens:=hm.gens
  obtain rfl:d'=s.drawn:=hm.drawn
  obtain rfl:o'=s.os:=hm.os
  refine ⟨.int ns.sum,H,?_,⟨_,rfl⟩,q⟩
  exact I.kept (h':=h') (t':=tk) fun b o q'=>hm.heap b o (fun zz=>by
   have:b=s.heap.objs.size:=by simpa using zz
   subst this
   exact absurd (Heap.lt_size q') (Nat.lt_irrefl _)) (Heap.get?_push_of_some _ q')
end L2
namespace L2
open PySem PySem.Spec PyProof.Rows
section
variable {P:Program} {w:World} {A:Around} {E:Value->Shared->Prop} {s:Shared}
theorem tnext_item {j a:Addr} {i:Nat} {us:Array Value} {u:Value} {Q:Value->Shared->Prop} (g0:s.heap.IsTupleIter j a i) (g1:s.heap.IsTuple a us) (ex:us[i]?=some u)
  (q:∀ h',h'.IsTupleIter j a (i+1)->Heap.SameBut j s.heap h'->Q u { s with heap:=h' }):wpAny (model P w) A (Builtin.SmallTypes.nextOf (.ref j)) Q E s:=by
 obtain ⟨o1,k1,k2,k3⟩:=id g0
 obtain ⟨o2,k4,_,n2,k5⟩:=g1
 unfold Builtin.SmallTypes.nextOf
 refine wpAny_bind (wpAny_callSpecial?_slot (name:=Str.ofString "__next__") g0.typeIs F.slot_tuple_iterator_next (wpAny_call_entry F.slot_tuple_iterator_next g0.typeIs F.entry_tuple_iterator_next ?_ (F.args_tuple_iterator_next_1 _)))
 show wpAny _ _ (field (.ref j) 0 >>= _) _ _ s
 refine wpAny_bind (wpAny_field k1 k3 (x:=.ref a) rfl ?_)
 show wpAny _ _ (if (Value.ref a == Value.none)=true then _ else _) _ _ s
 rw [if_neg (show ¬ ((Value.ref a == Value.none)=true) from Bool.false_ne_true)]
 show wpAny _ _ (field (.ref j) 1 >>= _) _ _ s
 refine wpAny_bind (wpAny_field k1 k3 (x:=.int i 0) rfl ?_)
 show wpAny _ _ (seqItems? (.ref a) >>= _) _ _ s
 refine wpAny_bind (wpAny_seqItems k4 k5 ?_)
 simp only [Int.toNat_natCast,ex]
 refine wpAny_bind (wpAny_setField k1 k3 (by simp) (wpAny_pure ⟨u,rfl,wpAny_pure (q _ ?_ (Heap.SameBut.update ..))⟩))
 refine ⟨_,Heap.get?_update_self _ k1 (Obj.isFreed_of_fields (Obj.data_mapFields k3 _)),(Obj.cls_mapFields ..).trans k2,?_⟩
 rw [Obj.data_mapFields k3]
 simp [rawInt]
end
theorem Inv.turnedM {X:Cx} {pins:List (Addr × Obj)} {σ:St} {H:Hp} {s:Shared} {h':Heap} {t':Nat} {fp:List Addr} (I:Inv X pins σ H s) (k:∀ b o,b ∉ fp->s.heap.get? b=some o->h'.get? b=some o) (hf:∀ b ∈ fp,FpOk X pins H b):Inv X pins σ H { s with heap:=h',toks:=t' }:=by
 have nf:∀ b u,H b=some u->b ∉ fp:=fun b u e z=>by
  have:=(hf b z).1
  rw [this] at e; cases e
 have U:Un (frs X.stack) fp H H s.heap h':=⟨fun b o e _ _ hx=>k b o hx e,fun b o e _ _ hx=>⟨o.slots,k b o hx e⟩,fun _ _ _ n _=>n,fun b o e hx=>⟨o,k b o hx e⟩,fun _ _ e=>e,fun _ _ _ e=>e,fun b ps e=>⟨#[],by rw [e]; simp⟩⟩
 refine I.call' (s':={ s with heap:=h',toks:=t' }) (ch:=fp) rfl U (I.hok.onward fun b o hb e=>k b o (fun z=>hb (hf b z).1) e) I.bare fun b hb=>?_
 obtain ⟨_,f1,_,f3,f4,f5⟩:=hf b hb
 exact ⟨f3,f1,f4,f5⟩
end L2
namespace L2
open PySem PySem.Spec PyProof.Rows
section
variable {X:Cx} {N:List Str} {fr:List Nat} {x x2:Str} {scope:Scope} {cl:List (Str × Addr)} {elt iter:Expr} {px px2 tp pos:Pos} {kt:Nat} {wi:TI} {te:TE}
end
theorem compP_tupF {K:W.Frag} {a:Addr} {xs:List V} {te:TE} {σ:V->V->St} {H:Hp} {Q:VK} (hx:∀ H',Same H H'->SqT K H' a xs) (hn:xs.length < sizeLine) (p1 p2 f:Nat->V) (hp:∀ (i:Nat) (x:V),xs[i]?=some x->∃ t,x=.ref t/\H t=some (.tup [p1 i,p2 i]))
  (he:∀ (i:Nat) (H':Hp) (Q':VK),i < xs.length->Same H H'->(∀ H2,Same H' H2->Q' (f i) H2)->te (σ (p1 i) (p2 i)) H' Q')
  (q:∀ p H',Same H H'->H p=none->H' p=some (.lst ((List.range xs.length).map f))->Q (.ref p) H'):CompPEnd K (Itt K a) Q H te σ:=by
 intro acc hacc
 refine ⟨fun i m H' vs=>i<=xs.length/\m=xs.length - i/\Same H H'/\H' acc=some (.lst vs)/\vs=(List.range i).map f,⟨xs.length,Nat.zero_le _,by simp,same_new hacc _,upd_same,by simp⟩,?_⟩
 rintro i m H' vs ⟨hi,rfl,g,ha,rfl⟩
 refine ⟨ha,?_⟩
 by_cases h:i=xs.length
 ·refine .inl ⟨⟨xs,hx _ g,by omega⟩,q acc H' g hacc ?_⟩
  rw [ha,h]
 ·have hlt:i < xs.length:=by omega
  refine .inr ⟨⟨xs,xs[i],hx _ g,by simp [hlt]⟩,by rw [List.length_map,List.length_range]; omega,?_⟩
  rintro z H2 ⟨rfl,hz⟩
  have hz':=hz xs (hx _ g)
  obtain ⟨t,rfl,ht⟩:=hp i z hz'
  refine ⟨t,p1 i,p2 i,rfl,SqT.of (g _ _ ht),he i H2 _ hlt g fun H3 g3=>⟨g3 _ _ ha,xs.length - (i+1),by omega,by omega,rfl,same_upd (g.trans g3) hacc,upd_same,?_⟩⟩
  rw [List.range_succ,List.map_append]
  rfl
theorem outs_ok {X:Cx} {own:List Str} {ys:List Str} {ks:List Nat} (hl:ks.length=ys.length) (hk:∀ p ∈ ks.zip ys,X.N[p.1]?=some p.2/\X.env.kindOf p.2=some .cell):∀ (j k:Nat),ks[j]?=some k->∃ y,(own ++ ys)[j+own.length]?=some y/\X.N[k]?=some y/\X.env.kindOf y=some .cell:=by
 intro j k h
 have hj:j < ks.length:=(List.getElem?_eq_some_iff.mp h).1
 have hj2:j < ys.length:=by omega
 refine ⟨ys[j],by rw [List.getElem?_append_right (by omega)]; simp [hj2],?_⟩
 have m:(k,ys[j]) ∈ ks.zip ys:=by
  refine List.mem_of_getElem? (i:=j) ?_
  rw [List.getElem?_zip_eq_some]
  exact ⟨h,by simp [hj2]⟩
 exact hk _ m
theorem lookup_mem_all {cl:List (Str × Addr)} {P:Str->Addr->Prop} (h:∀ p ∈ cl,P p.1 p.2) {y:Str} {c:Addr} (e:cl.lookup y=some c):P y c:=h _ (PySem.mem_of_lookup e)
theorem has_of {ns':List (Str × NameKind)} {cl:List (Str × Addr)} (h:∀ p ∈ ns',p.2=.cell\/p.2=.free->(cl.lookup p.1).isSome=true) (y:Str) (e:ns'.lookup y=some .cell\/ns'.lookup y=some .free):∃ c,cl.lookup y=some c:=by
 have:(cl.lookup y).isSome=true:=by
  rcases e with e | e
  ·exact h _ (PySem.mem_of_lookup e) (.inl rfl)
  ·exact h _ (PySem.mem_of_lookup e) (.inr rfl)
 exact Option.isSome_iff_exists.mp this
theorem CompScope.gen {X:Cx} {x:Str} {scope:Scope} {cl:List (Str × Addr)} (ys:List Str) (ks:List Nat) (ns':List (Str × NameKind)) (kind:scope.kind=.function) (nocell:∀ z ∈ scope.names,z.2 ≠ .cell) (loc:∀ z ∈ scope.names,z.2=.local->scope.names.lookup z.1=some .local) (own:scope.names.lookup x=some .local)
  (clos:closureFor scope X.env=pure cl) (sub:∀ p ∈ cl,X.env.cells.lookup p.1=some p.2) (rl:(relabel scope X.env).names=ns') (only:∀ p ∈ ns',p.2=.cell\/p.2=.free->(cl.lookup p.1).isSome=true) (nd:(x :: ys).Nodup) (ny:∀ y ∈ ys,ns'.lookup y ≠ some .local) (hl:ks.length=ys.length)
  (hk:∀ p ∈ ks.zip ys,X.N[p.1]?=some p.2/\X.env.kindOf p.2=some .cell):CompScope X (x :: ys) ks x scope cl:=by
 subst rl
 refine ⟨kind,nocell,loc,own,clos,fun y c h=>lookup_mem_all (P:=fun y c=>X.env.cells.lookup y=some c) sub h,has_of only,nd,rfl,by simp [hl],fun j y h=>?_,fun j k h=>outs_ok (own:=[x]) hl hk j k h⟩
 exact ny y (List.mem_of_getElem? (by simpa using h))
theorem CompScope2.gen {X:Cx} {x x2:Str} {scope:Scope} {cl:List (Str × Addr)} (ys:List Str) (ks:List Nat) (ns':List (Str × NameKind)) (kind:scope.kind=.function) (nocell:∀ z ∈ scope.names,z.2 ≠ .cell) (loc:∀ z ∈ scope.names,z.2=.local->scope.names.lookup z.1=some .local) (own:scope.names.lookup x=some .local) (own2:scope.names.lookup x2=some .local)
  (clos:closureFor scope X.env=pure cl) (sub:∀ p ∈ cl,X.env.cells.lookup p.1=some p.2) (rl:(relabel scope X.env).names=ns') (only:∀ p ∈ ns',p.2=.cell\/p.2=.free->(cl.lookup p.1).isSome=true) (nd:(x :: x2 :: ys).Nodup) (ny:∀ y ∈ ys,ns'.lookup y ≠ some .local) (hl:ks.length=ys.length)
  (hk:∀ p ∈ ks.zip ys,X.N[p.1]?=some p.2/\X.env.kindOf p.2=some .cell):CompScope2 X (x :: x2 :: ys) ks x x2 scope cl:=by
 subst rl
 refine ⟨kind,nocell,loc,own,own2,clos,fun y c h=>lookup_mem_all (P:=fun y c=>X.env.cells.lookup y=some c) sub h,has_of only,nd,rfl,rfl,by simp [hl],fun j y h=>?_,fun j k h=>outs_ok (own:=[x,x2]) hl hk j k h⟩
 exact ny y (List.mem_of_getElem? (by simpa using h))
end L2
namespace L2
open PySem PySem.Spec PyProof.Rows
theorem comp_walk {J:It} {xs:List V} {te:TE} {σ:V->St} {H:Hp} {Q:VK} (hn:xs.length < sizeLine) (R:Nat->List V->Hp->Prop) (R0:∀ p,H p=none->R 0 [] (upd H p (.lst [])))
  (hstop:∀ H',Same H H'->J.stop xs.length H') (hgo:∀ (i:Nat) H',i < xs.length->Same H H'->J.go i H') (hyld:∀ (i:Nat) H' x H2,Same H H'->J.yld i H' x H2->H2=H'/\xs[i]?=some x)
  (he:∀ (i:Nat) (x:V) (vs:List V) (H':Hp) (acc:Addr) (Q':VK),xs[i]?=some x->Same H H'->H acc=none->H' acc=some (.lst vs)->R i vs H'->vs.length=i->(∀ y H2,Same H' H2->R (i+1) (vs ++ [y]) (upd H2 acc (.lst (vs ++ [y])))->Q' y H2)->te (σ x) H' Q')
  (q:∀ p H' vs,Same H H'->H p=none->H' p=some (.lst vs)->vs.length=xs.length->R xs.length vs H'->Q (.ref p) H'):CompEnd J Q H te σ:=by
 intro acc hacc
 refine ⟨fun i m H' vs=>i<=xs.length/\m=xs.length - i/\Same H H'/\H' acc=some (.lst vs)/\vs.length=i/\R i vs H',⟨xs.length,Nat.zero_le _,by simp,same_new hacc _,upd_same,rfl,R0 _ hacc⟩,?_⟩
 rintro i m H' vs ⟨hi,rfl,g,ha,hl,r⟩
 refine ⟨ha,?_⟩
 by_cases h:i=xs.length
 ·subst h
  exact .inl ⟨hstop _ g,q acc H' vs g hacc ha hl r⟩
 ·have hlt:i < xs.length:=by omega
  refine .inr ⟨hgo i _ hlt g,by omega,?_⟩
  intro z H2 hz
  obtain ⟨rfl,hz'⟩:=hyld i _ _ _ g hz
  refine he i z vs H2 acc _ hz' g hacc ha r hl fun y H3 g3 r3=>⟨g3 _ _ ha,xs.length - (i+1),by omega,by omega,rfl,same_upd (g.trans g3) hacc,upd_same,?_,r3⟩
  rw [List.length_append,hl]
  rfl
theorem comp_listR {K:W.Frag} {a:Addr} {xs:List V} {te:TE} {σ:V->St} {H:Hp} {Q:VK} (hn:xs.length < sizeLine) (hK:∀ H',Same H H'->SqL K H' a xs) (R:Nat->List V->Hp->Prop) (R0:∀ p,H p=none->R 0 [] (upd H p (.lst [])))
  (he:∀ (i:Nat) (x:V) (vs:List V) (H':Hp) (acc:Addr) (Q':VK),xs[i]?=some x->Same H H'->H acc=none->H' acc=some (.lst vs)->R i vs H'->vs.length=i->(∀ y H2,Same H' H2->R (i+1) (vs ++ [y]) (upd H2 acc (.lst (vs ++ [y])))->Q' y H2)->te (σ x) H' Q')
  (q:∀ p H' vs,Same H H'->H p=none->H' p=some (.lst vs)->vs.length=xs.length->R xs.length vs H'->Q (.ref p) H'):CompEnd (Itl K a) Q H te σ:=
 comp_walk hn R R0 (fun H' g=>⟨xs,hK _ g,Nat.le_refl _⟩) (fun i H' hi g=>⟨xs,xs[i],hK _ g,by simp [hi]⟩) (fun i H' x H2 g h=>⟨h.1,h.2 xs (hK _ g)⟩) he q
theorem ixK_tup {X:Cx} {K:W.Frag} (e:X.K=K):IxR X (rIxT K):=e ▸ ix_tup
theorem ixK_list {X:Cx} {K:W.Frag} (e:X.K=K):IxR X (rIxL K):=e ▸ ix_list
end L2
namespace L2
open PySem PySem.Spec PyProof.Rows
section
variable {P:Program} {w:World} {A:Around} {E:Value->Shared->Prop}
end
end L2
namespace L2
open PySem PySem.Spec PySem.Calls PyProof.Rows
section
variable {X:Cx} {N:List Str} {fr:List Nat} {x x2:Str} {scope:Scope} {cl:List (Str × Addr)} {elt iter:Expr} {px px2 tp pos:Pos} {kt:Nat} {wi:TI} {te:TE}
theorem pe_compPairIf {cnd:Expr} {tc:TT} (hc:X.still=true) (S:CompScope2 X N fr x x2 scope cl) (hi:PI X (.Tuple [.Name x px,.Name x2 px2] kt tp) iter wi) (ht:∀ (C:Addr) (s0:Shared) (H0:Hp) (fp:List Addr) (pins:List (Addr × Obj)),PT (cxC X N scope cl C s0 H0 fp pins) cnd tc) (he:∀ (C:Addr) (s0:Shared) (H0:Hp) (fp:List Addr) (pins:List (Addr × Obj)),PE (cxC X N scope cl C s0 H0 fp pins) elt te)
  (hs:∀ y,foldedSetIterable iter X.env y=pure y:=by intro _; rfl):PE X (.ListComp elt [⟨.Tuple [.Name x px,.Name x2 px2] kt tp,iter,[cnd],0⟩] scope pos) (tCompPI X.K wi fr tc te):=by
 intro pins s σ H Q I h
 rw [eval_ListComp]
 exact comp_core2 (use:=none) hc S hi (fun _ _ _ _ _=>pts_one (ht _ _ _ _ _)) he hs I h fun acc C m H6 s7 qn hn hend _ _ _ _ _=>⟨m,hn,fun h' hs'=>⟨.ref acc,H6,hend h' hs',rfl,qn⟩⟩
end
theorem compPI_list {K:W.Frag} {a:Addr} {rs:List Addr} {xs:List (Int × Int)} {tc:TT} {te:TE} {σ:V->V->St} {H:Hp} {Q:VK} (hn:xs.length < sizeLine) (hl:rs.length=xs.length) (hK:∀ H',Same H H'->SqL K H' a (rs.map V.ref)) (hx:∀ (i:Nat) (r:Addr) (x:Int × Int),rs[i]?=some r->xs[i]?=some x->H r=some (.tup [.int x.1,.int x.2])) (p:Int->Bool)
  (ht:∀ (x:Int × Int) (H':Hp) (Q':Bool->Hp->Prop),Same H H'->Q' (p x.1) H'->tc (σ (.int x.1) (.int x.2)) H' Q')
  (he:∀ (x:Int × Int) (H':Hp) (Q':VK),Same H H'->Q' (.int x.1) H'->te (σ (.int x.1) (.int x.2)) H' Q')
  (q:∀ l H',Same H H'->H l=none->H' l=some (.lst (((xs.map (·.1)).filter p).map V.int))->Q (.ref l) H'):CompPIEnd K (Itl K a) Q H tc te σ:=by
 intro acc hacc
 refine ⟨fun i m H' vs=>i<=xs.length/\m=xs.length - i/\Same H H'/\H' acc=some (.lst vs)/\vs=((((xs.take i).map (·.1)).filter p).map V.int),⟨xs.length,Nat.zero_le _,by simp,same_new hacc _,upd_same,by simp⟩,?_⟩
 rintro i m H' vs ⟨hi,rfl,g,ha,rfl⟩
 refine ⟨ha,?_⟩
 by_cases h:i=xs.length
 ·refine .inl ⟨⟨_,hK _ g,by rw [List.length_map]; omega⟩,q acc H' g hacc ?_⟩
  rw [ha,h,List.take_length]
 ·have hlt:i < xs.length:=by omega
  have hlr:i < rs.length:=by omega
  refine .inr ⟨⟨_,.ref rs[i],hK _ g,by rw [List.getElem?_map,List.getElem?_eq_getElem hlr]; rfl⟩,?_,?_⟩
  ·rw [List.length_map]
   have h1:=List.length_filter_le p ((xs.take i).map (·.1))
   rw [List.length_map,List.length_take] at h1
   omega
  rintro z H2 ⟨rfl,hz⟩
  have hz':=hz _ (hK _ g)
  rw [List.getElem?_map,List.getElem?_eq_getElem hlr] at hz'
  obtain rfl:=Option.some.inj hz'
  have hr:=hx i rs[i] xs[i] (List.getElem?_eq_getElem hlr) (List.getElem?_eq_getElem hlt)
  refine ⟨rs[i],.int xs[i].1,.int xs[i].2,rfl,SqT.of (g _ _ hr),ht xs[i] H2 _ g ?_⟩
  have ts:(xs.take (i+1)).map (·.1)=(xs.take i).map (·.1) ++ [xs[i].1]:=by rw [List.take_succ,List.getElem?_eq_getElem hlt,List.map_append]; rfl
  cases e:p xs[i].1 with
  | true=>
   rw [if_pos rfl]
   refine he xs[i] H2 _ g ⟨ha,xs.length - (i+1),by omega,by omega,rfl,same_upd g hacc,upd_same,?_⟩
   rw [ts,List.filter_append,List.map_append]
   have:[xs[i].1].filter p=[xs[i].1]:=by simp [e]
   rw [this]
   rfl
  | false=>
   rw [if_neg Bool.false_ne_true]
   refine ⟨xs.length - (i+1),by omega,by omega,rfl,g,ha,?_⟩
   rw [ts,List.filter_append,List.map_append]
   have:[xs[i].1].filter p=[]:=by simp [e]
   rw [this]
   simp
end L2
namespace L2
open PySem PySem.Spec PyProof.Rows
def tPar3 (i j k:Nat) (ta:TA):TS:=fun D σ H=>ta σ H fun vs H1=>∃ v w z,vs=[v,w,z]/\D.nx (((σ.set i (some v)).set j (some w)).set k (some z)) H1
theorem ps_par3 {X:Cx} {pos:Pos} {i j k:Nat} {x y z:Str} {a b c:Expr} {ta:TA} {px py pz pt:Pos} {kt k2 pt2} (hc:X.still=true) (hN:X.N.Nodup) (hi:X.N[i]?=some x) (hj:X.N[j]?=some y) (hk:X.N[k]?=some z) (hij:i ≠ j) (hik:i ≠ k) (hjk:j ≠ k)
  (hx:X.env.scope.names.lookup x=some .local) (hy:X.env.scope.names.lookup y=some .local) (hz:X.env.scope.names.lookup z=some .local) (ha:PA X [a,b,c] ta)
  (hw:swappedStores [.Tuple [.Name x px,.Name y py,.Name z pz] kt pt] (.Tuple [a,b,c] k2 pt2) X.env=pure (some [x,y,z]))
  (hs:swapsWithSole [.Tuple [.Name x px,.Name y py,.Name z pz] kt pt] (.Tuple [a,b,c] k2 pt2) pos.line X.env=pure false:=by rfl) :
  PS X (.Assign [.Tuple [.Name x px,.Name y py,.Name z pz] kt pt] (.Tuple [a,b,c] k2 pt2) pos) (tPar3 i j k ta):=by
 intro pins s σ H D I h
 rw [exec_Assign_arm]
 refine wpAny_bind (wpAny_standAt ?_)
 rw [hs]
 refine wpAny_bind (wpAny_pure ?_)
 rw [if_neg (by decide)]
 refine wpAny_bind (Tuple_ (thn (ha _ pins s σ H _ I h) fun us s1 ⟨vs,H1,I1,r1,q1⟩=>?_))
 obtain ⟨v,w,v3,e1,q1⟩:=q1
 subst e1
 obtain ⟨u1,u2,u3,rfl,rv,rw',r3⟩:∃ u1 u2 u3,us=[u1,u2,u3]/\RelV v u1/\RelV w u2/\RelV v3 u3:=by
  cases r1 with
  | cons p q=>
   cases q with
   | cons p' q'=>
    cases q' with
    | cons p3 q3=>
     cases q3
     exact ⟨_,_,_,rfl,p,p',p3⟩
 refine wpAny_newObj_type ?_ (by show 3<=sizeLine; decide)
 have I2:Inv X pins σ H1 { s1 with heap:=s1.heap.push { cls:=.type "tuple",data:=.seq [u1,u2,u3].toArray } }:=I1.kept (t':=s1.toks) fun b o e=>Heap.get?_push_of_some _ e
 rw [hw]
 refine wpAny_bind (wpAny_pure ?_)
 show wpAny (model X.prog X.w) X.A (do rule "assign.swapped-stores"; let items <- unpackItems (.ref s1.heap.objs.size) 3 none; assignInOrder [fun v=>bindName X.env z v,fun v=>bindName X.env y v,fun v=>bindName X.env x v] items.reverse; pure Flow.next) _ _ _
 refine wpAny_bind (wpAny_rule (wpAny_bind (unpackItems_still (items:=#[u1,u2,u3]) (I2.stl hc) (IsTup.new s1.heap _) fun h' hx'=>?_)))
 have I3:=I2.kept (h':=h') (t':=s1.toks) fun b o e=>hx' b o (Nat.ne_of_lt (Heap.lt_size e)) e
 show wpAny _ _ (assignInOrder [fun v=>bindName X.env z v,fun v=>bindName X.env y v,fun v=>bindName X.env x v] [u3,u2,u1] >>= fun _=>pure Flow.next) _ _ _
 refine wpAny_bind (assignInOrder_cons (wpAny_bindName (store_ok I3 hN hk (.inl hz) r3 (fun s2 I4=>?_) (.inr hz))))
 refine assignInOrder_cons (wpAny_bindName (store_ok I4 hN hj (.inl hy) rw' (fun s3 I5=>?_) (.inr hy)))
 refine assignInOrder_cons (wpAny_bindName (store_ok I5 hN hi (.inl hx) rv (fun s4 I6=>assignInOrder_nil (wpAny_pure ?_)) (.inr hx)))
 have e:((σ.set k (some v3)).set j (some w)).set i (some v)=((σ.set i (some v)).set j (some w)).set k (some v3):=by
  rw [List.set_comm (i:=k) (j:=j) _ _ (Ne.symm hjk),List.set_comm (i:=k) (j:=i) _ _ (Ne.symm hik),List.set_comm (i:=j) (j:=i) _ _ (Ne.symm hij)]
 rw [show ((σ.set k (some v3)).set j (some w)).set i (some v)=((σ.set i (some v)).set j (some w)).set k (some v3) from e] at I6
 exact ⟨_,H1,I6,q1⟩
theorem compIf_walk2 {J:It} {xs:List V} {tc:TT} {te:TE} {σ:V->St} {H:Hp} {Q:VK} (hn:xs.length < sizeLine) (p:V->Bool) (f:V->V)
  (hstop:∀ H',Same H H'->J.stop xs.length H') (hgo:∀ (i:Nat) H',i < xs.length->Same H H'->J.go i H') (hyld:∀ (i:Nat) H' x H2,i < xs.length->Same H H'->J.yld i H' x H2->H2=H'/\xs[i]?=some x)
  (ht:∀ (i:Nat) (x:V) (H':Hp) (Q':Bool->Hp->Prop),xs[i]?=some x->Same H H'->(∀ H2,Same H' H2->Q' (p x) H2)->tc (σ x) H' Q')
  (he:∀ (i:Nat) (x:V) (H':Hp) (Q':VK),xs[i]?=some x->p x=true->Same H H'->(∀ H2,Same H' H2->Q' (f x) H2)->te (σ x) H' Q')
  (q:∀ a H',Same H H'->H a=none->H' a=some (.lst ((xs.filter p).map f))->Q (.ref a) H'):CompIfEnd J Q H tc te σ:=by
 intro acc hacc
 refine ⟨fun i m H' vs=>i<=xs.length/\m=xs.length - i/\Same H H'/\H' acc=some (.lst vs)/\vs=((xs.take i).filter p).map f,⟨xs.length,Nat.zero_le _,by simp,same_new hacc _,upd_same,by simp⟩,?_⟩
 rintro i m H' vs ⟨hi,rfl,g,ha,rfl⟩
 refine ⟨ha,?_⟩
 by_cases h:i=xs.length
 ·refine .inl ⟨h ▸ hstop _ g,q acc H' g hacc ?_⟩
  rw [ha,h,List.take_length]
 ·have hlt:i < xs.length:=by omega
  refine .inr ⟨hgo i _ hlt g,?_,?_⟩
  ·rw [List.length_map]
   have h1:=List.length_filter_le p (xs.take i)
   rw [List.length_take] at h1
   omega
  intro z H2 hz
  obtain ⟨rfl,hz'⟩:=hyld i _ _ _ hlt g hz
  refine ht i z H2 _ hz' g fun H3 g3=>?_
  have ts:xs.take (i+1)=xs.take i ++ [z]:=by rw [List.take_succ,hz']; rfl
  cases e:p z with
  | true=>
   rw [if_pos rfl]
   refine he i z H3 _ hz' e (g.trans g3) fun H4 g4=>⟨g4 _ _ (g3 _ _ ha),xs.length - (i+1),by omega,by omega,rfl,same_upd (g.trans (g3.trans g4)) hacc,upd_same,?_⟩
   rw [ts,List.filter_append,List.map_append]
   have:[z].filter p=[z]:=by simp [e]
   rw [this]
   rfl
  | false=>
   rw [if_neg Bool.false_ne_true]
   refine ⟨xs.length - (i+1),by omega,by omega,rfl,g.trans g3,g3 _ _ ha,?_⟩
   rw [ts,List.filter_append,List.map_append]
   have:[z].filter p=[]:=by simp [e]
   rw [this]
   simp
theorem compIf_three {tc:TT} {te:TE} {σ:V->St} {H:Hp} {Q:VK} (p:V->Bool) (f:V->V)
  (ht:∀ (i:Nat) (H':Hp) (Q':Bool->Hp->Prop),i < 3->Same H H'->(∀ H2,Same H' H2->Q' (p (.int (0+(i:Int)))) H2)->tc (σ (.int (0+(i:Int)))) H' Q')
  (he:∀ (i:Nat) (H':Hp) (Q':VK),i < 3->p (.int (0+(i:Int)))=true->Same H H'->(∀ H2,Same H' H2->Q' (f (.int (0+(i:Int)))) H2)->te (σ (.int (0+(i:Int)))) H' Q')
  (q:∀ a H',Same H H'->H a=none->H' a=some (.lst ((((List.range 3).map fun (i:Nat)=>V.int (0+(i:Int))).filter p).map f))->Q (.ref a) H'):CompIfEnd (Itr 0 3) Q H tc te σ:=by
 have get:∀ (i:Nat) (x:V),((List.range 3).map fun (i:Nat)=>V.int (0+(i:Int)))[i]?=some x->i < 3/\x=.int (0+(i:Int)):=fun i x h=>by
  rw [List.getElem?_map] at h
  by_cases e:i < 3
  ·rw [List.getElem?_range e] at h
   exact ⟨e,(Option.some.inj h).symm⟩
  ·rw [List.getElem?_eq_none (by rw [List.length_range]; omega)] at h
   cases h
 refine compIf_walk2 (xs:=(List.range 3).map fun (i:Nat)=>V.int (0+(i:Int))) (by show 3 < sizeLine; decide) p f (fun H' g=>Nat.le_refl 3) (fun i H' hi g=>hi) (fun i H' x H2 hi g h=>⟨h.1,?_⟩) ?_ ?_ q
 ·have i3:i < 3:=hi
  rw [h.2,List.getElem?_map,List.getElem?_range i3]
  rfl
 ·intro i x H' Q' hx g k
  obtain ⟨h1,rfl⟩:=get i x hx
  exact ht i H' Q' h1 g k
 ·intro i x H' Q' hx hp g k
  obtain ⟨h1,rfl⟩:=get i x hx
  exact he i H' Q' h1 hp g k
def tSetCI (wi:TI) (fr:List Nat) (tc:TT) (te:TE) (k:Nat):TS:=fun D σ H=>tCompIfC wi fr tc te σ H fun v H'=>D.nx (σ.set k (some v)) H'
theorem ps_setCI {X:Cx} {N:List Str} {fr:List Nat} {x:Str} {scope:Scope} {cl:List (Str × Addr)} {elt iter:Expr} {px pos:Pos} {wi:TI} {te:TE} {cnd:Expr} {tc:TT} {y:Str} {py spos:Pos} {k:Nat} (hN:X.N.Nodup) (hk:X.N[k]?=some y) (hy:Loc X.env.scope y) (hsw:swapsWith (.ListComp elt [⟨.Name x px,iter,[cnd],0⟩] scope pos) (some (.Name y py)) spos.line X.env=pure true) (hc:X.still=true) (S:CompScope X N fr x scope cl) (hi:PI X (.Name x px) iter wi) (ht:∀ (C:Addr) (s0:Shared) (H0:Hp) (fp:List Addr) (pins:List (Addr × Obj)),PT (cxC X N scope cl C s0 H0 fp pins) cnd tc) (he:∀ (C:Addr) (s0:Shared) (H0:Hp) (fp:List Addr) (pins:List (Addr × Obj)),PE (cxC X N scope cl C s0 H0 fp pins) elt te)
  (hf:X.fn y=true\/X.env.scope.names.lookup y=some .local) (hs:∀ y,foldedSetIterable iter X.env y=pure y:=by intro _; rfl):PS X (.Assign [.Name y py] (.ListComp elt [⟨.Name x px,iter,[cnd],0⟩] scope pos) spos) (tSetCI wi fr tc te k):=
 ps_setC hN hk hy hsw hc S hi ht he hf hs
end L2
namespace SetM
open PySem PySem.SetTable
def Up (xs:Array Nat):Prop:=∀ i j,(hij:i < j)->(h:j < xs.size)->xs[i]'(Nat.lt_trans hij h) < xs[j]
theorem below_go {xs:Array Nat} (u:Up xs) (j:Nat):∀ (f lo hi:Nat),hi<=xs.size->hi - lo<=f->lo<=hi->(∀ i,i < lo->(h:i < xs.size)->xs[i] < j)->(∀ i,hi<=i->(h:i < xs.size)->j<=xs[i]) ->
  let r:=below.go xs j f lo hi
  r<=xs.size/\(∀ i,i < r->(h:i < xs.size)->xs[i] < j)/\(∀ i,r<=i->(h:i < xs.size)->j<=xs[i])
 | 0,lo,hi,h1,h2,h3,ha,hb=>by
  have e:lo=hi:=by omega
  subst e
  exact ⟨h1,ha,hb⟩
 | f+1,lo,hi,h1,h2,h3,ha,hb=>by
  unfold below.go
  by_cases c:lo < hi
  ·rw [if_pos c]
   have hm:(lo+hi) / 2 < xs.size:=by omega
   have e:xs.getD ((lo+hi) / 2) j=xs[(lo+hi) / 2]:=by
    rw [Array.getD_eq_getD_getElem?,Array.getElem?_eq_getElem hm]
    rfl
   dsimp only
   rw [e]
   by_cases d:xs[(lo+hi) / 2] < j
   ·rw [if_pos d]
    refine below_go u j f _ hi h1 (by omega) (by omega) (fun i hi' h=>?_) hb
    by_cases q:i=(lo+hi) / 2
    ·subst q; exact d
    ·have:=u i ((lo+hi) / 2) (by omega) hm
     omega
   ·rw [if_neg d]
    refine below_go u j f lo _ (by omega) (by omega) (by omega) ha (fun i hi' h=>?_)
    by_cases q:i=(lo+hi) / 2
    ·subst q; omega
    ·have:=u ((lo+hi) / 2) i (by omega) h
     omega
  ·rw [if_neg c]
   have e:lo=hi:=by omega
   subst e
   exact ⟨h1,ha,hb⟩
theorem below_spec {xs:Array Nat} (u:Up xs) (j:Nat):below xs j<=xs.size/\(∀ i,i < below xs j->(h:i < xs.size)->xs[i] < j)/\(∀ i,below xs j<=i->(h:i < xs.size)->j<=xs[i]):=
 below_go u j xs.size 0 xs.size (Nat.le_refl _) (by omega) (by omega) (fun i h=>absurd h (Nat.not_lt_zero i)) fun i h h'=>by omega
theorem below_next {xs:Array Nat} (u:Up xs) {i:Nat} (h:i < xs.size):below xs (xs[i]+1)=i+1:=by
 obtain ⟨a,b,c⟩:=below_spec u (xs[i]+1)
 have h1:¬ below xs (xs[i]+1)<=i:=fun z=>by have:=c i z h; omega
 have h2:¬ i+1 < below xs (xs[i]+1):=fun z=>by
  have h3:i+1 < xs.size:=by omega
  have:=b (i+1) z h3
  have:=u i (i+1) (by omega) h3
  omega
 omega
theorem below_zero {xs:Array Nat} (u:Up xs):below xs 0=0:=by
 obtain ⟨a,b,c⟩:=below_spec u 0
 by_cases z:below xs 0=0
 ·exact z
 ·have:=b 0 (by omega) (by omega)
  omega
theorem insertAt_toList {α:Type} (xs:Array α) (p:Nat) (x:α):(insertAt xs p x).toList=xs.toList.take p ++ x :: xs.toList.drop p:=by
 unfold insertAt
 simp
 exact List.take_of_length_le (by simp)
theorem up_iff {xs:Array Nat}:Up xs ↔ xs.toList.Pairwise (· < ·):=by
 rw [List.pairwise_iff_getElem]
 constructor
 ·intro u i j hi hj hij
  exact u i j hij (by simpa using hj)
 ·intro u i j hij h
  exact u i j (by simpa using Nat.lt_trans hij h) (by simpa using h) hij
theorem up_insert {xs:Array Nat} (u:Up xs) {j:Nat} (hj:xs[below xs j]? ≠ some j):Up (insertAt xs (below xs j) j):=by
 obtain ⟨a,b,c⟩:=below_spec u j
 have ul:=up_iff.mp u
 rw [up_iff,insertAt_toList]
 have c':∀ y ∈ xs.toList.drop (below xs j),j < y:=fun y hy=>by
  obtain ⟨i,hi,rfl⟩:=List.getElem_of_mem hy
  rw [List.getElem_drop]
  have hs:below xs j+i < xs.size:=by
   rw [List.length_drop,Array.length_toList] at hi
   omega
  have h1:=c (below xs j+i) (by omega) hs
  by_cases z:i=0
  ·subst z
   have h2:xs[below xs j] ≠ j:=fun z=>hj (by rw [Array.getElem?_eq_getElem (by omega),z])
   have h3:=c (below xs j) (by omega) (by omega)
   have h4:xs[below xs j]=xs[below xs j+0]:=rfl
   show j < xs[below xs j+0]
   omega
  ·have h2:=u (below xs j) (below xs j+i) (by omega) hs
   have h3:=c (below xs j) (by omega) (by omega)
   show j < xs[below xs j+i]
   omega
 have b':∀ y ∈ xs.toList.take (below xs j),y < j:=fun y hy=>by
  obtain ⟨i,hi,rfl⟩:=List.getElem_of_mem hy
  rw [List.getElem_take]
  rw [List.length_take,Array.length_toList] at hi
  exact b i (by omega) (by omega)
 rw [List.pairwise_append]
 refine ⟨ul.take,List.pairwise_cons.mpr ⟨c',ul.drop⟩,fun x hx y hy=>?_⟩
 rcases List.mem_cons.mp hy with rfl | hy
 ·exact b' x hx
 ·exact Nat.lt_trans (b' x hx) (c' y hy)
structure Good (b:Bool) (t:SetTable):Prop where
 up:Up t.place
 no:t.dummies=#[]
 led:t.led=b
theorem good_fresh (f m:Nat) (b:Bool):Good b (.fresh f m b):=⟨fun i j hij h=>absurd h (Nat.not_lt_zero j),rfl,rfl⟩
theorem up_range (n:Nat):Up (Array.range n):=by
 rw [up_iff,Array.toList_range]
 exact List.pairwise_lt_range
theorem good_standIn {b:Bool} {t:SetTable} (g:Good b t) (n:Nat):Good b (t.standIn n):=⟨up_range n,rfl,g.led⟩
theorem good_orStandIn {b:Bool} {t:SetTable} (g:Good b t) (n:Nat):Good b (t.orStandIn n):=by
 unfold SetTable.orStandIn
 split
 ·exact g
 ·exact good_standIn g n
theorem good_plain {b:Bool} {t:SetTable} (g:Good b t) (p:Bool):Good b { t with plain:=p }:=⟨g.up,g.no,g.led⟩
theorem has_none (j:Nat):SetTable.has #[] j=false:=rfl
theorem good_put {b:Bool} {t:SetTable} (g:Good b t) {j:Nat} (hj:t.slot j=.empty):Good b (t.put j).1:=by
 have hn:t.place[below t.place j]? ≠ some j:=fun z=>by
  unfold SetTable.slot at hj
  dsimp only at hj
  rw [if_pos (by rw [z]; exact beq_self_eq_true _)] at hj
  cases hj
 refine ⟨up_insert g.up hn,?_,g.led⟩
 unfold SetTable.put
 dsimp only
 rw [g.no,has_none]
 rfl
theorem probe_go {b:Bool} {t:SetTable} (g:Good b t) {f:Nat->Int} {h:Int}:∀ (n:Nat) (p:Probe),p.dummy=none->∀ j d,probe.go t f h n p=some (.empty j d)->d=none/\t.slot j=.empty
 | 0,p,_,j,d,e=>by cases e
 | n+1,p,hp,j,d,e=>by
  unfold probe.go at e
  have hadv:(t.advance p).dummy=none:=by
   unfold SetTable.advance
   split
   ·exact hp
   ·exact hp
  cases hs:t.slot p.j with
  | empty=>
   rw [hs] at e
   cases e
   exact ⟨hp,hs⟩
  | dummy=>
   unfold SetTable.slot at hs
   dsimp only at hs
   rw [g.no,has_none] at hs
   split at hs <;> cases hs
  | live i=>
   rw [hs] at e
   dsimp only at e
   split at e
   ·cases e
   ·exact probe_go g n _ hadv j d e
theorem free_slot {b:Bool} {t:SetTable} (g:Good b t) {h:Int} {j:Nat} {d:Bool} (e:t.freeSlot h=some (j,d)):t.slot j=.empty:=by
 unfold SetTable.freeSlot at e
 split at e
 ·rename_i j' d' hp
  obtain ⟨rfl,z⟩:=probe_go g _ _ rfl _ _ hp
  cases e
  exact z
 ·cases e
theorem good_layNew {b:Bool} {t:SetTable} (g:Good b t) (es:Array (Int × Value)) (h:Int) (x:Value):Good b (layNew t es h x).2.1:=by
 unfold layNew
 split
 ·rename_i slot d e
  exact good_orStandIn (good_put g (free_slot g e)) _
 ·exact good_standIn g _
theorem good_relaid {b:Bool} {t:SetTable} (g:Good b t) {hs:Array Int} {n:Nat} {t':SetTable} {o:Array Nat} (e:t.relaid hs n=some (t',o)):Good b t':=by
 unfold SetTable.relaid SetTable.laid at e
 cases q:layClean (sizeAbove n - 1) hs with
 | none=>rw [q] at e; cases e
 | some owner=>
  rw [q] at e
  cases e
  refine ⟨?_,rfl,g.led⟩
  rw [up_iff]
  dsimp only
  rw [List.pairwise_map,List.pairwise_filterMap]
  refine List.Pairwise.imp (fun {a c} hac x hx y hy=>?_) List.pairwise_lt_range
  obtain ⟨v,_,rfl⟩:=Option.map_eq_some_iff.mp hx
  obtain ⟨v',_,rfl⟩:=Option.map_eq_some_iff.mp hy
  exact hac
theorem good_relayAll {b:Bool} {t:SetTable} (g:Good b t) (es:Array (Int × Value)) (n:Nat):Good b (relayAll t es n).2.1:=by
 unfold relayAll
 split
 ·rename_i t' o e
  dsimp only
  split
  ·exact good_relaid g e
  ·exact good_standIn g _
 ·exact good_standIn g _
end SetM
namespace SetM
open PySem
def SetG (prog:Program) (w:World) (b:Bool) (h:Heap) (a:Addr) (S:Int->Bool) (n:Nat):Prop:=
 ∃ o es ep t,h.get? a=some o/\o.ExactSet/\o.data=.set es ep t/\ElemsOf (intKind prog w) es.toList/\(∀ k,S k=true ↔ ∃ e ∈ es.toList,(intKind prog w).is k e.2=true)/\es.size < scanBound/\t.fits es.size=true/\es.size=n/\Good b t
section
variable {prog:Program} {w:World} {A:Around} {E:Value->Shared->Prop} {s:Shared} {b:Bool}
theorem setG_store {h:Heap} {a:Addr} {o:Obj} {es:Array (Int × Value)} {ep:Nat} {t:SetTable} (ho:h.get? a=some o) (hex:o.ExactSet) (hd:o.data=.set es ep t)
  {es':Array (Int × Value)} {t':SetTable} {S':Int->Bool} (hel:ElemsOf (intKind prog w) es'.toList) (hmem:∀ k,S' k=true ↔ ∃ e ∈ es'.toList,(intKind prog w).is k e.2=true) (hb:es'.size < scanBound) (hf:t'.fits es'.size=true) (g:Good b t') :
  (h.update a (Obj.putSet es' t')).get? a=some { o with data:=.set es' (ep+1) t' }/\SetG prog w b (h.update a (Obj.putSet es' t')) a S' es'.size:=by
 obtain ⟨h1,_⟩:=SetOf_store (knd:=intKind prog w) (S':=S') ho hex hd hel hmem hb hf
 exact ⟨h1,_,es',ep+1,t',h1,hex,rfl,hel,hmem,hb,hf,rfl,g⟩
theorem tailG {q:Bool->Sem Unit} (hq:∀ (c:Bool) (s₁:Shared) (Q':Unit->Shared->Prop),Q' () s₁->wpAny (model prog w) A (q c) Q' E s₁)
  {a:Addr} {o:Obj} {es:Array (Int × Value)} {ep:Nat} {t:SetTable} (ho:s.heap.get? a=some o) (hex:o.ExactSet) (hd:o.data=.set es ep t)
  {es1:Array (Int × Value)} {t2:SetTable} {S':Int->Bool} (hel1:ElemsOf (intKind prog w) es1.toList) (hmem1:∀ k',S' k'=true ↔ ∃ e ∈ es1.toList,(intKind prog w).is k' e.2=true)
  (hb1:es1.size < scanBound) (hf2:t2.fits es1.size=true) (g2:Good b t2) {wasDummy:Bool} {R:Option Bool->Shared->Prop}
  (h:∀ h',Heap.SameBut a s.heap h'->SetG prog w b h' a S' es1.size->R (some true) { s with heap:=h' }) :
  wpAny (model prog w) A (do
    storeSet a es1 t2
    if (!wasDummy && t2.tooFull)=true then do
      q (relayAll t2 es1 (SetTable.grown es1.size)).2.2
      storeSet a (relayAll t2 es1 (SetTable.grown es1.size)).1 (relayAll t2 es1 (SetTable.grown es1.size)).2.1
      pure (some true)
     else pure (some true)) R E s:=by
 refine wpAny_bind (wpAny_storeSet_of ho hd ?_ (fits_of_scanBound hb1))
 obtain ⟨ho1,hS1⟩:=setG_store ho hex hd hel1 hmem1 hb1 hf2 g2
 have sb1:=Heap.SameBut.update s.heap a (Obj.putSet es1 t2)
 split
 ·have hp:=relayAll_perm t2 es1 (SetTable.grown es1.size)
  have hfr:=relayAll_fits t2 es1 (SetTable.grown es1.size)
  have gr:=good_relayAll g2 es1 (SetTable.grown es1.size)
  generalize relayAll t2 es1 (SetTable.grown es1.size)=Rl at hp hfr gr ⊢
  obtain ⟨es2,t3,gave⟩:=Rl
  dsimp only at hp hfr gr ⊢
  have hsz:es2.size=es1.size:=by rw [<- Array.length_toList,hp.length_eq,Array.length_toList]
  refine wpAny_bind (hq _ _ _ (wpAny_bind (wpAny_storeSet_of ho1 rfl ?_ (fits_of_scanBound (by rw [hsz]; exact hb1)))))
  obtain ⟨_,hS2⟩:=setG_store (S':=S') ho1 hex rfl (hel1.perm hp) (fun k'=>(hmem1 k').trans ⟨fun ⟨e,he,z⟩=>⟨e,hp.mem_iff.mpr he,z⟩,fun ⟨e,he,z⟩=>⟨e,hp.mem_iff.mp he,z⟩⟩) (by rw [hsz]; exact hb1) hfr gr
  rw [hsz] at hS2
  exact wpAny_pure (h _ (sb1.trans (Heap.SameBut.update _ a _)) hS2)
 ·exact wpAny_pure (h _ sb1 hS1)
theorem addG {a:Addr} {S:Int->Bool} {n:Nat} {k:Int} {x:Value} {Q:Bool->Shared->Prop} (hkey:(intKind prog w).is k x=true) (hsc:x.scannable=true) (hS:SetG prog w b s.heap a S n) (hroom:n+1 < scanBound)
  (h:∀ h',Heap.SameBut a s.heap h'->SetG prog w b h' a (fun k'=>S k' || decide (k'=k)) (if S k then n else n+1)->Q (!S k) { s with heap:=h' }) :
  wpAny (model prog w) A (setAddHashed a x ((intKind prog w).hash k)) Q E s:=by
 obtain ⟨o,es,ep,t,ho,hex,hd,hel,hmem,hb,hf,hn,g⟩:=hS
 unfold setAddHashed setAddHashedIn
 refine wpAny_holding (wpAny_bind (wpAny_setState_of ho hd hf ?_))
 dsimp only
 rw [byScan_of hsc hb hel]
 simp only [↓reduceIte]
 unfold setAddByScan
 refine wpAny_bind (wpAny_bind (wpAny_rule (wpAny_bind (wpAny_setScan_of hkey ho hd hf hel ?_))))
 cases hr:List.findIdx? (fun e=>(intKind prog w).is k e.2) es.toList with
 | some j=>
  dsimp only
  obtain ⟨hj,hpj,_⟩:=List.findIdx?_eq_some_iff_getElem.mp hr
  have hk:S k=true:=(hmem k).mpr ⟨es.toList[j],List.getElem_mem hj,hpj⟩
  have z:=h s.heap (Heap.SameBut.refl a s.heap) ⟨o,es,ep,t,ho,hex,hd,hel,fun k'=>by
   rw [Bool.or_eq_true,decide_eq_true_eq,<- hmem k']
   exact ⟨fun y=>y.elim id (fun e=>e ▸ hk),.inl⟩,hb,hf,by rw [hk]; exact hn,g⟩
  rw [hk] at z
  exact wpAny_pure (wpAny_pure z)
 | none=>
  dsimp only
  have hk:S k=false:=by
   cases c:S k with
   | false=>rfl
   | true=>
    obtain ⟨e,he,hp⟩:=(hmem k).mp c
    have:=List.findIdx?_eq_none_iff.mp hr e he
    rw [hp] at this
    cases this
  have hperm:=layNew_perm t es ((intKind prog w).hash k) x
  have hfits:=layNew_fits t es ((intKind prog w).hash k) x
  have gl:=good_layNew g es ((intKind prog w).hash k) x
  generalize layNew t es ((intKind prog w).hash k) x=L at hperm hfits gl ⊢
  obtain ⟨es1,t1,wasDummy,gave⟩:=L
  dsimp only at hperm hfits gl ⊢
  rw [Array.toList_push] at hperm
  have sz:es1.size=n+1:=by rw [<- Array.length_toList,hperm.length_eq,List.length_append,Array.length_toList,hn]; rfl
  have hb1:es1.size < scanBound:=by rw [sz]; exact hroom
  have fin:∀ h',Heap.SameBut a s.heap h'->SetG prog w b h' a (fun k'=>S k' || decide (k'=k)) es1.size->Q true { s with heap:=h' }:=fun h' sb z=>by
   have y:=h h' sb
   rw [hk] at y
   rw [sz] at z
   exact y z
  have hq:∀ (c:Bool) (s₁:Shared) (Q':Unit->Shared->Prop),Q' () s₁->wpAny (model prog w) A (match c with | true=>rule "set.scan.the-table-gave-way" | false=>pure ()) Q' E s₁:=fun c s₁ Q' y=>by
   cases c
   ·exact wpAny_pure y
   ·exact wpAny_rule y
  refine wpAny_bind (hq _ _ _ ?_)
  split
  ·refine wpAny_bind ?_
   rw [hashByValue_scannable 8 hsc]
   refine wpAny_pure ?_
   refine tailG hq ho hex hd ((hel.push hkey hsc).perm hperm) (mem_push_iff hkey hmem hperm) hb1 ?_ ?_ fun h' sb z=>wpAny_pure (fin h' sb z)
   ·split
    ·exact hfits
    ·exact SetTable.fits_plain_off hfits
   ·split
    ·exact gl
    ·exact good_plain gl false
  ·refine wpAny_bind (wpAny_pure ?_)
   simp only [↓reduceIte]
   exact tailG hq ho hex hd ((hel.push hkey hsc).perm hperm) (mem_push_iff hkey hmem hperm) hb1 hfits gl fun h' sb z=>wpAny_pure (fin h' sb z)
end
end SetM
namespace SetM
open PySem PyProof.Rows
abbrev byT (w:World):Bool:=w.params.followText "set-order"
abbrev newO (w:World):Obj:={ cls:=.type "set",dict:=none,data:=.set #[] 0 (.fresh 0 0 (!byT w)) }
theorem SetG.congr {prog:Program} {w:World} {b:Bool} {h:Heap} {a:Addr} {S S':Int->Bool} {n n':Nat} (g:SetG prog w b h a S n) (e:∀ k,S k=S' k) (en:n=n'):SetG prog w b h a S' n':=by
 have:S=S':=funext e
 subst this en
 exact g
theorem SetG.keeps {prog:Program} {w:World} {b:Bool} {h h':Heap} {a:Addr} {S:Int->Bool} {n:Nat} (g:SetG prog w b h a S n) (k:∀ o,h.get? a=some o->h'.get? a=some o):SetG prog w b h' a S n:=
 let ⟨o,es,ep,t,h1,r⟩:=g; ⟨o,es,ep,t,k _ h1,r⟩
section
variable {prog:Program} {w:World} {A:Around} {E:Value->Shared->Prop} {s:Shared} {b:Bool}
theorem loopG {R:Result->Shared->Prop} {I:Addr} {fp wr:List Addr} {G:Array GenState->Array GenState->Prop} {n:Nat} {P:Nat->Value->Prop} {St:Nat->Shared->Prop}
  (W:WalksS prog w A.in1 I fp wr G n P St) (S:Addr) (hSf:S ∉ fp) (val:Nat->Int) (hval:∀ i v,P i v->∃ t,v=.int (val i) t) (hb:n+1 < scanBound):∀ (k i:Nat) (s:Shared),n - i=k->i<=n->St i s ->
   SetG prog w b s.heap S (fun k'=>(firstMet val i).any (· == k')) (firstMet val i).length ->
   (∀ s',Moved (S :: wr) G s s'->SetG prog w b s'.heap S (fun k'=>(firstMet val n).any (· == k')) (firstMet val n).length->R (.ok (.ret .none)) s') ->
   codeAny (model prog w) A (.builtin "set.update.loop" ⟨[.ref S,.ref I],[]⟩) R s
 | 0,i,s,hk,hi,st,hS,hR=>by
  obtain rfl:i=n:=by omega
  refine codeAny_builtin F.entry_set_update_loop ?_
  rw [Around.under_plainId F.plain_set_update_loop _]
  show wpAny _ A.in1 (pyNext (.ref I) >>= _) _ _ s
  refine wpAny_bind (W.done s _ _ st fun s' hm=>?_)
  show wpAny _ A.in1 (ret Value.none) _ _ s'
  exact wpAny_pure (hR s' (hm.mono fun b hb=>List.mem_cons_of_mem _ hb) (hS.keeps fun o e=>hm.heap S o (fun z=>hSf (W.sub _ z)) e))
 | k+1,i,s,hk,hi,st,hS,hR=>by
  have lt:i < n:=by omega
  refine codeAny_builtin F.entry_set_update_loop ?_
  rw [Around.under_plainId F.plain_set_update_loop _]
  show wpAny _ A.in1 (pyNext (.ref I) >>= _) _ _ s
  refine wpAny_bind (W.item i s _ _ lt st fun v s' hP st' hm=>?_)
  obtain ⟨t,rfl⟩:=hval i v hP
  have hS':=hS.keeps (h':=s'.heap) fun o e=>hm.heap S o (fun z=>hSf (W.sub _ z)) e
  show wpAny _ A.in1 (holding [Value.int (val i) t] (setAdd S (.int (val i) t)) >>= _) _ _ s'
  refine wpAny_bind (wpAny_holding ?_)
  unfold setAdd
  refine wpAny_holding (wpAny_bind ((intKind prog w).pyHash (k:=val i) (intKind_is _ _ _ _) ?_))
  have room:(firstMet val i).length+1 < scanBound:=by have:=firstMet_length_le val i; omega
  refine addG (s:={ s' with toks:=s'.toks+1 }) (intKind_is _ _ _ _) rfl hS' room fun h' sb hS2=>?_
  have hSi:=hS2.congr (S':=fun k'=>(firstMet val (i+1)).any (· == k')) (n':=(firstMet val (i+1)).length) (fun k'=>by rw [firstMet_succ,step_any]) (by rw [firstMet_succ,step_length])
  refine wpAny_pure ⟨plainId_quiet F.plain_set_update_loop _,loopG W S hSf val hval hb k (i+1) _ (by omega) lt (W.frame _ s' _ _ st' (Nat.le_succ _) fun b hb o e=>?_) hSi fun s'' hm'' hS''=>?_⟩
  ·rw [sb.2 b fun z=>hSf (by rw [<- z]; exact hb)]
   exact e
  ·refine hR s'' (Moved.trans W.gtrans ((hm.mono fun b hb=>List.mem_cons_of_mem _ hb).then_heap (Nat.le_succ _) fun b o hb e=>?_) hm'') hS''
   rw [sb.2 b fun z=>hb (by rw [z]; exact List.mem_cons_self)]
   exact e
theorem newG (a:Value) {Q₁:Value->Shared->Prop} (h:Q₁ (.ref s.heap.objs.size) { s with heap:=s.heap.push (newO w) }) :
  codeAny (model prog w) A (.call (.builtin "set.__new__") ⟨[.type "set",a],[]⟩) (wants Q₁ E) s:=by
 refine codeAny_of_tree ?_
 show wpAny _ A.in1 (do checkBuiltinCall "set.__new__" ⟨[.type "set",a],[]⟩; again (.builtin "set.__new__" ⟨[.type "set",a],[]⟩)) _ _ s
 refine wpAny_bind (wpAny_of_eq (PySem.F.newCall_set_1 a) (wpAny_pure ⟨plainId_quiet PySem.F.plain_set_new _,codeAny_builtin PySem.F.entry_set_new ?_⟩))
 rw [Around.under_plainId PySem.F.plain_set_new _]
 unfold Builtin.«set.__new__» Builtin.Frozenset.newClass
 have hsub:=sub_set_self
 obtain ⟨hp,g,d,tk,os⟩:=s
 dsimp only
 wp_walk
 refine wpAny_askSetting (wpAny_pure ?_)
 dsimp only
 simp only [newObj]
 exact wpAny_bind (wpAny_alloc (wpAny_pure (wpAny_pure h)))
theorem call_setG {l:Addr} {items:Array Value} {ns:List Int} {Q:Value->Shared->Prop} (hh:A.handled=none) (hl:s.heap.IsList l items) (hi:IntsAre items.toList ns) (hb:items.size+1 < scanBound)
  (h:∀ (h':Heap) (tk:Nat),SetG prog w (!byT w) h' s.heap.objs.size (fun k'=>(firstMet (fun i=>ns.getD i 0) items.size).any (· == k')) (firstMet (fun i=>ns.getD i 0) items.size).length ->
   (∀ b o,b < s.heap.objs.size->s.heap.get? b=some o->h'.get? b=some o)->Q (.ref s.heap.objs.size) { s with heap:=h',toks:=tk }) :
  wpAny (model prog w) A (call (.type "set") [.ref l]) Q E s:=by
 obtain ⟨c,tl,hmro⟩:=PySem.F.called_set.mro
 have hmade:=PySem.F.called_set.made
 have hsub:=PySem.F.called_set.sub
 refine wpAny_call (codeAny_of_tree ?_)
 show wpAny _ _ (callAny (.type "set") _) _ _ _
 refine wpAny_pure ⟨Code.quiet_builtin _ (by decide +kernel),codeAny_builtin PySem.F.entry_type_call ?_⟩
 rw [Around.under_plain (weight_type_call_type "set" [.ref l] []) rfl]
 have h1:=PySem.F.called_set.notType
 have h2:=PySem.F.called_set.canCreate
 have hct:=PySem.F.typeCall_set_1 (.ref l)
 repeat (any_goals (first | assumption | wp_step))
 refine codeAny_mono (newG (.ref l) (E:=E) (Q₁:=fun obj s₁=>obj=.ref s.heap.objs.size/\s₁={ s with heap:=s.heap.push (newO w) }) ⟨rfl,rfl⟩) fun r s₁ hr=>?_
 cases r with
 | error e=>exact hr
 | ok fl=>
  cases fl with
  | ret obj=>
   obtain ⟨rfl,rfl⟩:=hr
   have hS:(s.heap.push (newO w)).get? s.heap.objs.size=some (newO w):=Heap.get?_push_size _ rfl
   have hT:Shared.TypeIs { s with heap:=s.heap.push (newO w) } (.ref s.heap.objs.size) "set":=⟨_,hS,rfl⟩
   have hli:=PySem.F.called_set.init.lookup
   have hbi:=PySem.F.called_set.init.bind (.ref s.heap.objs.size)
   repeat (any_goals (first | assumption | wp_step))
   refine codeAny_mono (codeAny_call_builtin (R:=wants (fun r s₂=>r=.none/\∃ h' tk,s₂={ s with heap:=h',toks:=tk } /\
     SetG prog w (!byT w) h' s.heap.objs.size (fun k'=>(firstMet (fun i=>ns.getD i 0) items.size).any (· == k')) (firstMet (fun i=>ns.getD i 0) items.size).length /\
     (∀ b o,b < s.heap.objs.size->s.heap.get? b=some o->h'.get? b=some o)) E) PySem.F.called_set.init.plain PySem.F.entry_set_init (check_set_init_1 hT ?_)) fun r₂ s₂ hr₂=>?_
   ·obtain ⟨ol,hol,hcl,nl,hdl⟩:=hl
    obtain ⟨ocls,odict,odata,oslots⟩:=ol
    simp only at hcl hdl
    subst hcl hdl
    have hol':(s.heap.push (newO w)).get? l=some { cls:=.type "list",dict:=odict,data:=.seq items nl,slots:=oslots }:=Heap.get?_push_of_some _ hol
    have hsls:=PySem.F.sub_list_set
    have hslf:=PySem.F.sub_list_frozenset
    have hne:(Value.type "list" == Value.type "dict")=false:=by decide
    have hl1:(s.heap.push (newO w)).IsList l items:=⟨_,hol',rfl,nl,rfl⟩
    unfold Builtin.«set.__init__» noKeywords Builtin.Frozenset.updateFrom
    generalize hPI:pyIter=PI
    wp_walk
    subst hPI
    refine wpAny_pyIter_list hl1 (wpAny_bind (wpAny_runValue ?_))
    have lS:l < s.heap.objs.size:=Heap.lt_size hol
    have hh3:A.in1.in1.in1.handled=none:=by simp [hh]
    have neI:l ≠ (s.heap.push (newO w)).objs.size:=by rw [Heap.size_push]; exact Nat.ne_of_lt (Nat.lt_succ_of_lt lS)
    have hSf:s.heap.objs.size ∉ [(s.heap.push (newO w)).objs.size,l]:=by
     rw [Heap.size_push]
     simp only [List.mem_cons,List.not_mem_nil,or_false,not_or]
     exact ⟨Nat.ne_of_lt (Nat.lt_succ_self _),Nat.ne_of_gt lS⟩
    have hval:∀ (i:Nat) (v:Value),items[i]?=some v->∃ t,v=.int ((fun i=>ns.getD i 0) i) t:=fun i v hv=>IntsAre.int_at hi i v (by rw [Array.getElem?_toList]; exact hv)
    refine loopG (b:=!byT w) ((Walks.list hh3 _ l neI items).toS) s.heap.objs.size hSf (fun i=>ns.getD i 0) hval hb (items.size - 0) 0 _ (by omega) (Nat.zero_le _) ⟨⟨_,Heap.get?_push_size _ rfl,rfl,rfl⟩,(hl1.push _)⟩ ?hS0 ?hR
    case hS0=>exact ⟨_,#[],0,_,Heap.get?_push_of_some _ hS,⟨rfl,rfl,rfl⟩,rfl,fun e he=>by simp at he,fun k=>by simp [firstMet],by decide,by rfl,rfl,good_fresh 0 0 _⟩
    case hR=>
     intro s' hm hS'
     obtain ⟨h',g',d',tk',os'⟩:=s'
     have eg:g'=s.gens:=hm.gens
     have ed:d'=s.drawn:=hm.drawn
     have eo:os'=s.os:=hm.os
     subst eg ed eo
     show wpAny _ _ _ _ _ _
     refine wpAny_pure ?_
     show wpAny _ _ (ret Value.none) _ _ _
     refine wpAny_pure ⟨rfl,h',tk',rfl,hS',fun b o hb e=>?_⟩
     exact hm.heap b o (by
      rw [Heap.size_push]
      simp only [List.mem_cons,List.not_mem_nil,or_false,not_or]
      exact ⟨Nat.ne_of_lt hb,Nat.ne_of_lt (Nat.lt_succ_of_lt hb)⟩) (Heap.get?_push_of_some _ (Heap.get?_push_of_some _ e))
   ·cases r₂ with
    | error e=>exact hr₂
    | ok fl₂=>
     cases fl₂ with
     | ret r=>
      obtain ⟨rfl,h',tk,rfl,hS',hk'⟩:=hr₂
      repeat (any_goals (first | assumption | wp_step))
      exact h _ _ hS' hk'
     | _=>exact hr₂.elim
  | _=>exact hr.elim
end
end SetM
namespace SetM
open PySem PyProof.Rows
theorem sl_next:Slot "set_iterator" "__next__" "set_iterator.__next__":=
 .of (owner:="set_iterator") (n:="__next__") (by rw [typeLookup_type,builtinLookup_eq_fast]; kernel_rfl) (by decide +kernel) (by decide +kernel) (by decide +kernel)
  (by first | exact .inl (by decide +kernel) | exact .inr (by decide +kernel)) (by rw [isSubtype_type]; kernel_rfl)
theorem en_next:entryFor table "set_iterator.__next__"=some Builtin.«set_iterator.__next__»:=entryFor_of_tree (by kernel_rfl)
theorem ow_si:Manifest.owners.lookup (String.ofList ['r','o','t','a','r','e','t','i','_','t','e','s'].reverse)=some Manifest.sig_set_iterator:=by kernel_rfl
theorem ar_next (a:Value):argsOk "set_iterator.__next__" ⟨[a],[]⟩:=by
 unfold argsOk; rw [signature?_of (id:="set_iterator.__next__") (n:=['_','_','t','x','e','n','_','_']) (o:=['r','o','t','a','r','e','t','i','_','t','e','s']) (by kernel_rfl) ow_si]; kernel_rfl
theorem en_iter:entryFor table "set.__iter__"=some Builtin.«frozenset.__iter__»:=entryFor_alias (id':="frozenset.__iter__") (by kernel_rfl) rfl (by decide +kernel) (by kernel_rfl)
theorem sl_self:Slot "set_iterator" "__iter__" "set_iterator.__iter__":=
 .of (owner:="set_iterator") (n:="__iter__") (by rw [typeLookup_type,builtinLookup_eq_fast]; kernel_rfl) (by decide +kernel) (by decide +kernel) (by decide +kernel)
  (by first | exact .inl (by decide +kernel) | exact .inr (by decide +kernel)) (by rw [isSubtype_type]; kernel_rfl)
def SetAt (h:Heap) (a:Addr) (es:Array (Int × Value)) (ep:Nat) (t:SetTable):Prop:=∃ o,h.get? a=some o/\o.ExactSet/\o.data=.set es ep t/\t.fits es.size=true
def IterAt (h:Heap) (it a:Addr) (first:Value) (i n ep:Nat):Prop:=∃ o,h.get? it=some o/\o.cls=.type "set_iterator"/\o.data=.fields #[first,.int i 0,.ref a,.int n 0,.int ep 0]
theorem SetAt.keeps {h h':Heap} {a:Addr} {es:Array (Int × Value)} {ep:Nat} {t:SetTable} (x:SetAt h a es ep t) (k:∀ o,h.get? a=some o->h'.get? a=some o):SetAt h' a es ep t:=let ⟨o,p,r⟩:=x; ⟨o,k _ p,r⟩
theorem IterAt.keeps {h h':Heap} {it a:Addr} {f:Value} {i n ep:Nat} (x:IterAt h it a f i n ep) (k:∀ o,h.get? it=some o->h'.get? it=some o):IterAt h' it a f i n ep:=let ⟨o,p,r⟩:=x; ⟨o,k _ p,r⟩
section
variable {prog:Program} {w:World} {A:Around} {E:Value->Shared->Prop} {s:Shared} {it a:Addr} {es:Array (Int × Value)} {ep i:Nat} {t:SetTable} {first:Value}
theorem IterAt.type {n:Nat} (x:IterAt s.heap it a first i n ep):s.TypeIs (.ref it) "set_iterator":=let ⟨o,p,c,_⟩:=x; ⟨o,p,c⟩
theorem choose_ok {src:Source} {n:Nat} {Q:Nat->Shared->Prop} (hn:n ≠ 0) (h:∀ k d,k < n->Q k { s with drawn:=d }):wpAny (model prog w) A (choose src n) Q E s:=fun _ _ _=>⟨hn,h _ _ (Nat.mod_lt _ (Nat.pos_of_ne_zero hn))⟩
theorem next_int {sl nx:Nat} {x:Value} {Q:Option Value->Shared->Prop} (hi:IterAt s.heap it a (.int sl 0) i es.size ep) (hs:SetAt s.heap a es ep t) (hne:a ≠ it)
  (hn:∀ (A':Around) (Q':Option (Value × Nat)->Shared->Prop) (E':Value->Shared->Prop),Q' (some (x,nx)) s->wpAny (model prog w) A' (setNext a sl i ep) Q' E' s)
  (hQ:∀ h',IterAt h' it a (.int nx 0) (i+1) es.size ep->Heap.SameBut it s.heap h'->Q (some x) { s with heap:=h' }) :
  wpAny (model prog w) A (pyNext (.ref it)) Q E s:=by
 obtain ⟨o,ho,hc,hd⟩:=id hi
 obtain ⟨os,hos,hex,hds,hf⟩:=id hs
 unfold pyNext
 refine wpAny_bind (wpAny_attempt (wpAny_callSpecial?_slot (name:=Str.ofString "__next__") hi.type sl_next (wpAny_call_entry sl_next hi.type en_next ?_ (ar_next _))))
 unfold Builtin.«set_iterator.__next__»
 refine wpAny_bind (wpAny_pure ?_)
 refine wpAny_bind (wpAny_fieldsOf ho hd ?_)
 dsimp only
 refine wpAny_bind (wpAny_setEntries_of hos hds hf ?_)
 rw [if_neg (by simp)]
 refine wpAny_bind ?_
 simp only [Int.toNat_natCast]
 refine hn _ _ _ ?_
 dsimp only
 refine wpAny_bind (wpAny_setField ho hd (by simp) ?_)
 have h1:(s.heap.update it (Obj.mapFields (·.setIfInBounds 0 (rawInt (nx:Int))))).get? it=some (Obj.mapFields (·.setIfInBounds 0 (rawInt (nx:Int))) o):=Heap.get?_update_self _ ho (Obj.isFreed_of_fields (Obj.data_mapFields hd _))
 refine wpAny_bind (wpAny_setField (s:={ s with heap:=s.heap.update it (Obj.mapFields (·.setIfInBounds 0 (rawInt (nx:Int)))) }) h1 (Obj.data_mapFields hd _) (by simp) ?_)
 refine wpAny_pure ⟨_,rfl,wpAny_pure (hQ _ ⟨_,Heap.get?_update_self _ h1 (Obj.isFreed_of_fields (Obj.data_mapFields (Obj.data_mapFields hd _) _)),?_,?_⟩ ((Heap.SameBut.update ..).trans (Heap.SameBut.update ..)))⟩
 ·rw [Obj.cls_mapFields,Obj.cls_mapFields]
  exact hc
 ·rw [Obj.data_mapFields (Obj.data_mapFields hd _)]
  simp [rawInt]
theorem stopped {o:Obj} {vs:Array Value} {k:Nat} {Q:Option Value->Shared->Prop} (hh:A.handled=none) (ho:s.heap.get? it=some o) (hd:o.data=.fields vs) (hk:k < vs.size) (x:Value) (hQ:∀ h',Heap.ExtBut it s.heap h'->Q none { s with heap:=h' }) :
  wpAny (model prog w) A.in1 (do setField (.ref it) k x; raiseNew (<- newExc (.type "StopIteration") [])) (fun fin s'=>∃ v,fin=Fin.done (Flow.ret v)/\wpAny (model prog w) A (pure (some v)) Q E s')
   (fun e s'=>wpAny (model prog w) A (do if <- isInstance e (.type "StopIteration") then pure none else throw e) Q E s') s:=by
 refine wpAny_bind (wpAny_setField ho hd hk ?_)
 refine wpAny_bind ?_
 simp only [newExc,newTuple]
 refine wpAny_bind (wpAny_newObj_type ?_ (by size_fits))
 refine wpAny_bind (m:=firstArgMember _ _) (wpAny_of_eq (a:=Value.none) (by first | rfl | (simp only [firstArgMember]; rfl)) ?_)
 refine wpAny_newObj_type ?_ (by size_fits)
 simp only [raiseNew]
 refine wpAny_bind (wpAny_handled ?_)
 rw [show A.in1.handled=none from hh]
 refine wpAny_bind (wpAny_pure (wpAny_throw ?_))
 refine wpAny_bind (wpAny_isInstance (T:="StopIteration") (b:=true) ⟨_,Heap.get?_push_size _ rfl,rfl⟩ isSubtype_stop ?_)
 exact wpAny_pure (hQ _ (((Heap.SameBut.update ..).extBut.push _).push _))
theorem next_intE {sl:Nat} {Q:Option Value->Shared->Prop} (hh:A.handled=none) (hi:IterAt s.heap it a (.int sl 0) i es.size ep) (hs:SetAt s.heap a es ep t)
  (hn:∀ (A':Around) (Q':Option (Value × Nat)->Shared->Prop) (E':Value->Shared->Prop),Q' none s->wpAny (model prog w) A' (setNext a sl i ep) Q' E' s)
  (hQ:∀ h',Heap.ExtBut it s.heap h'->Q none { s with heap:=h' }):wpAny (model prog w) A (pyNext (.ref it)) Q E s:=by
 obtain ⟨o,ho,hc,hd⟩:=id hi
 obtain ⟨os,hos,hex,hds,hf⟩:=id hs
 unfold pyNext
 refine wpAny_bind (wpAny_attempt (wpAny_callSpecial?_slot (name:=Str.ofString "__next__") hi.type sl_next (wpAny_call_entry sl_next hi.type en_next ?_ (ar_next _))))
 unfold Builtin.«set_iterator.__next__»
 refine wpAny_bind (wpAny_pure ?_)
 refine wpAny_bind (wpAny_fieldsOf ho hd ?_)
 dsimp only
 refine wpAny_bind (wpAny_setEntries_of hos hds hf ?_)
 rw [if_neg (by simp)]
 refine wpAny_bind ?_
 simp only [Int.toNat_natCast]
 refine hn _ _ _ ?_
 dsimp only
 exact stopped hh ho hd (by simp) _ hQ
theorem next_drawn {f:Addr} {ps:List Nat} {p:Nat} {e:Int × Value} {Q:Option Value->Shared->Prop} (hi:IterAt s.heap it a (.ref f) i es.size ep) (hs:SetAt s.heap a es ep t) (hf':s.heap.IsTuple f (ps.map fun (i:Nat)=>rawInt i).toArray)
  (hp:ps[i]?=some p) (he:es[p]?=some e) (hQ:∀ h',IterAt h' it a (.ref f) (i+1) es.size ep->Heap.SameBut it s.heap h'->Q (some e.2) { s with heap:=h' }) :
  wpAny (model prog w) A (pyNext (.ref it)) Q E s:=by
 obtain ⟨o,ho,hc,hd⟩:=id hi
 obtain ⟨os,hos,hex,hds,hf⟩:=id hs
 unfold pyNext
 refine wpAny_bind (wpAny_attempt (wpAny_callSpecial?_slot (name:=Str.ofString "__next__") hi.type sl_next (wpAny_call_entry sl_next hi.type en_next ?_ (ar_next _))))
 unfold Builtin.«set_iterator.__next__»
 refine wpAny_bind (wpAny_pure ?_)
 refine wpAny_bind (wpAny_fieldsOf ho hd ?_)
 dsimp only
 refine wpAny_bind (wpAny_setEntries_of hos hds hf ?_)
 rw [if_neg (by simp)]
 obtain ⟨of,hof,hcf,nf,hdf⟩:=id hf'
 refine wpAny_bind (wpAny_seqItems hof hdf ?_)
 have hx:(ps.map fun (i:Nat)=>rawInt i).toArray[(i:Int).toNat]?=some (.int p 0):=by
  rw [Int.toNat_natCast,List.getElem?_toArray,List.getElem?_map,hp]
  rfl
 dsimp only
 rw [hx]
 dsimp only
 refine wpAny_bind ?_
 unfold setNextDrawn
 refine wpAny_bind (wpAny_setState_of hos hds hf ?_)
 dsimp only
 rw [if_neg (by simp)]
 simp only [Int.toNat_natCast,he]
 refine wpAny_pure ?_
 refine wpAny_bind (wpAny_setField ho hd (by simp) ?_)
 refine wpAny_pure ⟨_,rfl,wpAny_pure (hQ _ ⟨_,Heap.get?_update_self _ ho (Obj.isFreed_of_fields (Obj.data_mapFields hd _)),(Obj.cls_mapFields ..).trans hc,?_⟩ (Heap.SameBut.update ..))⟩
 rw [Obj.data_mapFields hd]
 simp [rawInt]
theorem next_drawnE {f:Addr} {ps:List Nat} {Q:Option Value->Shared->Prop} (hh:A.handled=none) (hi:IterAt s.heap it a (.ref f) i es.size ep) (hs:SetAt s.heap a es ep t) (hf':s.heap.IsTuple f (ps.map fun (i:Nat)=>rawInt i).toArray)
  (hp:ps[i]?=none) (hQ:∀ h',Heap.ExtBut it s.heap h'->Q none { s with heap:=h' }):wpAny (model prog w) A (pyNext (.ref it)) Q E s:=by
 obtain ⟨o,ho,hc,hd⟩:=id hi
 obtain ⟨os,hos,hex,hds,hf⟩:=id hs
 unfold pyNext
 refine wpAny_bind (wpAny_attempt (wpAny_callSpecial?_slot (name:=Str.ofString "__next__") hi.type sl_next (wpAny_call_entry sl_next hi.type en_next ?_ (ar_next _))))
 unfold Builtin.«set_iterator.__next__»
 refine wpAny_bind (wpAny_pure ?_)
 refine wpAny_bind (wpAny_fieldsOf ho hd ?_)
 dsimp only
 refine wpAny_bind (wpAny_setEntries_of hos hds hf ?_)
 rw [if_neg (by simp)]
 obtain ⟨of,hof,hcf,nf,hdf⟩:=id hf'
 refine wpAny_bind (wpAny_seqItems hof hdf ?_)
 have hx:(ps.map fun (i:Nat)=>rawInt i).toArray[(i:Int).toNat]?=none:=by
  rw [Int.toNat_natCast,List.getElem?_toArray,List.getElem?_map,hp]
  rfl
 dsimp only
 rw [hx]
 dsimp only
 refine wpAny_bind (wpAny_setField ho hd (by simp) ?_)
 have h1:(s.heap.update it (Obj.mapFields (·.setIfInBounds 0 (rawInt 0)))).get? it=some (Obj.mapFields (·.setIfInBounds 0 (rawInt 0)) o):=Heap.get?_update_self _ ho (Obj.isFreed_of_fields (Obj.data_mapFields hd _))
 exact stopped (s:={ s with heap:=s.heap.update it (Obj.mapFields (·.setIfInBounds 0 (rawInt 0))) }) hh h1 (Obj.data_mapFields hd _) (by simp) _ fun h' x=>hQ h' fun b o' nb e=>x b o' nb ((Heap.get?_update_ne _ _ _ _ nb).trans e)
theorem erase_perm {α:Type}:∀ {l:List α} {i:Nat} (h:i < l.length),(l[i] :: l.eraseIdx i).Perm l
 | x :: xs,0,h=>.refl _
 | x :: xs,i+1,h=>by
  have h':i < xs.length:=by simpa using h
  show (xs[i] :: x :: xs.eraseIdx i).Perm (x :: xs)
  exact (List.Perm.swap x xs[i] _).trans ((erase_perm h').cons x)
theorem draw_ok {α:Type}:∀ (n:Nat) (xs:List α) (s:Shared) (Q:List α->Shared->Prop),n=xs.length->(∀ ys d,ys.Perm xs->Q ys { s with drawn:=d })->wpAny (model prog w) A (drawOrder n xs) Q E s
 | 0,xs,s,Q,hl,h=>by
  have:xs=[]:=List.length_eq_zero_iff.mp hl.symm
  subst this
  exact wpAny_pure (h [] s.drawn .nil)
 | n+1,[],s,Q,hl,h=>by cases hl
 | n+1,x :: xs,s,Q,hl,h=>by
  unfold drawOrder
  refine wpAny_bind (choose_ok (by simp) fun k d hk=>?_)
  rw [List.getElem?_eq_getElem hk]
  dsimp only
  refine wpAny_bind (draw_ok n _ _ _ (by rw [List.length_eraseIdx_of_lt hk]; simp at hl ⊢; omega) fun ys d' hy=>wpAny_pure ?_)
  exact h _ d' ((hy.cons _).trans (erase_perm hk))
theorem pick_go {α:Type} (nx:Nat->Nat):∀ (f k:Nat) (l:List α) (out:Array α),f=l.length->(pickOrder.go nx f k l out).toList.Perm (out.toList ++ l)
 | 0,k,l,out,hl=>by
  have:l=[]:=List.length_eq_zero_iff.mp hl.symm
  subst this
  unfold pickOrder.go
  rw [List.append_nil]
 | f+1,k,l,out,hl=>by
  have hp:nx k % l.length < l.length:=Nat.mod_lt _ (by omega)
  unfold pickOrder.go
  rw [List.getElem?_eq_getElem hp]
  dsimp only
  refine (pick_go nx f (k+1) _ _ (by rw [List.length_eraseIdx_of_lt hp]; omega)).trans ?_
  rw [Array.toList_push,List.append_assoc]
  exact (erase_perm hp).append_left out.toList
theorem pick_perm {α:Type} (nx:Nat->Nat) (xs:Array α):(pickOrder nx xs).toList.Perm xs.toList:=by
 have:=pick_go nx xs.size 0 xs.toList #[] (by simp)
 simpa [pickOrder] using this
end
end SetM
namespace SetM
open PySem PyProof.Rows
def drw (es:Array (Int × Value)) (t:SetTable):Bool:=!t.plain && decide (es.size > 1)
def slotAt (t:SetTable) (i:Nat):Nat:=match i with
 | 0=>0
 | i+1=>t.place.getD i 0+1
section
variable {prog:Program} {w:World} {A:Around} {E:Value->Shared->Prop} {s:Shared} {it a:Addr} {es:Array (Int × Value)} {ep i:Nat} {t:SetTable}
theorem below_slot {t:SetTable} (u:Up t.place) {i:Nat} (h:i<=t.place.size):SetTable.below t.place (slotAt t i)=i:=by
 cases i with
 | zero=>exact below_zero u
 | succ i=>
  have hi:i < t.place.size:=h
  show SetTable.below t.place (t.place.getD i 0+1)=i+1
  rw [Array.getD_eq_getD_getElem?,Array.getElem?_eq_getElem hi]
  exact below_next u hi
theorem fits_size {t:SetTable} {n:Nat} (h:t.fits n=true):t.place.size=n:=by
 unfold SetTable.fits at h
 simp only [Bool.and_eq_true,beq_iff_eq] at h
 exact h.1
theorem next_table {k:Nat} {Q:Option (Value × Nat)->Shared->Prop} (hs:SetAt s.heap a es ep t) (hT:byT w=false) (hD:drw es t=false) (g:Good true t) (hi:i < es.size) (hQ:Q (some ((es[i]).2,slotAt t (i+1))) s) :
  wpAny (model prog w) A (setNext a (slotAt t i) k ep) Q E s:=by
 obtain ⟨o,ho,hex,hd,hf⟩:=hs
 have hz:=fits_size hf
 unfold setNext
 refine wpAny_bind (wpAny_setState_of ho hd hf ?_)
 refine wpAny_bind (wpAny_bind (wpAny_askSetting (wpAny_pure ?_)))
 show wpAny _ _ (if byT w=true then _ else _) _ _ _
 rw [if_neg (by rw [hT]; exact Bool.false_ne_true)]
 show wpAny _ _ (if drw es t=true then _ else _) _ _ _
 rw [if_neg (by rw [hD]; exact Bool.false_ne_true)]
 refine wpAny_bind ?_
 show wpAny _ _ (if (!t.led && !es.isEmpty)=true then _ else _) _ _ _
 rw [if_neg (by rw [g.led]; simp)]
 refine wpAny_pure (wpAny_pure ?_)
 rw [below_slot g.up (by omega),Array.getElem?_eq_getElem hi,Array.getElem?_eq_getElem (show i < t.place.size by omega)]
 have e:slotAt t (i+1)=t.place[i]'(by omega)+1:=by
  show t.place.getD i 0+1=_
  rw [Array.getD_eq_getD_getElem?,Array.getElem?_eq_getElem (show i < t.place.size by omega)]
  rfl
 rw [e] at hQ
 exact hQ
theorem next_tableE {k:Nat} {Q:Option (Value × Nat)->Shared->Prop} (hs:SetAt s.heap a es ep t) (hT:byT w=false) (hD:drw es t=false) (g:Good true t) (hQ:Q none s) :
  wpAny (model prog w) A (setNext a (slotAt t es.size) k ep) Q E s:=by
 obtain ⟨o,ho,hex,hd,hf⟩:=hs
 have hz:=fits_size hf
 unfold setNext
 refine wpAny_bind (wpAny_setState_of ho hd hf ?_)
 refine wpAny_bind (wpAny_bind (wpAny_askSetting (wpAny_pure ?_)))
 show wpAny _ _ (if byT w=true then _ else _) _ _ _
 rw [if_neg (by rw [hT]; exact Bool.false_ne_true)]
 show wpAny _ _ (if drw es t=true then _ else _) _ _ _
 rw [if_neg (by rw [hD]; exact Bool.false_ne_true)]
 refine wpAny_bind ?_
 show wpAny _ _ (if (!t.led && !es.isEmpty)=true then _ else _) _ _ _
 rw [if_neg (by rw [g.led]; simp)]
 refine wpAny_pure (wpAny_pure ?_)
 rw [below_slot g.up (by omega),Array.getElem?_eq_none (Nat.le_refl es.size)]
 exact hQ
abbrev picked (w:World) (a:Addr) (ep:Nat) (es:Array (Int × Value)):Array (Int × Value):=pickOrder (w.params.setOrder a ep) es
theorem next_text {sl:Nat} {Q:Option (Value × Nat)->Shared->Prop} (hs:SetAt s.heap a es ep t) (hT:byT w=true) (hQ:Q (((picked w a ep es)[i]?).map fun e=>(e.2,sl)) s) :
  wpAny (model prog w) A (setNext a sl i ep) Q E s:=by
 obtain ⟨o,ho,hex,hd,hf⟩:=hs
 unfold setNext
 refine wpAny_bind (wpAny_setState_of ho hd hf ?_)
 refine wpAny_bind (wpAny_bind (wpAny_askSetting (wpAny_pure ?_)))
 show wpAny _ _ (if byT w=true then _ else _) _ _ _
 rw [if_pos hT]
 rw [if_neg (by simp)]
 refine wpAny_bind ?_
 unfold setWalk
 refine wpAny_bind (wpAny_setState_of ho hd hf ?_)
 refine wpAny_bind (wpAny_bind (wpAny_askSetting (wpAny_pure ?_)))
 show wpAny _ _ (if byT w=true then _ else _) _ _ _
 rw [if_pos hT]
 exact wpAny_bind (wpAny_askSetting (wpAny_pure (wpAny_pure hQ)))
theorem iter_set {Q:Value->Shared->Prop} (hs:SetAt s.heap a es ep t) (hz:es.size<=sizeLine)
  (h1:(!byT w && drw es t)=false->Q (.ref s.heap.objs.size) { s with heap:=s.heap.push { cls:=.type "set_iterator",data:=.fields #[.int 0 0,.int 0 0,.ref a,.int es.size 0,.int ep 0] } })
  (h2:(!byT w && drw es t)=true->∀ (ps:List Nat) d,ps.Perm (List.range es.size)->Q (.ref (s.heap.objs.size+1)) { s with
   heap:=(s.heap.push { cls:=.type "tuple",data:=.seq (ps.map fun (i:Nat)=>rawInt i).toArray }).push { cls:=.type "set_iterator",data:=.fields #[.ref s.heap.objs.size,.int 0 0,.ref a,.int es.size 0,.int ep 0] },drawn:=d }) :
  wpAny (model prog w) A (pyIter (.ref a)) Q E s:=by
 obtain ⟨o,ho,hex,hd,hf⟩:=id hs
 have hT:s.TypeIs (.ref a) "set":=⟨o,ho,hex.1⟩
 refine wpAny_pyIter_slot hT PySem.F.slot_set_iter (wpAny_call_entry PySem.F.slot_set_iter hT en_iter ?_ (PySem.F.args_set_iter_1 _))
 unfold Builtin.«frozenset.__iter__»
 refine wpAny_bind ?_
 unfold Builtin.Frozenset.slot0
 refine wpAny_bind (wpAny_pure ?_)
 show wpAny _ _ (pure a) _ _ _
 refine wpAny_pure (wpAny_bind ?_)
 unfold Builtin.Frozenset.sizeOf
 refine wpAny_bind (wpAny_setEntries_of ho hd hf (wpAny_pure (wpAny_bind ?_)))
 refine wpAny_bind (wpAny_setState_of ho hd hf ?_)
 refine wpAny_bind (wpAny_bind (wpAny_askSetting (wpAny_pure (wpAny_pure ?_))))
 show wpAny _ _ (if (!byT w && drw es t)=true then _ else _) _ _ _
 cases c:(!byT w && drw es t) with
 | false=>
  rw [if_neg Bool.false_ne_true]
  refine wpAny_bind (wpAny_pure (wpAny_bind (wpAny_setEpoch_of ho hd hf ?_)))
  refine wpAny_bind (wpAny_newObj_type (wpAny_pure ⟨_,rfl,"set_iterator",_,⟨_,Heap.get?_push_size _ rfl,rfl⟩,sl_next.lookup,?_⟩))
  simpa [rawInt] using h1 c
 | true=>
  rw [if_pos rfl]
  refine wpAny_bind (draw_ok _ _ _ _ (by simp) fun ps d hp=>?_)
  have hl:(ps.map fun (i:Nat)=>rawInt (i:Int)).length<=sizeLine:=by rw [List.length_map,hp.length_eq,List.length_range]; exact hz
  refine wpAny_bind (wpAny_newTuple ?_ hl)
  have ho2:(s.heap.push { cls:=.type "tuple",data:=.seq (ps.map fun (i:Nat)=>rawInt (i:Int)).toArray }).get? a=some o:=Heap.get?_push_of_some _ ho
  refine wpAny_bind (wpAny_setEpoch_of ho2 hd hf ?_)
  refine wpAny_bind (wpAny_newObj_type (wpAny_pure ⟨_,rfl,"set_iterator",_,⟨_,Heap.get?_push_size _ rfl,rfl⟩,sl_next.lookup,?_⟩))
  have:=h2 c ps d hp
  simpa [rawInt,Heap.size_push] using this
end
end SetM
namespace SetM
open PySem PyProof.Rows PySem.W
section
variable {prog:Program} {w:World} {A:Around} {E:Value->Shared->Prop} {s:Shared} {a:Addr} {es:Array (Int × Value)} {ep:Nat} {t:SetTable}
theorem en_self:entryFor table "set_iterator.__iter__"=some Builtin.«dict_keyiterator.__iter__»:=entryFor_alias (id':="dict_keyiterator.__iter__") (by kernel_rfl) rfl (by decide +kernel) (by kernel_rfl)
theorem ar_self (a:Value):argsOk "set_iterator.__iter__" ⟨[a],[]⟩:=by
 unfold argsOk; rw [signature?_of (id:="set_iterator.__iter__") (n:=['_','_','r','e','t','i','_','_']) (o:=['r','o','t','a','r','e','t','i','_','t','e','s']) (by kernel_rfl) ow_si]; kernel_rfl
theorem iter_self {it:Addr} {f:Value} {i n:Nat} {Q:Value->Shared->Prop} (hi:IterAt s.heap it a f i n ep) (h:Q (.ref it) s):wpAny (model prog w) A (pyIter (.ref it)) Q E s:=by
 refine wpAny_pyIter_slot hi.type sl_self (wpAny_call_entry sl_self hi.type en_self ?_ (ar_self _))
 show wpAny _ _ (ret (.ref it)) _ _ s
 exact wpAny_pure ⟨_,rfl,"set_iterator",_,hi.type,sl_next.lookup,h⟩
theorem walk_table (hh:A.handled=none) (I:Addr) (hne:a ≠ I) (hT:byT w=false) (hD:drw es t=false) (g:Good true t) :
  Walks prog w A I [I,a] [I] es.size (fun i v=>∃ e,es[i]?=some e/\v=e.2) (fun i h=>IterAt h I a (.int (slotAt t i) 0) i es.size ep/\SetAt h a es ep t) where
 sub:=fun b hb=>by simp at hb; simp [hb]
 frame:=fun _ _ _ st hk=>⟨st.1.keeps fun o e=>hk I (by simp) o e,st.2.keeps fun o e=>hk a (by simp) o e⟩
 item:=fun i s Q E hi st hQ=>by
  refine next_int st.1 st.2 hne (fun A' Q' E' q=>next_table st.2 hT hD g hi q) fun h' it' sb=>?_
  exact hQ _ h' s.toks ⟨es[i],Array.getElem?_eq_getElem hi,rfl⟩ ⟨it',st.2.keeps fun o e=>(sb.2 a hne).trans e⟩ fun b o hb e=>(sb.2 b fun z=>hb (by simp [z])).trans e
 done:=fun s Q E st hQ=>next_intE hh st.1 st.2 (fun A' Q' E' q=>next_tableE st.2 hT hD g q) fun h' x=>hQ h' s.toks fun b o hb e=>x b o (fun z=>hb (by simp [z])) e
 self:=fun _ _ _ _ st hQ=>iter_self st.1 hQ
theorem walk_text (hh:A.handled=none) (I:Addr) (hne:a ≠ I) (hT:byT w=true) :
  Walks prog w A I [I,a] [I] es.size (fun i v=>∃ e,(picked w a ep es)[i]?=some e/\v=e.2) (fun i h=>IterAt h I a (.int (0:Nat) 0) i es.size ep/\SetAt h a es ep t) where
 sub:=fun b hb=>by simp at hb; simp [hb]
 frame:=fun _ _ _ st hk=>⟨st.1.keeps fun o e=>hk I (by simp) o e,st.2.keeps fun o e=>hk a (by simp) o e⟩
 item:=fun i s Q E hi st hQ=>by
  have hz:(picked w a ep es).size=es.size:=by rw [<- Array.length_toList,(pick_perm _ es).length_eq,Array.length_toList]
  have hp:i < (picked w a ep es).size:=by omega
  refine next_int (x:=(picked w a ep es)[i].2) (nx:=0) st.1 st.2 hne (fun A' Q' E' q=>next_text st.2 hT (by rw [Array.getElem?_eq_getElem hp]; exact q)) fun h' it' sb=>?_
  exact hQ _ h' s.toks ⟨_,Array.getElem?_eq_getElem hp,rfl⟩ ⟨it',st.2.keeps fun o e=>(sb.2 a hne).trans e⟩ fun b o hb e=>(sb.2 b fun z=>hb (by simp [z])).trans e
 done:=fun s Q E st hQ=>by
  have hz:(picked w a ep es).size=es.size:=by rw [<- Array.length_toList,(pick_perm _ es).length_eq,Array.length_toList]
  exact next_intE hh st.1 st.2 (fun A' Q' E' q=>next_text st.2 hT (by rw [Array.getElem?_eq_none (by omega)]; exact q)) fun h' x=>hQ h' s.toks fun b o hb e=>x b o (fun z=>hb (by simp [z])) e
 self:=fun _ _ _ _ st hQ=>iter_self st.1 hQ
theorem walk_drawn {f:Addr} {ps:List Nat} (hh:A.handled=none) (I:Addr) (hne:a ≠ I) (hnf:f ≠ I) (hp:ps.Perm (List.range es.size)) :
  Walks prog w A I [I,a,f] [I] es.size (fun i v=>∃ p e,ps[i]?=some p/\es[p]?=some e/\v=e.2) (fun i h=>IterAt h I a (.ref f) i es.size ep/\SetAt h a es ep t/\h.IsTuple f (ps.map fun (i:Nat)=>rawInt i).toArray) where
 sub:=fun b hb=>by simp at hb; simp [hb]
 frame:=fun _ _ _ st hk=>⟨st.1.keeps fun o e=>hk I (by simp) o e,st.2.1.keeps fun o e=>hk a (by simp) o e,let ⟨o,p,r⟩:=st.2.2; ⟨o,hk f (by simp) o p,r⟩⟩
 item:=fun i s Q E hi st hQ=>by
  have hl:ps.length=es.size:=by rw [hp.length_eq,List.length_range]
  have h1:i < ps.length:=by omega
  have h2:ps[i] < es.size:=List.mem_range.mp (hp.mem_iff.mp (List.getElem_mem h1))
  refine next_drawn st.1 st.2.1 st.2.2 (List.getElem?_eq_getElem h1) (Array.getElem?_eq_getElem h2) fun h' it' sb=>?_
  exact hQ _ h' s.toks ⟨_,_,List.getElem?_eq_getElem h1,Array.getElem?_eq_getElem h2,rfl⟩ ⟨it',st.2.1.keeps fun o e=>(sb.2 a hne).trans e,let ⟨o,p,r⟩:=st.2.2; ⟨o,(sb.2 f hnf).trans p,r⟩⟩ fun b o hb e=>(sb.2 b fun z=>hb (by simp [z])).trans e
 done:=fun s Q E st hQ=>by
  have hl:ps.length=es.size:=by rw [hp.length_eq,List.length_range]
  exact next_drawnE hh st.1 st.2.1 st.2.2 (List.getElem?_eq_none (by omega)) fun h' x=>hQ h' s.toks fun b o hb e=>x b o (fun z=>hb (by simp [z])) e
 self:=fun _ _ _ _ st hQ=>iter_self st.1 hQ
def vAt (es:Array (Int × Value)) (p:Nat):Value:=(es.getD p (0,.none)).2
theorem vAt_lt {es:Array (Int × Value)} {p:Nat} (h:p < es.size):vAt es p=es[p].2:=by
 unfold vAt
 rw [Array.getD_eq_getD_getElem?,Array.getElem?_eq_getElem h]
 rfl
theorem vals_range (es:Array (Int × Value)):es.toList.map (·.2)=(List.range es.size).map (vAt es):=by
 refine List.ext_getElem (by simp) fun i h1 h2=>?_
 have h:i < es.size:=by simpa using h1
 rw [List.getElem_map,List.getElem_map,List.getElem_range,vAt_lt h]
 simp
theorem items_table {es:Array (Int × Value)} {acc:Array Value} {n:Nat} (hn:es.size=n) (h:ItemsOf (fun i v=>∃ e,es[i]?=some e/\v=e.2) acc n):acc.toList=es.toList.map (·.2):=by
 refine List.ext_getElem (by simp [h.1,hn]) fun i h1 h2=>?_
 have h3:i < acc.size:=by simpa using h1
 obtain ⟨e,he,hv⟩:=h.2 i acc[i] (Array.getElem?_eq_getElem h3)
 have h4:i < es.size:=by simpa using h2
 rw [Array.getElem?_eq_getElem h4] at he
 cases he
 simpa using hv
theorem items_drawn {es:Array (Int × Value)} {acc:Array Value} {ps:List Nat} (hp:ps.Perm (List.range es.size)) (h:ItemsOf (fun i v=>∃ p e,ps[i]?=some p/\es[p]?=some e/\v=e.2) acc es.size):acc.toList.Perm (es.toList.map (·.2)):=by
 have hl:ps.length=es.size:=by rw [hp.length_eq,List.length_range]
 have e:acc.toList=ps.map (vAt es):=by
  refine List.ext_getElem (by simp [h.1,hl]) fun i h1 h2=>?_
  have h3:i < acc.size:=by simpa using h1
  obtain ⟨p,e,hp',he,hv⟩:=h.2 i acc[i] (Array.getElem?_eq_getElem h3)
  have h4:i < ps.length:=by simpa using h2
  rw [List.getElem?_eq_getElem h4] at hp'
  cases hp'
  obtain ⟨h5,h6⟩:=Array.getElem?_eq_some_iff.mp he
  rw [List.getElem_map,vAt_lt h5,h6,<- hv]
  simp
 rw [e,vals_range]
 exact hp.map _
structure Pk (prog:Program) (w:World) (A:Around) (s s1:Shared) (a I:Addr) (es:Array (Int × Value)) (fp:List Addr) (P:Nat->Value->Prop) (St:Nat->Heap->Prop):Prop where
 walk:Walks prog w A I fp [I] es.size P St
 at0:St 0 s1.heap
 old:∀ b o,s.heap.get? b=some o->s1.heap.get? b=some o
 new:s.heap.get? I=none
 fps:∀ b ∈ fp,b=a\/s.heap.get? b=none
 same:s1={ s with heap:=s1.heap,drawn:=s1.drawn }
 perm:∀ acc,ItemsOf P acc es.size->acc.toList.Perm (es.toList.map (·.2))
theorem iterG {Q:Value->Shared->Prop} (hh:A.handled=none) (hs:SetAt s.heap a es ep t) (hz:es.size<=sizeLine) (g:Good (!byT w) t)
  (h:∀ I s1 fp P St,Pk prog w A s s1 a I es fp P St->Q (.ref I) s1):wpAny (model prog w) A (pyIter (.ref a)) Q E s:=by
 have la:a < s.heap.objs.size:=let ⟨o,p,_⟩:=hs; Heap.lt_size p
 refine iter_set (t:=t) hs hz (fun c=>?_) (fun c ps d hp=>?_)
 ·have hne:a ≠ s.heap.objs.size:=Nat.ne_of_lt la
  have st:IterAt (s.heap.push { cls:=.type "set_iterator",data:=.fields #[.int 0 0,.int 0 0,.ref a,.int es.size 0,.int ep 0] }) s.heap.objs.size a (.int (0:Nat) 0) 0 es.size ep:=⟨_,Heap.get?_push_size _ rfl,rfl,rfl⟩
  have hs1:SetAt (s.heap.push { cls:=.type "set_iterator",data:=.fields #[.int 0 0,.int 0 0,.ref a,.int es.size 0,.int ep 0] }) a es ep t:=hs.keeps fun o e=>Heap.get?_push_of_some _ e
  have nn:s.heap.get? s.heap.objs.size=none:=Heap.get?_none_of_le (Nat.le_refl _)
  have fp:∀ b ∈ [s.heap.objs.size,a],b=a\/s.heap.get? b=none:=fun b hb=>by
   rcases List.mem_cons.mp hb with rfl | hb
   ·exact .inr nn
   ·exact .inl (List.mem_singleton.mp hb)
  cases hT:byT w with
  | true=>
   exact h _ _ _ _ _ ⟨walk_text (t:=t) (ep:=ep) hh _ hne hT,⟨st,hs1⟩,fun b o e=>Heap.get?_push_of_some _ e,nn,fp,rfl,fun acc x=>by
    have hz:(picked w a ep es).size=es.size:=by rw [<- Array.length_toList,(pick_perm _ es).length_eq,Array.length_toList]
    rw [items_table hz x]
    exact (pick_perm _ es).map _⟩
  | false=>
   rw [hT] at g c
   have hD:drw es t=false:=by simpa using c
   exact h _ _ _ _ _ ⟨walk_table (t:=t) (ep:=ep) hh _ hne hT hD g,⟨st,hs1⟩,fun b o e=>Heap.get?_push_of_some _ e,nn,fp,rfl,fun acc x=>by rw [items_table rfl x]⟩
 ·have sz:(s.heap.push { cls:=.type "tuple",data:=.seq (ps.map fun (i:Nat)=>rawInt i).toArray }).objs.size=s.heap.objs.size+1:=Heap.size_push ..
  have n1:s.heap.get? (s.heap.objs.size+1)=none:=Heap.get?_none_of_le (Nat.le_succ _)
  have n0:s.heap.get? s.heap.objs.size=none:=Heap.get?_none_of_le (Nat.le_refl _)
  have st:IterAt ((s.heap.push { cls:=.type "tuple",data:=.seq (ps.map fun (i:Nat)=>rawInt i).toArray }).push { cls:=.type "set_iterator",data:=.fields #[.ref s.heap.objs.size,.int 0 0,.ref a,.int es.size 0,.int ep 0] }) (s.heap.objs.size+1) a (.ref s.heap.objs.size) 0 es.size ep:=
   ⟨{ cls:=.type "set_iterator",data:=.fields #[.ref s.heap.objs.size,.int 0 0,.ref a,.int es.size 0,.int ep 0] },by rw [<- sz]; exact Heap.get?_push_size _ rfl,rfl,rfl⟩
  refine h _ _ _ _ _ ⟨walk_drawn (t:=t) (ep:=ep) (f:=s.heap.objs.size) hh (s.heap.objs.size+1) (Nat.ne_of_lt (Nat.lt_succ_of_lt la)) (Nat.ne_of_lt (Nat.lt_succ_self _)) hp,⟨st,hs.keeps fun o e=>Heap.get?_push_of_some _ (Heap.get?_push_of_some _ e),_,Heap.get?_push_of_some _ (Heap.get?_push_size _ rfl),rfl,_,rfl⟩,fun b o e=>Heap.get?_push_of_some _ (Heap.get?_push_of_some _ e),n1,fun b hb=>?_,rfl,fun acc x=>items_drawn hp x⟩
  rcases List.mem_cons.mp hb with rfl | hb
  ·exact .inr n1
  ·rcases List.mem_cons.mp hb with rfl | hb
   ·exact .inl rfl
   ·rw [List.mem_singleton.mp hb]
    exact .inr n0
end
end SetM
namespace SetM
open PySem PyProof.Rows PySem.W
section
variable {prog:Program} {w:World} {A:Around} {E:Value->Shared->Prop} {s:Shared} {a:Addr} {es:Array (Int × Value)} {ep:Nat} {t:SetTable}
theorem hint_set {Q:Bool->Shared->Prop} (hT:s.TypeIs (.ref a) "set") (h:Q false s):wpAny (model prog w) A (Builtin.List.listLengthHint (.ref a)) Q E s:=by
 unfold Builtin.List.listLengthHint
 refine wpAny_bind (wpAny_specialOf hT PySem.F.slot_set_len.lookup ?_)
 generalize hid:("set.__len__":String)=id0
 wp_delta
 rw [show splitId id0=some ("set","__len__") from by subst hid; decide +kernel]
 subst hid
 refine wpAny_bind (wpAny_isInstance (T:="set") (b:=true) hT (by rw [isSubtype_type]; kernel_rfl) ?_)
 refine wpAny_ite_split (fun hab=>absurd hab (by decide)) (fun _=>?_)
 refine wpAny_ite_split (fun _=>?_) (fun hab=>absurd (by decide +kernel) hab)
 refine wpAny_bind (wpAny_typeOf hT ?_)
 exact wpAny_pure h
theorem extendG {R:Result->Shared->Prop} (hh:A.handled=none) (hs:SetAt s.heap a es ep t) (hz:es.size<=sizeLine) (g:Good (!byT w) t) (S:Addr) (hSa:S ≠ a) (res:Value) (c₀:Nat) (hS:s.heap.get? S=some { cls:=.type "list",data:=.seq #[] c₀ })
  (hR:∀ h' tk d acc' c',(∀ b o,b ≠ S->s.heap.get? b=some o->h'.get? b=some o)->h'.get? S=some { cls:=.type "list",dict:=none,data:=.seq acc' c',slots:=#[] }->acc'.toList.Perm (es.toList.map (·.2))->R (.ok (.ret res)) { s with heap:=h',toks:=tk,drawn:=d }) :
  wpAny (model prog w) A.in1 (Builtin.List.listExtendWith (.ref S) (.ref a) res)
   (fun fin s'=>match fin with | .done f=>R (.ok f) s' | .again c'=>c'.quiet=true/\codeAny (model prog w) A c' R s') (fun e s'=>R (.error e) s') s:=by
 obtain ⟨o,ho,hex,hd,hf⟩:=id hs
 have hT:s.TypeIs (.ref a) "set":=⟨o,ho,hex.1⟩
 unfold Builtin.List.listExtendWith
 refine wpAny_bind (wpAny_typeOf (T:="set") hT ?_)
 have h1:Builtin.List.listSameRef (.ref S) (.ref a)=false:=by simp [Builtin.List.listSameRef,hSa]
 have h2:(Value.type "set" == Value.type "list")=false:=by decide
 have h3:(Value.type "set" == Value.type "tuple")=false:=by decide
 simp only [h1,h2,h3,Bool.or_false,Bool.false_eq_true,if_false]
 refine wpAny_bind (iterG (A:=A.in1) hh hs hz g fun I s1 fp P St pk=>?_)
 have e1:=pk.same
 have hSf:S ∉ fp:=fun z=>by
  rcases pk.fps S z with y | y
  ·exact hSa y
  ·rw [hS] at y; cases y
 have hSI:S ≠ I:=fun z=>by
  have:=pk.new
  rw [<- z,hS] at this
  cases this
 have hS1:=pk.old _ _ hS
 have key:∀ (h:Heap) (c₁ tk:Nat),St 0 h->(∀ b o,b ≠ S->s.heap.get? b=some o->h.get? b=some o)->h.get? S=some { cls:=.type "list",data:=.seq #[] c₁ } ->
   codeAny (model prog w) A (.builtin "list.extend.loop" ⟨[.ref S,.ref I,res],[]⟩) R { s1 with heap:=h,toks:=tk }:=by
  intro h c₁ tk hst hk hS₁
  refine codeAny_extend_loopS pk.walk.toS hz S hSf res es.size 0 _ #[] c₁ rfl (Nat.zero_le _) hst hS₁ (ItemsOf.nil _) fun s' acc' c' hm hS' hacc=>?_
  rw [Moved.eq_with hm,e1]
  refine hR s'.heap s'.toks s1.drawn acc' c' (fun b o hb e=>hm.heap b o (fun hmem=>?_) (hk b o hb e)) hS' (pk.perm _ hacc)
  rcases List.mem_cons.mp hmem with z | z
  ·exact hb z
  ·have:=pk.new
   rw [<- List.mem_singleton.mp z,e] at this
   cases this
 have hT1:s1.TypeIs (.ref a) "set":=⟨o,pk.old _ _ ho,hex.1⟩
 refine wpAny_bind (wpAny_holding (hint_set hT1 ?_))
 refine wpAny_ite_split (fun _=>?_) (fun _=>wpAny_pure ⟨plainId_quiet PySem.F.plain_extend_loop _,key _ c₀ _ pk.at0 (fun b o _ e=>pk.old _ _ e) hS1⟩)
 refine wpAny_bind (wpAny_rule ?_)
 refine wpAny_bind ?_
 show wpAny _ _ (updateSeq S (·.push .none) >>= fun _=>updateSeq S (·.pop)) _ _ _
 refine wpAny_bind (wpAny_updateSeq hS1 rfl ?_)
 have hS₂:=Heap.get?_update_self (Obj.mapSeq (·.push Value.none)) hS1 rfl
 refine wpAny_updateSeq (hz:=by seq_fits) hS₂ rfl ?_
 have hS₃:=Heap.get?_update_self (Obj.mapSeq (·.pop)) hS₂ rfl
 refine wpAny_pure ⟨plainId_quiet PySem.F.plain_extend_loop _,key _ _ _ ?_ (fun b o hb e=>?_) hS₃⟩
 ·refine pk.walk.frame 0 _ _ pk.at0 fun b hb o e=>?_
  have hbS:b ≠ S:=fun h=>hSf (h ▸ hb)
  exact (Heap.get?_update_other _ _ (Ne.symm hbS)).trans ((Heap.get?_update_other _ _ (Ne.symm hbS)).trans e)
 ·exact (Heap.get?_update_other _ _ (Ne.symm hb)).trans ((Heap.get?_update_other _ _ (Ne.symm hb)).trans (pk.old _ _ e))
theorem collectG {R:List Value->Shared->Prop} (hh:A.handled=none) (hs:SetAt s.heap a es ep t) (hz:es.size<=sizeLine) (g:Good (!byT w) t)
  (h:∀ (h':Heap) (tk:Nat) d (acc:Array Value),(∀ b o,s.heap.get? b=some o->h'.get? b=some o)->acc.toList.Perm (es.toList.map (·.2))->R acc.toList { s with heap:=h',toks:=tk,drawn:=d }) :
  wpAny (model prog w) A (collect (.ref a)) R E s:=by
 have la:a < s.heap.objs.size:=let ⟨o,p,_⟩:=hs; Heap.lt_size p
 unfold collect
 refine wpAny_bind (wpAny_runValue (codeAny_builtin entry_proto_collect' ?_))
 rw [Around.under_plainId PySem.F.plain_proto_collect _]
 show wpAny _ A.in1 (newList [] >>= fun l=>again (.builtin "list.__iadd__" ⟨[l,.ref a],[]⟩)) _ _ s
 refine wpAny_bind (wpAny_newObj_type ?_)
 refine wpAny_pure ⟨plainId_quiet PySem.F.plain_list_iadd _,codeAny_builtin entry_list_iadd' ?_⟩
 rw [Around.under_plainId PySem.F.plain_list_iadd _]
 have hS₁:(s.heap.push { cls:=.type "list",data:=.seq ([]:List Value).toArray }).get? s.heap.objs.size=some { cls:=.type "list",data:=.seq #[] }:=Heap.get?_push_size _ rfl
 show wpAny _ A.in1 (Builtin.List.listExtendWith (.ref s.heap.objs.size) (.ref a) (.ref s.heap.objs.size)) _ _ _
 have key:=extendG (A:=A) (prog:=prog) (w:=w) (s:={ s with heap:=s.heap.push { cls:=.type "list",data:=.seq ([]:List Value).toArray } })
  (R:=fun (q:Result) (s':Shared)=>∃ (h':Heap) (tk:Nat) (d:Drawn) (acc':Array Value) (c':Nat),q=.ok (.ret (.ref s.heap.objs.size))/\s'={ s with heap:=h',toks:=tk,drawn:=d } /\
   (∀ b o,s.heap.get? b=some o->h'.get? b=some o)/\h'.get? s.heap.objs.size=some { cls:=.type "list",dict:=none,data:=.seq acc' c',slots:=#[] }/\acc'.toList.Perm (es.toList.map (·.2)))
  hh (hs.keeps fun o e=>Heap.get?_push_of_some _ e) hz g s.heap.objs.size (Nat.ne_of_gt la) (.ref s.heap.objs.size) 0 hS₁
  (fun h' tk d acc' c' hk hS' hacc=>⟨h',tk,d,acc',c',rfl,rfl,fun b o e=>hk b o (Nat.ne_of_lt (Heap.lt_size e)) (Heap.get?_push_of_some _ e),hS',hacc⟩)
 refine wpAny_mono key (fun fin s' x=>?_) fun e s' x=>?_
 ·cases fin with
  | done f=>
   obtain ⟨h',tk,d,acc',c',e,rfl,hk,hS',hacc⟩:=x
   cases e
   show wpAny _ A (load s.heap.objs.size >>= _) _ _ _
   exact wpAny_bind (wpAny_load hS' (wpAny_pure (h h' tk d acc' hk hacc)))
  | again c₁=>
   refine ⟨x.1,codeAny_mono x.2 fun q s₂ y=>?_⟩
   obtain ⟨h',tk,d,acc',c',rfl,rfl,hk,hS',hacc⟩:=y
   show wpAny _ A (load s.heap.objs.size >>= _) _ _ _
   exact wpAny_bind (wpAny_load hS' (wpAny_pure (h h' tk d acc' hk hacc)))
 ·obtain ⟨_,_,_,_,_,e',_⟩:=x
  cases e'
end
end SetM
namespace L2
open PySem PySem.Spec PyProof.Rows PySem.W SetM
theorem nodup_ofS:∀ (L D:List Int),D.Nodup->(∀ x ∈ D,x ∈ L)->L.length<=D.length->L.Nodup
 | [],D,_,_,_=>List.nodup_nil
 | x :: L,D,hd,hs,hl=>by
  have no:¬ (∀ y ∈ D,y ∈ L):=fun h=>by
   have:=List.Nodup.length_le_of_subset hd h
   simp only [List.length_cons] at hl
   omega
  have hx:x ∈ D:=by
   by_cases c:x ∈ D
   ·exact c
   ·exact absurd (fun y hy=>(List.mem_cons.mp (hs y hy)).elim (fun e=>absurd (e ▸ hy) c) id) no
  have ih:=nodup_ofS L (D.erase x) (hd.erase x) (fun y hy=>by
   have:=(hd.mem_erase_iff).mp hy
   exact (List.mem_cons.mp (hs y this.2)).elim (fun e=>absurd e this.1) id) (by
   rw [List.length_erase_of_mem hx]
   simp only [List.length_cons] at hl
   omega)
  refine List.nodup_cons.mpr ⟨fun c=>no fun y hy=>?_,ih⟩
  exact (List.mem_cons.mp (hs y hy)).elim (fun e=>e ▸ c) id
theorem firstMet_nodupS (val:Nat->Int):∀ i,(firstMet val i).Nodup
 | 0=>List.nodup_nil
 | i+1=>by
  rw [firstMet_succ]
  unfold step_dedup
  split
  ·exact firstMet_nodupS val i
  ·rename_i h
   refine List.nodup_append.mpr ⟨firstMet_nodupS val i,List.nodup_cons.mpr ⟨by simp,List.nodup_nil⟩,fun a ha b hb e=>h ?_⟩
   rw [List.mem_singleton.mp hb] at e
   exact List.any_eq_true.mpr ⟨a,ha,by rw [e]; exact beq_self_eq_true _⟩
theorem range_getDS (ns:List Int):(List.range ns.length).map (fun i=>ns.getD i 0)=ns:=by
 refine List.ext_getElem (by simp) fun i h1 h2=>?_
 rw [List.getElem_map,List.getElem_range,List.getD_eq_getElem?_getD,List.getElem?_eq_getElem h2]
 rfl
theorem any_memS {l:List Int} {k:Int}:l.any (· == k)=true ↔ k ∈ l:=by
 rw [List.any_eq_true]
 exact ⟨fun ⟨x,h,e⟩=>(beq_iff_eq.mp e) ▸ h,fun h=>⟨k,h,beq_self_eq_true _⟩⟩
def SetE (P:Program) (w:World) (p:Addr) (ns:List Int) (h:Heap):Prop:=∃ D:List Int,D.Nodup/\(∀ k,k ∈ D ↔ k ∈ ns)/\SetG P w (!byT w) h p (fun k=>D.any (· == k)) D.length
theorem ints_of_valsS:∀ {ns:List Int} {us:List Value},Vals (ns.map V.int) us->IntsAre us ns
 | [],_,r=>by cases r; exact .nil
 | n :: ns,_,r=>by
  cases r with
  | cons r1 r2=>
   obtain ⟨t,rfl⟩:=r1
   exact .cons n t (ints_of_valsS r2)
theorem call_setL {X:Cx} (hc:X.calm=true):CallR X (.type "set") (fun xs H Q=>∃ (l:Addr) (ns:List Int),xs=[.ref l]/\SqL X.K H l (ns.map V.int)/\ns.length < 4000/\∀ p,H p=none->Q (.ref p) (upd H p (.ext (SetE X.prog X.w p ns)))):=by
 intro pins s σ H xs us Q I rv h
 obtain ⟨l,ns,rfl,hl,hz,q⟩:=h
 obtain ⟨u,rfl,ru⟩:=rv.one
 cases ru
 obtain ⟨its,r',pl,_⟩:=I.list hl
 have hI:=ints_of_valsS r'
 have hlen:its.length=ns.length:=by rw [<- r'.length,List.length_map]
 refine call_setG (items:=its.toArray) (ns:=ns) (show X.A.handled=none from I.ok.hd hc) pl.isList (by simpa using hI) (by rw [List.size_toArray,hlen]; unfold scanBound; omega) fun h' tk g kp=>?_
 have sz:its.toArray.size=ns.length:=by rw [List.size_toArray,hlen]
 rw [sz] at g
 have e:SetE X.prog X.w s.heap.objs.size ns h':=⟨_,firstMet_nodupS _ _,fun k=>by rw [<- any_memS,firstMet_any,range_getDS,any_memS],g⟩
 have I2:=I.laid (a:=s.heap.objs.size) (o:=.ext (SetE X.prog X.w s.heap.objs.size ns)) (h':=h') (t':=tk) (fun b o z=>kp b o (Heap.lt_size z) z) (Nat.le_refl _) ⟨e,let ⟨_,_,_,o,_,_,_,p,_⟩:=e; ⟨o,p⟩,fun _ _ ⟨D,d1,d2,d3⟩ k=>⟨D,d1,d2,d3.keeps fun o z=>k _ z⟩⟩
 exact ⟨.ref s.heap.objs.size,_,I2,rfl,q _ (I.hok.fresh (Nat.le_refl _))⟩
theorem intKind_shapeS {P:Program} {w:World} {k:Int} {v:Value} (h:(intKind P w).is k v=true):∃ t,v=.int k t:=by
 have h':Value.isInt k v=true:=h
 cases v with
 | int i t=>
  have e:i=k:=by simpa [Value.isInt] using h'
  exact ⟨t,by rw [e]⟩
 | _=>simp [Value.isInt] at h'
theorem ints_allS:∀ (vs:List Value),(∀ v ∈ vs,∃ k t,v=Value.int k t)->∃ ks,IntsAre vs ks
 | [],_=>⟨[],.nil⟩
 | v :: vs,h=>by
  obtain ⟨k,t,rfl⟩:=h v (.head _)
  obtain ⟨ks,r⟩:=ints_allS vs fun v hv=>h v (.tail _ hv)
  exact ⟨k :: ks,.cons k t r⟩
theorem ints_memS:∀ {vs:List Value} {ks:List Int},IntsAre vs ks->∀ k,k ∈ ks ↔ ∃ t,Value.int k t ∈ vs
 | _,_,.nil,k=>by simp
 | _,_,.cons n t r,k=>by
  rw [List.mem_cons,ints_memS r k]
  constructor
  ·rintro (rfl | ⟨t',h⟩)
   ·exact ⟨t,.head _⟩
   ·exact ⟨t',.tail _ h⟩
  ·rintro ⟨t',h⟩
   rcases List.mem_cons.mp h with h | h
   ·cases h; exact .inl rfl
   ·exact .inr ⟨t',h⟩
theorem lt_of_le_nodupS:∀ {l:List Int},l.Pairwise (·<=·)->l.Nodup->l.Pairwise (· < ·)
 | [],_,_=>.nil
 | x :: l,h,d=>by
  rw [List.pairwise_cons] at h ⊢
  rw [List.nodup_cons] at d
  refine ⟨fun y hy=>?_,lt_of_le_nodupS h.2 d.2⟩
  have:=h.1 y hy
  have:x ≠ y:=fun e=>d.1 (e ▸ hy)
  omega
theorem call_sortedS {X:Cx} (hc:X.calm=true):CallR X (.builtin "sorted") (fun xs H Q=>∃ (p:Addr) (ns:List Int),xs=[.ref p]/\H p=some (.ext (SetE X.prog X.w p ns))/\ns.length < 64 /\
  ∀ (q:Addr) (ks:List Int),H q=none->ks.Pairwise (· < ·)->(∀ k,k ∈ ks ↔ k ∈ ns)->Q (.ref q) (upd H q (.lst (ks.map V.int)))):=by
 intro pins s σ H xs us Q I rv h
 obtain ⟨p,ns,rfl,hH,h64,q⟩:=h
 obtain ⟨u,rfl,ru⟩:=rv.one
 cases ru
 obtain ⟨⟨D,dn,dm,o,es,ep,t,ho,hex,hd,hel,hmem,hb,hf,hn,g⟩,_,_⟩:=(show ObjOk X.prog X.w H s.heap p (.ext (SetE X.prog X.w p ns)) from I.hok p _ hH)
 have dl:D.length<=ns.length:=List.Nodup.length_le_of_subset dn fun k hk=>(dm k).mp hk
 have sz:es.size<=sizeLine:=fits_of_scanBound hb
 refine Calls.call_function_entry kind_sorted plain_sorted entry_sorted (args_sorted1 _) ?_
 unfold Builtin.«sorted»
 refine wpAny_bind (m:=checkCount "sorted" 1 1 _) (wpAny_pure ?_)
 refine wpAny_bind (collectG (A:=X.A.in1) (show X.A.in1.handled=none from I.ok.hd hc) (⟨o,ho,hex,hd,hf⟩:SetAt s.heap p es ep t) sz g fun h' tk d acc hk hacc=>?_)
 have lacc:acc.toList.length=D.length:=by rw [hacc.length_eq,List.length_map,Array.length_toList,hn]
 refine wpAny_bind (wpAny_newList ?_ (by rw [lacc,<- hn]; exact sz))
 obtain ⟨ks,hI⟩:=ints_allS acc.toList fun v hv=>by
  obtain ⟨e,he,rfl⟩:=List.mem_map.mp (hacc.mem_iff.mp hv)
  obtain ⟨⟨k,hk,_⟩,_⟩:=hel e he
  obtain ⟨t,ht⟩:=intKind_shapeS hk
  exact ⟨k,t,ht⟩
 have kmem:∀ k,k ∈ ks ↔ k ∈ D:=fun k=>by
  rw [ints_memS hI k,<- any_memS (l:=D),hmem k]
  constructor
  ·rintro ⟨t,ht⟩
   obtain ⟨e,he,e2⟩:=List.mem_map.mp (hacc.mem_iff.mp ht)
   exact ⟨e,he,by rw [e2]; exact intKind_is _ _ _ _⟩
  ·rintro ⟨e,he,hk⟩
   obtain ⟨t,ht⟩:=intKind_shapeS hk
   exact ⟨t,hacc.mem_iff.mpr (List.mem_map.mpr ⟨e,he,ht⟩)⟩
 have kl:ks.length=D.length:=by rw [<- hI.length,lacc]
 have knd:ks.Nodup:=nodup_ofS ks D dn (fun x hx=>(kmem x).mpr hx) (by omega)
 have hoL:(h'.push (seqObj "list" acc.toList.toArray 0)).get? h'.objs.size=some (seqObj "list" acc.toList.toArray 0):=Heap.get?_push_size _ rfl
 refine wpAny_bind (wpAny_holding (wpAny_call_entry slot_list_sort ⟨_,hoL,rfl⟩ entry_list_sort (list_sort_tree hoL hI (by omega) fun out ns' a1 a2 a3=>⟨_,rfl,?_⟩) (args_list_sort _)))
 have I2:Inv X pins σ H { s with heap:=h',toks:=tk,drawn:=d }:=I.call' (s':={ s with heap:=h',toks:=tk,drawn:=d }) (ch:=[]) rfl (Un.kept hk) (I.hok.kept hk) I.bare fun b z=>absurd z (by simp)
 refine wpAny_pure ⟨_,rfl,.ref h'.objs.size,upd H h'.objs.size (.lst (ns'.map V.int)),?_,rfl,?_⟩
 ·obtain ⟨e,he⟩:=sortedHeap_at (out:=out) hoL
  refine I2.laid (t':=tk) (fun b o e=>?_) (Nat.le_refl _) ⟨?_,out.toList,e,vals_intsOf a1,?_⟩
  ·have hlt:b < h'.objs.size:=Heap.lt_size e
   rw [sortedHeap_old (Nat.ne_of_lt hlt) (by rw [size_push']; exact Nat.lt_succ_of_lt hlt)]
   exact Heap.get?_push_of_some _ e
  ·rw [List.length_map,a2.length_eq,kl,<- hn]; exact sz
  ·rw [Array.toArray_toList]; exact he
 ·exact q _ ns' (I2.hok.fresh (Nat.le_refl _)) (lt_of_le_nodupS a3 (a2.nodup_iff.mpr knd)) fun k=>by rw [a2.mem_iff,kmem k,dm k]
end L2
namespace L2
open PySem PySem.Spec PyProof.Rows
theorem dict_map (o:Obj) (f:Array Value->Array Value):(o.mapFields f).dict=o.dict:=by
 unfold Obj.mapFields
 split <;> rfl
def TrD (h base:Heap) (e:Addr) (cls:Value) (dx:Option Addr) (fl:Value):Prop:=
 ∃ oe vs T oT ts,h.get? e=some oe/\(oe.cls=cls/\oe.dict=dx)/\oe.data=.fields vs/\vs[1]?=some (.ref T)/\vs[2]?=some .none/\base.get? T=none/\T ≠ e/\h.get? T=some oT/\oT.data=.fields ts/\ts[3]?=some fl
structure FlyAt (base:Heap) (l:List Env) (e:Addr) (cls:Value) (dx:Option Addr) (fl:Value) (h:Heap):Prop where
 (stays:base.StaysIn h) (new:base.get? e=none) (frm:h.FunFrames base l) (tr:TrD h base e cls dx fl)
theorem FlyAt.there {base h:Heap} {l:List Env} {e:Addr} {cls fl:Value} {dx:Option Addr} (x:FlyAt base l e cls dx fl h):∃ ob,h.get? e=some ob/\ob.cls=cls/\ob.dict=dx/\∃ vs,ob.data=.fields vs:=by
 obtain ⟨oe,vs,_,_,_,he,hc,hd,_⟩:=x.tr
 exact ⟨oe,he,hc.1,hc.2,vs,hd⟩
section
variable {M:Model} {A:Around} {E:Value->Shared->Prop} {s:Shared}
theorem entryD {base:Heap} {env:Env} {outer:List Env} {L e:Addr} {oe:Obj} {vs:Array Value} {head:Value} {more:Bool} {Q:Unit->Shared->Prop}
  (fr:A.frames=some (env :: outer)) (fl:s.heap.FunFrames base (env :: outer)) (ef:env.frame=some L) (oe':s.heap.get? e=some oe) (sb:base.StaysIn s.heap) (nb:base.get? e=none) (od:oe.data=.fields vs) (z1:1 < vs.size) (v2:vs[2]?=some .none)
  (k:∀ h',FlyAt base (env :: outer) e oe.cls oe.dict (rawInt L) h'->s.heap.UpToSlots h'->Q () { s with heap:=h' }) :
  wpAny M A (do let a <- frameOf env; let pl <- entryPlaceOf L more; let b <- EntryCells.newEntry head a .none (rawInt L) .none pl; setField (.ref e) 1 b) Q E s:=by
 have nf:e ∉ (env :: outer).filterMap (·.frame):=fun m=>by
  obtain ⟨_,o,h1,h2⟩:=fl.mem m
  rw [oe'] at h1
  cases h1
  exact h2 vs od
 refine wpAny_bind (wpAny_frameOf_fun fr fl ef fun h1 q1=>wpAny_bind (wpAny_entryPlaceOf fun pl sp=>?_))
 unfold EntryCells.newEntry newFields
 refine wpAny_bind (wpAny_newObj_type ?_ (sp.sizeOk5 _ _ _ _ _))
 generalize hob:([head,Value.ref L,.none,rawInt L,.none] ++ (if pl.isEmpty then List.replicate 6 Value.none else pl)).toArray=tb
 have e1:h1.get? e=some oe:=(q1.2.1 e nf).trans oe'
 have s1:base.StaysIn h1:=fun b o x=>(q1.2.1 b fun m=>by rw [(fl.mem m).1] at x; cases x).trans (sb b o x)
 have e2:=Heap.get?_push_of_some (h:=h1) { cls:=.type "traceback",dict:=none,data:=.fields tb } e1
 have ne:h1.objs.size ≠ e:=Nat.ne_of_gt (Heap.lt_size e1)
 have d3:=Obj.data_mapFields od (·.setIfInBounds 1 (Value.ref h1.objs.size))
 have e3:=Heap.get?_update_self (Obj.mapFields (·.setIfInBounds 1 (Value.ref h1.objs.size))) e2 (Obj.isFreed_of_fields d3)
 have t3:=(Heap.get?_update_other (h1.push { cls:=.type "traceback",dict:=none,data:=.fields tb }) (Obj.mapFields (·.setIfInBounds 1 (Value.ref h1.objs.size))) (Ne.symm ne)).trans (Heap.get?_push_size h1 rfl)
 have kp:∀ b o,b ≠ e->h1.get? b=some o->((h1.push { cls:=.type "traceback",dict:=none,data:=.fields tb }).update e (Obj.mapFields (·.setIfInBounds 1 (Value.ref h1.objs.size)))).get? b=some o:=fun b o ne' x=>by
  rw [Heap.get?_update_other _ _ (Ne.symm ne')]
  exact Heap.get?_push_of_some _ x
 have nr:∀ b o,s.heap.get? b=some o->(∀ vs,o.data ≠ .fields vs)->b ≠ e:=fun b o x y z=>by
  rw [z,oe'] at x
  cases x
  exact y vs od
 have f3:tb[3]?=some (rawInt L):=by
  rw [<- hob]
  first | (simp; done) | (rcases sp with rfl | ⟨_,_,_,_,_,_,_,rfl⟩ <;> simp)
 refine wpAny_setField e2 od z1 (k _ ⟨fun b o x=>kp b o (fun z=>by rw [z,nb] at x; cases x) (s1 b o x),nb,fl.of_keeps fun b o x y=>?_,⟨_,_,h1.objs.size,_,_,e3,⟨Obj.cls_mapFields _ _,dict_map _ _⟩,d3,by simp [z1],by simpa [Array.getElem?_setIfInBounds] using v2,s1.fresh,ne,t3,rfl,f3⟩⟩ fun b o x y=>?_)
 ·obtain ⟨sl,z⟩:=q1.2.2 b o x
  exact ⟨_,kp b _ (nr b o x y) z,rfl⟩
 ·obtain ⟨sl,z⟩:=q1.2.2 b o x
  exact ⟨sl,kp b _ (nr b o x y) z⟩
theorem noteFirstD {base:Heap} {env:Env} {outer:List Env} {L e:Addr} {oe:Obj} {vs:Array Value} {Q:Unit->Shared->Prop}
  (fr:A.frames=some (env :: outer)) (fl:s.heap.FunFrames base (env :: outer)) (ef:env.frame=some L) (oe':s.heap.get? e=some oe) (sb:base.StaysIn s.heap) (nb:base.get? e=none) (od:oe.data=.fields vs) (v1:vs[1]?=some .none) (v2:vs[2]?=some .none)
  (k:∀ h',FlyAt base (env :: outer) e oe.cls oe.dict (rawInt L) h'->s.heap.UpToSlots h'->Q () { s with heap:=h' }):wpAny M A (noteFrame (.ref e) env) Q E s:=by
 unfold noteFrame
 simp only [ef]
 refine wpAny_bind (wpAny_field oe' od v1 ?_)
 rw [if_neg (by decide)]
 exact entryD fr fl ef oe' sb nb od (Array.getElem?_eq_some_iff.mp v1).1 v2 k
theorem noteNextD {base:Heap} {env:Env} {outer:List Env} {L e:Addr} {cls:Value} {dx:Option Addr} {Q:Unit->Shared->Prop}
  (fr:A.frames=some (env :: outer)) (ef:env.frame=some L) (x:FlyAt base (env :: outer) e cls dx .none s.heap)
  (k:∀ h',FlyAt base (env :: outer) e cls dx (rawInt L) h'->s.heap.UpToSlots h'->Q () { s with heap:=h' }):wpAny M A (noteFrame (.ref e) env) Q E s:=by
 obtain ⟨sb,nb,fl,oe,vs,T,oT,ts,oe',⟨rfl,rfl⟩,od,v1,v2,nT,ne,hT,dT,t3⟩:=x
 unfold noteFrame
 simp only [ef]
 refine wpAny_bind (wpAny_field oe' od v1 ?_)
 rw [if_pos (show (Value.ref T != Value.none)=true by simp)]
 refine wpAny_bind (wpAny_field hT dT t3 ?_)
 rw [if_neg (show ¬ ((Value.none == rawInt L)=true) by simp [rawInt])]
 refine wpAny_bind (wpAny_setField hT dT (Array.getElem?_eq_some_iff.mp t3).1 ?_)
 have ot:∀ b,b ≠ T->(s.heap.update T (Obj.mapFields (·.setIfInBounds 3 Value.none))).get? b=s.heap.get? b:=fun b z=>Heap.get?_update_other _ _ (Ne.symm z)
 have nr:∀ b o,s.heap.get? b=some o->(∀ vs,o.data ≠ .fields vs)->b ≠ T:=fun b o x y z=>by
  rw [z,hT] at x
  cases x
  exact y ts dT
 exact entryD fr (fl.of_keeps fun b o x y=>⟨o,(ot b (nr b o x y)).trans x,rfl⟩) ef ((ot e (Ne.symm ne)).trans oe') (fun b o x=>(ot b fun z=>by rw [z,nT] at x; cases x).trans (sb b o x)) nb od (Array.getElem?_eq_some_iff.mp v1).1 v2
  fun h' a b=>k h' a fun c o x y=>b c o ((ot c (nr c o x y)).trans x) y
theorem landD {base:Heap} {l:List Env} {e:Addr} {cls fl:Value} {dx:Option Addr} {Q:Unit->Shared->Prop} (x:FlyAt base l e cls dx fl s.heap)
  (k:∀ h',FlyAt base l e cls dx .none h'->s.heap.UpToSlots h'->Q () { s with heap:=h' }):wpAny M A (setFlight (.ref e) none) Q E s:=by
 obtain ⟨sb,nb,frm,oe,vs,T,oT,ts,oe',hc,od,v1,v2,nT,ne,hT,dT,t3⟩:=x
 have z3:3 < ts.size:=(Array.getElem?_eq_some_iff.mp t3).1
 have ot:∀ b,b ≠ T->(s.heap.update T (Obj.mapFields (·.setIfInBounds 3 ((none:Option Addr).elim Value.none fun f=>rawInt f)))).get? b=s.heap.get? b:=fun b z=>Heap.get?_update_other _ _ (Ne.symm z)
 have nr:∀ b o,s.heap.get? b=some o->(∀ vs,o.data ≠ .fields vs)->b ≠ T:=fun b o x y z=>by
  rw [z,hT] at x
  cases x
  exact y ts dT
 unfold setFlight
 refine wpAny_bind (wpAny_field oe' od v1 ?_)
 rw [if_pos (show (Value.ref T != Value.none)=true by simp)]
 exact wpAny_setField hT dT z3 (k _ ⟨fun b o x=>(ot b fun z=>by rw [z,nT] at x; cases x).trans (sb b o x),nb,frm.of_keeps fun b o x y=>⟨o,(ot b (nr b o x y)).trans x,rfl⟩,
  ⟨oe,vs,T,_,_,(ot e (Ne.symm ne)).trans oe',hc,od,v1,v2,nT,ne,Heap.get?_update_self _ hT (Obj.isFreed_of_fields (Obj.data_mapFields dT _)),Obj.data_mapFields dT _,by simp [z3]⟩⟩ fun b o x y=>⟨o.slots,(ot b (nr b o x y)).trans x⟩)
theorem leaveFirstD {base:Heap} {env:Env} {outer:List Env} {L e:Addr} {oe:Obj} {vs:Array Value} {Q:Unit->Shared->Prop}
  (fr:A.frames=some (env :: outer)) (fl:s.heap.FunFrames base (env :: outer)) (ef:env.frame=some L) (oe':s.heap.get? e=some oe) (sb:base.StaysIn s.heap) (nb:base.get? e=none) (od:oe.data=.fields vs) (v1:vs[1]?=some .none) (v2:vs[2]?=some .none)
  (k:∀ h',FlyAt base outer e oe.cls oe.dict .none h'->s.heap.UpToSlots h'->Q () { s with heap:=h' }):wpAny M A (leaving env (.ref e)) Q E s:=by
 unfold leaving
 refine wpAny_bind (noteFirstD fr fl ef oe' sb nb od v1 v2 fun h1 x1 u1=>?_)
 refine landD (s:={ s with heap:=h1 }) x1 fun h2 x2 u2=>?_
 obtain ⟨a,b,⟨_,_,c⟩,d⟩:=x2
 exact k h2 ⟨a,b,c,d⟩ (u1.trans u2)
theorem leaveNextD {base:Heap} {env:Env} {outer:List Env} {L e:Addr} {cls:Value} {dx:Option Addr} {Q:Unit->Shared->Prop}
  (fr:A.frames=some (env :: outer)) (ef:env.frame=some L) (x:FlyAt base (env :: outer) e cls dx .none s.heap)
  (k:∀ h',FlyAt base outer e cls dx .none h'->s.heap.UpToSlots h'->Q () { s with heap:=h' }):wpAny M A (leaving env (.ref e)) Q E s:=by
 unfold leaving
 refine wpAny_bind (noteNextD fr ef x fun h1 x1 u1=>?_)
 refine landD (s:={ s with heap:=h1 }) x1 fun h2 x2 u2=>?_
 obtain ⟨a,b,⟨_,_,c⟩,d⟩:=x2
 exact k h2 ⟨a,b,c,d⟩ (u1.trans u2)
end
end L2
namespace L2
open PySem PySem.Spec PyProof.Rows PySem.W PySem.Calls Builtin Builtin.ObjectAttr
def ExcD (C e dx:Addr) (h:Heap):Prop:=∃ o,h.get? e=some o/\o.cls=.ref C/\o.dict=some dx/\notCls o=true
theorem ExcD.exc {C e dx:Addr} {h:Heap} (x:ExcD C e dx h):ExcAt C e h:=let ⟨o,a,b,_,c⟩:=x; ⟨o,a,b,c⟩
structure ExcFld (K:Frag) (C:Addr) (f:Str):Prop where
 cls:ExcCls K C
 no:findIn K (.ref C) f=some none
 hd:(clsIn K C).map (·.hasDict)=some true
section
variable {prog:Program} {w:World} {A:Around} {E:Value->Shared->Prop} {s:Shared} {K:Frag} {e C dx:Addr} {f:Str}
theorem own_find {M:Model} {h:Heap} {mA:Str->Option Value} {v:Value} (X:K.In h) (T:ExcFld K C f) (I:ExcD C e dx h) (N:h.Ns dx mA) (hv:mA f=some v):Looks M h (Builtin.ObjectAttr.find (.ref e) (.ref C) f) (.value v):=by
 obtain ⟨cd,hc⟩:∃ cd,clsIn K C=some cd:=by
  cases q:clsIn K C with
  | none=>have:=T.hd; rw [q] at this; cases this
  | some cd=>exact ⟨cd,rfl⟩
 have hd:cd.hasDict=true:=by
  have:=T.hd
  rw [hc] at this
  exact Option.some.inj this
 obtain ⟨o,he,ho,hdx,hn⟩:=I
 intro A Q E s k q
 have lc:=looks_clsIn (M:=M) X hc
 unfold Builtin.ObjectAttr.find
 refine wpAny_bind (looks_findIn (M:=M) X T.no A _ E s k ?_)
 unfold getOf dataDescriptor? ownThenClass inOwnDict ObjectAttr.ownDict
 refine wpAny_bind (wpAny_pure (wpAny_bind (wpAny_pure ?_)))
 refine wpAny_bind (wpAny_bind (wpAny_bind ?_))
 unfold loadHead
 refine wpAny_loadPart (k _ _ he) ?_
 have key:wpAny M A (instanceDict e false) (fun d s'=>d=some dx/\s'=s) E s:=by
  unfold instanceDict
  refine wpAny_bind (wpAny_loadPart (k _ _ he) ?_)
  rw [ho]
  refine wpAny_bind (lc A _ E s k ?_)
  simp only [hd,hdx,Bool.not_true,Bool.false_eq_true,if_false]
  exact wpAny_pure ⟨rfl,rfl⟩
 have key2:wpAny M A (instanceDict e false) (fun d s'=>wpAny M A (inDict f d) (fun r s''=>wpAny M A (match r with | some v=>do rule "getattr.instance-dict"; pure (Found.value v) | none=>do copiedAttributeGuard f (.ref e); byTheClass none none) Q E s'') E s') E s:=by
  refine wpAny_mono key (fun d s' z=>?_) fun _ _ z=>z
  obtain ⟨rfl,rfl⟩:=z
  unfold inDict
  refine wpAny_nsGet (let ⟨o',es,ep,a,b⟩:=N; ⟨o',es,ep,k _ _ a,b⟩) ?_
  rw [hv]
  exact wpAny_bind (wpAny_rule (wpAny_pure q))
 unfold notCls at hn
 split at hn
 ·cases hn
 ·rename_i hnc
  split
  ·rename_i c hc'
   exact absurd hc' (hnc c)
  ·exact key2
theorem own_entry {tk:Tok} {Q:PySem.Fin->Shared->Prop} {mA:Str->Option Value} {v:Value} (X:K.In s.heap) (T:ExcFld K C f) (I:ExcD C e dx s.heap) (N:s.heap.Ns dx mA) (hv:mA f=some v) (h:Q (.done (.ret v)) s) :
  wpAny (model prog w) A (Builtin.«object.__getattribute__» ⟨[.ref e,.str f tk],[]⟩) Q E s:=by
 obtain ⟨hp,gs,dr,t,os⟩:=s
 have l0:=I.exc.type (M:=model prog w)
 have l1:=own_find (M:=model prog w) X T I N hv
 unfold Builtin.«object.__getattribute__»
 repeat (first | with_reducible refine wpAny_call ?_ | lk)
 exact h
theorem own_field {Q:Value->Shared->Prop} {mA:Str->Option Value} {v:Value} (X:K.In s.heap) (T:ExcFld K C f) (I:ExcD C e dx s.heap) (N:s.heap.Ns dx mA) (hv:mA f=some v) (hh:handedOut v=pure v)
  (h:Q v { s with toks:=s.toks+1 }):wpAny (model prog w) A (getAttr (.ref e) f true) Q E s:=by
 obtain ⟨hp,gs,dr,t,os⟩:=s
 have l0:=I.exc.type (M:=model prog w)
 have l1:=looks_findIn (M:=model prog w) X T.cls.ga
 have l2:=looks_findIn (M:=model prog w) X T.cls.gt
 have l3:=looks_mroIn (M:=model prog w) X T.cls.be
 unfold getAttr getAttrBy
 refine wpAny_bind (wpAny_mkText (wpAny_holding (wpAny_bind (l0.at (wpAny_bind (l1.at ?_))))))
 dsimp only
 have ne:(Value.builtin "BaseException.__getattribute__" == Value.builtin "object.__getattribute__")=false:=by decide +kernel
 rw [if_neg (by rw [ne,Bool.and_false]; exact Bool.false_ne_true)]
 unfold getAttrByItsOwn hookBefore
 repeat (first | with_reducible refine wpAny_call ?_ | with_reducible refine wpAny_attempt ?_ | lk)
 have hk:builtinKind "BaseException.__getattribute__"=some .slot:=by decide +kernel
 have hsplit:splitId "BaseException.__getattribute__"=some ("BaseException","__getattribute__"):=by decide +kernel
 refine codeAny_call_builtin (by decide +kernel) F.entry_bexc_ga ?_
 have ha:=F.args_bexc_ga (.ref e) (.str f t)
 show wpAny _ _ (checkBuiltinCall "BaseException.__getattribute__" ⟨[.ref e,.str f t],[]⟩) _ _ _
 simp only [checkBuiltinCall,hk,hsplit]
 unfold isInstance
 refine wpAny_bind (wpAny_bind (l0.at (l3.at ?_)))
 simp only [Bool.not_true,Bool.false_eq_true,if_false]
 refine wpAny_of_eq (show _=pure () from ha) ?_
 refine wpAny_mono (own_entry (E:=fun _ _=>False) (Q:=fun fin s'=>fin=.done (.ret v)/\s'=⟨hp,gs,dr,t+1,os⟩) X T I N hv ⟨rfl,rfl⟩) (fun fin s' z=>?_) fun _ _ z=>z.elim
 obtain ⟨rfl,rfl⟩:=z
 exact wpAny_of_eq hh h
end
end L2
namespace L2
open PySem PySem.Spec PyProof.Rows PySem.W PySem.Calls Builtin Builtin.ObjectAttr
def onlyVE:List Value->Bool
 | .ref _ :: r=>onlyVE r
 | l=>l == bmVE
theorem refuse_VE (self:Value):∀ {l:List Value},onlyVE l=true->refuseLoop self "__setattr__" l=pure ()
 | .ref c :: r,e=>by rw [refuseLoop_ref]; exact refuse_VE self e
 | [],e=>by cases e
 | .type n :: r,e=>by
  have:(Value.type n :: r)=bmVE:=beq_iff_eq.mp e
  rw [this]
  exact PySem.F.store_ValueError.passes self
 | .none :: r,e=>by have:(Value.none :: r)=bmVE:=beq_iff_eq.mp e; cases this
 | .bool _ :: r,e=>by have:(_ :: r)=bmVE:=beq_iff_eq.mp e; cases this
 | .int _ _ :: r,e=>by have:(_ :: r)=bmVE:=beq_iff_eq.mp e; cases this
 | .str _ _ :: r,e=>by have:(_ :: r)=bmVE:=beq_iff_eq.mp e; cases this
 | .bytes _ _ :: r,e=>by have:(_ :: r)=bmVE:=beq_iff_eq.mp e; cases this
 | .float _ _ :: r,e=>by have:(_ :: r)=bmVE:=beq_iff_eq.mp e; cases this
 | .ellipsis :: r,e=>by have:(_ :: r)=bmVE:=beq_iff_eq.mp e; cases this
 | .notImplemented :: r,e=>by have:(_ :: r)=bmVE:=beq_iff_eq.mp e; cases this
 | .builtin _ :: r,e=>by have:(_ :: r)=bmVE:=beq_iff_eq.mp e; cases this
structure ExcSet (K:Frag) (C:Addr) (f:Str):Prop where
 fld:ExcFld K C f
 sa:findIn K (.ref C) "__setattr__"=some (some (.builtin "object.__setattr__"))
 over:(clsIn K C).any (fun cd=>onlyVE cd.mro)=true
section
variable {prog:Program} {w:World} {A:Around} {E:Value->Shared->Prop} {s:Shared} {K:Frag} {e C:Addr} {f:Str} {R:Result->Shared->Prop}
theorem exc_looks {M:Model} {h:Heap} {o:Obj} (he:h.get? e=some o) (hc:o.cls=.ref C):Looks M h (typeOf (.ref e)) (.ref C):=hc ▸ (Looks.ld he).andThen .now
theorem osaD {vs:Array Value} {sl:Array (Option Value)} {tk:Tok} {v:Value} (X:K.In s.heap) (T:ExcSet K C f) (he:s.heap.get? e=some ⟨.ref C,none,.fields vs,sl⟩)
  (h:∀ h',h'.get? e=some ⟨.ref C,some s.heap.objs.size,.fields vs,sl⟩->h'.Ns1 s.heap.objs.size (fun y=>if y=f then some v else none)->(∀ b o,b ≠ e->s.heap.get? b=some o->h'.get? b=some o)->R (.ok (.ret .none)) { s with heap:=h',toks:=s.toks+1 }) :
  codeAny (model prog w) A (.call (.builtin "object.__setattr__") ⟨[.ref e,.str f tk,v],[]⟩) R s:=by
 have SF:=PySem.F.store_object
 obtain ⟨cd,hc,ho⟩:=any_some T.over
 have hd:cd.hasDict=true:=by
  have:=T.fld.hd
  rw [hc] at this
  exact Option.some.inj this
 have l0:Looks (model prog w) s.heap (typeOf (.ref e)) (.ref C):=exc_looks he rfl
 have sub:Looks (model prog w) s.heap (isInstance (.ref e) (.type "object")) true:=l0.andThen (looks_mroIn X T.fld.cls.ob)
 refine codeAny_call_builtin SF.slot.plain SF.entry (@check_slot (model prog w) _ _ s "object.__setattr__" "object" "__setattr__" (.ref e) [.str f tk,v] [] _ SF.kind SF.split sub (SF.args (.ref e) (.str f tk) v) ?_)
 have hm:Looks (model prog w) s.heap (mroOf (.ref C)) cd.mro:=(looks_clsIn X hc).andThen .now
 rw [osa_eq,refuse_eq]
 refine wpAny_bind (wpAny_bind (l0.here (wpAny_bind (hm.here ?_))))
 rw [refuse_VE _ ho]
 refine wpAny_pure (wpAny_bind (l0.here (wpAny_bind ((looks_findIn X T.fld.no).here (wpAny_bind (wpAny_pure ?_))))))
 have ns:e ≠ s.heap.objs.size:=Nat.ne_of_lt (Heap.lt_size he)
 have h1:(s.heap.push { cls:=.type "dict",data:=.dict #[] }).get? e=some ⟨.ref C,none,.fields vs,sl⟩:=Heap.get?_push_of_some _ he
 show wpAny _ _ (storeInOwnDict (.ref e) (.ref C) (.str f tk) f v _) _ _ _
 unfold storeInOwnDict ownDictForStores instanceDict
 refine wpAny_bind (wpAny_pure (wpAny_bind (wpAny_bind (wpAny_loadPart he (wpAny_bind ((looks_clsIn X hc).here ?_))))))
 simp only [hd,Bool.not_true,Bool.false_eq_true,if_false,typeHasDict,Bool.or_self]
 refine wpAny_bind (wpAny_alloc' ?_)
 refine wpAny_bind (wpAny_update' h1 ?_)
 have gd:((s.heap.push { cls:=.type "dict",data:=.dict #[] }).update e fun o=>{ cls:=o.cls,dict:=some s.heap.objs.size,data:=o.data,slots:=o.slots }).get? s.heap.objs.size=some { cls:=.type "dict",data:=.dict #[] }:=
  (Heap.get?_update_ne _ _ _ _ (Ne.symm ns)).trans (Heap.get?_push_at rfl rfl)
 have nd:((s.heap.push { cls:=.type "dict",data:=.dict #[] }).update e fun o=>{ cls:=o.cls,dict:=some s.heap.objs.size,data:=o.data,slots:=o.slots }).Ns s.heap.objs.size (fun _=>none):=
  ⟨_,#[],_,gd,rfl,fun x hx=>absurd hx (by simp),fun _=>rfl⟩
 refine wpAny_pure ?_
 show wpAny _ _ (storeInDict s.heap.objs.size (.str f tk) f v) _ _ _
 unfold storeInDict newKeyGuard
 refine wpAny_bind (wpAny_pure (wpAny_bind (wpAny_nsSet1 (Heap.Ns1.of_empty nd) fun h' hn' hs=>?_)))
 obtain ⟨oD,esD,epD,hoD,hdD,hcD⟩:=hn'.count (Within.cons f v Within.nil)
 refine wpAny_bind (wpAny_lookBehind hoD (by rw [hdD]; exact pastItsLine_dict (Nat.le_trans hcD (by rw [List.length_cons,List.length_nil,sizeLine_eq]; omega))) ?_)
 refine wpAny_pure (h h' ((hs.2 e ns).trans (Heap.get?_update_self _ h1 rfl)) hn' fun b o nb hb=>?_)
 exact (hs.2 b (Nat.ne_of_lt (Heap.lt_size hb))).trans ((Heap.get?_update_ne _ _ _ _ nb).trans (Heap.get?_push_of_some _ hb))
theorem setD {vs:Array Value} {sl:Array (Option Value)} {v:Value} {Q:Unit->Shared->Prop} (X:K.In s.heap) (T:ExcSet K C f) (he:s.heap.get? e=some ⟨.ref C,none,.fields vs,sl⟩)
  (h:∀ h',h'.get? e=some ⟨.ref C,some s.heap.objs.size,.fields vs,sl⟩->h'.Ns1 s.heap.objs.size (fun y=>if y=f then some v else none)->(∀ b o,b ≠ e->s.heap.get? b=some o->h'.get? b=some o)->Q () { s with heap:=h',toks:=s.toks+1+1 }) :
  wpAny (model prog w) A (setAttr (.ref e) f v) Q E s:=by
 have l0:Looks (model prog w) s.heap (typeOf (.ref e)) (.ref C):=exc_looks he rfl
 refine wpAny_bind (wpAny_mkText (wpAny_bind (wpAny_bind (wpAny_bind (l0 _ _ _ _ (fun _ _ e=>e) (looks_findIn X T.sa _ _ _ _ (fun _ _ e=>e) (wpAny_holding ?_)))))))
 rw [PySem.F.store_object.slot.bind]
 refine wpAny_bind (wpAny_pure (wpAny_bind (wpAny_call ?_)))
 refine osaD (s:={ s with toks:=s.toks+1 }) X T he fun h' a b c=>?_
 exact wpAny_pure (wpAny_pure (h h' a b c))
end
end L2
namespace L2
open PySem PySem.Spec PyProof.Rows PySem.W PySem.Calls
def excInB (K:Frag) (C fI:Addr):Bool:=match K.lookup C with
 | some ⟨.type "type",_,.cls cd,sl⟩=>(match cd.mro,sl.toList with
  | .ref C' :: bm,[_,_,_,_,some (.builtin n),_]=>C' == C && n == "ValueError.__new__" && !cd.hasDel && tailIn K bmVE bm && nsOkIn K cd.ns && nsIn K cd.ns "__init__" == some (some (.ref fI))
  | _,_=>false)
 | _=>false
theorem ns_some_of {K:Frag} {h:Heap} {N:Addr} {mg:Str->Option Value} {n:Str} {v:Value} (X:K.In h) (G:h.Ns N mg) (e:nsIn K N n=some (some v)):mg n=some v:=by
 obtain ⟨o,es,ep,ho,hd,_,hf⟩:=G
 unfold nsIn at e
 split at e
 ·rename_i q
  have z:=(X _ _ q).symm.trans ho
  cases z
  cases hd
  split at e
  ·rename_i en fe
   have ev:en.val=v:=Option.some.inj (Option.some.inj e)
   rw [<- hf n,<- ev]
   show Option.map _ (Array.find? _ es)=_
   rw [<- Array.find?_toList,fe]
   rfl
  ·split at e <;> cases e
 ·cases e
theorem exc_objI {K:Frag} {h:Heap} {C fI:Addr} (X:K.In h) (q:excInB K C fI=true) :
  ∃ bm N nm qn bs hdct sn sub ab col dd k0 k1 k2 k3 k5 mN,h.get? C=some (excClassObj nm qn C N bs bm hdct sn sub ab col dd k0 k1 k2 k3 k5 "ValueError.__new__")/\h.Ns N mN/\mN "__init__"=some (.ref fI)/\OwnTail h bmVE bm:=by
 unfold excInB at q
 split at q
 ·rename_i dd cd sl ho
  split at q
  ·rename_i C' bm k0 k1 k2 k3 n k5 hm hs
   simp only [Bool.and_eq_true,beq_iff_eq,Bool.not_eq_true'] at q
   obtain ⟨⟨⟨⟨⟨c1,c2⟩,c3⟩,c4⟩,c5⟩,c6⟩:=q
   subst c1 c2
   obtain ⟨nm,bs,mro,ns,qn,hd,sn,sub,ab,col,del⟩:=cd
   dsimp only at hm c3 c5 c6
   subst hm c3
   obtain ⟨l⟩:=sl
   have hs':l=[k0,k1,k2,k3,some (.builtin "ValueError.__new__"),k5]:=hs
   subst hs'
   exact ⟨bm,ns,nm,qn,bs,hd,sn,sub,ab,col,dd,k0,k1,k2,k3,k5,_,X _ _ ho,.of_isNs (W.isNs_of_in X c5),ns_some_of X (.of_isNs (W.isNs_of_in X c5)) c6,W.tail_of_in X c4⟩
  ·cases q
 ·cases q
abbrev excNew (C t:Addr):Obj:={ cls:=.ref C,data:=.fields #[.ref t,.none,.none,.none,.bool false,.none] }
abbrev excLaid (C t dx:Addr):Obj:={ cls:=.ref C,dict:=some dx,data:=.fields #[.ref t,.none,.none,.none,.bool false,.none] }
section
variable {prog:Program} {w:World} {A:Around} {E:Value->Shared->Prop} {h:Heap} {g:Array GenState} {d:Drawn} {t:Nat} {os:OsState}
variable {nm q:Str} {C N:Addr} {bs bm:List Value} {hdct:Bool} {sn:List Str} {sub:List Value} {ab:Bool} {col:Option Bool} {dd:Option Addr} {k0 k1 k2 k3 k5:Option Value}
theorem type_initT (T:OwnTail h bmVE bm) {mN:Str->Option Value} {rest:List Value} {fI:Addr} {oI:Obj} {Q:Fin->Shared->Prop}
  (hC:h.get? C=some (excClassObj nm q C N bs bm hdct sn sub ab col dd k0 k1 k2 k3 k5 "ValueError.__new__")) (hn:h.Ns N mN) (hi:mN "__init__"=some (.ref fI)) (hfI:h.get? fI=some oI) (hfc:oI.cls=.type "function")
  (hq:wpAny (model prog w) A (call (.ref fI) (.ref (h.objs.size+1) :: rest)) (fun r s'=>r=.none/\Q (.done (.ret (.ref (h.objs.size+1)))) s') E
   ⟨(h.push { cls:=.type "tuple",data:=.seq rest.toArray }).push (excNew C h.objs.size),g,d,t,os⟩) (hrest:rest.length<=sizeLine) :
  wpAny (model prog w) A (Builtin.«type.__call__» ⟨.ref C :: rest,[]⟩) Q E ⟨h,g,d,t,os⟩:=by
 have BF:=PySem.F.excBase_ValueError
 have hB:bmVE.contains (.type "ValueError")=true:=by decide
 repeat (first | with_reducible refine wpAny_loadPart_at hC ?_ | with_reducible refine wpAny_madeBy_exc hC ?_ | wp_step)
 refine codeAny_call_builtin_code (Code.quiet_builtin _ BF.quiet) (wpAny_check_new_subU BF hB T hC (codeAny_exc_new_subU BF hB BF T hC ?_ hrest))
 show wpAny _ _ _ _ _ _
 have p1:∀ b o,h.get? b=some o->((h.push { cls:=.type "tuple",data:=.seq rest.toArray }).push (excNew C h.objs.size)).get? b=some o:=fun b o z=>Heap.get?_push_of_some _ (Heap.get?_push_of_some _ z)
 have C1:=p1 _ _ hC
 have f1:=p1 _ _ hfI
 have n1:((h.push { cls:=.type "tuple",data:=.seq rest.toArray }).push (excNew C h.objs.size)).Ns N mN:=let ⟨o,es,ep,z,r⟩:=hn; ⟨o,es,ep,p1 _ _ z,r⟩
 have g1:((h.push { cls:=.type "tuple",data:=.seq rest.toArray }).push (excNew C h.objs.size)).get? (h.objs.size+1)=some (excNew C h.objs.size):=by heap_get
 have cc:(Value.ref C :: bm).contains (.ref C)=true:=by simp
 have T1:=T.keeps p1
 unfold isInstance
 repeat (first | with_reducible refine wpAny_loadPart_at g1 ?_ | (with_reducible refine wpAny_isSubtype_exc C1 ?_; rw [cc]) | wp_step)
 show wpAny _ _ (typeLookup (.ref C) _) _ _ _
 refine wpAny_typeLookup_tail C1 n1 T1 BF.mroIs BF.init.lookup ?_
 rw [hi]
 refine wpAny_holding (wpAny_bind ?_)
 unfold bindSpecial
 refine wpAny_bind (wpAny_typeOf (T:="function") ⟨_,f1,hfc⟩ ?_)
 rw [if_pos (by decide)]
 refine wpAny_pure (wpAny_bind (wpAny_mono hq (fun r s' hr=>?_) fun _ _ x=>x))
 obtain ⟨rfl,z⟩:=hr
 wp_walk
 exact z
theorem call_initT (T:OwnTail h bmVE bm) {mN:Str->Option Value} {rest:List Value} {fI:Addr} {oI:Obj} {Q:Value->Shared->Prop}
  (hC:h.get? C=some (excClassObj nm q C N bs bm hdct sn sub ab col dd k0 k1 k2 k3 k5 "ValueError.__new__")) (hn:h.Ns N mN) (hi:mN "__init__"=some (.ref fI)) (hfI:h.get? fI=some oI) (hfc:oI.cls=.type "function")
  (hq:wpAny (model prog w) (A.under (.builtin "type.__call__" ⟨.ref C :: rest,[]⟩)) (call (.ref fI) (.ref (h.objs.size+1) :: rest)) (fun r s'=>r=.none/\Q (.ref (h.objs.size+1)) s') E
   ⟨(h.push { cls:=.type "tuple",data:=.seq rest.toArray }).push (excNew C h.objs.size),g,d,t,os⟩) (hrest:rest.length<=sizeLine) :
  wpAny (model prog w) A (call (.ref C) rest) Q E ⟨h,g,d,t,os⟩:=by
 have f1:=tc_lookup
 have f2:=tc_bind (.ref C)
 have hT:(⟨h,g,d,t,os⟩:Shared).TypeIs (.ref C) "type":=⟨_,hC,rfl⟩
 refine wpAny_call (codeAny_of_tree ?_)
 show wpAny _ _ (callAny (.ref C) _) _ _ _
 repeat (any_goals (first | assumption | with_reducible refine wpAny_loadPart_at hC ?_ | wp_step))
 refine ⟨rfl,codeAny_call_builtin_at (Code.quiet_builtin _ (by decide +kernel)) entry_typeCall (wpAny_check_type_call_sub hC (type_initT T hC hn hi hfI hfc ?_ hrest))⟩
 exact hq
theorem base_init (T:OwnTail h bmVE bm) {e a:Addr} {x:Value} {Q:Value->Shared->Prop} (hC:h.get? C=some (excClassObj nm q C N bs bm hdct sn sub ab col dd k0 k1 k2 k3 k5 "ValueError.__new__")) (he:h.get? e=some (excNew C a))
  (hq:∀ h',h'.get? e=some (excNew C h.objs.size)->(∀ b o,b ≠ e->h.get? b=some o->h'.get? b=some o)->Q .none ⟨h',g,d,t,os⟩) :
  wpAny (model prog w) A (call (.builtin "ValueError.__init__") [.ref e,x]) Q E ⟨h,g,d,t,os⟩:=by
 have BF:=PySem.F.excBase_ValueError
 refine wpAny_call (codeAny_call_builtin BF.init.plain BF.initEntry (wpAny_check_init_subU BF T hC he rfl ?_))
 wp_walk
 refine hq _ ?_ fun b o nb hb=>?_
 ·rw [Heap.get?_update_self _ (Heap.get?_push_of_some _ he) rfl]
  rfl
 ·rw [Heap.get?_update_other _ _ (Ne.symm nb)]
  exact Heap.get?_push_of_some _ hb
end
end L2
namespace L2
open PySem PySem.Spec PyProof.Rows PySem.W PySem.Calls
def ExcN (C e:Addr) (h:Heap):Prop:=∃ a,h.get? e=some (excNew C a)
def ExcL (C e dx:Addr) (h:Heap):Prop:=∃ a,h.get? e=some (excLaid C a dx)
theorem okN {P:Program} {w:World} {H:Hp} {h:Heap} {C e a:Addr} (he:h.get? e=some (excNew C a)):ObjOk P w H h e (.ext (ExcN C e)):=⟨⟨a,he⟩,⟨_,he⟩,fun _ _ ⟨b,z⟩ k=>⟨b,k _ z⟩⟩
theorem okL {P:Program} {w:World} {H:Hp} {h:Heap} {C e dx a:Addr} (he:h.get? e=some (excLaid C a dx)):ObjOk P w H h e (.ext (ExcL C e dx)):=⟨⟨a,he⟩,⟨_,he⟩,fun _ _ ⟨b,z⟩ k=>⟨b,k _ z⟩⟩
def tBI (K:Frag) (ta:TA):TE:=fun σ H Q=>ta σ H fun vs H1=>∃ e C fI x,vs=[.ref e,x]/\H1 e=some (.ext (ExcN C e))/\excInB K C fI=true/\Q .non (upd H1 e (.ext (ExcN C e)))
theorem callWith_B {M:Model} {A:Around} {K:Frag} {pos:Pos} {env:Env} {n:String} {first:List Value} {e:Expr} {rest:List Expr} {Q:Value->Shared->Prop} {E:Value->Shared->Prop} {s:Shared}
  (h:wpAny M A (spliced (backTo pos (starEach (e :: rest) env))) (fun vs s₁=>K.In s₁.heap/\wpAny M A (call (.builtin n) (first ++ vs)) Q E s₁) E s)
  (he:starEach (e :: rest) env=(false,eval e env) :: starEach rest env:=by rfl) (hplain:(backTo pos (starEach rest env)).any (·.1)=false:=by rfl) :
  wpAny M A (callWith pos (.builtin n) first (backTo pos (starEach (e :: rest) env)) []) Q E s:=by
 rw [he] at h ⊢
 exact W.callWith_of (by show ((false || (backTo pos (starEach rest env)).any (·.1)) || false)=false; rw [hplain]; rfl) (fun h (_:K.In h)=>⟨.machine,.inr (.inl rfl),.now⟩) (evalArgs_plain h)
section
variable {X:Cx}
theorem pe_baseInit {cn:Str} {B:Addr} {np ap pos:Pos} {a:Expr} {es:List Expr} {t:TA} {pl:Sem Bool} (hg:Gl X cn) (hm:X.mg cn=some (.ref B)) (h1:specialIn X.K (.ref B) "__getattribute__"=some (some (.builtin "type.__getattribute__")))
  (h2:readsIn X.K B (.type "type")=true) (h3:findCls X.K (.ref B) (.type "type") "__init__"=some (.val (.builtin "ValueError.__init__"))) (ha:PA X (a :: es) t)
  (hdb:(cn == ("__debug__":Str))=false:=by decide)
  (hst:starEach (a :: es) X.env=(false,eval a X.env) :: starEach es X.env:=by rfl) (hpl:(backTo pos (starEach es X.env)).any (·.1)=false:=by rfl)
  (ht:eval (.Call (.Attribute (.Name cn np) "__init__" ap) (a :: es) [] pos) X.env=(do
   let ov <- eval (.Name cn np) X.env
   standAt ap.atName
   let (f,first) <- holding [ov] (getMethod ov "__init__" pl)
   callWith pos f first (backTo pos (starEach (a :: es) X.env)) (backToKw pos (keywordEach [] X.env))):=by rfl) :
  PE X (.Call (.Attribute (.Name cn np) "__init__" ap) (a :: es) [] pos) (tBI X.K t):=by
 intro pins s σ H Q I h
 refine W.methodCall_KW (pl:=pl) (ld_glob I hg hm ?_ hdb) ht
 refine method_cls I.kIn h1 (cls_value I.kIn h2 h3 (by decide +kernel) ?_)
 have I':=I.tok (s.toks+1)
 refine callWith_B (K:=X.K) (first:=[]) (thn (ha pos pins _ σ H _ I' h) fun us s1 ⟨vs,H1,I1,r,q⟩=>⟨I1.kIn,?_⟩) hst hpl
 obtain ⟨e,C,fI,x,rfl,hH,hI,q⟩:=q
 obtain ⟨u1,u2,rfl,r1,r2⟩:=r.two
 obtain rfl:u1=Value.ref e:=r1
 obtain ⟨bm,Nn,nm,qn,bs,hdct,sn,sub,ab,col,dd,k0,k1,k2,k3,k5,mN,hC,hNs,hni,TL⟩:=exc_objI I1.kIn hI
 obtain ⟨⟨a0,he⟩,_,_⟩:=(show ObjOk X.prog X.w H1 s1.heap e (.ext (ExcN C e)) from I1.hok e _ hH)
 obtain ⟨hp,gs,dr,tk,os⟩:=s1
 show wpAny _ _ (call (.builtin "ValueError.__init__") [.ref e,u2]) _ _ _
 refine base_init TL hC he fun h' he' kp=>?_
 exact ⟨.non,_,I1.write (t':=tk) (x:=e) (e:=e) (by rw [hH]; exact True.intro) (.inl rfl) (fun b u nb z=>kp b u nb z) ⟨_,he'⟩ (okN he'),rfl,q⟩
def sXF (K:Frag) (ta tv:TE) (f:Str):TS:=fun D σ H=>tv σ H fun y H1=>ta σ H1 fun x H2=>∃ e C,x=.ref e/\H2 e=some (.ext (ExcN C e))/\ExcSet K C f/\∀ dx,H2 dx=none->D.nx σ (upd (upd H2 dx (.xd [(f,y)])) e (.ext (ExcL C e dx)))
theorem ps_excfld {o value:Expr} {f:Str} {pos pos':Pos} {ta tv:TE} (ha:PE X o ta) (hv:PE X value tv) (hs:swapsWith value (some (.Attribute o f pos')) pos.line X.env=pure false):PS X (.Assign [.Attribute o f pos'] value pos) (sXF X.K ta tv f):=by
 intro pins s σ H D I h
 refine plainObj_wpAny_Assign_Attribute (thn (hv pins s σ H _ I h) fun u s1 ⟨y,H1,I1,ry,q⟩=>thn (ha pins s1 σ H1 _ I1 q) fun ov s2 ⟨x,H2,I2,rx,e,C,ex,hH,T,q2⟩=>?_) hs
 subst ex
 obtain rfl:ov=Value.ref e:=rx
 obtain ⟨⟨a0,he⟩,_,_⟩:=(show ObjOk X.prog X.w H2 s2.heap e (.ext (ExcN C e)) from I2.hok e _ hH)
 refine setD I2.kIn T he fun h' he' ns kp=>?_
 obtain ⟨oD,es,ep,gD,dD⟩:=id ns
 have fr:H2 s2.heap.objs.size=none:=I2.hok.fresh (Nat.le_refl _)
 have ne:e ≠ s2.heap.objs.size:=Nat.ne_of_lt (Heap.lt_size he)
 have nfr:oD.isFreed=false:=by
  have:=(Heap.get?_some_iff.mp gD).2
  exact this
 have g1:(s2.heap.push oD).get? s2.heap.objs.size=some oD:=Heap.get?_push_size _ nfr
 have n1:(s2.heap.push oD).Ns1 s2.heap.objs.size (fun y=>if y=f then some u else none):=⟨oD,es,ep,g1,dD⟩
 have J:=I2.laid (a:=s2.heap.objs.size) (o:=.xd [(f,y)]) (h':=s2.heap.push oD) (t':=s2.toks) (fun b v z=>Heap.get?_push_of_some _ z) (Nat.le_refl _) ⟨_,n1,fun g=>by
  show RelO (List.lookup g [(f,y)]) (if g=f then some u else none)
  by_cases c:g=f
  ·subst c
   rw [if_pos rfl,List.lookup_cons_self]
   exact ry
  ·rw [if_neg c,List.lookup_cons]
   have:(g == f)=false:=by simpa using c
   rw [this]
   exact True.intro⟩
 have hH':(upd H2 s2.heap.objs.size (.xd [(f,y)])) e=some (.ext (ExcN C e)):=by rw [upd_ne ne]; exact hH
 have J2:=J.write (x:=e) (e:=e) (o:=.ext (ExcL C e s2.heap.objs.size)) (h':=h') (t':=s2.toks+1+1) (by rw [hH']; exact True.intro) (.inl rfl) (fun b v nb z=>by
  by_cases c:b=s2.heap.objs.size
  ·subst c
   have z':(s2.heap.push oD).get? s2.heap.objs.size=some v:=z
   rw [g1] at z'
   cases z'
   exact gD
  ·have z':(s2.heap.push oD).get? b=some v:=z
   rw [Heap.get?_push_ne _ _ _ c] at z'
   exact kp b v nb z') ⟨_,he'⟩ (okL he')
 exact ⟨σ,_,J2,q2 _ fr⟩
end
end L2
namespace L2
open PySem PySem.Spec PyProof.Rows PySem.W PySem.Calls
structure FlyX (P:Program) (w:World) (outer:List Env) (H:Hp) (s:Shared) (cls:Value) (dx ea:Addr) (B:Heap) (H':Hp) (s':Shared):Prop where
 os:s'.os=s.os
 bare:AllBare s'.gens
 un:Un (frs outer) [] H H' s.heap s'.heap
 hok:HOk P w H' s'.heap
 fly:FlyAt B outer ea cls (some dx) .none s'.heap
 frf:∀ b ∈ frs outer,H' b=none
 cov:∀ b o,s'.heap.get? b=some o->b ∉ frs outer->(H' b ≠ none\/∃ o',s.heap.get? b=some o')->B.get? b=some o
 he:H' ea=none
 hs:s.heap.get? ea=none
def XD (P:Program) (w:World):CXT:=fun outer H s E e s'=>∃ (ea:Addr) (cls:Value) (dx:Addr) (B:Heap) (H':Hp),e=.ref ea/\FlyX P w outer H s cls dx ea B H' s'/\E cls (some dx) H'
def without (H:Hp) (e:Addr):Hp:=fun b=>if b=e then none else H b
theorem without_ne {H:Hp} {e b:Addr} (h:b ≠ e):without H e b=H b:=if_neg h
theorem without_at {H:Hp} {e:Addr}:without H e e=none:=if_pos rfl
theorem without_some {H:Hp} {e b:Addr} {o:HO} (h:without H e b=some o):b ≠ e/\H b=some o:=by
 unfold without at h
 split at h
 ·cases h
 ·rename_i c; exact ⟨c,h⟩
section
variable {P:Program} {w:World} {K:W.Frag} {mg:Str->Option Value} {base:Heap} {N:List Str} {qual:Str} {scope:Scope} {f:Addr} {cd:Value} {A:Around} {outer:List Env} {s0 s1:Shared} {H0 H1:Hp} {E:XK}
 {pins:List (Addr × Obj)} {σ:St}
theorem raise_xeD {e C dx:Addr} (I:Inv (cxOf (XD P w) P w K mg base N qual scope f cd A outer s0 H0 E) pins σ H1 s1) (hH:H1 e=some (.ext (ExcL C e dx))) (h0:s0.heap.get? e=none) (hE:E (.ref C) (some dx) (without H1 e)) :
  (cxOf (XD P w) P w K mg base N qual scope f cd A outer s0 H0 E).xe (.ref e) s1:=by
 have st:s1.heap.FunFrames base (envOfC qual scope s0.heap.objs.size f cd :: outer):=I.stack
 have fz:∀ b ∈ frs (envOfC qual scope s0.heap.objs.size f cd :: outer),H1 b=none:=I.stkFree
 have sub:∀ b ∈ frs (envOfC qual scope s0.heap.objs.size f cd :: outer),b=(envOfC qual scope s0.heap.objs.size f cd).locals\/b ∈ frs outer:=fun b hb=>List.mem_cons.mp (I.stkSub b hb)
 have above:s0.heap.objs.size<=(envOfC qual scope s0.heap.objs.size f cd).locals:=I.ok.above
 have old:∀ b o,s0.heap.get? b=some o->b ∉ frs outer->b ∉ frs (envOfC qual scope s0.heap.objs.size f cd :: outer):=fun b o q nb z=>by
  rcases sub b z with z | z
  ·subst z
   exact absurd (Nat.lt_of_lt_of_le (Heap.lt_size q) above) (Nat.lt_irrefl _)
  ·exact nb z
 obtain ⟨⟨a,he⟩,_,_⟩:=(show ObjOk P w H1 s1.heap e (.ext (ExcL C e dx)) from I.hok e _ hH)
 show wpAny (model P w) (A.deeper (envOfC qual scope s0.heap.objs.size f cd)) (leaving (envOfC qual scope s0.heap.objs.size f cd) (.ref e)) _ _ _
 refine leaveFirstD (base:=W.hideAll s1.heap (e :: frs (envOfC qual scope s0.heap.objs.size f cd :: outer))) I.ok.frames (W.funFrames_hide st fun env' h' a ha=>List.mem_cons_of_mem _ (List.mem_filterMap.mpr ⟨env',h',ha⟩)) rfl he (fun b o q=>W.of_hideAll _ q) (W.hideAll_none _ (List.mem_cons_self ..)) rfl rfl rfl fun h'' fl ups=>?_
 have kept:∀ b o,s1.heap.get? b=some o->b ≠ e->b ∉ frs (envOfC qual scope s0.heap.objs.size f cd :: outer)->h''.get? b=some o:=fun b o q ne nb=>fl.stays b o (W.hideAll_get _ q fun z=>by
  rcases List.mem_cons.mp z with z | z
  ·exact ne z
  ·exact nb z)
 have u:Un (frs outer) [] H0 H1 s0.heap s1.heap:=I.base
 have u':Un (frs outer) [] H0 (without H1 e) s0.heap s1.heap:=⟨u.keep,u.slot,fun b o q n hx=>by
   by_cases c:b=e
   ·subst c; exact without_at
   ·rw [without_ne c]; exact u.free b o q n hx,u.there,fun b xs q=>by
   have z:=u.tups b xs q
   rw [without_ne fun c=>by subst c; rw [hH] at z; cases z]
   exact z,fun b o v q=>by
   have z:=u.frzs b o v q
   rw [without_ne fun c=>by subst c; rw [hH] at z; cases z]
   exact z,fun b ps q=>by
   obtain ⟨m,z⟩:=u.tbls b ps q
   exact ⟨m,by rw [without_ne fun c=>by subst c; rw [hH] at z; cases z]; exact z⟩⟩
 refine ⟨e,.ref C,dx,_,without H1 e,rfl,⟨I.os,I.bare,u'.onward (fun b o q nb old'=>?_) (fun b o q hb old'=>?_),fun c v hc=>?_,fl,fun b hb=>?_,fun b o q nb hc=>?_,without_at,h0⟩,hE⟩
 ·obtain ⟨o',q'⟩:=old'
  exact kept b o q (fun z=>by subst z; rw [h0] at q'; cases q') (old b o' q' nb)
 ·obtain ⟨_,o',ho',nf⟩:=st.mem (frs_tail hb)
  rw [q] at ho'; cases ho'
  exact ups b o q nf
 ·obtain ⟨ne,hc'⟩:=without_some hc
  have no:∀ b y,H1 b=some (.own y)->b ≠ e:=fun b y z c=>by subst c; rw [hH] at z; cases z
  refine (I.hok c v hc').stay (fun b o hb q=>?_) (fun b z=>by rw [without_ne (no b _ z)]; exact z) fun b xs z=>by
   rw [without_ne fun c=>by subst c; rw [hH] at z; cases z]
   exact z
  rcases hb with rfl | hb
  ·exact kept b o q ne fun z=>by rw [fz b z] at hc'; cases hc'
  ·exact kept b o q (no b _ hb) fun z=>by rw [fz b z] at hb; cases hb
 ·by_cases c:b=e
  ·subst c; exact without_at
  ·rw [without_ne c]; exact fz b (frs_tail hb)
 ·have key:∃ o1,s1.heap.get? b=some o1/\b ≠ e/\b ∉ frs (envOfC qual scope s0.heap.objs.size f cd :: outer):=by
   rcases hc with hc | ⟨o',q'⟩
   ·cases e1:without H1 e b with
    | none=>exact absurd e1 hc
    | some u1=>
     obtain ⟨ne,e2⟩:=without_some e1
     obtain ⟨o1,q1⟩:=(I.hok b u1 e2).there
     exact ⟨o1,q1,ne,fun z=>by rw [fz b z] at e2; cases e2⟩
   ·obtain ⟨o1,q1⟩:=u.there b o' q' (by simp)
    exact ⟨o1,q1,(fun z=>by subst z; rw [h0] at q'; cases q'),old b o' q' nb⟩
  obtain ⟨o1,q1,ne,n1⟩:=key
  have z:=kept b o1 q1 ne n1
  have q2:h''.get? b=some o:=q
  rw [q2] at z; cases z
  exact W.hideAll_get _ q1 fun z=>by
   rcases List.mem_cons.mp z with z | z
   ·exact ne z
   ·exact n1 z
theorem passD:Passes (XD P w) (cxOf (XD P w) P w K mg base N qual scope f cd A outer s0 H0 E) E:=by
 rintro pins σ H s e s' I ⟨ea,cls,dx,B,H',rfl,x,hE⟩
 have sub:∀ b ∈ frs (envOfC qual scope s0.heap.objs.size f cd :: outer),b=(envOfC qual scope s0.heap.objs.size f cd).locals\/b ∈ frs outer:=fun b hb=>List.mem_cons.mp (I.stkSub b hb)
 have above:s0.heap.objs.size<=(envOfC qual scope s0.heap.objs.size f cd).locals:=I.ok.above
 have oldT:∀ b o,s0.heap.get? b=some o->b ∈ frs (envOfC qual scope s0.heap.objs.size f cd :: outer)->b ∈ frs outer:=fun b o q z=>by
  rcases sub b z with z | z
  ·subst z
   exact absurd (Nat.lt_of_lt_of_le (Heap.lt_size q) above) (Nat.lt_irrefl _)
  ·exact z
 have x':FlyX P w (envOfC qual scope s0.heap.objs.size f cd :: outer) H s cls dx ea B H' s':=x
 have u0:Un (frs outer) [] H0 H s0.heap s.heap:=I.base
 have u:Un (frs outer) [] H0 H' s0.heap s'.heap:=u0.andThen x'.un oldT
 have h0:s0.heap.get? ea=none:=by
  cases q:s0.heap.get? ea with
  | none=>rfl
  | some o=>
   obtain ⟨o1,q1⟩:=u0.there ea o q (by simp)
   rw [x'.hs] at q1; cases q1
 show wpAny (model P w) (A.deeper (envOfC qual scope s0.heap.objs.size f cd)) (leaving (envOfC qual scope s0.heap.objs.size f cd) (.ref ea)) _ _ _
 refine leaveNextD I.ok.frames rfl x'.fly fun h' fl ups=>?_
 have kept:∀ b o,s'.heap.get? b=some o->b ∉ frs (envOfC qual scope s0.heap.objs.size f cd :: outer)->(H' b ≠ none\/∃ o',s.heap.get? b=some o')->h'.get? b=some o:=fun b o q nb hc=>fl.stays b o (x'.cov b o q nb hc)
 refine ⟨ea,cls,dx,B,H',rfl,⟨x'.os.trans I.os,x'.bare,u.onward (fun b o q nb old'=>?_) (fun b o q hb old'=>?_),x'.hok.onward fun b o hb q=>kept b o q (fun z=>hb (x'.frf b z)) (.inl hb),fl,fun b hb=>x'.frf b (frs_tail hb),fun b o q nb hc=>?_,x'.he,h0⟩,hE⟩
 ·obtain ⟨o',q'⟩:=old'
  obtain ⟨o1,q1⟩:=u0.there b o' q' (by simp)
  exact kept b o q (fun z=>nb (oldT b o' q' z)) (.inr ⟨o1,q1⟩)
 ·obtain ⟨_,o',ho',nf⟩:=x'.fly.frm.mem (frs_tail hb)
  rw [q] at ho'; cases ho'
  exact ups b o q nf
 ·have key:∃ o1,s'.heap.get? b=some o1/\b ∉ frs (envOfC qual scope s0.heap.objs.size f cd :: outer)/\(H' b ≠ none\/∃ o',s.heap.get? b=some o'):=by
   rcases hc with hc | ⟨o',q'⟩
   ·cases e1:H' b with
    | none=>exact absurd e1 hc
    | some u1=>
     obtain ⟨o1,q1⟩:=(x'.hok b u1 e1).there
     exact ⟨o1,q1,fun z=>hc (x'.frf b z),.inl (by rw [e1] at hc; exact hc)⟩
   ·obtain ⟨o1,q1⟩:=u.there b o' q' (by simp)
    obtain ⟨o2,q2⟩:=u0.there b o' q' (by simp)
    exact ⟨o1,q1,fun z=>nb (oldT b o' q' z),.inr ⟨o2,q2⟩⟩
  obtain ⟨o1,q1,n1,c1⟩:=key
  have z:=kept b o1 q1 n1 c1
  have q2:h'.get? b=some o:=q
  rw [q2] at z; cases z
  exact x'.cov b _ q1 n1 c1
end
structure MkX (K:Frag) (C fI:Addr):Prop where
 ex:excInB K C fI=true
 fn:isFn K (.ref fI)=true
section
variable {X:Cx} {CX:CXT} {k:Nat} {fI C:Addr} {fd:FuncData} {ps:List Str} {sp:Sp} {E:XK}
theorem run_excmake {pins:List (Addr × Obj)} {σ:St} {H:Hp} {s:Shared} {us:List Value} {vs:List V} {QQ:Addr->Hp->Prop} (M:MkX X.K C fI) (F:FnOk X.prog X.w X.K X.mg X.base CX k fI fd ps sp) (hr:Room (k+1) X.A) (hb:Binds X.K fd ps [])
  (hx:Passes CX X E) (I:Inv X pins σ H s) (r:Vals vs us) (hz:us.length<=sizeLine)
  (h:∀ e,H e=none->sp (.ref e :: vs) (upd H e (.ext (ExcN C e))) (fun v H2=>v=.non/\QQ e H2) E) :
  wpAny (model X.prog X.w) X.A (call (.ref C) us) (fun v s'=>∃ e H',v=.ref e/\Inv X pins σ H' s'/\s.heap.get? e=none/\QQ e H') X.xe s:=by
 obtain ⟨bm,Nn,nm,qn,bs,hdct,sn,sub,ab,col,dd,k0,k1,k2,k3,k5,mN,hC,hNs,hni,TL⟩:=exc_objI I.kIn M.ex
 have ty:typeIn X.K (.ref fI)=some (.type "function"):=beq_iff_eq.mp M.fn
 obtain ⟨oI,lk,hfc⟩:∃ oI,X.K.lookup fI=some oI/\oI.cls=.type "function":=by
  have ty':(X.K.lookup fI).map (·.cls)=some (.type "function"):=ty
  cases q:X.K.lookup fI with
  | none=>rw [q] at ty'; cases ty'
  | some oI=>rw [q] at ty'; exact ⟨oI,rfl,Option.some.inj ty'⟩
 have hfI:=I.kIn _ _ lk
 have hq:=h (s.heap.objs.size+1) (I.hok.fresh (Nat.le_succ _))
 have nn:s.heap.get? (s.heap.objs.size+1)=none:=Heap.get?_none_of_le (Nat.le_succ _)
 have g1:((s.heap.push { cls:=.type "tuple",data:=.seq us.toArray }).push (excNew C s.heap.objs.size)).get? (s.heap.objs.size+1)=some (excNew C s.heap.objs.size):=by heap_get
 have I2:=I.laid (a:=s.heap.objs.size+1) (o:=.ext (ExcN C (s.heap.objs.size+1))) (h':=(s.heap.push { cls:=.type "tuple",data:=.seq us.toArray }).push (excNew C s.heap.objs.size)) (t':=s.toks)
  (fun b u q=>Heap.get?_push_of_some _ (Heap.get?_push_of_some _ q)) (Nat.le_succ _) (okN g1)
 have r2:Vals (V.ref (s.heap.objs.size+1) :: vs) (Value.ref (s.heap.objs.size+1) :: us):=.cons rfl r
 have hl:(Value.ref (s.heap.objs.size+1) :: us).length=ps.length:=by
  have e:=r2.length
  rw [F.len _ _ _ _ hq] at e
  exact e.symm
 have hb':=hb { s with heap:=(s.heap.push { cls:=.type "tuple",data:=.seq us.toArray }).push (excNew C s.heap.objs.size) } (Value.ref (s.heap.objs.size+1) :: us) I2.kIn (by rw [List.append_nil]; exact hl)
 rw [List.append_nil] at hb'
 obtain ⟨hp,gs,dr,tk,os⟩:=s
 refine call_initT TL hC hNs hni hfI hfc ?_ hz
 refine wpAny_call (codeAny_mono (F.run _ X.stack _ _ ⟨Value.ref (hp.objs.size+1) :: us,[]⟩ (Value.ref (hp.objs.size+1) :: us) _ _ E (hr.make C us []) (I2.env0.make C us []) hb' r2 hq) fun rr s' hq'=>?_)
 cases rr with
 | error e=>exact hx pins σ _ _ e s' I2 hq'
 | ok fl=>
  cases fl with
  | ret u=>
   obtain ⟨v,H',I3,rv,ev,q3⟩:=I2.after hq'
   subst ev
   exact ⟨rv,_,H',rfl,I3,nn,q3⟩
  | next=>exact False.elim hq'
  | brk=>exact False.elim hq'
  | cont=>exact False.elim hq'
end
end L2
namespace L2
open PySem PySem.Spec PyProof.Rows PySem.W PySem.Calls
section
variable {M:Model} {A:Around} {E:Value->Shared->Prop} {s:Shared} {env:Env}
variable {nm q:Str} {C N:Addr} {bs bm:List Value} {hdct:Bool} {sn:List Str} {sub:List Value} {ab:Bool} {col:Option Bool} {dd:Option Addr} {k0 k1 k2 k3 k5:Option Value}
theorem raise_laid {x:Sem Value} {Q:Flow->Shared->Prop} (hB:bm.contains (.type "BaseException")=true) (hh:A.handled=none)
  (h:wpAny M A x (fun v s1=>∃ e t dx,v=.ref e/\s1.heap.get? C=some (excClassObj nm q C N bs bm hdct sn sub ab col dd k0 k1 k2 k3 k5 "ValueError.__new__")/\s1.heap.get? e=some (excLaid C t dx)/\E (.ref e) s1) E s) :
  wpAny M A (raiseStmt env (some x) none) Q E s:=by
 have cB:(Value.ref C :: bm).contains (.type "BaseException")=true:=by rw [List.contains_cons,hB,Bool.or_true]
 unfold raiseStmt
 refine wpAny_bind (wpAny_mono h (fun v s1 z=>?_) fun _ _ y=>y)
 obtain ⟨e,t,dx,rfl,hC,he,hE⟩:=z
 obtain ⟨hp,g,d,tk,os⟩:=s1
 repeat (first | with_reducible refine wpAny_loadPart_at he ?_ | with_reducible refine wpAny_loadPart_at hC ?_ | (with_reducible refine wpAny_isSubtype_exc hC ?_; rw [cB]) | wp_step)
 exact wpAny_raiseNew_none hh hE
end
section
variable {prog:Program} {w:World} {A:Around} {E:Value->Shared->Prop} {s:Shared} {env:Env}
variable {nm q:Str} {C N:Addr} {bs bm:List Value} {hdct:Bool} {sn:List Str} {sub:List Value} {ab:Bool} {col:Option Bool} {dd:Option Addr} {k0 k1 k2 k3 k5:Option Value}
theorem Raise_laid {x:Str} {np cpos pos:Pos} {args:List Expr} {Q:Flow->Shared->Prop} (hB:bm.contains (.type "BaseException")=true) (hh:A.handled=none) (hp:(backTo cpos (starEach args env)).any (·.1)=false)
  (h:wpAny (model prog w) A (eval (.Name x np) env) (fun f s1=>f=.ref C/\wpAny (model prog w) A (evalArgs (.ref C) true (backTo cpos (starEach args env)) [])
   (fun a s2=>a.kw=[]/\s2.heap.get? C=some (excClassObj nm q C N bs bm hdct sn sub ab col dd k0 k1 k2 k3 k5 "ValueError.__new__") /\
    wpAny (model prog w) A (call (.ref C) a.pos) (fun v s3=>∃ e t dx,v=.ref e/\s3.heap.get? C=some (excClassObj nm q C N bs bm hdct sn sub ab col dd k0 k1 k2 k3 k5 "ValueError.__new__")/\s3.heap.get? e=some (excLaid C t dx)/\E (.ref e) s3) E s2) E s1) E s) :
  wpAny (model prog w) A (exec (.Raise (some (.Call (.Name x np) args [] cpos)) none pos) env) Q E s:=by
 rw [arm_exec_Raise]
 first
  | refine wpAny_bind (wpAny_standAt (raise_laid (C:=C) (nm:=nm) (q:=q) (N:=N) (bs:=bs) (bm:=bm) (hdct:=hdct) (sn:=sn) (sub:=sub) (ab:=ab) (col:=col) (dd:=dd) (k0:=k0) (k1:=k1) (k2:=k2) (k3:=k3) (k5:=k5) hB hh (wpAny_bind (wpAny_mono (wpAny_Call_ofName (wpAny_mono h (fun f s1 z=>?_) fun _ _ y=>y)) (fun v s3 z=>wpAny_bind (wpAny_standAt (wpAny_pure z))) fun _ _ y=>y))))
  | (simp only [evalOpt,Option.map]; refine wpAny_bind (wpAny_standAt (raise_laid (C:=C) (nm:=nm) (q:=q) (N:=N) (bs:=bs) (bm:=bm) (hdct:=hdct) (sn:=sn) (sub:=sub) (ab:=ab) (col:=col) (dd:=dd) (k0:=k0) (k1:=k1) (k2:=k2) (k3:=k3) (k5:=k5) hB hh (wpAny_bind (wpAny_mono (wpAny_Call_ofName (wpAny_mono h (fun f s1 z=>?_) fun _ _ y=>y)) (fun v s3 z=>wpAny_bind (wpAny_standAt (wpAny_pure z))) fun _ _ y=>y)))))
  | (refine wpAny_bind (wpAny_standAt (raise_laid (C:=C) (nm:=nm) (q:=q) (N:=N) (bs:=bs) (bm:=bm) (hdct:=hdct) (sn:=sn) (sub:=sub) (ab:=ab) (col:=col) (dd:=dd) (k0:=k0) (k1:=k1) (k2:=k2) (k3:=k3) (k5:=k5) hB hh ?_)); refine wpAny_bind (wpAny_mono (wpAny_Call_ofName (wpAny_mono h (fun f s1 z=>?_) fun _ _ y=>y)) (fun v s3 z=>wpAny_bind (wpAny_standAt (wpAny_pure z))) fun _ _ y=>y))
 obtain ⟨rfl,z⟩:=z
 unfold callWith
 refine wpAny_bind (wpAny_holding (wpAny_mono z (fun a s2 z2=>wpAny_bind (wpAny_standAt ?_)) fun _ _ y=>y))
 obtain ⟨ap,ak⟩:=a
 obtain ⟨hk,hC,z3⟩:=z2
 obtain rfl:ak=[]:=hk
 obtain ⟨hp',g,d,tk,os⟩:=s2
 simp only [hp]
 refine wpAny_bind (wpAny_keeperOf_exc hC ?_)
 refine wpAny_bind (wpAny_mono z3 (fun v s3 z4=>wpAny_bind (wpAny_holding (wpAny_point (wpAny_pure ?_)))) fun _ _ y=>y)
 exact z4
end
def tRaiseD (C:Addr) (sp:Sp) (E:XK) (ta:TA):TS:=fun _ σ H=>ta σ H fun vs H1=>vs.length<=sizeLine/\∀ e,H1 e=none->sp (.ref e :: vs) (upd H1 e (.ext (ExcN C e))) (fun v H2=>v=.non/\∃ dx,H2 e=some (.ext (ExcL C e dx))/\E (.ref C) (some dx) (without H2 e)) E0
section
variable {P:Program} {w:World} {K:W.Frag} {mg:Str->Option Value} {base:Heap} {N:List Str} {qual:Str} {scope:Scope} {f:Addr} {cd:Value} {A:Around} {outer:List Env} {s0:Shared} {H0:Hp} {E:XK}
 {x:Str} {C fI:Addr} {np cpos pos:Pos} {e:Expr} {es:List Expr} {t:TA} {k:Nat} {fd:FuncData} {ps:List Str} {sp:Sp}
theorem ps_raiseD (M:MkX K C fI) (F:FnOk P w K mg base CX0 k fI fd ps sp) (hr:Room (k+1) (cxOf (XD P w) P w K mg base N qual scope f cd A outer s0 H0 E).A) (hb:Binds K fd ps []) (hm:mg x=some (.ref C)) (hg:Gl (cxOf (XD P w) P w K mg base N qual scope f cd A outer s0 H0 E) x)
  (ha:PA (cxOf (XD P w) P w K mg base N qual scope f cd A outer s0 H0 E) (e :: es) t) (hdb:(x == ("__debug__":Str))=false:=by decide)
  (he:starEach (e :: es) (cxOf (XD P w) P w K mg base N qual scope f cd A outer s0 H0 E).env=(false,eval e (cxOf (XD P w) P w K mg base N qual scope f cd A outer s0 H0 E).env) :: starEach es (cxOf (XD P w) P w K mg base N qual scope f cd A outer s0 H0 E).env:=by rfl)
  (hpl:(backTo cpos (starEach es (cxOf (XD P w) P w K mg base N qual scope f cd A outer s0 H0 E).env)).any (·.1)=false:=by rfl) :
  PS (cxOf (XD P w) P w K mg base N qual scope f cd A outer s0 H0 E) (.Raise (some (.Call (.Name x np) (e :: es) [] cpos)) none pos) (tRaiseD C sp E t):=by
 intro pins s σ H D I h
 obtain ⟨bm,Nn,nm,qn,bs,hdct,sn,sub,ab,col,dd,k0,k1,k2,k3,k5,mN,hC,hN,hni,TL⟩:=exc_objI I.mod.kin M.ex
 have hpl':(backTo cpos (starEach (e :: es) (cxOf (XD P w) P w K mg base N qual scope f cd A outer s0 H0 E).env)).any (·.1)=false:=by
  rw [he]
  show (false || (backTo cpos (starEach es _)).any (·.1))=false
  rw [hpl]
  rfl
 refine Raise_laid (C:=C) (nm:=nm) (q:=qn) (N:=Nn) (bs:=bs) (bm:=bm) (hdct:=hdct) (sn:=sn) (sub:=sub) (ab:=ab) (col:=col) (dd:=dd) (k0:=k0) (k1:=k1) (k2:=k2) (k3:=k3) (k5:=k5)
  (TL.hasType PySem.F.excBase_ValueError.hasBase) (I.ok.hd rfl) hpl' (ld_glob I hg hm ⟨rfl,?_⟩ hdb)
 have h2:=ha cpos pins s σ H _ I h
 rw [he] at h2 ⊢
 refine Calls.evalArgs_plain (wpAny_mono h2 (fun us s1 ⟨vs,H1,I1,r,z,q⟩=>⟨rfl,I1.bk _ _ hC,?_⟩) fun _ _ y=>y)
 have xe0:Passes CX0 (cxOf (XD P w) P w K mg base N qual scope f cd A outer s0 H0 E) E0:=pass0
 refine wpAny_mono (run_excmake (QQ:=fun e H2=>∃ dx,H2 e=some (.ext (ExcL C e dx))/\E (.ref C) (some dx) (without H2 e)) M F hr hb xe0 I1 r (by rw [<- r.length]; exact z) q) (fun v s3 z3=>?_) fun _ _ y=>y
 obtain ⟨e',H',rfl,I3,nn,dx,hH,hE⟩:=z3
 obtain ⟨⟨a,hl⟩,_,_⟩:=(show ObjOk P w H' s3.heap e' (.ext (ExcL C e' dx)) from I3.hok e' _ hH)
 have h0:s0.heap.get? e'=none:=by
  cases q0:s0.heap.get? e' with
  | none=>rfl
  | some o=>
   have u0:Un (frs outer) [] H0 H1 s0.heap s1.heap:=I1.base
   obtain ⟨o1,q1⟩:=u0.there e' o q0 (by simp)
   rw [nn] at q1; cases q1
 exact ⟨e',a,dx,rfl,I3.bk _ _ hC,hl,raise_xeD I3 hH h0 hE⟩
end
end L2
namespace L2
open PySem PySem.Spec PyProof.Rows PySem.W PySem.Calls
section
variable {X:Cx} {pins:List (Addr × Obj)} {σ:St} {H H':Hp} {s s':Shared} {cls:Value} {ea C dx:Addr} {B h':Heap} {t':Nat}
theorem FlyX.unF (x:FlyX X.prog X.w X.stack H s cls dx ea B H' s') (k:B.StaysIn h') (ups:s'.heap.UpToSlots h'):Un (frs X.stack) [] H H' s.heap h':=
 x.un.onward (fun b o q nb old=>k b o (x.cov b o q nb (.inr old))) fun b o q hb old=>by
  obtain ⟨_,o',ho',nf⟩:=x.fly.frm.mem hb
  rw [q] at ho'; cases ho'
  exact ups b o q nf
theorem FlyX.hokF (x:FlyX X.prog X.w X.stack H s cls dx ea B H' s') (k:B.StaysIn h'):HOk X.prog X.w H' h':=
 x.hok.onward fun b o hb q=>k b o (x.cov b o q (fun z=>hb (x.frf b z)) (.inl hb))
theorem Inv.landed0 (I:Inv X pins σ H s) (x:FlyX X.prog X.w X.stack H s cls dx ea B H' s') (k:B.StaysIn h') (ups:s'.heap.UpToSlots h'):Inv X pins σ H' { s' with heap:=h',toks:=t' }:=
 I.call' (s':={ s' with heap:=h',toks:=t' }) (ch:=[]) x.os (x.unF k ups) (x.hokF k) x.bare fun b z=>absurd z (by simp)
theorem okD {P:Program} {w:World} {H:Hp} {h:Heap} {C e dx:Addr} (he:ExcD C e dx h):ObjOk P w H h e (.ext (ExcD C e dx)):=⟨he,let ⟨o,a,_⟩:=he; ⟨o,a⟩,fun _ _ ⟨o,a,b⟩ k=>⟨o,k _ a,b⟩⟩
end
section
variable {X:Cx} {k:Nat} {f C fI:Addr} {fd:FuncData} {ps:List Str} {sp:Sp} {g x n y c:Str} {p pos pos3 np hpos yp cp tp ap:Pos} {e:Expr} {es:List Expr} {t:TA} {ts:TS} {b₀:Stmt} {suite:List Stmt} {i iy:Nat} {cj tk}
end
end L2
namespace L2
open PySem PySem.Spec PyProof.Rows PySem.W PySem.Calls
def HasI (P:Program) (w:World) (K:W.Frag) (mg:Str->Option Value) (base:Heap) (k:Nat) (f:Addr) (ps:List Str) (sp:Sp):Prop:=∃ fd:FuncData,FnOk P w K mg base CX0 k f fd ps sp/\Binds K fd ps []
def spIni (C:Addr) (f:Str):Sp:=fun vs H Q _=>∃ (e:Addr) (v:V),vs=[.ref e,v]/\H e=some (.ext (ExcN C e))/\∀ (dx:Addr) (H':Hp),H' e=some (.ext (ExcL C e dx))->H' dx=some (.xd [(f,v)])->(∀ b o,b ≠ e->H b=some o->H' b=some o)->Q .non H'
end L2
namespace L2
open PySem PySem.Spec PyProof.Rows
section
variable {P:Program} {w:World} {K:W.Frag} {mg:Str->Option Value} {base:Heap}
end
section
variable {X:Cx} {k:Nat} {f:Addr} {fd:FuncData} {ps:List Str} {sp:Sp} {dvs:List V} {ds:List Value} {x:Str} {p pos:Pos} {e:Expr} {es:List Expr} {t:TA}
end
abbrev Cx.markS (X:Cx) (e:Addr) (o:Obj) (u:HO):Cx:={ X with A:=X.A.mark (some (.ref e)),calm:=false,still:=true,fz:=(e,o,u) :: X.fz,xe:=fun _ _=>False }
section
variable {X:Cx} {pins:List (Addr × Obj)} {σ:St} {H H':Hp} {s s':Shared} {e:Addr} {o:Obj} {u:HO} {vs:Array Value}
theorem Inv.markS (I:Inv X pins σ H s) (h:H e=some (.frz o u)) (hd:o.data=.fields vs) (h2:vs[2]?=some .none):Inv (X.markS e o u) pins σ H s:=
 have ok:=I.ok
 ⟨⟨ok.mod,ok.kind,ok.glob,ok.blt,ok.above,ok.inj,ok.has,ok.cab,(fun h=>by cases h),(fun _=>.inr ⟨e,o,u,vs,rfl,List.mem_cons_self ..,hd,h2⟩),ok.frames,ok.stk,ok.exf,ok.bs,ok.bsz,ok.noex,ok.exfs,ok.funs,ok.frf⟩,
  fun p hp=>(List.mem_cons.mp hp).elim (fun z=>by rw [z]; exact h) (I.fzs p),I.os,I.bare,I.base,I.loc,I.cell,I.free,I.freeC,I.pin,I.hok,I.len⟩
theorem Inv.unmarkS (ok:X.Ok) (I:Inv (X.markS e o u) pins σ H s):Inv X pins σ H s:=⟨ok,fun p hp=>I.fzs p (List.mem_cons_of_mem _ hp),I.os,I.bare,I.base,I.loc,I.cell,I.free,I.freeC,I.pin,I.hok,I.len⟩
end
end L2
namespace L2
open PySem PySem.Spec PyProof.Rows PySem.W PySem.Calls
def Mat (P:Program) (w:World) (K:Frag) (C D:Addr) (b:Bool):Prop:=∀ (A:Around) (h:Heap) (g:Array GenState) (d:Drawn) (t:Nat) (os:OsState) (ea:Addr) (ob:Obj) (Q:Bool->Shared->Prop) (E:Value->Shared->Prop),
 K.In h->h.get? ea=some ob->ob.cls=.ref C->Q b ⟨h,g,d,t,os⟩->wpAny (model P w) A (excMatches (.ref ea) (.ref D)) Q E ⟨h,g,d,t,os⟩
theorem exc_objI2 {v:Value} {K:Frag} {h:Heap} {C fI:Addr} (X:K.In h) (q:excInB K C fI=true) (em:W.mroIn K C v=some true) :
  ∃ bm N nm qn bs hdct sn sub ab col dd k0 k1 k2 k3 k5,h.get? C=some (excClassObj nm qn C N bs bm hdct sn sub ab col dd k0 k1 k2 k3 k5 "ValueError.__new__")/\(Value.ref C :: bm).contains v=true:=by
 unfold excInB at q
 split at q
 ·rename_i dd cd sl ho
  split at q
  ·rename_i C' bm k0 k1 k2 k3 n k5 hm hs
   have hin:cd.mro.contains v=true:=by
    unfold W.mroIn W.clsIn at em
    rw [ho] at em
    obtain ⟨cd',a,b⟩:=Option.bind_eq_some_iff.mp em
    cases a
    split at b
    ·cases b
    ·exact Option.some.inj b
   rw [hm] at hin
   simp only [Bool.and_eq_true,beq_iff_eq,Bool.not_eq_true'] at q
   obtain ⟨⟨⟨⟨⟨c1,c2⟩,c3⟩,c4⟩,c5⟩,c6⟩:=q
   subst c1 c2
   obtain ⟨nm,bs,mro,ns,qn,hd,sn,sub,ab,col,del⟩:=cd
   dsimp only at hm c3 c5 c6
   subst hm c3
   obtain ⟨l⟩:=sl
   have hs':l=[k0,k1,k2,k3,some (.builtin "ValueError.__new__"),k5]:=hs
   subst hs'
   exact ⟨bm,ns,nm,qn,bs,hd,sn,sub,ab,col,dd,k0,k1,k2,k3,k5,X _ _ ho,hin⟩
  ·cases q
 ·cases q
theorem mat_up {P:Program} {w:World} {K:Frag} {C D fI:Addr} (hq:excInB K C fI=true) (hqD:W.excIn K D bmVE "ValueError.__new__"=true) (hcd:W.mroIn K C (.ref D)=some true):Mat P w K C D true:=by
 intro A h g d t os ea ob Q E X hob hc q
 obtain ⟨bm,Nn,nm,qn,bs,hdct,sn,sub,ab,col,dd,k0,k1,k2,k3,k5,hC,hin⟩:=exc_objI2 X hq hcd
 obtain ⟨bm',Nn',nm',qn',bs',hdct',sn',sub',ab',col',dd',j0,j1,j2,j3,j5,mN',hD,hNs',hni',TL'⟩:=exc_obj X hqD
 exact excMatches_up hC hD hob hc (TL'.hasType PySem.F.excBase_ValueError.hasBase) hin q
section
variable {X:Cx} {pins:List (Addr × Obj)} {σ:St} {H H':Hp} {s s':Shared} {cls:Value} {ea C dx:Addr} {B h':Heap} {t':Nat}
theorem Inv.landedS (I:Inv X pins σ H s) (x:FlyX X.prog X.w X.stack H s (.ref C) dx ea B H' s') {l:List Env} {fl:Value} (f2:FlyAt B l ea (.ref C) (some dx) fl h') (ups:s'.heap.UpToSlots h') :
  ∃ (oe:Obj) (vs:Array Value),oe.data=.fields vs/\vs[2]?=some .none/\Inv X pins σ (upd H' ea (.frz oe (.ext (ExcD C ea dx)))) { s' with heap:=h',toks:=t' }:=by
 obtain ⟨oe,vs,_,_,_,he,⟨hc,hx⟩,hd,_,h2,_⟩:=f2.tr
 have at_:ExcD C ea dx h':=⟨oe,he,hc,hx,by unfold W.notCls; rw [hd]⟩
 exact ⟨oe,vs,hd,h2,I.call' (s':={ s' with heap:=h',toks:=t' }) (ch:=[]) x.os ((x.unF f2.stays ups).more x.hs x.he) ((x.hokF f2.stays).more x.he ⟨he,okD at_⟩) x.bare fun b z=>absurd z (by simp)⟩
theorem handle_S {D:Ends} {ts:TS} {x n:Str} {np hpos:Pos} {b₀:Stmt} {suite:List Stmt} {rest:List ExceptHandler} {i:Nat} {Dc:Addr} (I:Inv X pins σ H s) (fly:FlyX X.prog X.w X.stack H s (.ref C) dx ea B H' s') (hst:X.stack=X.env :: X.outer) (hf:X.env.frame=some X.env.locals)
  (hm:X.mg x=some (.ref Dc)) (hg:Gl X x) (hmat:Mat X.prog X.w X.K C Dc true) (hN:X.N.Nodup) (hi:X.N[i]?=some n) (hk:X.env.scope.names.lookup n=some .local)
  (hsu:∀ o u,PSs (X.markS ea o u) (b₀ :: suite) ts) (h:∀ o,ts (asEnds D i) (σ.set i (some (.ref ea))) (upd H' ea (.frz o (.ext (ExcD C ea dx))))) (hdb:(x == ("__debug__":Str))=false) :
  wpAny (model X.prog X.w) X.A (noteFrame (.ref ea) X.env) (fun _ s₂=>wpAny (model X.prog X.w) X.A (setFlight (.ref ea) none) (fun _ s₃=>
   wpAny (model X.prog X.w) X.A (handleBy (.ref ea) X.env (.ExceptHandler (some (.Name x np)) (some n) (b₀ :: suite) hpos :: rest)) (SP X pins D) X.xe s₃) X.xe s₂) X.xe s':=by
 obtain ⟨hp,gs,dr,tk,os⟩:=s'
 have fr:X.A.frames=some (X.env :: X.outer):=by rw [<- hst]; exact I.ok.frames
 have fl:FlyAt B (X.env :: X.outer) ea (.ref C) (some dx) .none hp:=by rw [<- hst]; exact fly.fly
 refine noteNextD fr hf fl fun h4 held4 u4=>?_
 refine landD held4 fun h5 fl5 u5=>?_
 have I5:Inv X pins σ H' ⟨h5,gs,dr,tk,os⟩:=I.landed0 (t':=tk) fly fl5.stays (u4.trans u5)
 obtain ⟨ob,hob,hobc,_⟩:=fl5.there
 refine wpAny_handleBy_cons (codeAny_handlers_test (ld_glob (I5.marked ea) hg hm ?_ hdb)) (by intro q; cases q)
 refine hmat _ _ _ _ _ _ _ _ _ _ I5.kIn hob hobc ?_
 refine codeAny_handlers_suite_as ?_
 refine landD fl5 fun h6 fl6 u6=>?_
 obtain ⟨oe,vs,hd,h2,I6⟩:=I.landedS (t':=tk) fly fl6 ((u4.trans u5).trans u6)
 refine store_ok (X:=X.markS ea oe (.ext (ExcD C ea dx))) (i:=i) (v:=.ref ea) (I6.markS upd_same hd h2) hN hi (.inl hk) rfl (fun s7 I7=>?_) (.inr hk)
 refine wpAny_mono (hsu _ _ pins s7 _ _ _ I7 (h oe)) (fun fw s8 q=>?_) fun _ _ z=>False.elim z
 cases fw with
 | next=>
  obtain ⟨σ2,H2,J,q⟩:=q
  exact unbind_ok (J.unmarkS I.ok) hN hi hk fun s9 J9=>⟨_,_,J9,q⟩
 | ret v=>
  obtain ⟨v',σ2,H2,J,r,q⟩:=q
  exact unbind_ok (J.unmarkS I.ok) hN hi hk fun s9 J9=>⟨v',_,_,J9,r,q⟩
 | brk=>
  obtain ⟨σ2,H2,J,q⟩:=q
  exact unbind_ok (J.unmarkS I.ok) hN hi hk fun s9 J9=>⟨_,_,J9,q⟩
 | cont=>
  obtain ⟨σ2,H2,J,q⟩:=q
  exact unbind_ok (J.unmarkS I.ok) hN hi hk fun s9 J9=>⟨_,_,J9,q⟩
end
section
variable {X:Cx} {k:Nat} {f C Dc:Addr} {fd:FuncData} {ps:List Str} {sp:Sp} {g x n:Str} {p pos pos2 pos3 np hpos:Pos} {e:Expr} {es:List Expr} {t:TA} {ts:TS} {b₀:Stmt} {suite:List Stmt} {i:Nat}
end
def tXFldS (K:Frag) (ta:TE) (f:Str):TE:=fun σ H Q=>ta σ H fun x H1=>∃ e C dx fs v,x=.ref e/\Rd H1 e (.ext (ExcD C e dx))/\H1 dx=some (.xd fs)/\ExcFld K C f/\fs.lookup f=some v/\Q v H1
theorem pe_xfldS {X:Cx} {e:Expr} {f:Str} {pos:Pos} {ta:TE} (K:W.Frag) (he:PE X e ta) (hb:attributeBase e f X.env (eval e X.env)=eval e X.env:=by rfl) (hK:X.K=K:=by rfl):PE X (.Attribute e f pos) (tXFldS K ta f):=by
 subst hK
 intro pins s σ H Q I h
 refine attr_of hb (thn (he pins s σ H _ I h) fun u s1 ⟨x,H1,I1,rx,ea,C,dx,fs,v,ex,h1,h2,T,l,q⟩=>?_)
 subst ex
 obtain rfl:u=Value.ref ea:=rx
 obtain ⟨at_,_,_⟩:=h1.ok I1.hok
 obtain ⟨mA,ns,r⟩:=(show ObjOk X.prog X.w H1 s1.heap dx (.xd fs) from I1.hok dx _ h2)
 obtain ⟨u,hu,ru⟩:=RelO.some_of (v:=v) (o:=mA f) (by rw [<- l]; exact r f)
 exact own_field I1.kIn T at_ ns.ns hu (W.handedOut_of (handed_of ru)) ⟨v,H1,I1.tok _,ru,q⟩
inductive TyS (K:W.Frag) (H:Hp):V->Value->Prop where
 | of {x:V} {t:Value} (h:TyX K H x t):TyS K H x t
 | exc {e C dx:Addr} (T:ExcCls K C) (h:Rd H e (.ext (ExcD C e dx))):TyS K H (.ref e) (.ref C)
def rIsiS (K:W.Frag):List V->Hp->VK->Prop:=fun xs H Q=>∃ x c t b,xs=[x,c]/\((∃ a,c=.ref a)\/∃ n,c=.ty n)/\TyS K H x t/\W.kitOne K t (valOf c)=some b/\Q (.bl b) H
theorem call_isiS {X:Cx} {K:W.Frag} (hK:X.K=K):CallR X (.builtin "isinstance") (rIsiS K):=by
 subst hK
 intro pins s σ H xs us Q I rv h
 obtain ⟨x,c,t,b,rfl,hc,ty,e,q⟩:=h
 cases ty with
 | of ty=>exact call_isi pins s σ H _ us Q I rv ⟨x,c,t,b,rfl,hc,ty,e,q⟩
 | @exc ea C dx T he=>
  obtain ⟨u,uc,rfl,ru,rc⟩:=rv.two
  have huc:uc=valOf c:=by
   rcases hc with ⟨a,rfl⟩ | ⟨n,rfl⟩
   ·exact rc
   ·exact rc
  subst huc
  have ru':u=Value.ref ea:=ru
  subst ru'
  obtain ⟨p,_,_⟩:=he.ok I.hok
  exact W.kia_one (kitx_exc T) I.kIn p.exc e (fun z=>nomatch z) fun tk=>⟨.bl b,H,I.tok tk,rfl,q⟩
end L2
namespace L2
open PySem PySem.Spec PyProof.Rows PySem.W PySem.Calls
def XB (P:Program) (w:World):CXT:=fun outer H s E e s'=>XD P w outer H s E e s'\/XF P w outer H s E e s'
theorem FnOk.up {P:Program} {w:World} {K:Frag} {mg:Str->Option Value} {base:Heap} {CX CX':CXT} {k:Nat} {f:Addr} {fd:FuncData} {ps:List Str} {sp:Sp} (F:FnOk P w K mg base CX k f fd ps sp) (hi:∀ outer H s E e s',CX outer H s E e s'->CX' outer H s E e s'):FnOk P w K mg base CX' k f fd ps sp:=
 ⟨F.len,fun A outer s H args us vs Q E hr e0 hb hv hs=>codeAny_mono (F.run A outer s H args us vs Q E hr e0 hb hv hs) fun r s' h=>by
  cases r with
  | ok fl=>cases fl <;> exact h
  | error e=>exact hi _ _ _ _ _ _ h⟩
section
variable {P:Program} {w:World} {K:W.Frag} {mg:Str->Option Value} {base:Heap} {N:List Str} {qual:Str} {scope:Scope} {f:Addr} {cd:Value} {A:Around} {outer:List Env} {s0:Shared} {H0:Hp} {E:XK} {CX CX':CXT} {st:Stmt} {t:TS}
theorem PS.up (h:PS (cxOf CX P w K mg base N qual scope f cd A outer s0 H0 E) st t) (hi:∀ outer H s E e s',CX outer H s E e s'->CX' outer H s E e s'):PS (cxOf CX' P w K mg base N qual scope f cd A outer s0 H0 E) st t:=fun pins s σ H D I hw=>
 wpAny_mono (h pins s σ H D (I.wish _) hw) (fun _ _ q=>q.unwish) fun e s' z=>wpAny_mono z (fun _ s'' y=>hi _ _ _ _ _ _ y) fun e' s'' y=>hi _ _ _ _ _ _ y
theorem passB:Passes (XB P w) (cxOf (XB P w) P w K mg base N qual scope f cd A outer s0 H0 E) E:=by
 rintro pins σ H s e s' I (h | h)
 ·have z:=passD (E:=E) pins σ H s e s' (I.wish _) h
  exact wpAny_mono z (fun _ s'' y=>.inl y) fun e' s'' y=>.inl y
 ·have z:=passX (E:=E) pins σ H s e s' (I.wish _) h
  exact wpAny_mono z (fun _ s'' y=>.inr y) fun e' s'' y=>.inr y
theorem Fun.okB {x qual:Str} {st:Stmt} {f:Addr} {fd:FuncData} {N ps:List Str} {k:Nat} {sp:Sp} (F:Fun K x qual st f fd) (S:FnScope N ps (defScope st)) (len:∀ vs H Q E,sp vs H Q E->vs.length=ps.length)
  (hbody:∀ (cdv:Value) (A:Around) (outer:List Env) (s:Shared) (H:Hp) (vs:List V) (Q:VK) (E:XK),Room k (A.deeper (envOfC qual (defScope st) s.heap.objs.size f cdv))->sp vs H Q E ->
   ∃ t,PSs (cxOf (XB P w) P w K mg base N qual (defScope st) f cdv A outer s H E) (defBody st) t/\t { nx:=fun _ H'=>Q .non H',rt:=Q } (start N vs) H):FnOk P w K mg base (XB P w) (k+1) f fd ps sp:=by
 obtain ⟨oc,od,kV,doc,pm,an,cdv,ct,osl,rfl,lk,hcd⟩:=F.ex
 exact fn_of lk hcd S len fun A outer s H vs Q E hr hsp=>hbody cdv A outer s H vs Q E hr hsp
end
section
variable {M:Model} {A:Around} {E:Value->Shared->Prop}
variable {nm q nm' q':Str} {C N D N':Addr} {bs bm bs' bm':List Value} {hdct hdct':Bool} {sn sn':List Str} {sub sub':List Value} {ab ab':Bool} {col col':Option Bool} {dd dd':Option Addr} {k0 k1 k2 k3 k5 j0 j1 j2 j3 j5:Option Value} {newId newId':String}
end
section
variable {X:Cx} {pins:List (Addr × Obj)} {σ:St} {H H':Hp} {s s':Shared} {cls a0:Value} {ea C:Addr} {B h':Heap} {t':Nat}
end
section
variable {X:Cx} {k:Nat} {f C1 C2 fI:Addr} {fd:FuncData} {ps:List Str} {sp:Sp} {g x1 x2 n y:Str} {p pos pos3 np1 hpos1 np2 hpos2 yp ap:Pos} {e:Expr} {es:List Expr} {t:TA} {ts1 ts2:TS} {b1 b2:Stmt} {su1 su2:List Stmt} {i iy:Nat}
end
end L2
namespace L2
open PySem PySem.Spec PyProof.Rows PySem.W PySem.Calls
def tTryU (sp:Sp) (C1 C2 C3:Addr) (iy i:Nat) (ta:TA) (ts1 ts2:TS):TS:=fun D σ H=>ta σ H fun vs H1=>sp vs H1 (fun v H2=>D.nx (σ.set iy (some v)) H2)
 fun cls od H2=>(∃ dx,od=some dx/\cls=.ref C1/\∀ e o,H2 e=none->ts1 (asEnds D i) (σ.set i (some (.ref e))) (upd H2 e (.frz o (.ext (ExcD C1 e dx)))))\/(od=none/\∃ C,(C=C2\/C=C3)/\cls=.ref C/\∀ e,H2 e=none->ts2 (asEnds D i) (σ.set i (some (.ref e))) (upd H2 e (.ext (ExcAt C e))))
section
variable {X:Cx} {k:Nat} {f C1 C2 C3 Dc fI:Addr} {fd:FuncData} {ps:List Str} {sp:Sp} {g x n y:Str} {p pos pos3 np hpos yp ap:Pos} {e:Expr} {es:List Expr} {t:TA} {ts1 ts2:TS} {b₀:Stmt} {suite:List Stmt} {i iy:Nat}
theorem ps_tryU (F:FnOk X.prog X.w X.K X.mg X.base (XB X.prog X.w) k f fd ps sp) (hr:Room k X.A) (hgf:Gl X g) (hmf:X.mg g=some (.ref f)) (hkf:W.keepIn X.K (.ref f)=true) (hb:Binds X.K fd ps []) (ha:PA X.nox (e :: es) t)
  (hm:X.mg x=some (.ref Dc)) (hg:Gl X x) (hqD:W.excIn X.K Dc bmVE "ValueError.__new__"=true) (hq1:excInB X.K C1 fI=true) (hu1:W.mroIn X.K C1 (.ref Dc)=some true)
  (hq2:W.excIn X.K C2 bmVE "ValueError.__new__"=true) (hu2:W.mroIn X.K C2 (.ref Dc)=some true) (hq3:W.excIn X.K C3 bmVE "ValueError.__new__"=true) (hu3:W.mroIn X.K C3 (.ref Dc)=some true)
  (hN:X.N.Nodup) (hi:X.N[i]?=some n) (hk:X.env.scope.names.lookup n=some .local) (hiy:X.N[iy]?=some y) (hky:X.env.scope.names.lookup y=some .local)
  (hsu1:∀ ea o u,PSs (X.markS ea o u) (b₀ :: suite) ts1) (hsu2:∀ ea,PSs (X.marked ea) (b₀ :: suite) ts2)
  (hst:X.stack=X.env :: X.outer:=by rfl) (hf:X.env.frame=some X.env.locals:=by rfl)
  (hdf:(g == ("__debug__":Str))=false:=by decide) (hdb:(x == ("__debug__":Str))=false:=by decide)
  (he:starEach (e :: es) X.env=(false,eval e X.env) :: starEach es X.env:=by rfl) (hpl:(backTo pos (starEach es X.env)).any (·.1)=false:=by rfl)
  (hsw:swapsWith (.Call (.Name g p) (e :: es) [] pos) (some (.Name y yp)) ap.line X.env=pure false:=by rfl) :
  PS X (.Try [.Assign [.Name y yp] (.Call (.Name g p) (e :: es) [] pos) ap] [.ExceptHandler (some (.Name x np)) (some n) (b₀ :: suite) hpos] [] [] pos3) (tTryU sp C1 C2 C3 iy i t ts1 ts2):=by
 intro pins s σ H D I h
 refine wpAny_Try_except (wpAny_execs_cons (wpAny_Assign_Name ?_ hsw))
 refine wpAny_Call_Name_kw (ld_glob I hgf hmf ?_ hdf)
 refine W.callWith_K (h₀:=X.base) I.ok.mod.kin hkf (wpAny_mono (ha pos pins s σ H _ (I.wish _) h) (fun us s1 ⟨vs,H1,I1,r,q⟩=>⟨I1.unwish.kIn,?_⟩) fun _ _ z=>z.elim) he hpl
 have J:=I1.unwish
 have hl:us.length=ps.length:=by rw [<- r.length]; exact F.len _ _ _ _ q
 have hb':=hb s1 us J.kIn (by rw [List.append_nil]; exact hl)
 rw [List.append_nil] at hb'
 refine wpAny_call (codeAny_mono (F.run X.A X.stack s1 H1 ⟨us,[]⟩ us vs _ _ hr J.env0 hb' r q) fun rr s' hq'=>?_)
 cases rr with
 | error ex=>
  rcases hq' with ⟨ea,cls,dx,B,H',rfl,fly,hh⟩ | ⟨ea,cls,a0,B,H',rfl,fly,hh⟩
  ·rcases hh with ⟨dx',hdx,hcl,hh⟩ | ⟨hdx,_⟩
   ·cases hdx
    subst hcl
    exact handle_S J fly hst hf hm hg (mat_up hq1 hqD hu1) hN hi hk (hsu1 ea) (fun o=>hh ea o fly.he) hdb
   ·cases hdx
  ·rcases hh with ⟨dx',hdx,_⟩ | ⟨_,C,hC,hcl,hh⟩
   ·cases hdx
   ·subst hcl
    have hq:W.excIn X.K C bmVE "ValueError.__new__"=true:=by rcases hC with rfl | rfl <;> assumption
    have hu:W.mroIn X.K C (.ref Dc)=some true:=by rcases hC with rfl | rfl <;> assumption
    exact handle_as2 J fly hst hf hm hg hq hqD hu hN hi hk (hsu2 ea) (hh ea fly.new.2) hdb
 | ok fl=>
  cases fl with
  | ret u=>
   obtain ⟨v,H2,I2,r2,q2⟩:=J.after hq'
   exact store_ok I2 hN hiy (.inl hky) r2 (fun s5 I5=>wpAny_execs_nil (wpAny_execs_nil ⟨_,_,I5,q2⟩)) (.inr hky)
  | next=>exact False.elim hq'
  | brk=>exact False.elim hq'
  | cont=>exact False.elim hq'
end
def Cau (H:Hp) (e C:Addr):Prop:=(∃ dx,Rd H e (.ext (ExcD C e dx)))\/H e=some (.ext (ExcAt C e))
theorem Cau.ty {K:W.Frag} {H:Hp} {e C:Addr} (h:Cau H e C) (T:ExcCls K C):TyS K H (.ref e) (.ref C):=h.elim (fun ⟨_,r⟩=>.exc T r) fun r=>.of (.exc T r)
theorem Rd.same {H H':Hp} {e:Addr} {u:HO} (h:Rd H e u) (g:Same H H'):Rd H' e u:=h.elim (fun r=>.inl (g _ _ r)) fun ⟨o,r⟩=>.inr ⟨o,g _ _ r⟩
theorem Cau.same {H H':Hp} {e C:Addr} (h:Cau H e C) (g:Same H H'):Cau H' e C:=h.elim (fun ⟨dx,r⟩=>.inl ⟨dx,r.same g⟩) fun r=>.inr (g _ _ r)
def tIsiS (C0:Addr) (bs:List Bool):TA:=fun σ H Q=>∃ a,σ[0]?=some (some (V.ref a))/\Cau H a C0/\Q (bs.map V.bl) H
theorem pa_isiS {X:Cx} {C0:Addr} (T:ExcCls X.K C0) (h1:X.N[0]?=some ("_law_e":Str)) (h2:Vis X.env.scope "_law_e") (h3:Gl X "isinstance") (h4:X.mg "isinstance"=none) (hb:bootBuiltins "isinstance"=some (.builtin "isinstance")) {es:List Expr} {bs:List Bool} (h:IsiE X C0 es bs):PA X es (tIsiS C0 bs):=by
 induction h with
 | nil=>
  intro pos pins s σ H Q I q
  obtain ⟨a,e1,e2,q⟩:=q
  exact pa_nil pos pins s σ H Q I q
 | @cons x C b p p2 p3 p4 es bs h5 h6 h7 k h ih=>
  intro pos pins s σ H Q I q
  obtain ⟨a,e1,e2,q⟩:=q
  have z:=pa_cons (e:=.Call (.Name "isinstance" p) [.Name "_law_e" p2,.Name x p3] [] p4) (pe_callB (call_isiS rfl) h3 h4 hb (pa_cons (pv 0 h1 h2) (pa_cons (pe_glob (v:=V.ref C) h5 h6 rfl h7) pa_nil))) ih
  exact z pos pins s σ H Q I ⟨_,e1,_,_,_,_,rfl,.inl ⟨_,rfl⟩,e2.ty T,k,a,e1,e2,q⟩
end L2
namespace L2
open PySem PySem.Spec PyProof.Rows
theorem isl {h:Heap} {a:Addr} {us:Array Value} (p:PlainL h a us):h.IsList a us:=by
 obtain ⟨o,n,e,c,_,d⟩:=p
 exact ⟨o,e,c,n,d⟩
section
variable {P:Program} {w:World} {A:Around} {E:Value->Shared->Prop} {s:Shared}
structure ZL (z TI TO j1 j2 a1 a2:Addr) (us vs:Array Value) (i:Nat) (f0:Value) (h:Heap):Prop where
 zip:IsZip h z TI TO f0
 its:IsPair h TI (.ref j1) (.ref j2)
 to:∃ a b,IsPair h TO a b
 i1:h.IsListIter j1 a1 i
 i2:h.IsTupleIter j2 a2 i
theorem zl_item {z TI TO j1 j2 a1 a2:Addr} {us vs:Array Value} {i:Nat} {u v:Value} {Q:Value->Shared->Prop} (D:ZipApart z TI TO j1 j2 a1 a2) (Z:ZL z TI TO j1 j2 a1 a2 us vs i .none s.heap)
  (t1:s.heap.IsList a1 us) (t2:s.heap.IsTuple a2 vs) (eu:us[i]?=some u) (ev:vs[i]?=some v)
  (q:∀ h',ZL z TI TO j1 j2 a1 a2 us vs (i+1) (rawInt s.heap.objs.size) h'->IsPair h' s.heap.objs.size u v->h'.objs.size=s.heap.objs.size+1 ->
   (∀ c o,c ≠ z->c ≠ TO->c ≠ j1->c ≠ j2->s.heap.get? c=some o->h'.get? c=some o)->Q (.ref s.heap.objs.size) { s with heap:=h' }) :
  wpAny (model P w) A (Builtin.«zip.__next__» ⟨[.ref z],[]⟩) (fun fin s'=>∃ v,fin=.done (.ret v)/\Q v s') E s:=by
 obtain ⟨hz,hI,⟨p1,p2,hO⟩,y1,y2⟩:=Z
 show wpAny _ _ (field (.ref z) (1+1) >>= _) _ _ _
 refine wpAny_bind (wpAny_field hz rfl (x:=.bool false) rfl ?_); show wpAny _ _ (field (.ref z) (2+1) >>= _) _ _ _
 refine wpAny_bind (wpAny_field hz rfl (x:=.ref TI) rfl (wpAny_bind (wpAny_seqItems hI rfl ?_)))
 refine wpAny_bind (m:=Builtin.SmallTypes.ownedTupleIsFree (.ref z)) ?_
 unfold Builtin.SmallTypes.ownedTupleIsFree; refine wpAny_bind (wpAny_field hz rfl (x:=.none) rfl (wpAny_pure ?_))
 simp only [if_true]
 refine wpAny_bind (wpAny_rule (wpAny_bind (wpAny_field hz rfl (x:=.ref TO) rfl ?_)))
 refine wpAny_bind (wpAny_setField_rec hz (by simp) fun w1 hz1 b1=>?_)
 replace hz1:IsZip w1 z TI TO .ellipsis:=hz1
 refine wpAny_bind ?_
 simp only [List.zipIdx_cons,List.zipIdx_nil,List.forIn_cons,List.forIn_nil]; refine wpAny_bind (wpAny_bind (wpAny_onRaise ?_))
 refine wpAny_bind (m:=Builtin.SmallTypes.nextOf (.ref j1)) (wpAny_nextOf_list_item (y1.extBut b1.extBut D.i1z) (t1.extBut b1.extBut D.l1z) eu fun w2 y12 b2=>wpAny_pure ?_)
 have hO2:IsPair w2 TO p1 p2:=b2.extBut _ _ D.TOi1 (b1.extBut _ _ D.TOz hO)
 refine wpAny_bind (wpAny_seqItems hO2 rfl (wpAny_bind (wpAny_updateSeq_pair hO2 fun w3 hO3 b3=>?_)))
 replace hO3:IsPair w3 TO u p2:=hO3
 refine wpAny_bind (wpAny_letGo (wpAny_pure ?_)); refine wpAny_bind (wpAny_bind (wpAny_onRaise ?_))
 refine wpAny_bind (m:=Builtin.SmallTypes.nextOf (.ref j2)) (tnext_item (((y2.extBut b1.extBut D.i2z).extBut b2.extBut D.i12.symm).extBut b3.extBut D.TOi2.symm) (((t2.extBut b1.extBut D.l2z).extBut b2.extBut D.l2i1).extBut b3.extBut D.l2TO) ev fun w4 y24 b4=>wpAny_pure ?_)
 have hO4:IsPair w4 TO u p2:=b4.extBut _ _ D.TOi2 hO3
 refine wpAny_bind (wpAny_seqItems hO4 rfl (wpAny_bind (wpAny_updateSeq_pair hO4 fun w5 hO5 b5=>?_)))
 replace hO5:IsPair w5 TO u v:=hO5
 refine wpAny_bind (wpAny_letGo (wpAny_pure (wpAny_pure ?_))); refine wpAny_bind (wpAny_seqItems hO5 rfl (wpAny_bind (wpAny_newTuple ?_)))
 have size5:w5.objs.size=s.heap.objs.size:=by rw [b5.1,b4.1,b3.1,b2.1,b1.1]
 have hz5:IsZip w5 z TI TO .ellipsis:=b5.extBut _ _ D.TOz.symm (b4.extBut _ _ D.i2z.symm (b3.extBut _ _ D.TOz.symm (b2.extBut _ _ D.i1z.symm hz1)))
 have kept5:∀ c o,c ≠ z->c ≠ TO->c ≠ j1->c ≠ j2->s.heap.get? c=some o->w5.get? c=some o:=fun c o c1 c2 c3 c4 e=>b5.extBut _ _ c2 (b4.extBut _ _ c4 (b3.extBut _ _ c2 (b2.extBut _ _ c3 (b1.extBut _ _ c1 e))))
 have y15:w5.IsListIter j1 a1 (i+1):=((y12.extBut b3.extBut D.TOi1.symm).extBut b4.extBut D.i12).extBut b5.extBut D.TOi1.symm
 have y25:w5.IsTupleIter j2 a2 (i+1):=y24.extBut b5.extBut D.TOi2.symm
 have zlt:z < w5.objs.size:=Heap.lt_size hz5
 refine wpAny_bind (m:=Builtin.SmallTypes.ownedTupleHandOut (.ref z) (.ref w5.objs.size)) ?_
 unfold Builtin.SmallTypes.ownedTupleHandOut
 have hz6:IsZip (w5.push { cls:=.type "tuple",data:=.seq #[u,v] }) z TI TO .ellipsis:=Heap.get?_push_of_some _ hz5
 refine wpAny_bind (wpAny_setField_rec hz6 (by simp) fun w7 hz7 b7=>?_)
 replace hz7:IsZip w7 z TI TO (rawInt w5.objs.size):=hz7
 refine wpAny_setField_rec hz7 (by simp) fun w8 hz8 b8=>?_
 replace hz8:IsZip w8 z TI TO (rawInt w5.objs.size):=hz8
 have up:∀ c o,c ≠ z->w5.get? c=some o->w8.get? c=some o:=fun c o c1 e=>b8.extBut _ _ c1 (b7.extBut _ _ c1 (Heap.get?_push_of_some _ e))
 have new8:IsPair w8 w5.objs.size u v:=b8.extBut _ _ (Nat.ne_of_gt zlt) (b7.extBut _ _ (Nat.ne_of_gt zlt) (Heap.get?_push_size _ rfl))
 have size8:w8.objs.size=w5.objs.size+1:=by rw [b8.1,b7.1,Heap.size_push]
 rw [size5] at hz8 new8 size8
 refine wpAny_pure ⟨_,rfl,?_⟩
 show Q (.ref w5.objs.size) _
 rw [size5]
 exact q w8 ⟨hz8,up _ _ D.TIz (kept5 _ _ D.TIz D.TITO D.TIi1 D.TIi2 hI),⟨_,_,up _ _ D.TOz hO5⟩,(let ⟨o,e,r⟩:=y15; ⟨o,up _ _ D.i1z e,r⟩),(let ⟨o,e,r⟩:=y25; ⟨o,up _ _ D.i2z e,r⟩)⟩ new8 size8 fun c o c1 c2 c3 c4 e=>up c o c1 (kept5 c o c1 c2 c3 c4 e)
theorem zl_end {z TI TO j1 j2 a1 a2:Addr} {us vs:Array Value} {i:Nat} {Q:Fin->Shared->Prop} (ha:Still A s.heap) (nz:A.handled ≠ some (.ref z)) (nj:A.handled ≠ some (.ref j1)) (D:ZipApart z TI TO j1 j2 a1 a2) (Z:ZL z TI TO j1 j2 a1 a2 us vs i .none s.heap)
  (t1:s.heap.IsList a1 us) (eu:us[i]?=none)
  (q:∀ h' e,(∀ c o,c ≠ z->c ≠ TO->c ≠ j1->c ≠ j2->s.heap.get? c=some o->h'.get? c=some o)->(∃ o,h'.get? e=some o/\o.cls=.type "StopIteration")->E (.ref e) { s with heap:=h' }) :
  wpAny (model P w) A (Builtin.«zip.__next__» ⟨[.ref z],[]⟩) Q E s:=by
 obtain ⟨hz,hI,⟨p1,p2,hO⟩,y1,y2⟩:=Z
 show wpAny _ _ (field (.ref z) (1+1) >>= _) _ _ _
 refine wpAny_bind (wpAny_field hz rfl (x:=.bool false) rfl ?_); show wpAny _ _ (field (.ref z) (2+1) >>= _) _ _ _
 refine wpAny_bind (wpAny_field hz rfl (x:=.ref TI) rfl (wpAny_bind (wpAny_seqItems hI rfl ?_)))
 refine wpAny_bind (m:=Builtin.SmallTypes.ownedTupleIsFree (.ref z)) ?_
 unfold Builtin.SmallTypes.ownedTupleIsFree; refine wpAny_bind (wpAny_field hz rfl (x:=.none) rfl (wpAny_pure ?_))
 simp only [if_true]
 refine wpAny_bind (wpAny_rule (wpAny_bind (wpAny_field hz rfl (x:=.ref TO) rfl ?_)))
 refine wpAny_bind (wpAny_setField_rec hz (by simp) fun w1 hz1 b1=>?_)
 replace hz1:IsZip w1 z TI TO .ellipsis:=hz1
 refine wpAny_bind ?_
 simp only [List.zipIdx_cons,List.zipIdx_nil,List.forIn_cons,List.forIn_nil]; refine wpAny_bind (wpAny_bind (wpAny_onRaise ?_))
 refine wpAny_bind (m:=Builtin.SmallTypes.nextOf (.ref j1)) (lnext_end_still (ha.mono fun e o hh h=>b1.extBut _ _ (fun x=>nz (by rw [<- x]; exact hh)) h) nj (y1.extBut b1.extBut D.i1z) (t1.extBut b1.extBut D.l1z) eu fun w2 e b2 he=>?_)
 obtain ⟨oe,e1,e2⟩:=he
 have hz2:IsZip w2 z TI TO .ellipsis:=b2 _ _ D.i1z.symm hz1
 have ez:e ≠ z:=fun x=>by
  subst x
  rw [hz2] at e1; cases e1; simp at e2
 exact wpAny_setField_rec hz2 (by simp) fun w3 _ b3=>q w3 e (fun c o c1 _ c3 _ x=>b3.extBut _ _ c1 (b2 _ _ c3 (b1.extBut _ _ c1 x))) ⟨oe,b3.extBut _ _ ez e1,e2⟩
theorem zl_new (a1 a2:Addr) (us vs:Array Value) :
  Meets (Builtin.«zip.__new__» ⟨[.type "zip",.ref a1,.ref a2],[]⟩) (fun _ R s=>s.heap.IsList a1 us/\s.heap.IsTuple a2 vs /\
   ∀ h',(∀ c o,s.heap.get? c=some o->h'.get? c=some o)->ZL (s.heap.objs.size+4) (s.heap.objs.size+2) (s.heap.objs.size+3) s.heap.objs.size (s.heap.objs.size+1) a1 a2 us vs 0 .none h'->h'.objs.size=s.heap.objs.size+5->R (.ok (.ret (.ref (s.heap.objs.size+4)))) { s with heap:=h' }):=
 .of_wp fun prog w A R s h=>by
  obtain ⟨hp,g,d,tk,os⟩:=s; obtain ⟨t1,t2,h⟩:=h
  have hsub:=sub_zip
  have T1:Heap.IsList (Shared.heap ⟨hp,g,d,tk,os⟩) a1 us:=t1
  have T2:Heap.IsTuple (Shared.heap ⟨hp.push { cls:=.type "list_iterator",data:=.fields #[.ref a1,.int 0 0] },g,d,tk,os⟩) a2 vs:=t2.push _
  wp_walk using wpAny_pyIter_list T1,wpAny_pyIter_tuple T2
  refine ⟨_,rfl,?_⟩
  simp only [Heap.size_push]
  refine h _ (fun c o e=>Heap.get?_push_of_some _ (Heap.get?_push_of_some _ (Heap.get?_push_of_some _ (Heap.get?_push_of_some _ (Heap.get?_push_of_some _ e))))) ⟨?_,?_,⟨.none,.none,?_⟩,⟨_,Heap.get?_push_of_some _ (Heap.get?_push_of_some _ (Heap.get?_push_of_some _ (Heap.get?_push_of_some _ (Heap.get?_push_size _ rfl)))),rfl,rfl⟩,⟨_,Heap.get?_push_of_some _ (Heap.get?_push_of_some _ (Heap.get?_push_of_some _ (Heap.get?_push_at (by simp only [Heap.size_push]) rfl))),rfl,rfl⟩⟩ (by simp only [Heap.size_push])
  ·exact Heap.get?_push_at (by simp only [Heap.size_push]) rfl
  ·exact Heap.get?_push_of_some _ (Heap.get?_push_of_some _ (Heap.get?_push_at (by simp only [Heap.size_push]) rfl))
  ·exact Heap.get?_push_of_some _ (Heap.get?_push_at (by simp only [Heap.size_push]) rfl)
theorem zl_call {a1 a2:Addr} {us vs:Array Value} {Q:Value->Shared->Prop} (t1:s.heap.IsList a1 us) (t2:s.heap.IsTuple a2 vs)
  (q:∀ h',(∀ c o,s.heap.get? c=some o->h'.get? c=some o)->ZL (s.heap.objs.size+4) (s.heap.objs.size+2) (s.heap.objs.size+3) s.heap.objs.size (s.heap.objs.size+1) a1 a2 us vs 0 .none h'->h'.objs.size=s.heap.objs.size+5->Q (.ref (s.heap.objs.size+4)) { s with heap:=h' }) :
  wpAny (model P w) A (call (.type "zip") [.ref a1,.ref a2]) Q E s:=by
 refine callType_new F.called_zip (by decide) (F.typeCall_zip_2 _ _) (F.newCall_zip_2 _ _) (fun obj=>F.args_object_init_3 obj _ _) F.entry_zip_new (zl_new a1 a2 us vs) ⟨t1,t2,fun h' k Z sz=>?_⟩
 exact ⟨⟨_,Z.zip,rfl⟩,q h' k Z sz⟩
end
def Itzl (K:W.Frag) (a b:Addr):It:=
 ⟨fun i H=>∃ xs ys x y,SqL K H a xs/\SqT K H b ys/\xs[i]?=some x/\ys[i]?=some y,
  fun i H v H'=>∃ t x y,v=.ref t/\H t=none/\H'=upd H t (.tup [x,y])/\(∀ xs,SqL K H a xs->xs[i]?=some x)/\∀ ys,SqT K H b ys->ys[i]?=some y,
  fun i H=>∃ xs ys,SqL K H a xs/\SqT K H b ys/\xs.length<=i⟩
theorem turn_zipL {P:Program} {w:World} {K:W.Frag} {elts:List Expr} {kt:Nat} {tp:Pos} {z TI TO j1 j2 a b:Addr} (D:ZipApart z TI TO j1 j2 a b) (us vs:Array Value) :
  Turn P w K (.Tuple elts kt tp) (Itzl K a b) [z,TI,TO,j1,j2] z (fun i h=>ZL z TI TO j1 j2 a b us vs i .none h) where
 mem:=by simp
 obj:=fun i h st c hc=>by
  obtain ⟨hz,hI,⟨p1,p2,hO⟩,y1,y2⟩:=st
  simp only [List.mem_cons,List.not_mem_nil,or_false] at hc
  rcases hc with rfl | rfl | rfl | rfl | rfl
  ·exact ⟨_,hz,fun v q=>by cases q⟩
  ·exact ⟨_,hI,fun v q=>by cases q⟩
  ·exact ⟨_,hO,fun v q=>by cases q⟩
  ·obtain ⟨o,e,c,d⟩:=y1
   exact ⟨o,e,fun v q=>by rw [d] at q; cases q⟩
  ·obtain ⟨o,e,c,d⟩:=y2
   exact ⟨o,e,fun v q=>by rw [d] at q; cases q⟩
 keep:=fun i h h' st k=>by
  obtain ⟨hz,hI,⟨p1,p2,hO⟩,y1,y2⟩:=st
  exact ⟨k z (by simp) _ hz,k TI (by simp) _ hI,⟨p1,p2,k TO (by simp) _ hO⟩,(let ⟨o,e,r⟩:=y1; ⟨o,k j1 (by simp) _ e,r⟩),(let ⟨o,e,r⟩:=y2; ⟨o,k j2 (by simp) _ e,r⟩)⟩
 item:=by
  intro X hP hw hK hc i pins s σ H E I hf st hg
  subst hP hw hK
  obtain ⟨xs,ys,x,y,qx,qy,ex,ey⟩:=hg
  obtain ⟨its,rx,px,lx⟩:=I.list qx
  replace px:=isl px
  obtain ⟨its',ry,py,ly⟩:=I.tuple qy
  obtain ⟨u,hu,ru⟩:=rx.get ex
  obtain ⟨v,hv,rv⟩:=ry.get ey
  have ht:s.TypeIs (.ref z) "zip":=⟨_,st.zip,rfl⟩
  unfold pyNext
  have st':ZL z TI TO j1 j2 a b its.toArray its'.toArray i .none s.heap:=⟨st.zip,st.its,st.to,st.i1,st.i2⟩
  refine wpAny_bind (wpAny_attempt (wpAny_callSpecial?_slot (name:=Str.ofString "__next__") ht F.slot_zip_next (wpAny_call_entry F.slot_zip_next ht F.entry_zip_next
   (zl_item D st' px py (u:=u) (v:=v) (by simpa using hu) (by simpa using hv) fun h' Z np sz k=>wpAny_pure ?_) (F.args_zip_next_1 _))))
  refine ⟨_,rfl,wpAny_letOwnedTupleGo_zip Z.zip fun h2 hz2 b2=>?_⟩
  have szl:z < s.heap.objs.size:=Heap.lt_size st.zip
  have k2:∀ c o,c ∉ [z,TI,TO,j1,j2]->s.heap.get? c=some o->h2.get? c=some o:=fun c o hc e=>by
   simp only [List.mem_cons,List.not_mem_nil,or_false,not_or] at hc
   exact b2.extBut _ _ hc.1 (k c o hc.1 hc.2.2.1 hc.2.2.2.1 hc.2.2.2.2 e)
  have I2:Inv X pins σ H { s with heap:=h2 }:=I.turnedM (t':=s.toks) k2 hf
  have np2:IsPair h2 s.heap.objs.size u v:=b2.extBut _ _ (Nat.ne_of_gt szl) np
  have fr:H s.heap.objs.size=none:=I.hok.fresh (Nat.le_refl _)
  have I3:Inv X pins σ (upd H s.heap.objs.size (.tup [x,y])) { s with heap:=h2 }:=by
   have U:Un (frs X.stack) [z,TI,TO,j1,j2] H (upd H s.heap.objs.size (.tup [x,y])) s.heap h2:=
    ⟨fun c o e _ _ hx=>k2 c o hx e,fun c o e _ _ hx=>⟨o.slots,k2 c o hx e⟩,fun c o e n _=>(by rw [upd_ne (Nat.ne_of_lt (Heap.lt_size e))]; exact n),fun c o e hx=>⟨o,k2 c o hx e⟩,
     fun c zs e=>(by rw [upd_ne (ne_of_none e fr)]; exact e),fun c o w e=>(by rw [upd_ne (ne_of_none e fr)]; exact e),fun c ps e=>⟨#[],by rw [upd_ne (ne_of_none e fr),e]; simp⟩⟩
   refine I.call' (s':={ s with heap:=h2 }) (ch:=[z,TI,TO,j1,j2]) rfl U (I2.hok.more fr ?_) I.bare fun c hc=>?_
   ·exact ⟨by show 2<=sizeLine; decide,[u,v],.cons ru (.cons rv .nil),⟨_,np2,rfl,_,rfl⟩⟩
   ·obtain ⟨_,f1,_,f3,f4,f5⟩:=hf c hc
    exact ⟨f3,f1,f4,f5⟩
  refine ⟨.ref s.heap.objs.size,_,I3,rfl,⟨_,x,y,rfl,fr,rfl,fun zs hz=>by rw [I.list_inj hz qx]; exact ex,fun zs hz=>by rw [I.tuple_inj hz qy]; exact ey⟩,?_,fun c hc=>?_⟩
  ·obtain ⟨o1,e1,r1⟩:=Z.i1
   obtain ⟨o2,e2,r2⟩:=Z.i2
   obtain ⟨p1,p2,e3⟩:=Z.to
   exact ⟨hz2,b2.extBut _ _ D.TIz Z.its,⟨p1,p2,b2.extBut _ _ D.TOz e3⟩,⟨o1,b2.extBut _ _ D.i1z e1,r1⟩,⟨o2,b2.extBut _ _ D.i2z e2,r2⟩⟩
  ·have h0:=(hf c hc).1
   rw [upd_ne ?_]
   ·exact h0
   ·have st2:=st
    obtain ⟨hz,hI,⟨p1,p2,hO⟩,⟨o1,y1,_⟩,⟨o2,y2,_⟩⟩:=st2
    simp only [List.mem_cons,List.not_mem_nil,or_false] at hc
    rcases hc with rfl | rfl | rfl | rfl | rfl
    ·exact Nat.ne_of_lt (Heap.lt_size hz)
    ·exact Nat.ne_of_lt (Heap.lt_size hI)
    ·exact Nat.ne_of_lt (Heap.lt_size hO)
    ·exact Nat.ne_of_lt (Heap.lt_size y1)
    ·exact Nat.ne_of_lt (Heap.lt_size y2)
 done:=by
  intro X hP hw hK hc i pins s σ H E I hf st hg
  subst hP hw hK
  obtain ⟨xs,ys,qx,qy,ln⟩:=hg
  obtain ⟨its,rx,px,lx⟩:=I.list qx
  replace px:=isl px
  have ht:s.TypeIs (.ref z) "zip":=⟨_,st.zip,rfl⟩
  have hl:=rx.length
  unfold pyNext
  have st':ZL z TI TO j1 j2 a b its.toArray vs i .none s.heap:=⟨st.zip,st.its,st.to,st.i1,st.i2⟩
  refine wpAny_bind (wpAny_attempt (wpAny_callSpecial?_slot (name:=Str.ofString "__next__") ht F.slot_zip_next (wpAny_call_entry F.slot_zip_next ht F.entry_zip_next
   (zl_end (I.stl hc) (I.stn hc (hf z (by simp)).1) (I.stn hc (hf j1 (by simp)).1) D st' px (by simp; omega) fun h' e k he=>?_) (F.args_zip_next_1 _))))
  obtain ⟨o,ho,hce⟩:=he
  refine wpAny_bind (wpAny_isInstance (T:="StopIteration") (b:=true) ⟨o,ho,hce⟩ isSubtype_stop ?_)
  refine wpAny_pure ⟨rfl,I.turnedM (t':=s.toks) (fun c o hc e=>?_) hf⟩
  simp only [List.mem_cons,List.not_mem_nil,or_false,not_or] at hc
  exact k c o hc.1 hc.2.2.1 hc.2.2.2.1 hc.2.2.2.2 e
 self:=fun _ _ _ _ _ st h=>wpAny_pyIter_zip st.zip h
def iZipL (K:W.Frag) (ta:TA):TI:=fun σ H R=>ta σ H fun vs H1=>∃ (a b:Addr) (xs ys:List V),vs=[.ref a,.ref b]/\SqL K H1 a xs/\SqT K H1 b ys/\R (Itzl K a b) H1
theorem pi_zipL {X:Cx} {elts:List Expr} {kt:Nat} {tp:Pos} {a b:Expr} {ta:TA} {p pos:Pos} (hg:Gl X "zip") (hm:X.mg "zip"=none) (ha:PA X [a,b] ta) (hs:starEach [a,b] X.env=[(false,eval a X.env),(false,eval b X.env)]:=by rfl) (hs2:starEach [b] X.env=[(false,eval b X.env)]:=by rfl) :
  PI X (.Tuple elts kt tp) (.Call (.Name "zip" p) [a,b] [] pos) (iZipL X.K ta):=by
 intro pins s σ H R I h
 refine Call_ (ld_blt I hg hm boot_zip (PyProof.Rows.callWith_type1 (thn (ha pos pins s σ H _ I h) fun us s1 ⟨vs,H1,I1,r1,q1⟩=>?_) (by rw [hs,hs2]) (by rw [hs2]; rfl)))
 obtain ⟨x,y,xs,ys,e,qx,qy,q⟩:=q1
 subst e
 cases r1 with
 | cons r rr=>
  cases rr with
  | cons r' rr=>
   cases rr
   cases r
   cases r'
   obtain ⟨its,rx,px,lx⟩:=I1.list qx
   replace px:=isl px
   obtain ⟨its',ry,py,ly⟩:=I1.tuple qy
   refine zl_call (us:=its.toArray) (vs:=its'.toArray) px py fun h' k Z sz=>?_
   refine wpAny_pyIter_zip Z.zip ?_
   have I2:Inv X pins σ H1 { s1 with heap:=h' }:=I1.kept (t':=s1.toks) k
   have l1:x < s1.heap.objs.size:=by
    obtain ⟨o,e,_⟩:=px
    exact Heap.lt_size e
   have l2:y < s1.heap.objs.size:=by
    obtain ⟨o,e,_⟩:=py
    exact Heap.lt_size e
   refine ⟨_,[s1.heap.objs.size+4,s1.heap.objs.size+2,s1.heap.objs.size+3,s1.heap.objs.size,s1.heap.objs.size+1],_,_,H1,rfl,I2,turn_zipL (zipApart_new l1 l2) its.toArray its'.toArray,Z,fun c hc=>?_,q⟩
   have big:s1.heap.objs.size<=c:=by
    simp only [List.mem_cons,List.not_mem_nil,or_false] at hc
    rcases hc with rfl | rfl | rfl | rfl | rfl <;> simp
   exact I1.fpOk big (I1.hok.fresh big)
theorem compP_zipLF {K:W.Frag} {a b:Addr} {xs ys:List V} {te:TE} {σ:V->V->St} {H:Hp} {Q:VK} (hx:∀ H',Same H H'->SqL K H' a xs) (hy:∀ H',Same H H'->SqT K H' b ys) (hl:xs.length=ys.length) (hn:xs.length < sizeLine) (f:V->V->V)
  (he:∀ (i:Nat) (x y:V) (H':Hp) (Q':VK),xs[i]?=some x->ys[i]?=some y->Same H H'->(∀ H2,Same H' H2->Q' (f x y) H2)->te (σ x y) H' Q')
  (q:∀ p H',Same H H'->H p=none->H' p=some (.lst (List.zipWith f xs ys))->Q (.ref p) H'):CompPEnd K (Itzl K a b) Q H te σ:=by
 intro acc hacc
 have zl:(List.zipWith f xs ys).length=xs.length:=by rw [List.length_zipWith,<- hl]; simp
 refine ⟨fun i m H' vs=>i<=xs.length/\m=xs.length - i/\Same H H'/\H' acc=some (.lst vs)/\vs=(List.zipWith f xs ys).take i,⟨xs.length,Nat.zero_le _,by simp,same_new hacc _,upd_same,by simp⟩,?_⟩
 rintro i m H' vs ⟨hi,rfl,g,ha,rfl⟩
 refine ⟨ha,?_⟩
 by_cases h:i=xs.length
 ·refine .inl ⟨⟨xs,ys,hx _ g,hy _ g,by omega⟩,q acc H' g hacc ?_⟩
  rw [ha,h,<- zl,List.take_length]
 ·have hlt:i < xs.length:=by omega
  have hlt2:i < ys.length:=by omega
  refine .inr ⟨⟨xs,ys,xs[i],ys[i],hx _ g,hy _ g,by simp [hlt],by simp [hlt2]⟩,by rw [List.length_take,zl]; omega,?_⟩
  rintro z H2 ⟨t,x,y,rfl,ht,rfl,ex,ey⟩
  have ex':=ex xs (hx _ g)
  have ey':=ey ys (hy _ g)
  have g2:Same H' (upd H' t (.tup [x,y])):=same_new ht _
  refine ⟨t,x,y,rfl,SqT.of upd_same,he i x y _ _ ex' ey' (g.trans g2) fun H3 g3=>⟨g3 _ _ (g2 _ _ ha),xs.length - (i+1),by omega,by omega,rfl,same_upd (g.trans (g2.trans g3)) hacc,upd_same,?_⟩⟩
  rw [List.take_succ,List.getElem?_zipWith,ex',ey']
  rfl
end L2
namespace L2
open PySem PySem.Spec PyProof.Rows
section
variable {X:Cx} {tg:Expr}
end
end L2
namespace K19
open PySem L2
def top (i:Nat):Stmt:=PySem.Challenge.pw_conicplaces_k19_whole_rests_that_fit.main.body.getD i (.Pass ⟨0,0,0,0⟩)
abbrev s_prime_parts:Stmt:=top 18
abbrev s_divisor_after:Stmt:=top 19
abbrev s_taken_out:Stmt:=top 20
abbrev s_is_prime:Stmt:=top 21
abbrev s_core_of:Stmt:=top 22
abbrev s_is_without_squares:Stmt:=top 23
abbrev s_power_by:Stmt:=top 25
abbrev s_sign_by:Stmt:=top 26
abbrev s_sign_of_two:Stmt:=top 27
abbrev s_sign_of_turn:Stmt:=top 28
abbrev s_shares_of:Stmt:=top 30
abbrev s_row_less:Stmt:=top 31
abbrev s_is_plain:Stmt:=top 33
abbrev s_bad_places:Stmt:=top 34
abbrev s_places_without_point:Stmt:=top 35
abbrev s_places_in_question:Stmt:=top 36
abbrev s_sign_at:Stmt:=top 37
abbrev s_sign_at_odd:Stmt:=top 38
abbrev s_sign_at_two:Stmt:=top 39
abbrev s_back_by:Stmt:=top 41
abbrev s_has_root:Stmt:=top 43
abbrev s_root_by_prime:Stmt:=top 44
abbrev s_root_by_odd_prime:Stmt:=top 45
abbrev s_least_without_root:Stmt:=top 46
abbrev s_fitting_rests:Stmt:=top 48
abbrev s_product_of_alike:Stmt:=top 49
abbrev s_rests_found:Stmt:=top 50
abbrev s_rests_led:Stmt:=top 51
abbrev s_has_lasting_root:Stmt:=top 52
abbrev s_lasting_root:Stmt:=top 53
abbrev s_root_by_odd_power:Stmt:=top 54
abbrev s_root_by_power_of_two:Stmt:=top 55
abbrev s_cell_at:Stmt:=top 57
abbrev s_churn:Stmt:=top 58
abbrev s_whole:Stmt:=top 59
abbrev s_primes:Stmt:=top 60
abbrev s_plain:Stmt:=top 61
abbrev s_root:Stmt:=top 62
abbrev s_fits_by_8:Stmt:=top 63
abbrev s_is_bad:Stmt:=top 64
abbrev s_fit:Stmt:=top 65
abbrev s_alone:Stmt:=top 66
abbrev s_told:Stmt:=top 67
abbrev s_core:Stmt:=top 68
abbrev s_shared:Stmt:=top 69
abbrev s_split:Stmt:=top 70
abbrev s_by_digits:Stmt:=top 71
abbrev s_more:Stmt:=top 72
abbrev s_prime:Stmt:=top 73
abbrev s_no_primes:Stmt:=top 74
abbrev s_law:Stmt:=top 75
abbrev s_init_BadPlace:Stmt:=inClass (top 8) 0
structure Adr where
 (ce c0 c1 c2 c3 c4 c5 c6 c7 c8 c9 c10 c11 c12 c13 c14 iBadPlace:Addr)
structure Txt (K:W.Frag) (mg:Str->Option Value) (t:Adr):Prop where
 m_CurveError:mg "CurveError"=some (.ref t.ce)
 m_BadPlace:mg "BadPlace"=some (.ref t.c0)
 m_Flat:mg "Flat"=some (.ref t.c1)
 m_NoBack:mg "NoBack"=some (.ref t.c2)
 m_NoJoin:mg "NoJoin"=some (.ref t.c3)
 m_NoLine:mg "NoLine"=some (.ref t.c4)
 m_NoName:mg "NoName"=some (.ref t.c5)
 m_NoNumber:mg "NoNumber"=some (.ref t.c6)
 m_NoPair:mg "NoPair"=some (.ref t.c7)
 m_NoPlace:mg "NoPlace"=some (.ref t.c8)
 m_NoRow:mg "NoRow"=some (.ref t.c9)
 m_NoSign:mg "NoSign"=some (.ref t.c10)
 m_NoText:mg "NoText"=some (.ref t.c11)
 m_NoVertex:mg "NoVertex"=some (.ref t.c12)
 m_NotPlain:mg "NotPlain"=some (.ref t.c13)
 m_OffCurve:mg "OffCurve"=some (.ref t.c14)
 i_ce:W.kitOne K (.ref t.c0) (.ref t.ce)=some true
 i_0:W.kitOne K (.ref t.c0) (.ref t.c0)=some true
 i_1:W.kitOne K (.ref t.c0) (.ref t.c1)=some false
 i_2:W.kitOne K (.ref t.c0) (.ref t.c2)=some false
 i_3:W.kitOne K (.ref t.c0) (.ref t.c3)=some false
 i_4:W.kitOne K (.ref t.c0) (.ref t.c4)=some false
 i_5:W.kitOne K (.ref t.c0) (.ref t.c5)=some false
 i_6:W.kitOne K (.ref t.c0) (.ref t.c6)=some false
 i_7:W.kitOne K (.ref t.c0) (.ref t.c7)=some false
 i_8:W.kitOne K (.ref t.c0) (.ref t.c8)=some false
 i_9:W.kitOne K (.ref t.c0) (.ref t.c9)=some false
 i_10:W.kitOne K (.ref t.c0) (.ref t.c10)=some false
 i_11:W.kitOne K (.ref t.c0) (.ref t.c11)=some false
 i_12:W.kitOne K (.ref t.c0) (.ref t.c12)=some false
 i_13:W.kitOne K (.ref t.c0) (.ref t.c13)=some false
 i_14:W.kitOne K (.ref t.c0) (.ref t.c14)=some false
 i_ve:W.kitOne K (.ref t.c0) (.type "ValueError")=some true
 e0:(W.clsIn K t.c0).isSome=true
 e1:W.findIn K (.ref t.c0) "__getattribute__"=some (some (.builtin "BaseException.__getattribute__"))
 e2:W.findIn K (.ref t.c0) "__getattr__"=some none
 e3:W.findIn K (.ref t.c0) "__class__"=some (some (.builtin "object.__class__"))
 e4:W.specialIn K (.builtin "object.__class__") "__get__"=some (some (.builtin "getset_descriptor.__get__"))
 e5:W.takesIn K (.builtin "object.__class__")=some true
 e6:W.mroIn K t.c0 (.type "object")=some true
 e7:W.mroIn K t.c0 (.type "BaseException")=some true
 x_BadPlace:excInB K t.c0 t.iBadPlace=true
 xf_BadPlace:W.isFn K (.ref t.iBadPlace)=true
 xn_BadPlace:W.findIn K (.ref t.c0) "place"=some none
 xd_BadPlace:(W.clsIn K t.c0).map (·.hasDict)=some true
 xs_BadPlace:W.findIn K (.ref t.c0) "__setattr__"=some (some (.builtin "object.__setattr__"))
 xo_BadPlace:(W.clsIn K t.c0).any (fun cd=>onlyVE cd.mro)=true
 i_ce_2:W.kitOne K (.ref t.c8) (.ref t.ce)=some true
 i_0_2:W.kitOne K (.ref t.c8) (.ref t.c0)=some false
 i_1_2:W.kitOne K (.ref t.c8) (.ref t.c1)=some false
 i_2_2:W.kitOne K (.ref t.c8) (.ref t.c2)=some false
 i_3_2:W.kitOne K (.ref t.c8) (.ref t.c3)=some false
 i_4_2:W.kitOne K (.ref t.c8) (.ref t.c4)=some false
 i_5_2:W.kitOne K (.ref t.c8) (.ref t.c5)=some false
 i_6_2:W.kitOne K (.ref t.c8) (.ref t.c6)=some false
 i_7_2:W.kitOne K (.ref t.c8) (.ref t.c7)=some false
 i_8_2:W.kitOne K (.ref t.c8) (.ref t.c8)=some true
 i_9_2:W.kitOne K (.ref t.c8) (.ref t.c9)=some false
 i_10_2:W.kitOne K (.ref t.c8) (.ref t.c10)=some false
 i_11_2:W.kitOne K (.ref t.c8) (.ref t.c11)=some false
 i_12_2:W.kitOne K (.ref t.c8) (.ref t.c12)=some false
 i_13_2:W.kitOne K (.ref t.c8) (.ref t.c13)=some false
 i_14_2:W.kitOne K (.ref t.c8) (.ref t.c14)=some false
 i_ve_2:W.kitOne K (.ref t.c8) (.type "ValueError")=some true
 e0_2:(W.clsIn K t.c8).isSome=true
 e1_2:W.findIn K (.ref t.c8) "__getattribute__"=some (some (.builtin "BaseException.__getattribute__"))
 e2_2:W.findIn K (.ref t.c8) "__getattr__"=some none
 e3_2:W.findIn K (.ref t.c8) "__class__"=some (some (.builtin "object.__class__"))
 e4_2:W.specialIn K (.builtin "object.__class__") "__get__"=some (some (.builtin "getset_descriptor.__get__"))
 e5_2:W.takesIn K (.builtin "object.__class__")=some true
 e6_2:W.mroIn K t.c8 (.type "object")=some true
 e7_2:W.mroIn K t.c8 (.type "BaseException")=some true
 x_NoPlace:W.excIn K t.c8 bmVE "ValueError.__new__"=true
 i_ce_3:W.kitOne K (.ref t.c13) (.ref t.ce)=some true
 i_0_3:W.kitOne K (.ref t.c13) (.ref t.c0)=some false
 i_1_3:W.kitOne K (.ref t.c13) (.ref t.c1)=some false
 i_2_3:W.kitOne K (.ref t.c13) (.ref t.c2)=some false
 i_3_3:W.kitOne K (.ref t.c13) (.ref t.c3)=some false
 i_4_3:W.kitOne K (.ref t.c13) (.ref t.c4)=some false
 i_5_3:W.kitOne K (.ref t.c13) (.ref t.c5)=some false
 i_6_3:W.kitOne K (.ref t.c13) (.ref t.c6)=some false
 i_7_3:W.kitOne K (.ref t.c13) (.ref t.c7)=some false
 i_8_3:W.kitOne K (.ref t.c13) (.ref t.c8)=some false
 i_9_3:W.kitOne K (.ref t.c13) (.ref t.c9)=some false
 i_10_3:W.kitOne K (.ref t.c13) (.ref t.c10)=some false
 i_11_3:W.kitOne K (.ref t.c13) (.ref t.c11)=some false
 i_12_3:W.kitOne K (.ref t.c13) (.ref t.c12)=some false
 i_13_3:W.kitOne K (.ref t.c13) (.ref t.c13)=some true
 i_14_3:W.kitOne K (.ref t.c13) (.ref t.c14)=some false
 i_ve_3:W.kitOne K (.ref t.c13) (.type "ValueError")=some true
 e0_3:(W.clsIn K t.c13).isSome=true
 e1_3:W.findIn K (.ref t.c13) "__getattribute__"=some (some (.builtin "BaseException.__getattribute__"))
 e2_3:W.findIn K (.ref t.c13) "__getattr__"=some none
 e3_3:W.findIn K (.ref t.c13) "__class__"=some (some (.builtin "object.__class__"))
 e4_3:W.specialIn K (.builtin "object.__class__") "__get__"=some (some (.builtin "getset_descriptor.__get__"))
 e5_3:W.takesIn K (.builtin "object.__class__")=some true
 e6_3:W.mroIn K t.c13 (.type "object")=some true
 e7_3:W.mroIn K t.c13 (.type "BaseException")=some true
 x_NotPlain:W.excIn K t.c13 bmVE "ValueError.__new__"=true
 y1:W.specialIn K (.ref t.ce) "__getattribute__"=some (some (.builtin "type.__getattribute__"))
 y2:W.readsIn K t.ce (.type "type")=true
 y3:W.findCls K (.ref t.ce) (.type "type") "__init__"=some (.val (.builtin "ValueError.__init__"))
 x_CurveError:W.excIn K t.ce bmVE "ValueError.__new__"=true
 u_BadPlace:W.mroIn K t.c0 (.ref t.ce)=some true
 u_NoPlace:W.mroIn K t.c8 (.ref t.ce)=some true
 u_NotPlain:W.mroIn K t.c13 (.ref t.ce)=some true
 i_ib:W.kitOne K (.type "int") (.type "bool")=some false
 z_isinstance:mg "isinstance"=none
 z_int:mg "int"=none
 z_bool:mg "bool"=none
 z_len:mg "len"=none
 z_range:mg "range"=none
 z_all:mg "all"=none
 z_abs:mg "abs"=none
 z_sorted:mg "sorted"=none
 z_list:mg "list"=none
 z_set:mg "set"=none
 z_sum:mg "sum"=none
 z_tuple:mg "tuple"=none
 z_zip:mg "zip"=none
 z_ValueError:mg "ValueError"=none
theorem Txt.exc {K:W.Frag} {mg:Str->Option Value} {t:Adr} (T:Txt K mg t):ExcCls K t.c0:=⟨T.e0,T.e1,T.e2,T.e3,T.e4,T.e5,T.e6,T.e7⟩
theorem Txt.exc_2 {K:W.Frag} {mg:Str->Option Value} {t:Adr} (T:Txt K mg t):ExcCls K t.c8:=⟨T.e0_2,T.e1_2,T.e2_2,T.e3_2,T.e4_2,T.e5_2,T.e6_2,T.e7_2⟩
theorem Txt.exc_3 {K:W.Frag} {mg:Str->Option Value} {t:Adr} (T:Txt K mg t):ExcCls K t.c13:=⟨T.e0_3,T.e1_3,T.e2_3,T.e3_3,T.e4_3,T.e5_3,T.e6_3,T.e7_3⟩
theorem Txt.mk_BadPlace {K:W.Frag} {mg:Str->Option Value} {t:Adr} (T:Txt K mg t):MkX K t.c0 t.iBadPlace:=⟨T.x_BadPlace,T.xf_BadPlace⟩
theorem Txt.fld_BadPlace {K:W.Frag} {mg:Str->Option Value} {t:Adr} (T:Txt K mg t):ExcFld K t.c0 "place":=⟨T.exc,T.xn_BadPlace,T.xd_BadPlace⟩
theorem Txt.set_BadPlace {K:W.Frag} {mg:Str->Option Value} {t:Adr} (T:Txt K mg t):ExcSet K t.c0 "place":=⟨T.fld_BadPlace,T.xs_BadPlace,T.xo_BadPlace⟩
theorem b_isi:bootBuiltins "isinstance"=some (.builtin "isinstance"):=by decide +kernel
theorem b_int:bootBuiltins "int"=some (.type "int"):=by decide +kernel
theorem b_bool:bootBuiltins "bool"=some (.type "bool"):=by decide +kernel
theorem b_all:bootBuiltins "all"=some (.builtin "all"):=by decide +kernel
theorem b_abs:bootBuiltins "abs"=some (.builtin "abs"):=by decide +kernel
theorem b_sorted:bootBuiltins "sorted"=some (.builtin "sorted"):=by decide +kernel
theorem b_set:bootBuiltins "set"=some (.type "set"):=by decide +kernel
theorem b_sum:bootBuiltins "sum"=some (.builtin "sum"):=by decide +kernel
theorem b_tuple:bootBuiltins "tuple"=some (.type "tuple"):=by decide +kernel
theorem b_ValueError:bootBuiltins "ValueError"=some (.type "ValueError"):=by decide +kernel
theorem byL0 {P:List Value->Prop} (h:P []):∀ us:List Value,us.length=0->P us:=fun us hl=>match us,hl with | [],_=>h
theorem byL1 {P:List Value->Prop} (h:∀ a0:Value,P [a0]):∀ us:List Value,us.length=1->P us:=fun us hl=>match us,hl with | [a0],_=>h a0
theorem byL2 {P:List Value->Prop} (h:∀ a0 a1:Value,P [a0,a1]):∀ us:List Value,us.length=2->P us:=fun us hl=>match us,hl with | [a0,a1],_=>h a0 a1
theorem byL3 {P:List Value->Prop} (h:∀ a0 a1 a2:Value,P [a0,a1,a2]):∀ us:List Value,us.length=3->P us:=fun us hl=>match us,hl with | [a0,a1,a2],_=>h a0 a1 a2
theorem byL4 {P:List Value->Prop} (h:∀ a0 a1 a2 a3:Value,P [a0,a1,a2,a3]):∀ us:List Value,us.length=4->P us:=fun us hl=>match us,hl with | [a0,a1,a2,a3],_=>h a0 a1 a2 a3
theorem byL5 {P:List Value->Prop} (h:∀ a0 a1 a2 a3 a4:Value,P [a0,a1,a2,a3,a4]):∀ us:List Value,us.length=5->P us:=fun us hl=>match us,hl with | [a0,a1,a2,a3,a4],_=>h a0 a1 a2 a3 a4
theorem iteDF {c A B:Prop} [Decidable c] (hc:¬ c) (h:B):if decide c=true then A else B:=by
 rw [decide_eq_false hc]
 exact iteF h
theorem neT {c:Prop} [Decidable c] (h:(!decide c)=true):¬ c:=by
 intro z
 rw [decide_eq_true z] at h
 cases h
theorem neF {c:Prop} [Decidable c] (h:¬ (!decide c)=true):c:=by
 by_cases z:c
 ·exact z
 ·exact absurd (by rw [decide_eq_false z]; rfl) h
theorem mulS {a b:Int} (h1:-(2^64) < b) (h2:b < 2^64):IntMulOk a b:=IntMulOk.of_right (intBits_le_64 h1 h2)
theorem iteE {b:Bool} {A B:Prop} (h:b=true) (hA:A):if b=true then A else B:=by
 subst h
 exact iteT hA
def spTaken:Sp:=fun vs H Q _=>∃ (x p:Int),vs=[.int x,.int p]/\x ≠ 0/\2<=p/\p.natAbs.log2 < 9000/\∀ (r:Addr) (H':Hp) (o l:Int),Same H H'->H' r=some (.tup [.int o,.int l])->Pr.Inn x p l o->0<=o->l.fmod p ≠ 0->l ≠ 0->l.natAbs<=x.natAbs->(0 < x->0 < l)->(x < 0->l < 0)->Q (.ref r) H'
theorem taken_less {l p:Int} (h2:2<=p) (l0:l ≠ 0) (hz:l.fmod p=0):l.fdiv p ≠ 0/\(l.fdiv p).natAbs < l.natAbs/\(0 < l->0 < l.fdiv p)/\(l < 0->l.fdiv p < 0):=by
 have q:=Pr.quot l p
 rw [hz] at q
 have e:l=p*l.fdiv p:=by omega
 generalize l.fdiv p=k at e
 have k0:k ≠ 0:=fun z=>l0 (by rw [e,z,Int.mul_zero])
 have ea:l.natAbs=p.natAbs*k.natAbs:=by rw [e,Int.natAbs_mul]
 have pa:2<=p.natAbs:=by omega
 have ka:1<=k.natAbs:=by omega
 refine ⟨k0,?_,fun h=>?_,fun h=>?_⟩
 ·have:=Nat.mul_le_mul_right k.natAbs pa
  omega
 ·rcases Int.lt_trichotomy k 0 with z | z | z
  ·have:=Int.mul_neg_of_pos_of_neg (show 0 < p by omega) z
   omega
  ·exact absurd z k0
  ·exact z
 ·rcases Int.lt_trichotomy k 0 with z | z | z
  ·exact z
  ·exact absurd z k0
  ·have:=Int.mul_pos (show 0 < p by omega) z
   omega
theorem in35 (z:Int):inV (.int z) [.int 3,.int 5]=decide (z=3\/z=5):=by
 show ((3:Int) == z || ((5:Int) == z || false))=_
 by_cases h3:z=3
 ·subst h3; rfl
 ·by_cases h5:z=5
  ·subst h5; rfl
  ·have e3:((3:Int) == z)=false:=by simpa using fun e=>h3 (Eq.symm e)
   have e5:((5:Int) == z)=false:=by simpa using fun e=>h5 (Eq.symm e)
   rw [e3,e5,decide_eq_false (by simp [h3,h5])]
   rfl
theorem twoI_or (b:Int):Jc.twoI b=1\/Jc.twoI b=-1:=by unfold Jc.twoI; split <;> simp
theorem turnI_or (a b:Int):Jc.turnI a b=1\/Jc.turnI a b=-1:=by unfold Jc.turnI; split <;> simp
def spTwoI:Sp:=fun vs H Q _=>∃ x:Int,vs=[.int x]/\∀ H',Same H H'->Q (.int (Jc.twoI x)) H'
def spTurnI:Sp:=fun vs H Q _=>∃ a b:Int,vs=[.int a,.int b]/\Q (.int (Jc.turnI a b)) H
def spSign:Sp:=fun vs H Q _=>∃ x n:Int,vs=[.int x,.int n]/\0 < n/\n % 2=1/\n < 2^64/\∀ H',Same H H'->Q (.int (Jc.J x n)) H'
def WS (x n:Int) (H:Hp) (m:Nat) (σ:St) (H':Hp):Prop:=∃ (sg top bot:Int) (tw od:Option V),σ=[some (.int x),some (.int n),some (.int sg),some (.int top),some (.int bot),tw,od]/\Same H H'/\0<=top/\0 < bot/\bot % 2=1/\bot < 2^64/\top < 2^64/\(sg=1\/sg=-1)/\sg*Jc.J top bot=Jc.J x n/\m=top.toNat
abbrev TupL (H:Hp) (rs:List Addr) (xs:List (Int × Int)):Prop:=Paired (fun (r:Addr) (x:Int × Int)=>H r=some (.tup [.int x.1,.int x.2])) rs xs
theorem TupL.same {H H':Hp} (g:Same H H'):∀ {rs:List Addr} {xs:List (Int × Int)},TupL H rs xs->TupL H' rs xs
 | _,_,.nil=>.nil
 | _,_,.cons h t=>.cons (g _ _ h) (TupL.same g t)
theorem TupL.app {H:Hp} {r:Addr} {x:Int × Int} (h:H r=some (.tup [.int x.1,.int x.2])):∀ {rs:List Addr} {xs:List (Int × Int)},TupL H rs xs->TupL H (rs ++ [r]) (xs ++ [x])
 | _,_,.nil=>.cons h .nil
 | _,_,.cons h' t=>.cons h' (TupL.app h t)
theorem TupL.upd {H:Hp} {a:Addr} {o:HO}:∀ {rs:List Addr} {xs:List (Int × Int)},TupL H rs xs->(∀ ys,H a ≠ some (.tup ys))->TupL (upd H a o) rs xs
 | _,_,.nil,_=>.nil
 | _,_,.cons h t,n=>.cons (by rw [upd_ne (fun z=>by subst z; exact n _ h)]; exact h) (TupL.upd t n)
theorem TupL.len {H:Hp}:∀ {rs:List Addr} {xs:List (Int × Int)},TupL H rs xs->rs.length=xs.length
 | _,_,.nil=>rfl
 | _,_,.cons _ t=>by rw [List.length_cons,List.length_cons,TupL.len t]
theorem TupL.get {H:Hp}:∀ {rs:List Addr} {xs:List (Int × Int)} {i:Nat} {r:Addr},TupL H rs xs->rs[i]?=some r->∃ x,xs[i]?=some x/\H r=some (.tup [.int x.1,.int x.2])
 | _,_,_,_,.nil,e=>by simp at e
 | _,_,0,_,.cons h _,e=>by simp at e; subst e; exact ⟨_,rfl,h⟩
 | _,_,i+1,_,.cons _ t,e=>by
  obtain ⟨x,h1,h2⟩:=TupL.get (i:=i) t (by simpa using e)
  exact ⟨x,by simpa using h1,h2⟩
def spAfter:Sp:=fun vs H Q _=>∃ d:Int,vs=[.int d]/\Q (.int (if d=2 then 3 else d+2)) H
def W1 (n:Int) (pl:Addr) (H:Hp) (m:Nat) (σ:St) (H':Hp):Prop:=∃ (left d:Int) (xs:List (Int × Int)) (rs:List Addr) (of:Option V),σ=[some (.int n),some (.ref pl),some (.int left),some (.int d),of]/\Same H H'/\H' pl=some (.lst (rs.map V.ref)) /\
 TupL H' rs xs/\Pr.Out n left d xs/\2<=d/\d<=10000000002/\1<=left/\m=(left+1 - d).toNat
theorem le_sq {g:Int} (h:1<=g):g<=g*g:=by
 have:=Int.mul_le_mul_of_nonneg_right h (show 0<=g by omega)
 omega
theorem short {n:Int} {xs:List (Int × Int)} (h:∀ x ∈ xs,Pr.Part x) (hn:Pr.prodP xs<=n) (n1:n<=10000000000):xs.length < 40:=by
 have h1:=Pr.len_le h
 rcases Nat.lt_or_ge xs.length 40 with h2 | h2
 ·exact h2
 ·have h3:=Pr.pow_mono h2
  have:(2:Int)^40=1099511627776:=by decide
  omega
theorem out_prod {n left d:Int} {xs:List (Int × Int)} (h:Pr.Out n left d xs) (l1:1<=left):Pr.prodP xs<=n:=by
 have e:=h.prod
 have:=Pr.mul_ge l1 (Int.le_refl (Pr.prodP xs)) (by have:=Pr.prodP_pos h.all; omega)
 omega
theorem grown {H H1:Hp} {pl p:Addr} {rs:List Addr} {xs:List (Int × Int)} {x:Int × Int} (g:Same H H1) (hn:H pl=none) (hp:H1 p=none) (h1:H1 pl=some (.lst (rs.map V.ref))) (h2:TupL H1 rs xs) :
  Same H (upd (upd H1 p (.tup [.int x.1,.int x.2])) pl (.lst (rs.map V.ref ++ [.ref p])))/\(upd (upd H1 p (.tup [.int x.1,.int x.2])) pl (.lst (rs.map V.ref ++ [.ref p]))) pl=some (.lst ((rs ++ [p]).map V.ref)) /\
  TupL (upd (upd H1 p (.tup [.int x.1,.int x.2])) pl (.lst (rs.map V.ref ++ [.ref p]))) (rs ++ [p]) (xs ++ [x]):=by
 have npl:p ≠ pl:=fun z=>by subst z; rw [h1] at hp; cases hp
 have g2:=same_new hp (.tup [.int x.1,.int x.2])
 refine ⟨fun b o q=>?_,?_,?_⟩
 ·rw [upd_ne (ne_of_none q hn)]
  exact g2 b o (g b o q)
 ·rw [upd_same,List.map_append]
  rfl
 ·have t:TupL (L2.upd H1 p (.tup [.int x.1,.int x.2])) (rs ++ [p]) (xs ++ [x]):=TupL.app upd_same (TupL.same g2 h2)
  exact t.upd fun ys z=>by
   rw [upd_ne npl.symm,h1] at z
   cases z
def spParts0:Sp:=fun vs H Q E=>∃ n:Int,vs=[.int n]/\1<=n/\n<=10000000000 /\
 ∀ (p:Addr) (rs:List Addr) (xs:List (Int × Int)) (H':Hp),Same H H'->H p=none->H' p=some (.lst (rs.map V.ref))->TupL H' rs xs->Pr.Told n xs->Q (.ref p) H'
theorem small1000 {n:Nat} (h:n < 1000):n < sizeLine:=Nat.lt_of_lt_of_le h (by decide)
theorem hu64_of {A:Around} {k:Nat} (hr:Room k A):A.units+64 < cLine:=by
 have:=hr.un
 omega
def spIsPrime:Sp:=fun vs H Q _=>∃ n:Int,vs=[.int n]/\n<=10000000000/\∀ (b:Bool) (H':Hp),Same H H'->(b=true ↔ Pr.Prm n)->Q (.bl b) H'
def spAtTwo:Sp:=fun vs H Q _=>∃ (r1 r2:Addr) (o1 l1 o2 l2:Int),vs=[.ref r1,.ref r2]/\H r1=some (.tup [.int o1,.int l1])/\H r2=some (.tup [.int o2,.int l2])/\∀ H',Same H H'->Q (.int (Jc.two4 o1 l1 o2 l2)) H'
def spAtOdd:Sp:=fun vs H Q _=>∃ (r1 r2:Addr) (o1 l1 o2 l2 p:Int),vs=[.ref r1,.ref r2,.int p]/\H r1=some (.tup [.int o1,.int l1])/\H r2=some (.tup [.int o2,.int l2])/\0 < p/\p % 2=1/\p < 2^64/\l2.natAbs < 2^64/\∀ H',Same H H'->Q (.int (Jc.odd4 p o1 l1 o2 l2)) H'
def At (a b p v:Int):Prop:=(p=0/\v=if a < 0/\b < 0 then -1 else 1)\/(Pr.Prm p/\p < 10000000000/\∃ o1 l1 o2 l2,Jc.Dec a p l1 o1/\Jc.Dec b p l2 o2/\v=Jc.hs p o1 l1 o2 l2)
def spAt:Sp:=fun vs H Q _=>∃ a b p v:Int,vs=[.int a,.int b,.int p]/\a ≠ 0/\b ≠ 0/\b.natAbs < 2^64/\At a b p v/\∀ H',Same H H'->Q (.int v) H'
theorem told_prime {p:Int} {xs:List (Int × Int)} (hp:Pr.Prm p) (h:Pr.Told p xs):xs=[(p,1)]:=by
 refine Pr.told_unique xs [(p,1)] h.all h.rise (fun y hy=>?_) (List.pairwise_singleton _ _) (h.prod.trans ?_)
 ·rw [List.mem_singleton.mp hy]
  exact ⟨hp,Int.le_refl 1⟩
 ·rw [Pr.prodP_one]
  exact (Int.pow_one p).symm
theorem prime_told {p:Int} (h:Pr.Told p [(p,1)]):Pr.Prm p:=(h.all (p,1) (List.mem_singleton.mpr rfl)).prime
theorem prm_odd {p:Int} (h:Pr.Prm p) (n2:p ≠ 2):p % 2=1:=by
 rcases (show p % 2=0\/p % 2=1 by omega) with z | z
 ·have:=h.two
  exact absurd (Int.dvd_of_emod_eq_zero z) (h.no 2 (by omega) (by omega))
 ·exact z
@[irreducible] def Lm:Nat:=2^1000
theorem Lm_eq:Lm=2^1000:=by unfold Lm; rfl
theorem Lm_pos:1<=Lm:=by rw [Lm_eq]; decide +kernel
theorem Lm_bits {x:Int} (h:x.natAbs<=8*Lm):Builtin.Int.intBits x<=1004:=intBits_le_iff.mpr (Nat.lt_of_le_of_lt h (by rw [Lm_eq]; decide +kernel))
theorem Lm_log {x:Int} (h:x.natAbs<=8*Lm):x.natAbs.log2 < 9000:=Nat.lt_of_lt_of_le (log2_lt_of (k:=1004) (Nat.lt_of_le_of_lt h (by rw [Lm_eq]; decide +kernel)) (by decide)) (by decide)
theorem mulL {a b:Int} (ha:a.natAbs<=8*Lm) (hb:b.natAbs<=8*Lm):IntMulOk a b:=IntMulOk.of_le (Lm_bits ha) (Lm_bits hb) (by decide)
theorem fdiv_rest (a b:Int):a - a.fdiv b*b=a.fmod b:=by rw [Int.fmod_def,Int.mul_comm]
def spRow:Sp:=fun vs H Q _=>∃ (pa pb:Addr) (x s t y u v k:Int),vs=[.ref pa,.ref pb,.int k]/\H pa=some (.tup [.int x,.int s,.int t])/\H pb=some (.tup [.int y,.int u,.int v])/\IntMulOk k y/\IntMulOk k u/\IntMulOk k v /\
 ∀ (p:Addr) (H':Hp),Same H H'->H' p=some (.tup [.int (x - k*y),.int (s - k*u),.int (t - k*v)])->Q (.ref p) H'
def spShares:Sp:=fun vs H Q _=>∃ (x y:Int),vs=[.int x,.int y]/\x.natAbs<=Lm/\y.natAbs<=Lm /\
 ∀ (p:Addr) (H':Hp) (g s t:Int),Same H H'->H' p=some (.tup [.int g,.int s,.int t])->0<=g->g=s*x+t*y->(∃ k,x=k*g)->(∃ k,y=k*g)->s.natAbs<=8*Lm->t.natAbs<=8*Lm->Q (.ref p) H'
theorem take_more {xs:List (Int × Int)} {i:Nat} {x:Int × Int} (h:xs[i]?=some x):xs.take (i+1)=xs.take i ++ [x]:=by
 rw [List.take_succ,h]
 rfl
def absI (n:Int):Int:=if n < 0 then -n else n
def sgn (n:Int):Int:=if n < 0 then -1 else 1
def spCore0:Sp:=fun vs H Q _=>∃ n:Int,vs=[.int n]/\n ≠ 0/\-10000000000<=n/\n<=10000000000 /\
 ∀ (p:Addr) (xs:List (Int × Int)) (H':Hp),Same H H'->Pr.Told (absI n) xs->H' p=some (.tup [.int (sgn n*Pr.coreP xs),.int (Pr.rootP xs)])->Q (.ref p) H'
theorem core_more {xs:List (Int × Int)} {i:Nat} {p o:Int} (h:xs[i]?=some (p,o)):Pr.coreP (xs.take (i+1))=Pr.coreP (xs.take i)*(if o % 2=1 then p else 1):=by
 rw [take_more h,Pr.coreP_app]
 simp [Pr.coreP]
theorem root_more {xs:List (Int × Int)} {i:Nat} {p o:Int} (h:xs[i]?=some (p,o)):Pr.rootP (xs.take (i+1))=Pr.rootP (xs.take i)*p^(o / 2).toNat:=by
 rw [take_more h,Pr.rootP_app]
 simp [Pr.rootP]
open Pl
def Sm6 (n:Int):Prop:=n.natAbs<=1000000
theorem abs_dvd {p n:Int}:p ∣ absI n ↔ p ∣ n:=by
 unfold absI
 split
 ·exact Int.dvd_neg
 ·exact Iff.rfl
def Odds (n:Int) (os:List Int):Prop:=os.Nodup/\∀ p,p ∈ os ↔ Pr.Prm p/\p ≠ 2/\p ∣ n
theorem odds_told {n:Int} {xs:List (Int × Int)} (h:Pr.Told (absI n) xs):Odds n ((xs.map (·.1)).filter fun p=>decide (2 < p)):=by
 refine ⟨?_,fun p=>?_⟩
 ·show List.Pairwise (· ≠ ·) _
  exact (List.pairwise_map.mpr (h.rise.imp (fun hx e=>by omega))).filter _
 ·rw [List.mem_filter,told_mem h,abs_dvd]
  constructor
  ·rintro ⟨⟨a,b⟩,c⟩
   have:2 < p:=of_decide_eq_true c
   exact ⟨a,by omega,b⟩
  ·rintro ⟨a,b,c⟩
   have:=a.two
   exact ⟨⟨a,c⟩,decide_eq_true (by omega)⟩
def spQuest:Sp:=fun vs H Q _=>∃ a b c:Int,vs=[.int a,.int b,.int c]/\Pln a b c/\Sm6 a/\Sm6 b/\Sm6 c/\∀ (p:Addr) (ks:List Int) (H':Hp),Same H H'->H p=none->H' p=some (.lst ((0 :: 2 :: ks).map V.int))->(0 :: 2 :: ks).Pairwise (· < ·)->(0 :: 2 :: ks).length < 100->(∀ x,x ∈ ks ↔ Pr.Prm x/\x ≠ 2/\(x ∣ a\/x ∣ b\/x ∣ c))->Q (.ref p) H'
theorem told_len {n:Int} {xs:List (Int × Int)} (h:Pr.Told (absI n) xs) (hn:Sm6 n):xs.length < 21:=by
 have h1:=Pr.len_le h.all
 rw [h.prod] at h1
 have h2:absI n<=1000000:=by
  unfold absI Sm6 at *
  split <;> omega
 by_cases c:xs.length < 21
 ·exact c
 ·have:=Pr.pow_mono (show 21<=xs.length by omega)
  have:(2:Int)^21=2097152:=by decide
  omega
def spChurn:Sp:=fun vs H Q _=>∃ (c t:Int),vs=[.int c,.int t]/\0<=t/\t<=100/\∀ x:Int,0<=x->x<=2147483563->Q (.int x) H
def Qs (a b c:Int) (ks:List Int):Prop:=(∀ x,x ∈ ks ↔ Pr.Prm x/\x ≠ 2/\(x ∣ a\/x ∣ b\/x ∣ c))/\(0 :: 2 :: ks).Pairwise (· < ·)
noncomputable def bads (a b c:Int) (ks:List Int):List Int:=(0 :: 2 :: ks).filter fun x=>decide (Jc.At0 (-a*c) (-b*c) x=-1)
def spBadH:Sp:=fun vs H Q _=>∃ a b c:Int,vs=[.int a,.int b,.int c]/\Pln a b c/\Sm6 a/\Sm6 b/\Sm6 c/\∀ (p:Addr) (ks:List Int) (H':Hp),Same H H'->H p=none->Qs a b c ks->ks.length < 100->H' p=some (.lst ((bads a b c ks).map V.int))->Q (.ref p) H'
def spLShared:Sp:=fun vs H Q _=>∃ (x y:Int),vs=[.int x,.int y]/\∀ g:Int,0<=g->g ∣ x->g ∣ y->(∀ d:Int,d ∣ x->d ∣ y->d ∣ g)->Q (.int g) H
theorem fmod_lt (f:Int) {o:Int} (h:o ≠ 0):(f.fmod o).natAbs < o.natAbs:=by
 rcases Int.lt_or_gt_of_ne h with c | c
 ·have h1:f.fmod o=-((-f).fmod (-o)):=by rw [Int.neg_fmod_neg]; omega
  have h2:=Int.fmod_nonneg_of_pos (-f) (show 0 < -o by omega)
  have h3:=Int.fmod_lt_of_pos (-f) (show 0 < -o by omega)
  omega
 ·have h2:=Int.fmod_nonneg_of_pos f c
  have h3:=Int.fmod_lt_of_pos f c
  omega
theorem fmod_dvd {f o:Int} (d:Int):(d ∣ o/\d ∣ f.fmod o) ↔ (d ∣ f/\d ∣ o):=by
 have e:=Int.fmod_def f o
 have e':f=f.fmod o+o*f.fdiv o:=by omega
 constructor
 ·rintro ⟨h1,h2⟩
  refine ⟨?_,h1⟩
  rw [e']
  exact Int.dvd_add h2 (Int.dvd_trans h1 (Int.dvd_mul_right o _))
 ·rintro ⟨h1,h2⟩
  refine ⟨h2,?_⟩
  rw [e]
  exact Int.dvd_sub h1 (Int.dvd_trans h2 (Int.dvd_mul_right o _))
def Sqf (m:Int):Prop:=∀ d:Int,2<=d->¬ d*d ∣ m
def spLCore:Sp:=fun vs H Q _=>∃ n:Int,vs=[.int n]/\1<=n/\n<=1000000/\∀ m:Int,1<=m->m ∣ n->Sqf m->Q (.int m) H
theorem core_end {m k:Int} (m1:1<=m) (k2:2<=k) (hk:m < k*k) (h:∀ d:Int,2<=d->d < k->¬ d*d ∣ m):Sqf m:=fun d d2 hd=>by
 by_cases c:d < k
 ·exact h d d2 c hd
 ·have h1:=Int.le_of_dvd (by omega) hd
  have h2:=Int.mul_le_mul (show k<=d by omega) (show k<=d by omega) (by omega) (by omega)
  omega
def spLSplit:Sp:=fun vs H Q _=>∃ n:Int,vs=[.int n]/\n ≠ 0/\n.natAbs<=1000000/\∀ (p:Addr) (ks:List Int) (H':Hp),Same H H'->H p=none->H' p=some (.lst (ks.map V.int))->ks.Pairwise (· < ·)->ks.length < 20->(∀ x,x ∈ ks ↔ Pr.Prm x/\x ∣ n)->Q (.ref p) H'
structure Spl (n:Int) (fs:List Int) (r k:Int):Prop where
 pr:∀ f ∈ fs,Pr.Prm f
 eq:(n.natAbs:Int)=fs.prod*r
 r1:1<=r
 k2:2<=k
 no:Pr.NoDiv r k
theorem pow_le_prod:∀ {ps:List Int},(∀ p ∈ ps,2<=p)->((2^ps.length:Nat):Int)<=ps.prod
 | [],_=>by simp
 | p :: ps,h=>by
  have ih:=pow_le_prod (ps:=ps) fun x m=>h x (List.mem_cons_of_mem _ m)
  have hp:=h p (List.mem_cons_self ..)
  have pos:0 < 2^ps.length:=Nat.pow_pos (by decide)
  rw [List.prod_cons,List.length_cons,Nat.pow_succ]
  generalize 2^ps.length=u at ih pos ⊢
  generalize ps.prod=v at ih ⊢
  have:=Int.mul_le_mul hp ih (by omega) (by omega)
  omega
section
variable {n r k:Int} {fs:List Int}
theorem Spl.le (h:Spl n fs r k) (hn:n.natAbs<=1000000):r<=1000000/\fs.length < 20:=by
 have a:=pow_le_prod fun p m=>(h.pr p m).two
 have e:=h.eq
 have r1:=h.r1
 have pos:0 < 2^fs.length:=Nat.pow_pos (by decide)
 generalize hv:fs.prod=v at a e
 have v1:1<=v:=by omega
 have h1:=Int.mul_le_mul_of_nonneg_right v1 (show 0<=r by omega)
 have h2:=Int.mul_le_mul_of_nonneg_left r1 (show 0<=v by omega)
 refine ⟨by omega,?_⟩
 by_cases c:fs.length < 20
 ·exact c
 ·have:=Nat.pow_le_pow_right (show 0 < 2 by decide) (show 20<=fs.length by omega)
  have k:(2:Nat)^20=1048576:=by decide
  omega
theorem Spl.kb (h:Spl n fs r k) (hn:n.natAbs<=1000000) (c:k*k<=r):k<=1000:=by
 have:=(h.le hn).1
 by_cases z:k<=1000
 ·exact z
 ·have:=Int.mul_le_mul (show (1001:Int)<=k by omega) (show (1001:Int)<=k by omega) (by decide) (by omega)
  omega
theorem Spl.take (h:Spl n fs (k*r) k) (r1:1<=r):Spl n (fs ++ [k]) r k:=by
 refine ⟨fun f m=>?_,?_,r1,h.k2,fun d d2 dk dd=>h.no d d2 dk (Int.dvd_trans dd (Int.dvd_mul_left k r))⟩
 ·rcases List.mem_append.mp m with m | m
  ·exact h.pr f m
  ·rw [List.mem_singleton.mp m]
   exact Pr.prm_of h.k2 h.no (Int.dvd_mul_right k r)
 ·rw [List.prod_append,List.prod_singleton,Int.mul_assoc]
  exact h.eq
theorem Spl.next (h:Spl n fs r k) (nd:¬ k ∣ r):Spl n fs r (k+1):=⟨h.pr,h.eq,h.r1,by have:=h.k2; omega,fun d d2 dk dd=>by
 by_cases z:d=k
 ·exact nd (z ▸ dd)
 ·exact h.no d d2 (by omega) dd⟩
theorem Spl.last (h:Spl n fs r k) (c:¬ k*k<=r) (hr:1 < r):Spl n (fs ++ [r]) 1 2:=by
 have pr:Pr.Prm r:=⟨by omega,fun j j2 jj d=>by
  by_cases z:j < k
  ·exact h.no j j2 z d
  ·have:=Int.mul_le_mul (show k<=j by omega) (show k<=j by omega) (by have:=h.k2; omega) (by omega)
   omega⟩
 refine ⟨fun f m=>?_,?_,by decide,by decide,fun d d2 dk=>by omega⟩
 ·rcases List.mem_append.mp m with m | m
  ·exact h.pr f m
  ·rw [List.mem_singleton.mp m]
   exact pr
 ·rw [List.prod_append,List.prod_singleton,Int.mul_one]
  exact h.eq
theorem Spl.mem (h:Spl n fs 1 k) {x:Int}:x ∈ fs ↔ Pr.Prm x/\x ∣ n:=by
 have e:(n.natAbs:Int)=fs.prod:=by rw [h.eq,Int.mul_one]
 constructor
 ·intro m
  refine ⟨h.pr x m,Int.dvd_natAbs.mp ?_⟩
  rw [e]
  exact Pl.mem_dvd m
 ·rintro ⟨hp,hd⟩
  refine Pl.prm_mem hp h.pr ?_
  rw [<- e]
  exact Int.dvd_natAbs.mpr hd
end
theorem sgn_ok {a b:Int} (h:b=1\/b=-1):IntMulOk a b:=IntMulOk.of_right (intBits_le_64 (by rcases h with h | h <;> omega) (by rcases h with h | h <;> omega))
abbrev Pa:List Int:=[2,3,5,7,11,13,17,19,23,29,31,37]
abbrev Pb:List Int:=[41,43,47,53,59,101,499,997]
abbrev P20:List Int:=[2,3,5,7,11,13,17,19,23,29,31,37,41,43,47,53,59,101,499,997]
theorem atL2 {L:List Int} {k:Int} (h0:0<=k) (h1:k < (L.length:Nat)):atI (L.map V.int) k=some (.int (L.getD k.toNat 0)):=by
 have hk:k.toNat < L.length:=by omega
 have q:atI (L.map V.int) ((k.toNat:Nat):Int)=some (.int (L.getD k.toNat 0)):=atI_nat (by
  rw [List.getElem?_map,List.getD_eq_getElem?_getD,List.getElem?_eq_getElem hk]
  rfl)
 rw [show ((k.toNat:Nat):Int)=k by omega] at q
 exact q
def spPrimes:Sp:=fun vs H Q _=>vs=[]/\∀ (p:Addr) (H':Hp),Same H H'->H p=none->H' p=some (.lst (P20.map V.int))->Q (.ref p) H'
def Mk (M n:Int) (ps:List Int):Prop:=absI n=ps.prod/\absI n<=M
structure Al (S p0 p1 p2:List Int):Prop where
 nd:(p0 ++ (p1 ++ p2)).Nodup
 a0:∀ p ∈ p0,p ∈ S
 a1:∀ p ∈ p1,p ∈ S
 a2:∀ p ∈ p2,p ∈ S
theorem Al.rot {S p0 p1 p2:List Int} (h:Al S p0 p1 p2):Al S p1 p2 p0:=by
 refine ⟨?_,h.a1,h.a2,h.a0⟩
 have n:=h.nd
 rw [<- List.append_assoc]
 exact (List.perm_append_comm (l₁:=p1 ++ p2) (l₂:=p0)).nodup_iff.mpr n
theorem Al.mono {S T p0 p1 p2:List Int} (h:Al S p0 p1 p2) (hs:∀ w ∈ S,w ∈ T):Al T p0 p1 p2:=⟨h.nd,fun p m=>hs _ (h.a0 p m),fun p m=>hs _ (h.a1 p m),fun p m=>hs _ (h.a2 p m)⟩
theorem Al.add {S T p0 p1 p2:List Int} {z:Int} (h:Al S p0 p1 p2) (hs:∀ w ∈ S,w ∈ T) (hz:z ∉ S) (ht:z ∈ T):Al T (p0 ++ [z]) p1 p2:=by
 refine ⟨?_,fun p m=>?_,fun p m=>hs _ (h.a1 p m),fun p m=>hs _ (h.a2 p m)⟩
 ·rw [List.append_assoc,List.singleton_append]
  refine List.perm_middle.nodup_iff.mpr (List.nodup_cons.mpr ⟨fun m=>?_,h.nd⟩)
  rcases List.mem_append.mp m with m | m
  ·exact hz (h.a0 _ m)
  rcases List.mem_append.mp m with m | m
  ·exact hz (h.a1 _ m)
  ·exact hz (h.a2 _ m)
 ·rcases List.mem_append.mp m with m | m
  ·exact hs _ (h.a0 p m)
  ·rw [List.mem_singleton.mp m]
   exact ht
structure Hs (H H':Hp) (l m q0 q1 q2:Addr) (n0 n1 n2:Int) (p0 p1 p2:List Int):Prop where
 same:Same H H'
 hl:H' l=some (.lst [.int n0,.int n1,.int n2])
 hm:H' m=some (.lst [.ref q0,.ref q1,.ref q2])
 h0:H' q0=some (.lst (p0.map V.int))
 h1:H' q1=some (.lst (p1.map V.int))
 h2:H' q2=some (.lst (p2.map V.int))
 fl:H l=none
 f0:H q0=none
 f1:H q1=none
 f2:H q2=none
 lm:m ≠ l
 l0:q0 ≠ l
 l1:q1 ≠ l
 l2:q2 ≠ l
 m0:q0 ≠ m
 m1:q1 ≠ m
 m2:q2 ≠ m
 d01:q0 ≠ q1
 d02:q0 ≠ q2
 d12:q1 ≠ q2
section
variable {H H':Hp} {l m q0 q1 q2:Addr} {n0 n1 n2:Int} {p0 p1 p2:List Int}
theorem Hs.grow (h:Hs H H' l m q0 q1 q2 n0 n1 n2 p0 p1 p2) {H2:Hp} (g:Same H' H2):Hs H H2 l m q0 q1 q2 n0 n1 n2 p0 p1 p2:=
 { h with same:=h.same.trans g,hl:=g _ _ h.hl,hm:=g _ _ h.hm,h0:=g _ _ h.h0,h1:=g _ _ h.h1,h2:=g _ _ h.h2 }
theorem same_put {p:Addr} {o:HO} (g:Same H H') (n:H p=none):Same H (upd H' p o):=fun b u z=>by
 rw [upd_ne (ne_of_none z n)]
 exact g b u z
theorem Hs.setn (h:Hs H H' l m q0 q1 q2 n0 n1 n2 p0 p1 p2) (a b c:Int):Hs H (upd H' l (.lst [.int a,.int b,.int c])) l m q0 q1 q2 a b c p0 p1 p2:=
 { h with same:=same_put h.same h.fl,hl:=upd_same,hm:=by rw [upd_ne h.lm]; exact h.hm,h0:=by rw [upd_ne h.l0]; exact h.h0,h1:=by rw [upd_ne h.l1]; exact h.h1,h2:=by rw [upd_ne h.l2]; exact h.h2 }
theorem Hs.app0 (h:Hs H H' l m q0 q1 q2 n0 n1 n2 p0 p1 p2) (z:Int):Hs H (upd H' q0 (.lst (p0.map V.int ++ [.int z]))) l m q0 q1 q2 n0 n1 n2 (p0 ++ [z]) p1 p2:=
 { h with same:=same_put h.same h.f0,hl:=by rw [upd_ne h.l0.symm]; exact h.hl,hm:=by rw [upd_ne h.m0.symm]; exact h.hm,h0:=by rw [List.map_append]; exact upd_same,h1:=by rw [upd_ne h.d01.symm]; exact h.h1,h2:=by rw [upd_ne h.d02.symm]; exact h.h2 }
theorem Hs.app1 (h:Hs H H' l m q0 q1 q2 n0 n1 n2 p0 p1 p2) (z:Int):Hs H (upd H' q1 (.lst (p1.map V.int ++ [.int z]))) l m q0 q1 q2 n0 n1 n2 p0 (p1 ++ [z]) p2:=
 { h with same:=same_put h.same h.f1,hl:=by rw [upd_ne h.l1.symm]; exact h.hl,hm:=by rw [upd_ne h.m1.symm]; exact h.hm,h0:=by rw [upd_ne h.d01]; exact h.h0,h1:=by rw [List.map_append]; exact upd_same,h2:=by rw [upd_ne h.d12.symm]; exact h.h2 }
theorem Hs.app2 (h:Hs H H' l m q0 q1 q2 n0 n1 n2 p0 p1 p2) (z:Int):Hs H (upd H' q2 (.lst (p2.map V.int ++ [.int z]))) l m q0 q1 q2 n0 n1 n2 p0 p1 (p2 ++ [z]):=
 { h with same:=same_put h.same h.f2,hl:=by rw [upd_ne h.l2.symm]; exact h.hl,hm:=by rw [upd_ne h.m2.symm]; exact h.hm,h0:=by rw [upd_ne h.d02]; exact h.h0,h1:=by rw [upd_ne h.d12]; exact h.h1,h2:=by rw [List.map_append]; exact upd_same }
end
structure Made (S:List Int) (M n0 n1 n2:Int) (p0 p1 p2:List Int):Prop where
 al:Al S p0 p1 p2
 k0:Mk M n0 p0
 k1:Mk M n1 p1
 k2:Mk M n2 p2
theorem absI_mul {n z:Int} (hz:0 < z):absI (n*z)=absI n*z:=by
 unfold absI
 by_cases c:n < 0
 ·have:n*z < 0:=Int.mul_neg_of_neg_of_pos c hz
  rw [if_pos c,if_pos this,Int.neg_mul]
 ·have:¬ n*z < 0:=Int.not_lt.mpr (Int.mul_nonneg (by omega) (by omega))
  rw [if_neg c,if_neg this]
theorem absI_neg (n:Int):absI (0 - n)=absI n:=by
 unfold absI
 split <;> split <;> omega
theorem absI_pos {n:Int} (h:0 < n):absI n=n:=by
 unfold absI
 rw [if_neg (by omega)]
theorem Mk.mul {M n z:Int} {ps:List Int} (h:Mk M n ps) (hz:0 < z) (hm:absI n*z<=M):Mk M (n*z) (ps ++ [z]):=by
 refine ⟨?_,by rw [absI_mul hz]; exact hm⟩
 rw [absI_mul hz,List.prod_append,List.prod_singleton,h.1]
theorem Mk.neg {M n:Int} {ps:List Int} (h:Mk M n ps):Mk M (0 - n) ps:=⟨by rw [absI_neg]; exact h.1,by rw [absI_neg]; exact h.2⟩
section
variable {S T:List Int} {M n0 n1 n2 z:Int} {p0 p1 p2:List Int}
theorem Made.mono (h:Made S M n0 n1 n2 p0 p1 p2) (hs:∀ w ∈ S,w ∈ T):Made T M n0 n1 n2 p0 p1 p2:={ h with al:=h.al.mono hs }
theorem Made.mul0 (h:Made S M n0 n1 n2 p0 p1 p2) (hs:∀ w ∈ S,w ∈ T) (hz:z ∉ S) (ht:z ∈ T) (z0:0 < z) (hm:absI n0*z<=M):Made T M (n0*z) n1 n2 (p0 ++ [z]) p1 p2:=
 ⟨h.al.add hs hz ht,h.k0.mul z0 hm,h.k1,h.k2⟩
theorem Made.mul1 (h:Made S M n0 n1 n2 p0 p1 p2) (hs:∀ w ∈ S,w ∈ T) (hz:z ∉ S) (ht:z ∈ T) (z0:0 < z) (hm:absI n1*z<=M):Made T M n0 (n1*z) n2 p0 (p1 ++ [z]) p2:=
 ⟨(h.al.rot.add hs hz ht).rot.rot,h.k0,h.k1.mul z0 hm,h.k2⟩
theorem Made.mul2 (h:Made S M n0 n1 n2 p0 p1 p2) (hs:∀ w ∈ S,w ∈ T) (hz:z ∉ S) (ht:z ∈ T) (z0:0 < z) (hm:absI n2*z<=M):Made T M n0 n1 (n2*z) p0 p1 (p2 ++ [z]):=
 ⟨(h.al.rot.rot.add hs hz ht).rot,h.k0,h.k1,h.k2.mul z0 hm⟩
end
theorem pow_len:∀ {ps:List Int},(∀ p ∈ ps,2<=p)->((2^ps.length:Nat):Int)<=ps.prod
 | [],_=>by simp
 | p :: ps,h=>by
  have ih:=pow_len (ps:=ps) fun x m=>h x (List.mem_cons_of_mem _ m)
  have hp:=h p (List.mem_cons_self ..)
  have pos:0 < 2^ps.length:=Nat.pow_pos (by decide)
  rw [List.prod_cons,List.length_cons,Nat.pow_succ]
  generalize 2^ps.length=u at ih pos ⊢
  generalize ps.prod=v at ih ⊢
  have:=Int.mul_le_mul hp ih (by omega) (by omega)
  omega
theorem mk_ne0 {M n:Int} {ps:List Int} (k:Mk M n ps) (a:∀ p ∈ ps,2<=p):absI n ≠ 0:=by
 have h:=pow_len a
 have p:0 < 2^ps.length:=Nat.pow_pos (by decide)
 rw [k.1]
 generalize 2^ps.length=u at h p
 omega
theorem atI0 {α:Type} {a b c:α} {k:Int} (e:k=0):atI [a,b,c] k=some a:=by subst e; rfl
theorem atI1 {α:Type} {a b c:α} {k:Int} (e:k=1):atI [a,b,c] k=some b:=by subst e; rfl
theorem atI2 {α:Type} {a b c:α} {k:Int} (e:k=2):atI [a,b,c] k=some c:=by subst e; rfl
theorem ixN0 {k:Int} (e:k=0):ixN 3 k=some 0:=by subst e; rfl
theorem ixN1 {k:Int} (e:k=1):ixN 3 k=some 1:=by subst e; rfl
theorem ixN2 {k:Int} (e:k=2):ixN 3 k=some 2:=by subst e; rfl
abbrev P16:List Int:=[61,67,71,73,79,83,89,97,103,107,211,307,1009,9973,99991,999983]
abbrev P36:List Int:=[2,3,5,7,11,13,17,19,23,29,31,37,41,43,47,53,59,101,499,997,61,67,71,73,79,83,89,97,103,107,211,307,1009,9973,99991,999983]
theorem chk36:(P36.all fun p=>decide (2<=p/\p < 1000000) && Jc.noDiv2 p.toNat 1000)=true:=by decide +kernel
theorem prm36 {p:Int} (h:p ∈ P36):Pr.Prm p:=by
 have c:=List.all_eq_true.mp chk36 p h
 rw [Bool.and_eq_true] at c
 have b:=of_decide_eq_true c.1
 have q:=Jc.prm_by2 (p:=p.toNat) (m:=1000) (by omega) (by omega) c.2
 rw [Int.toNat_of_nonneg (by omega)] at q
 exact q
theorem step20:∀ i:Nat,i < 20->2<=P20.getD i 0/\P20.getD i 0<=997/\P20.getD i 0 ∉ P20.take i/\P20.getD i 0 ∈ P20.take (i+1)/\(∀ w ∈ P20.take i,w ∈ P20.take (i+1)):=by decide
theorem step16:∀ i:Nat,i < 16->61<=P16.getD i 0/\P16.getD i 0<=999983/\P16.getD i 0 ∉ P20/\P16.getD i 0 ∈ P36:=by decide
theorem p20_36:∀ p ∈ P20,p ∈ P36:=by decide
theorem two20:∀ p ∈ P20,2<=p:=by decide
theorem take20 {i:Nat} (h:i<=20):∀ w ∈ P20.take i,w ∈ P20:=fun w h=>List.mem_of_mem_take h
theorem at20 {i:Nat} (h:i < 20):atI (P20.map V.int) (0+(i:Int))=some (.int (P20.getD i 0)):=by
 have q:=atL2 (L:=P20) (k:=0+(i:Int)) (by omega) (by show 0+(i:Int) < 20; omega)
 rw [show (0+(i:Int)).toNat=i by omega] at q
 exact q
theorem line20 {k:Nat} (h:k < 20):k < sizeLine:=Nat.lt_of_lt_of_le h (by decide)
theorem Mk.len {M n:Int} {ps:List Int} (h:Mk M n ps) (hM:M<=1000000) (h2:∀ p ∈ ps,2<=p):ps.length < 20:=by
 have a:=pow_len h2
 have b:=h.1
 have c:=h.2
 by_cases e:ps.length < 20
 ·exact e
 ·have:=Nat.pow_le_pow_right (show 0 < 2 by decide) (show 20<=ps.length by omega)
  generalize 2^ps.length=u at a this
  have k:(2:Nat)^20=1048576:=by decide
  omega
def spLPlain (K:W.Frag):Sp:=fun vs H Q _=>∃ (a:Addr) (ns:List Int) (M:Int),vs=[.ref a,.int 3,.int 20,.int M]/\SqL K H a (ns.map V.int)/\1<=M/\M<=1000000 /\
 ∀ (t:Addr) (H':Hp) (l m q0 q1 q2:Addr) (n0 n1 n2:Int) (p0 p1 p2:List Int),Hs H H' l m q0 q1 q2 n0 n1 n2 p0 p1 p2->H' t=some (.tup [.ref l,.ref m])->Made P20 M n0 n1 n2 p0 p1 p2->Q (.ref t) H'
def spMore:Sp:=fun vs H Q _=>∃ (B:Hp) (c M:Int) (l m q0 q1 q2:Addr) (n0 n1 n2:Int) (p0 p1 p2:List Int),vs=[.ref l,.ref m,.int c,.int M]/\M<=1000000/\Hs B H l m q0 q1 q2 n0 n1 n2 p0 p1 p2/\Made P20 M n0 n1 n2 p0 p1 p2 /\
 ∀ (H':Hp) (n0 n1 n2:Int) (p0 p1 p2:List Int),Hs B H' l m q0 q1 q2 n0 n1 n2 p0 p1 p2->Made P36 M n0 n1 n2 p0 p1 p2->Q .non H'
theorem line_big {k:Nat} (h:k<=4000):k < sizeLine:=Nat.lt_of_le_of_lt h (by decide)
structure Rows3 (p0 p1 p2:List Int):Prop where
 nd:(p0 ++ (p1 ++ p2)).Nodup
 b0:∀ p ∈ p0,2<=p/\p<=1000000
 b1:∀ p ∈ p1,2<=p/\p<=1000000
 b2:∀ p ∈ p2,2<=p/\p<=1000000
 l0:p0.length < 20
 l1:p1.length < 20
 l2:p2.length < 20
def Cop (a b:Int):Prop:=∀ p,Pr.Prm p->p ∣ a->¬ p ∣ b
theorem two_at (c:Int):∃ s:Int,atI [V.int 1,.int (-1)] (c % 2)=some (.int s)/\(s=1\/s=-1):=by
 rcases (show c % 2=0\/c % 2=1 by omega) with z | z
 ·exact ⟨1,by rw [z]; rfl,.inl rfl⟩
 ·exact ⟨-1,by rw [z]; rfl,.inr rfl⟩
theorem dvd_pm {d r s:Int} (h:s=1\/s=-1):d ∣ r*s ↔ d ∣ r:=by
 rcases h with rfl | rfl
 ·rw [Int.mul_one]
 ·rw [Int.mul_neg,Int.mul_one,Int.dvd_neg]
structure Dg (M:Int) (ns:List Int):Prop where
 nz:∀ n ∈ ns,n ≠ 0
 le:∀ n ∈ ns,(n.natAbs:Int)<=M
 sq:∀ n ∈ ns,Sqf n
 co:ns.Pairwise fun a b=>Cop b a
theorem Dg.nil {M:Int}:Dg M []:=⟨fun n h=>(by cases h),fun n h=>(by cases h),fun n h=>(by cases h),List.Pairwise.nil⟩
theorem Dg.add {M r s:Int} {ns:List Int} (D:Dg M ns) (r1:1<=r) (rM:r<=M) (sr:Sqf r) (ev:s=1\/s=-1) (co:∀ o ∈ ns,Cop r o):Dg M (ns ++ [r*s]):=by
 have e:r*s=r\/r*s=-r:=by rcases ev with rfl | rfl <;> omega
 refine ⟨fun n h=>?_,fun n h=>?_,fun n h=>?_,?_⟩
 ·rcases List.mem_append.mp h with h | h
  ·exact D.nz n h
  ·rw [List.mem_singleton.mp h]; omega
 ·rcases List.mem_append.mp h with h | h
  ·exact D.le n h
  ·rw [List.mem_singleton.mp h]; omega
 ·rcases List.mem_append.mp h with h | h
  ·exact D.sq n h
  ·rw [List.mem_singleton.mp h]
   exact fun d d2 dd=>sr d d2 ((dvd_pm ev).mp dd)
 ·refine List.pairwise_append.mpr ⟨D.co,List.pairwise_singleton _ _,fun a ha b hb=>?_⟩
  rw [List.mem_singleton.mp hb]
  exact fun p hp h=>co a ha p hp ((dvd_pm ev).mp h)
structure Row (H1 H':Hp) (n:Int) (r:Addr) (ks:List Int):Prop where
 h:H' r=some (.lst (ks.map V.int))
 f:H1 r=none
 st:ks.Pairwise (· < ·)
 ln:ks.length < 20
 mem:∀ x,x ∈ ks ↔ Pr.Prm x/\x ∣ n
theorem Row.ne {H1 H':Hp} {n:Int} {r p a:Addr} {ks:List Int} {vs:List V} (R:Row H1 H' n r ks) (hp:H' p=some (.lst (.ref a :: vs))):r ≠ p:=fun z=>by
 have h:=R.h
 rw [z,hp] at h
 cases ks with
 | nil=>cases h
 | cons k ks=>cases h
structure Spz (H1 H':Hp) (ns:List Int) (rs:List (Addr × List Int)):Prop where
 row:∀ (j:Nat) {n:Int} {r:Addr × List Int},ns[j]?=some n->rs[j]?=some r->Row H1 H' n r.1 r.2
 nd:(rs.map (·.1)).Nodup
theorem Spz.nil {H1 H':Hp} {ns:List Int}:Spz H1 H' ns []:=⟨fun j n r _ h=>(by cases h),List.nodup_nil⟩
theorem Spz.add {H1 H' H2:Hp} {ns:List Int} {rs:List (Addr × List Int)} {acc p:Addr} {ks:List Int} {n:Int} (S:Spz H1 H' ns rs) (g:Same H1 H') (g2:Same H' H2) (ha:H' acc=some (.lst (rs.map fun r=>V.ref r.1))) (fp:H' p=none) (hp:H2 p=some (.lst (ks.map V.int)))
  (hn:ns[rs.length]?=some n) (st:ks.Pairwise (· < ·)) (ln:ks.length < 20) (mem:∀ x,x ∈ ks ↔ Pr.Prm x/\x ∣ n):Spz H1 (upd H2 acc (.lst (rs.map (fun r=>V.ref r.1) ++ [.ref p]))) ns (rs ++ [(p,ks)]):=by
 have pa:p ≠ acc:=(ne_of_none ha fp).symm
 refine ⟨fun j m r hm hr=>?_,?_⟩
 ·by_cases c:j < rs.length
  ·rw [List.getElem?_append_left c] at hr
   have R:=S.row j hm hr
   have ne:r.1 ≠ acc:=by
    match rs,c,ha with
    | x :: xs,_,ha=>exact R.ne ha
   exact ⟨by rw [upd_ne ne]; exact g2 _ _ R.h,R.f,R.st,R.ln,R.mem⟩
  ·rw [List.getElem?_append_right (by omega)] at hr
   have e:j - rs.length=0:=by
    by_cases z:j - rs.length=0
    ·exact z
    ·rw [List.getElem?_eq_none (by simp; omega)] at hr
     cases hr
   rw [e] at hr
   have e2:j=rs.length:=by omega
   subst e2
   rw [hn] at hm
   cases hm
   cases hr
   exact ⟨by rw [upd_ne pa]; exact hp,g.free fp,st,ln,mem⟩
 ·rw [List.map_append]
  refine List.nodup_append.mpr ⟨S.nd,by simp,fun a ha' b hb z=>?_⟩
  have hb':b=p:=by simpa using hb
  obtain ⟨r,hr,er⟩:=List.mem_map.mp ha'
  obtain ⟨j,hj,ej⟩:=List.getElem_of_mem hr
  have hl:rs.length < ns.length:=by
   by_cases c:rs.length < ns.length
   ·exact c
   ·rw [List.getElem?_eq_none (by omega)] at hn
    cases hn
  have R:=S.row j (List.getElem?_eq_getElem (show j < ns.length by omega)) (by rw [List.getElem?_eq_getElem hj,ej])
  have:=R.h
  have z2:r.1=p:=by rw [er,z,hb']
  rw [z2,fp] at this
  cases this
structure Tri (M n0 n1 n2:Int) (p0 p1 p2:List Int):Prop where
 P:Pln n0 n1 n2
 y0:(n0.natAbs:Int)<=M
 y1:(n1.natAbs:Int)<=M
 y2:(n2.natAbs:Int)<=M
 R:Rows3 p0 p1 p2
 m0:∀ x,x ∈ p0 ↔ Pr.Prm x/\x ∣ n0
 m1:∀ x,x ∈ p1 ↔ Pr.Prm x/\x ∣ n1
 m2:∀ x,x ∈ p2 ↔ Pr.Prm x/\x ∣ n2
theorem row_b {n M p:Int} (n0:n ≠ 0) (h:(n.natAbs:Int)<=M) (hM:M<=1000000) (hp:Pr.Prm p) (hd:p ∣ n):2<=p/\p<=1000000:=by
 have h1:=Nat.le_of_dvd (by omega) (Int.natAbs_dvd_natAbs.mpr hd)
 have:=hp.two
 omega
theorem tri_of {M n0 n1 n2:Int} {p0 p1 p2:List Int} (hM:M<=1000000) (P:Pln n0 n1 n2) (y0:(n0.natAbs:Int)<=M) (y1:(n1.natAbs:Int)<=M) (y2:(n2.natAbs:Int)<=M) (d0:p0.Nodup) (d1:p1.Nodup) (d2:p2.Nodup) (l0:p0.length < 20) (l1:p1.length < 20) (l2:p2.length < 20)
  (m0:∀ x,x ∈ p0 ↔ Pr.Prm x/\x ∣ n0) (m1:∀ x,x ∈ p1 ↔ Pr.Prm x/\x ∣ n1) (m2:∀ x,x ∈ p2 ↔ Pr.Prm x/\x ∣ n2):Tri M n0 n1 n2 p0 p1 p2:=by
 refine ⟨P,y0,y1,y2,⟨?_,fun p h=>row_b P.a0 y0 hM ((m0 p).mp h).1 ((m0 p).mp h).2,fun p h=>row_b P.b0 y1 hM ((m1 p).mp h).1 ((m1 p).mp h).2,fun p h=>row_b P.c0 y2 hM ((m2 p).mp h).1 ((m2 p).mp h).2,l0,l1,l2⟩,m0,m1,m2⟩
 refine List.nodup_append.mpr ⟨d0,List.nodup_append.mpr ⟨d1,d2,fun a ha b hb z=>?_⟩,fun a ha b hb z=>?_⟩
 ·subst z
  exact P.bc a ((m1 a).mp ha).1 ((m1 a).mp ha).2 ((m2 a).mp hb).2
 ·subst z
  rcases List.mem_append.mp hb with hb | hb
  ·exact P.ab a ((m0 a).mp ha).1 ((m0 a).mp ha).2 ((m1 a).mp hb).2
  ·exact P.ca a ((m0 a).mp ha).1 ((m2 a).mp hb).2 ((m0 a).mp ha).2
theorem Dg.tri {M n0 n1 n2:Int} {p0 p1 p2:List Int} {H1 H':Hp} {q0 q1 q2:Addr} (D:Dg M [n0,n1,n2]) (hM:M<=1000000) (r0:Row H1 H' n0 q0 p0) (r1:Row H1 H' n1 q1 p1) (r2:Row H1 H' n2 q2 p2):Tri M n0 n1 n2 p0 p1 p2:=by
 have co:=D.co
 simp only [List.pairwise_cons,List.mem_cons,List.not_mem_nil,or_false] at co
 have c01:=co.1 n1 (.inl rfl)
 have c02:=co.1 n2 (.inr rfl)
 have c12:=co.2.1 n2 rfl
 have sq:∀ {n:Int},Sqf n->∀ p,Pr.Prm p->¬ p*p ∣ n:=fun h p hp=>h p hp.two
 have nd:∀ {l:List Int},l.Pairwise (· < ·)->l.Nodup:=fun h=>h.imp fun h=>Int.ne_of_lt h
 exact tri_of hM ⟨D.nz n0 (by simp),D.nz n1 (by simp),D.nz n2 (by simp),sq (D.sq n0 (by simp)),sq (D.sq n1 (by simp)),sq (D.sq n2 (by simp)),fun p hp h h'=>c01 p hp h' h,fun p hp h h'=>c12 p hp h' h,c02⟩
  (D.le n0 (by simp)) (D.le n1 (by simp)) (D.le n2 (by simp)) (nd r0.st) (nd r1.st) (nd r2.st) r0.ln r1.ln r2.ln r0.mem r1.mem r2.mem
def spLDig:Sp:=fun vs H Q _=>∃ (c M:Int),vs=[.int c,.int 3,.int M]/\1<=M/\M<=1000000 /\
 ∀ (t:Addr) (H':Hp) (l m q0 q1 q2:Addr) (n0 n1 n2:Int) (p0 p1 p2:List Int),Hs H H' l m q0 q1 q2 n0 n1 n2 p0 p1 p2->H' t=some (.tup [.ref l,.ref m])->Tri M n0 n1 n2 p0 p1 p2->Q (.ref t) H'
theorem mk_mem {M n:Int} {ps:List Int} (k:Mk M n ps) (a:∀ p ∈ ps,p ∈ P36) (x:Int):x ∈ ps ↔ Pr.Prm x/\x ∣ n:=by
 constructor
 ·intro m
  refine ⟨prm36 (a x m),abs_dvd.mp ?_⟩
  rw [k.1]
  exact Pl.mem_dvd m
 ·rintro ⟨hp,hd⟩
  refine Pl.prm_mem hp (fun q m=>prm36 (a q m)) ?_
  rw [<- k.1]
  exact abs_dvd.mpr hd
theorem mk_sq {M n:Int} {ps:List Int} (k:Mk M n ps) (a:∀ p ∈ ps,p ∈ P36) (nd:ps.Nodup) (p:Int) (hp:Pr.Prm p):¬ p*p ∣ n:=fun h=>by
 have h2:=abs_dvd.mpr h
 rw [k.1] at h2
 exact Pl.no_sq hp (fun q m=>prm36 (a q m)) nd h2
theorem abs_nat {M n:Int} {ps:List Int} (k:Mk M n ps):(n.natAbs:Int)<=M:=by
 have:=k.2
 unfold absI at this
 split at this <;> omega
theorem Made.tri {M n0 n1 n2:Int} {p0 p1 p2:List Int} (md:Made P36 M n0 n1 n2 p0 p1 p2) (hM:M<=1000000):Tri M n0 n1 n2 p0 p1 p2:=by
 have n:=md.al.nd
 obtain ⟨e0,e12,d0⟩:=List.nodup_append.mp n
 obtain ⟨e1,e2,d1⟩:=List.nodup_append.mp e12
 have m0:=mk_mem md.k0 md.al.a0
 have m1:=mk_mem md.k1 md.al.a1
 have m2:=mk_mem md.k2 md.al.a2
 have t0:∀ p ∈ p0,2<=p:=fun p h=>((m0 p).mp h).1.two
 have t1:∀ p ∈ p1,2<=p:=fun p h=>((m1 p).mp h).1.two
 have t2:∀ p ∈ p2,2<=p:=fun p h=>((m2 p).mp h).1.two
 have nz:∀ {n:Int},absI n ≠ 0->n ≠ 0:=fun h e=>h (by rw [e]; rfl)
 refine tri_of hM ⟨nz (mk_ne0 md.k0 t0),nz (mk_ne0 md.k1 t1),nz (mk_ne0 md.k2 t2),mk_sq md.k0 md.al.a0 e0,mk_sq md.k1 md.al.a1 e1,mk_sq md.k2 md.al.a2 e2,?_,?_,?_⟩ (abs_nat md.k0) (abs_nat md.k1) (abs_nat md.k2) e0 e1 e2 (md.k0.len hM t0) (md.k1.len hM t1) (md.k2.len hM t2) m0 m1 m2
 ·exact fun p hp h h'=>d0 p ((m0 p).mpr ⟨hp,h⟩) p (List.mem_append_left _ ((m1 p).mpr ⟨hp,h'⟩)) rfl
 ·exact fun p hp h h'=>d1 p ((m1 p).mpr ⟨hp,h⟩) p ((m2 p).mpr ⟨hp,h'⟩) rfl
 ·exact fun p hp h h'=>d0 p ((m0 p).mpr ⟨hp,h'⟩) p (List.mem_append_right _ ((m2 p).mpr ⟨hp,h⟩)) rfl
theorem bads_mem {a b c:Int} {ks:List Int} (P:Pln a b c) (hq:Qs a b c ks) (x:Int):x ∈ bads a b c ks ↔ Jc.BadJ a b c x:=by
 have at_:x ∈ (0 :: 2 :: ks) ↔ (x=0\/x=2\/(Pr.Prm x/\x ≠ 2/\(x ∣ a\/x ∣ b\/x ∣ c))):=by
  rw [List.mem_cons,List.mem_cons,hq.1]
 unfold bads
 rw [List.mem_filter,at_,decide_eq_true_iff]
 constructor
 ·rintro ⟨h,e⟩
  exact (Jc.at0_bad P h).mp e
 ·intro h
  have h2:x=0\/x=2\/(Pr.Prm x/\x ≠ 2/\(x ∣ a\/x ∣ b\/x ∣ c)):=by
   rcases h with ⟨e,_⟩ | ⟨e,_⟩ | ⟨hp,n2,h⟩
   ·exact .inl e
   ·exact .inr (.inl e)
   ·exact .inr (.inr ⟨hp,n2,h.imp (·.1) (Or.imp (·.1) (·.1))⟩)
  exact ⟨h2,(Jc.at0_bad P h2).mpr h⟩
section
variable {M a b c:Int} {p0 p1 p2:List Int}
end
def spPower:Sp:=fun vs H Q _=>∃ (x k n:Int),vs=[.int x,.int k,.int n]/\0<=k/\0 < n/\n.natAbs<=Lm/\Q (.int (Pw.PM x k.toNat n)) H
theorem half_toNat (l:Int) (h:0<=l):(l / 2).toNat=l.toNat / 2:=by omega
def Q6 (p:Int):Prop:=Pr.Prm p/\p<=1000000
theorem q6 {p:Int} (h:Q6 p):Pr.Prm p/\p<=1000000/\(p ≠ 2->∃ z:Int,2<=z/\z < p/\Jc.J z p=-1):=⟨h.1,h.2,fun n2=>Jc.non_ex h.1 n2⟩
def spHas:Sp:=fun vs H Q _=>∃ x p:Int,vs=[.int x,.int p]/\Pr.Prm p/\p<=1000000/\∀ (b:Bool) (H':Hp),Same H H'->(b=true ↔ p=2\/Jc.J x p ≠ -1)->Q (.bl b) H'
def spLeast:Sp:=fun vs H Q _=>∃ p:Int,vs=[.int p]/\Q6 p/\p ≠ 2/\∀ (z:Int) (H':Hp),Same H H'->Jc.J z p=-1->Q (.int z) H'
def spRootO:Sp:=fun vs H Q _=>∃ x p:Int,vs=[.int x,.int p]/\Q6 p/\p ≠ 2/\Jc.J x p=1/\∀ (w:Int) (H':Hp),Same H H'->0<=w->w < p->(w*w - x) % p=0->Q (.int w) H'
def spRootP:Sp:=fun vs H Q _=>∃ x p:Int,vs=[.int x,.int p]/\Q6 p/\(p=2\/Jc.J x p ≠ -1)/\∀ (w:Int) (H':Hp),Same H H'->0<=w->w < p->(w*w - x) % p=0->Q (.int w) H'
theorem iteNE {b:Bool} {A B:Prop} (h:b=true) (hB:B):if (!b)=true then A else B:=by
 subst h
 exact iteF hB
theorem iteNF {b:Bool} {A B:Prop} (h:b=false) (hA:A):if (!b)=true then A else B:=by
 subst h
 exact iteT hA
def SqF (n:Int):Prop:=n ≠ 0/\∀ p,Pr.Prm p->¬ p*p ∣ n
noncomputable def bS (n:Int):Bool:=@decide (SqF n) (Classical.propDecidable _)
noncomputable def bC (x y:Int):Bool:=@decide (Cop x y) (Classical.propDecidable _)
theorem bS_iff {n:Int}:bS n=true ↔ SqF n:=@decide_eq_true_iff _ (Classical.propDecidable _)
theorem bC_iff {x y:Int}:bC x y=true ↔ Cop x y:=@decide_eq_true_iff _ (Classical.propDecidable _)
theorem bS_eq {n:Int} {b:Bool} (h:b=true ↔ SqF n):bS n=b:=by rw [Bool.eq_iff_iff,bS_iff,h]
theorem bC_eq {x y:Int} {b:Bool} (h:b=true ↔ Cop x y):bC x y=b:=by rw [Bool.eq_iff_iff,bC_iff,h]
noncomputable def sqB:V->V
 | .int n=>.bl (bS n)
 | v=>v
theorem pln_iff {a b c:Int}:Pln a b c ↔ (SqF a/\SqF b/\SqF c)/\(Cop a b/\Cop b c/\Cop c a):=
 ⟨fun h=>⟨⟨⟨h.a0,h.sa⟩,⟨h.b0,h.sb⟩,⟨h.c0,h.sc⟩⟩,h.ab,h.bc,h.ca⟩,fun ⟨⟨x,y,z⟩,u,v,w⟩=>⟨x.1,y.1,z.1,x.2,y.2,z.2,u,v,w⟩⟩
theorem all3 {x y z:Bool}:([x,y,z].all id)=true ↔ x=true/\y=true/\z=true:=by
 cases x <;> cases y <;> cases z <;> simp
theorem cop_of {x y g s t:Int} (e:g=s*x+t*y) (h:g=1):Cop x y:=fun p hp h1 h2=>by
 have:p ∣ g:=by
  rw [e]
  exact Int.dvd_add (Int.dvd_trans h1 (Int.dvd_mul_left _ _)) (Int.dvd_trans h2 (Int.dvd_mul_left _ _))
 rw [h] at this
 exact Pr.prm_not_one hp this
theorem get3i {x y z:Int} {i:Nat} {v:V} (h:[V.int x,.int y,.int z][i]?=some v):∃ n,v=.int n/\(n=x\/n=y\/n=z):=by
 match i,h with
 | 0,h=>exact ⟨x,(Option.some.inj h).symm,.inl rfl⟩
 | 1,h=>exact ⟨y,(Option.some.inj h).symm,.inr (.inl rfl)⟩
 | 2,h=>exact ⟨z,(Option.some.inj h).symm,.inr (.inr rfl)⟩
 | i+3,h=>cases h
theorem prm_of {n:Int} (h:2<=n):∃ p,Pr.Prm p/\p ∣ n:=Jc.prm_div n.natAbs n (Nat.le_refl _) h
def spNoSqB:Sp:=fun vs H Q _=>∃ n:Int,vs=[.int n]/\Sm6 n/\∀ (b:Bool) (H':Hp),Same H H'->(b=true ↔ SqF n)->Q (.bl b) H'
def spPlainB:Sp:=fun vs H Q _=>∃ a b c:Int,vs=[.int a,.int b,.int c]/\Sm6 a/\Sm6 b/\Sm6 c/\∀ (t:Bool) (H':Hp),Same H H'->(t=true ↔ Pln a b c)->Q (.bl t) H'
def spRoot:Sp:=fun vs H Q _=>∃ n p:Int,vs=[.int n,.int p]/\2 < p/\p<=10000/\∀ b:Bool,(b=true ↔ Pl.Rt n p)->Q (.bl b) H
theorem rt_small {x p:Int} (hp:0 < p) (h:Pl.Rt x p):∃ r,0<=r/\r < p / 2+1/\(r*r - x) % p=0:=by
 obtain ⟨s,k,hs⟩:=h
 have e0:=Int.mul_ediv_add_emod s p
 have r0:=Int.emod_nonneg s (show p ≠ 0 by omega)
 have r1:=Int.emod_lt_of_pos s hp
 generalize s % p=r at e0 r0 r1
 generalize s / p=u at e0
 by_cases c:r < p / 2+1
 ·refine ⟨r,r0,c,Int.emod_eq_zero_of_dvd ⟨k - u*(s+r),?_⟩⟩
  have e1:s*s - r*r=p*(u*(s+r)):=by
   rw [<- e0]
   grind
  rw [Int.mul_sub]
  omega
 ·refine ⟨p - r,by omega,by omega,Int.emod_eq_zero_of_dvd ⟨k - u*(s+r)+(p - 2*r),?_⟩⟩
  have e1:s*s - r*r=p*(u*(s+r)):=by
   rw [<- e0]
   grind
  have e2:(p - r)*(p - r)=r*r+p*(p - 2*r):=by grind
  have e3:p*(k - u*(s+r)+(p - 2*r))=p*k - p*(u*(s+r))+p*(p - 2*r):=by grind
  rw [e2,e3]
  omega
def spFits:Sp:=fun vs H Q _=>∃ a b c:Int,vs=[.int a,.int b,.int c]/\∀ (d:Bool) (H':Hp),Same H H'->(d=true ↔ Fit8 a b c)->Q (.bl d) H'
theorem sq8 (a x:Int):∃ t,a*x*x=a*(x % 8)*(x % 8)+8*t:=by
 have e0:=Int.mul_ediv_add_emod x 8
 refine ⟨a*(x / 8)*(x+x % 8),?_⟩
 generalize x % 8=r at e0 ⊢
 generalize x / 8=u at e0 ⊢
 subst e0
 grind
theorem fit_small {a b c:Int} (h:Fit8 a b c):∃ k:Int,0<=k/\k < 512/\0 < k % 8 % 2+k / 8 % 8 % 2+k / 64 % 2/\(a*(k % 8)*(k % 8)+b*(k / 8 % 8)*(k / 8 % 8)+c*(k / 64)*(k / 64)) % 8=0:=by
 obtain ⟨x,y,z,o,e⟩:=h
 obtain ⟨t1,e1⟩:=sq8 a x
 obtain ⟨t2,e2⟩:=sq8 b y
 obtain ⟨t3,e3⟩:=sq8 c z
 have k1:(x % 8+8*(y % 8)+64*(z % 8)) % 8=x % 8:=by omega
 have k2:(x % 8+8*(y % 8)+64*(z % 8)) / 8 % 8=y % 8:=by omega
 have k3:(x % 8+8*(y % 8)+64*(z % 8)) / 64=z % 8:=by omega
 refine ⟨x % 8+8*(y % 8)+64*(z % 8),by omega,by omega,by rw [k1,k2,k3]; omega,?_⟩
 rw [k1,k2,k3]
 generalize a*(x % 8)*(x % 8)=A at *
 generalize b*(y % 8)*(y % 8)=B at *
 generalize c*(z % 8)*(z % 8)=C at *
 omega
theorem fit_of {a b c k:Int} (o:0 < k % 8 % 2+k / 8 % 8 % 2+k / 64 % 2) (e:(a*(k % 8)*(k % 8)+b*(k / 8 % 8)*(k / 8 % 8)+c*(k / 64)*(k / 64)) % 8=0):Fit8 a b c:=
 ⟨_,_,_,by omega,e⟩
theorem Lm_big:2^64<=Lm:=by rw [Lm_eq]; decide +kernel
def spBadX19 (C:Addr):Sp:=fun vs H Q E=>∃ a b c:Int,vs=[.int a,.int b,.int c]/\Sm6 a/\Sm6 b/\Sm6 c /\
 (Pln a b c->∀ (p:Addr) (bs:List Int) (H':Hp),Same H H'->H' p=some (.lst (bs.map V.int))->bs.length < 200->(∀ x,x ∈ bs ↔ Jc.BadJ a b c x)->Q (.ref p) H')/\(¬ Pln a b c->∀ H',Same H H'->E (.ref C) none H')
def spBackC:Sp:=fun vs H Q E=>∃ (x n:Int),vs=[.int x,.int n]/\x.natAbs<=Lm/\n.natAbs<=Lm/\0 < n/\(∀ g:Int,0<=g->g ∣ x->g ∣ n->g=1)/\∀ (r:Int) (H':Hp),Same H H'->0<=r->r < n->n ∣ x*r - 1->Q (.int r) H'
def spProdA:Sp:=fun vs H Q _=>∃ (p:Int) (k:Nat),vs=[.int p,.int k]/\2<=p/\p<=10000/\k<=12/\Q (.int (p^k)) H
def spHasL:Sp:=fun vs H Q _=>∃ q p:Int,vs=[.int q,.int p]/\Pr.Prm p/\p<=10000/\∀ (b:Bool) (H':Hp),Same H H'->(b=true ↔ Jc.Las p q)->Q (.bl b) H'
def spRootOP:Sp:=fun vs H Q _=>∃ (q p:Int) (k:Nat),vs=[.int q,.int p,.int (p^k)]/\Pr.Prm p/\p ≠ 2/\p<=10000/\1<=k/\k<=12/\0<=q/\q < p^k/\Jc.J q p=1/\∀ (r:Int) (H':Hp),Same H H'->0<=r->r < p^k->¬ p ∣ r->p^k ∣ r*r - q->Q (.int r) H'
def spRoot2P:Sp:=fun vs H Q _=>∃ (q:Int) (k:Nat),vs=[.int q,.int (2^k)]/\1<=k/\k<=12/\0<=q/\q < 2^k/\q % 8=1/\∀ r:Int,0<=r->r < 2^k->¬ (2:Int) ∣ r->(2:Int)^k ∣ r*r - q->Q (.int r) H
def spLasR:Sp:=fun vs H Q _=>∃ (q p:Int) (k:Nat),vs=[.int q,.int p,.int (p^k)]/\Pr.Prm p/\p<=10000/\1<=k/\k<=12/\0<=q/\q < p^k/\Jc.Las p q/\∀ (r:Int) (H':Hp),Same H H'->0<=r->r < p^k->¬ p ∣ r->p^k ∣ r*r - q->Q (.int r) H'
def spLed:Sp:=fun vs H Q _=>∃ (l:Addr) (A B C p:Int) (k:Nat),vs=[.ref l,.int p,.int (p^k)]/\H l=some (.lst [.int A,.int B,.int C])/\Pr.Prm p/\p<=10000/\1<=k/\k<=12/\Sm6 A/\Sm6 B/\Sm6 C /\
 (∀ (t:Addr) (H':Hp),Same H H'->H' t=some (.lst [])->¬ Jc.Lead p A B C->Q (.ref t) H') /\
 (∀ (t:Addr) (r s:Int) (H':Hp),Same H H'->H' t=some (.lst [.int r,.int s,.int 1])->0<=r->r < p^k->0<=s->s < p^k->¬ p ∣ r->p^k ∣ A*r*r+B*s*s+C->Q (.ref t) H')
structure Ft (p:Int) (k:Nat) (a b c x y z:Int):Prop where
 x0:0<=x
 x1:x < p^k
 y0:0<=y
 y1:y < p^k
 z0:0<=z
 z1:z < p^k
 nd:¬ (p ∣ x/\p ∣ y/\p ∣ z)
 fit:p^k ∣ a*x*x+b*y*y+c*z*z
def spFnd:Sp:=fun vs H Q _=>∃ (l:Addr) (a b c p:Int) (k:Nat),vs=[.ref l,.int p,.int (p^k)]/\H l=some (.lst [.int a,.int b,.int c])/\Pr.Prm p/\p<=10000/\1<=k/\k<=12/\Sm6 a/\Sm6 b/\Sm6 c/\(Jc.Lead p a b c\/Jc.Lead p b c a\/Jc.Lead p c a b) /\
 ∀ (t:Addr) (x y z:Int) (H':Hp),Same H H'->H' t=some (.lst [.int x,.int y,.int z])->Ft p k a b c x y z->Q (.ref t) H'
def spFit (C0 C8 C13:Addr):Sp:=fun vs H Q E=>∃ (a b c p:Int) (k:Nat),vs=[.int a,.int b,.int c,.int p,.int k]/\Sm6 a/\Sm6 b/\Sm6 c/\p<=1000000/\1<=k/\k<=12/\(Pr.Prm p->p<=10000) /\
 (¬ Pln a b c->∀ H',Same H H'->E (.ref C13) none H')/\(Pln a b c->¬ Pr.Prm p->∀ H',Same H H'->E (.ref C8) none H') /\
 (Pln a b c->Pr.Prm p->Jc.BadJ a b c p->∀ (dx:Addr) (H':Hp),Same H H'->H' dx=some (.xd [("place",.int p)])->E (.ref C0) (some dx) H') /\
 (Pln a b c->Pr.Prm p->¬ Jc.BadJ a b c p->∀ (t:Addr) (x y z:Int) (H':Hp),Same H H'->H' t=some (.tup [.int x,.int y,.int z])->Ft p k a b c x y z->Q (.ref t) H')
def spTold19:Sp:=fun vs H Q E=>∃ (l:Addr) (a b c p:Int) (k:Nat),vs=[.ref l,.int p,.int k]/\H l=some (.lst [.int a,.int b,.int c])/\Sm6 a/\Sm6 b/\Sm6 c/\p<=1000000/\1<=k/\k<=12/\(Pr.Prm p->p<=10000) /\
 (¬ Pln a b c->∀ (r:Addr) (H':Hp),Same H H'->H' r=some (.tup [.str ("plain":Str),.int 0])->Q (.ref r) H')/\(Pln a b c->¬ Pr.Prm p->∀ (r:Addr) (H':Hp),Same H H'->H' r=some (.tup [.str ("place":Str),.int 0])->Q (.ref r) H') /\
 (Pln a b c->Pr.Prm p->Jc.BadJ a b c p->∀ (r:Addr) (H':Hp),Same H H'->H' r=some (.tup [.str ("bad":Str),.int p])->Q (.ref r) H') /\
 (Pln a b c->Pr.Prm p->¬ Jc.BadJ a b c p->∀ (r t:Addr) (x y z:Int) (H':Hp),Same H H'->H' r=some (.tup [.str ("told":Str),.ref t])->H' t=some (.tup [.int x,.int y,.int z])->Ft p k a b c x y z->Q (.ref r) H')
def Whc (C0 C8 C13 C:Addr) (r:Int):Prop:=(C=C0/\r=0)\/(C=C8/\r=8)\/(C=C13/\r=13)
def spAl3 (C0 C8 C13:Addr):Sp:=fun vs H Q _=>∃ (e C:Addr) (k r:Int),vs=[.ref e,.int k]/\(k=0\/k=8\/k=13)/\Whc C0 C8 C13 C r/\Cau H e C/\∀ H',Same H H'->Q (.bl (decide (r=k))) H'
def spIsBad:Sp:=fun vs H Q _=>∃ (B:Hp) (l m q0 q1 q2:Addr) (M n0 n1 n2 p:Int) (p0 p1 p2:List Int),vs=[.ref l,.ref m,.int p]/\Hs B H l m q0 q1 q2 n0 n1 n2 p0 p1 p2/\Tri M n0 n1 n2 p0 p1 p2/\M<=1000000/\Pr.Prm p/\p<=10000/\∀ (b:Bool) (H':Hp),Same H H'->(b=true ↔ Jc.BadJ n0 n1 n2 p)->Q (.bl b) H'
def spLFit:Sp:=fun vs H Q _=>∃ (t l:Addr) (a b c p x y z:Int) (k:Nat),vs=[.ref t,.ref l,.int p,.int k]/\H t=some (.tup [.int x,.int y,.int z])/\H l=some (.lst [.int a,.int b,.int c])/\Sm6 a/\Sm6 b/\Sm6 c/\2<=p/\p<=10000/\k<=12/\Ft p k a b c x y z/\∀ H',Same H H'->Q (.bl true) H'
def spLPr:Sp:=fun vs H Q _=>∃ (B:Hp) (l m q0 q1 q2:Addr) (M n0 n1 n2 c:Int) (p0 p1 p2:List Int),vs=[.ref m,.int c]/\Hs B H l m q0 q1 q2 n0 n1 n2 p0 p1 p2/\Tri M n0 n1 n2 p0 p1 p2/\∀ (p:Int) (H':Hp),Same H H'->Pr.Prm p->p<=10000->Q (.int p) H'
def spNoPr:Sp:=fun vs H Q _=>∃ (l:Addr) (a b c d:Int) (k:Nat),vs=[.ref l,.int d,.int k]/\H l=some (.lst [.int a,.int b,.int c])/\Sm6 a/\Sm6 b/\Sm6 c/\Pln a b c/\1<=k/\k<=12/\∀ H',Same H H'->Q (.bl true) H'
theorem pow_le {p:Int} {k:Nat} (p2:2<=p) (pb:p<=10000) (hk:k<=12):p^k<=10^48:=by
 have h1:p.toNat^k<=10000^12:=Nat.le_trans (Nat.pow_le_pow_left (by omega) k) (Nat.pow_le_pow_right (by decide) hk)
 have e:p^k=((p.toNat^k:Nat):Int):=by rw [Int.natCast_pow,Int.toNat_of_nonneg (by omega)]
 rw [e]
 have:(10000:Nat)^12=10^48:=by decide
 omega
theorem pow_pos' {p:Int} {k:Nat} (p2:2<=p):0 < p^k:=Int.pow_pos (by omega)
theorem mulB {a b:Int} (ha:a.natAbs<=10^130) (hb:b.natAbs<=10^130):IntMulOk a b:=by
 have bits:∀ {x:Int},x.natAbs<=10^130->Builtin.Int.intBits x<=500:=fun {x} h=>intBits_le_iff.mpr (Nat.lt_of_le_of_lt h (by decide +kernel))
 exact IntMulOk.of_le (m:=500) (n:=500) (bits ha) (bits hb) (by decide)
theorem nab {x y:Int} {m n:Nat} (h1:x.natAbs<=m) (h2:y.natAbs<=n):(x*y).natAbs<=m*n:=by
 rw [Int.natAbs_mul]
 exact Nat.mul_le_mul h1 h2
theorem pow_self {p:Int} {k:Nat} (p2:2<=p) (k1:1<=k):p<=p^k:=by
 obtain ⟨j,rfl⟩:∃ j,k=j+1:=⟨k - 1,by omega⟩
 have:1<=p^j:=by have:0 < p^j:=Int.pow_pos (by omega); omega
 rw [Int.pow_succ]
 have:=Int.mul_le_mul_of_nonneg_right this (show 0<=p by omega)
 omega
theorem emod_b {x n:Int} (h:0 < n):0<=x % n/\x % n < n:=⟨Int.emod_nonneg _ (by omega),Int.emod_lt_of_pos _ h⟩
theorem two_mono {i j:Nat} (h:i<=j):(2:Int)^i<=2^j:=by
 have e:∀ n:Nat,(2:Int)^n=((2^n:Nat):Int):=fun n=>by rw [Int.natCast_pow]; rfl
 rw [e,e]
 exact Int.ofNat_le.mpr (Nat.pow_le_pow_right (by decide) h)
theorem two_le {k:Nat} (h:k<=12):(2:Int)^k<=4096:=two_mono (j:=12) h
theorem two_dvd {i j:Nat} (h:i<=j):(2:Int)^i ∣ 2^j:=⟨2^(j - i),by rw [<- Int.pow_add]; congr 1; omega⟩
theorem flat_ints (bs:List Int):(bs.map V.int).all flatV=true:=by
 rw [List.all_map,List.all_eq_true]
 intro x _
 rfl
theorem in_ints {x:Int} {bs:List Int}:inV (.int x) (bs.map V.int)=true ↔ x ∈ bs:=by
 unfold inV
 rw [List.any_map,List.any_eq_true]
 constructor
 ·rintro ⟨y,hy,e⟩
  have:y=x:=of_decide_eq_true e
  exact this ▸ hy
 ·intro h
  exact ⟨x,h,decide_eq_true rfl⟩
theorem bad_at2 {a b c:Int}:Jc.BadJ a b c 2 ↔ ¬ Fit8 a b c:=by
 constructor
 ·rintro (⟨z,_⟩ | ⟨_,h⟩ | ⟨_,z,_⟩)
  ·cases z
  ·exact h
  ·exact absurd rfl z
 ·exact fun h=>.inr (.inl ⟨rfl,h⟩)
theorem rt_J {p x:Int} (hp:Pr.Prm p) (n2:p ≠ 2) (nx:¬ p ∣ x):Pl.Rt x p ↔ ¬ Jc.J x p=-1:=by
 constructor
 ·rintro ⟨r,hr⟩ e
  rw [Jc.J_sq hp n2 hr nx] at e
  cases e
 ·intro h
  have u:=Jc.J_unit hp nx
  rcases Jc.J_or x p with z | z | z
  ·exact Jc.root_ex hp n2 z
  ·rw [z] at u; cases u
  ·exact absurd z h
theorem bad_rt {a b c p:Int} {t:Bool} (hp:Pr.Prm p) (n2:p ≠ 2) (P:Pln a b c) (d:p ∣ a) (h:t=true ↔ Pl.Rt (0 - b*c) p):(!t)=true ↔ Jc.BadJ a b c p:=by
 have nb:=P.ab p hp d
 have nc:¬ p ∣ c:=fun z=>P.ca p hp z d
 have nx:¬ p ∣ -(b*c):=fun z=>(Pr.euclid hp (Int.dvd_neg.mp z)).elim nb nc
 rw [Int.zero_sub,rt_J hp n2 nx] at h
 have e:Jc.BadJ a b c p ↔ Jc.J (-(b*c)) p=-1:=by
  constructor
  ·rintro (⟨z,_⟩ | ⟨z,_⟩ | ⟨_,_,z⟩)
   ·have:=hp.two; omega
   ·exact absurd z n2
   ·rcases z with ⟨_,z⟩ | ⟨z,_⟩ | ⟨z,_⟩
    ·exact z
    ·exact absurd z nb
    ·exact absurd z nc
  ·exact fun z=>.inr (.inr ⟨hp,n2,.inl ⟨d,z⟩⟩)
 rw [e]
 cases t
 ·simp only [Bool.not_false,true_iff]
  exact Classical.byContradiction fun z=>Bool.false_ne_true (h.mpr z)
 ·simp only [Bool.not_true,Bool.false_eq_true,false_iff]
  exact h.mp rfl
def dvB (p:Int):V->V
 | .int n=>.bl (decide (V.int (n % p)=V.int 0))
 | v=>v
def prB:V->V->V
 | .int n,.int r=>.int (n*r*r)
 | u,_=>u
def lt4 (x:Int):Bool:=decide (x < 10^Int.toNat 4)
def ltB:V->Bool
 | .int x=>lt4 x
 | _=>false
theorem ltB_map (ps:List Int):(ps.map V.int).filter ltB=(ps.filter lt4).map V.int:=by
 rw [List.filter_map]
 rfl
theorem getD_mem {L:List Int} {i:Nat} (h:i < L.length):L.getD i 0 ∈ L:=by
 rw [List.getD_eq_getElem?_getD,List.getElem?_eq_getElem h]
 exact List.getElem_mem h
abbrev P7:List Int:=[61,67,89,97,211,1009,9973]
abbrev Pn7:List Int:=[11,19,23,31,73,89,97]
abbrev Pn5:List Int:=[31,73,89,97,101]
theorem p7:∀ i:Nat,i < 7->P7.getD i 0 ∈ P36/\P7.getD i 0<=10000:=by decide
theorem p20:∀ i:Nat,i < 20->P20.getD i 0 ∈ P36/\P20.getD i 0<=1000/\2<=P20.getD i 0:=by decide
theorem pn7:∀ i:Nat,i < 7->2<=Pn7.getD i 0/\Pn7.getD i 0<=1000:=by decide
theorem pn5:∀ i:Nat,i < 5->2<=Pn5.getD i 0/\Pn5.getD i 0<=1000:=by decide
theorem np_mul {x y:Int} (hx:2<=x) (hy:2<=y):¬ Pr.Prm (x*y):=fun hp=>by
 obtain ⟨p,pp,d⟩:=prm_of hx
 have e:=Pr.prm_dvd_prm pp hp (Int.dvd_trans d (Int.dvd_mul_right x y))
 have h1:=Int.le_of_dvd (by omega) d
 have h2:=Int.mul_le_mul_of_nonneg_left hy (show 0<=x by omega)
 omega
theorem mul_le4 {x y m n:Int} (x0:0<=x) (hx:x<=m) (y0:0<=y) (hy:y<=n):x*y<=m*n:=Int.mul_le_mul hx hy y0 (by omega)
theorem okPl:PyData.strOk ("place":Str)=true/\PyData.strOk ("plain":Str)=true:=by decide +kernel
theorem shP {i:Int}:SeqAt.shaped (.tuple [.str ("place":Str),.int i])=true/\SeqAt.shaped (.tuple [.str ("plain":Str),.int i])=true:=by
 constructor
 ·unfold SeqAt.shaped
  simp only [PyData.canLay0,PyData.canLayAll0,okPl.1,Bool.and_self,Bool.true_and]
  rfl
 ·unfold SeqAt.shaped
  simp only [PyData.canLay0,PyData.canLayAll0,okPl.2,Bool.and_self,Bool.true_and]
  rfl
theorem prm_3:Pr.Prm 3:=Jc.prm_by (p:=3) (m:=2) (by decide) (by decide) (by decide)
theorem shW {i:Int} {d:PyData} (h:(SeqAt.shaped (.tuple [.str ("place":Str),.int i])=true/\SeqAt.shaped (.tuple [.str ("plain":Str),.int i])=true)->SeqAt.shaped d=true):SeqAt.shaped d=true:=h shP
theorem eqvW {s:Str} {i:Int}:PyData.eqv (.tuple [.str s,.int i]) (.tuple [.str s,.int i])=true:=by simp [PyData.eqv,PyData.eqvAll]
theorem at3k (c:Int):∃ M:Int,atI [V.int 30,.int 1000,.int (10^Int.toNat 6)] (c % 3)=some (.int M)/\1<=M/\M<=1000000:=by
 rcases (show c % 3=0\/c % 3=1\/c % 3=2 by omega) with z | z | z
 ·exact ⟨30,by rw [z]; rfl,by decide,by decide⟩
 ·exact ⟨1000,by rw [z]; rfl,by decide,by decide⟩
 ·exact ⟨10^Int.toNat 6,by rw [z]; rfl,by decide,by decide⟩
section
variable {P:Program} {w:World} {K:W.Frag} {mg:Str->Option Value} {base:Heap} {t:Adr}
theorem sc_prime_parts:FnScope ["number","parts","left","divisor","taken"] ["number"] (defScope s_prime_parts):=⟨rfl,rfl,rfl,by decide +kernel,rfl,by decide +kernel,by decide +kernel⟩
theorem sc_divisor_after:FnScope ["divisor"] ["divisor"] (defScope s_divisor_after):=⟨rfl,rfl,rfl,by decide +kernel,rfl,by decide +kernel,by decide +kernel⟩
theorem sc_taken_out:FnScope ["number","prime","often","left"] ["number","prime"] (defScope s_taken_out):=⟨rfl,rfl,rfl,by decide +kernel,rfl,by decide +kernel,by decide +kernel⟩
theorem sc_is_prime:FnScope ["number"] ["number"] (defScope s_is_prime):=⟨rfl,rfl,rfl,by decide +kernel,rfl,by decide +kernel,by decide +kernel⟩
theorem sc_core_of:FnScope ["number","core","root","prime","often","turn"] ["number"] (defScope s_core_of):=⟨rfl,rfl,rfl,by decide +kernel,rfl,by decide +kernel,by decide +kernel⟩
theorem sc_is_without_squares:FnScope ["number"] ["number"] (defScope s_is_without_squares):=⟨rfl,rfl,rfl,by decide +kernel,rfl,by decide +kernel,by decide +kernel⟩
theorem sc_power_by:FnScope ["number","k","n","power","factor","left"] ["number","k","n"] (defScope s_power_by):=⟨rfl,rfl,rfl,by decide +kernel,rfl,by decide +kernel,by decide +kernel⟩
theorem sc_sign_by:FnScope ["number","n","sign","top","bottom","twos","odd"] ["number","n"] (defScope s_sign_by):=⟨rfl,rfl,rfl,by decide +kernel,rfl,by decide +kernel,by decide +kernel⟩
theorem sc_sign_of_two:FnScope ["odd"] ["odd"] (defScope s_sign_of_two):=⟨rfl,rfl,rfl,by decide +kernel,rfl,by decide +kernel,by decide +kernel⟩
theorem sc_sign_of_turn:FnScope ["one","other"] ["one","other"] (defScope s_sign_of_turn):=⟨rfl,rfl,rfl,by decide +kernel,rfl,by decide +kernel,by decide +kernel⟩
theorem sc_shares_of:FnScope ["one","other","upper","lower","below"] ["one","other"] (defScope s_shares_of):=⟨rfl,rfl,rfl,by decide +kernel,rfl,by decide +kernel,by decide +kernel⟩
theorem sc_row_less:FnScope ["row","taken","times"] ["row","taken","times"] (defScope s_row_less):=⟨rfl,rfl,rfl,by decide +kernel,rfl,by decide +kernel,by decide +kernel⟩
theorem sc_is_plain:FnScope ["a","b","c"] ["a","b","c"] (defScope s_is_plain):=⟨rfl,rfl,rfl,by decide +kernel,rfl,by decide +kernel,by decide +kernel⟩
theorem sc_bad_places:FnScope ["a","b","c"] ["a","b","c"] (defScope s_bad_places):=⟨rfl,rfl,rfl,by decide +kernel,rfl,by decide +kernel,by decide +kernel⟩
theorem sc_places_without_point:FnScope ["a","b","c"] ["a","b","c"] (defScope s_places_without_point):=⟨rfl,rfl,rfl,by decide +kernel,rfl,by decide +kernel,by decide +kernel⟩
theorem sc_places_in_question:FnScope ["a","b","c","odd_primes","number"] ["a","b","c"] (defScope s_places_in_question):=⟨rfl,rfl,rfl,by decide +kernel,rfl,by decide +kernel,by decide +kernel⟩
theorem sc_sign_at:FnScope ["a","b","place","one","other"] ["a","b","place"] (defScope s_sign_at):=⟨rfl,rfl,rfl,by decide +kernel,rfl,by decide +kernel,by decide +kernel⟩
theorem sc_sign_at_odd:FnScope ["one","other","prime","one_is_odd","other_is_odd"] ["one","other","prime"] (defScope s_sign_at_odd):=⟨rfl,rfl,rfl,by decide +kernel,rfl,by decide +kernel,by decide +kernel⟩
theorem sc_sign_at_two:FnScope ["one","other","sign"] ["one","other"] (defScope s_sign_at_two):=⟨rfl,rfl,rfl,by decide +kernel,rfl,by decide +kernel,by decide +kernel⟩
theorem sc_back_by:FnScope ["number","n","shares"] ["number","n"] (defScope s_back_by):=⟨rfl,rfl,rfl,by decide +kernel,rfl,by decide +kernel,by decide +kernel⟩
theorem sc_has_root:FnScope ["number","prime"] ["number","prime"] (defScope s_has_root):=⟨rfl,rfl,rfl,by decide +kernel,rfl,by decide +kernel,by decide +kernel⟩
theorem sc_root_by_prime:FnScope ["number","prime"] ["number","prime"] (defScope s_root_by_prime):=⟨rfl,rfl,rfl,by decide +kernel,rfl,by decide +kernel,by decide +kernel⟩
theorem sc_root_by_odd_prime:FnScope ["number","prime","odd","root","over","turner","half"] ["number","prime"] (defScope s_root_by_odd_prime):=⟨rfl,rfl,rfl,by decide +kernel,rfl,by decide +kernel,by decide +kernel⟩
theorem sc_least_without_root:FnScope ["prime","number"] ["prime"] (defScope s_least_without_root):=⟨rfl,rfl,rfl,by decide +kernel,rfl,by decide +kernel,by decide +kernel⟩
theorem sc_fitting_rests:FnScope ["a","b","c","prime","k","bad"] ["a","b","c","prime","k"] (defScope s_fitting_rests):=⟨rfl,rfl,rfl,by decide +kernel,rfl,by decide +kernel,by decide +kernel⟩
theorem sc_product_of_alike:FnScope ["factor","k","product","turn"] ["factor","k"] (defScope s_product_of_alike):=⟨rfl,rfl,rfl,by decide +kernel,rfl,by decide +kernel,by decide +kernel⟩
theorem sc_rests_found:FnScope ["numbers","prime","power","lead","found"] ["numbers","prime","power"] (defScope s_rests_found):=⟨rfl,rfl,rfl,by decide +kernel,rfl,by decide +kernel,by decide +kernel⟩
theorem sc_rests_led:FnScope ["numbers","prime","power","over","second","square"] ["numbers","prime","power"] (defScope s_rests_led):=⟨rfl,rfl,rfl,by decide +kernel,rfl,by decide +kernel,by decide +kernel⟩
theorem sc_has_lasting_root:FnScope ["number","prime"] ["number","prime"] (defScope s_has_lasting_root):=⟨rfl,rfl,rfl,by decide +kernel,rfl,by decide +kernel,by decide +kernel⟩
theorem sc_lasting_root:FnScope ["number","prime","power"] ["number","prime","power"] (defScope s_lasting_root):=⟨rfl,rfl,rfl,by decide +kernel,rfl,by decide +kernel,by decide +kernel⟩
theorem sc_root_by_odd_power:FnScope ["number","prime","power","root"] ["number","prime","power"] (defScope s_root_by_odd_power):=⟨rfl,rfl,rfl,by decide +kernel,rfl,by decide +kernel,by decide +kernel⟩
theorem sc_root_by_power_of_two:FnScope ["number","power","root","fitted"] ["number","power"] (defScope s_root_by_power_of_two):=⟨rfl,rfl,rfl,by decide +kernel,rfl,by decide +kernel,by decide +kernel⟩
theorem sc_cell_at:FnScope ["_law_script","_law_k"] ["_law_script","_law_k"] (defScope s_cell_at):=⟨rfl,rfl,rfl,by decide +kernel,rfl,by decide +kernel,by decide +kernel⟩
theorem sc_churn:FnScope ["_law_cell","_law_turn","_law_x","_law_k","_law_y"] ["_law_cell","_law_turn"] (defScope s_churn):=⟨rfl,rfl,rfl,by decide +kernel,rfl,by decide +kernel,by decide +kernel⟩
theorem sc_whole:FnScope ["_law_found"] ["_law_found"] (defScope s_whole):=⟨rfl,rfl,rfl,by decide +kernel,rfl,by decide +kernel,by decide +kernel⟩
theorem sc_primes:FnScope ["_law_some"] [] (defScope s_primes):=⟨rfl,rfl,rfl,by decide +kernel,rfl,by decide +kernel,by decide +kernel⟩
theorem sc_plain:FnScope ["_law_script","_law_start","_law_many","_law_most","_law_numbers","_law_primes_here","_law_some","_law_k","_law_signs","_law_at"] ["_law_script","_law_start","_law_many","_law_most"] (defScope s_plain):=⟨rfl,rfl,rfl,by decide +kernel,rfl,by decide +kernel,by decide +kernel⟩
theorem sc_root:FnScope ["_law_number","_law_prime_here","_law_rest"] ["_law_number","_law_prime_here"] (defScope s_root):=⟨rfl,rfl,rfl,by decide +kernel,rfl,by decide +kernel,by decide +kernel⟩
theorem sc_fits_by_8:FnScope ["_law_a","_law_b","_law_c","_law_k","_law_x","_law_y","_law_z"] ["_law_a","_law_b","_law_c"] (defScope s_fits_by_8):=⟨rfl,rfl,rfl,by decide +kernel,rfl,by decide +kernel,by decide +kernel⟩
theorem sc_is_bad:FnScope ["_law_numbers","_law_primes_here","_law_prime_here","_law_at","_law_beside"] ["_law_numbers","_law_primes_here","_law_prime_here"] (defScope s_is_bad):=⟨rfl,rfl,rfl,by decide +kernel,rfl,by decide +kernel,by decide +kernel⟩
theorem sc_fit:FnScope ["_law_found","_law_numbers","_law_prime_here","_law_k","_law_power","_law_turn"] ["_law_found","_law_numbers","_law_prime_here","_law_k"] (defScope s_fit):=⟨rfl,rfl,rfl,by decide +kernel,rfl,by decide +kernel,by decide +kernel⟩
theorem sc_alone:FnScope ["_law_e","_law_sort","_law_found"] ["_law_e","_law_sort"] (defScope s_alone):=⟨rfl,rfl,rfl,by decide +kernel,rfl,by decide +kernel,by decide +kernel⟩
theorem sc_told:FnScope ["_law_numbers","_law_prime_here","_law_k","_law_kept","_law_found","_law_e"] ["_law_numbers","_law_prime_here","_law_k"] (defScope s_told):=⟨rfl,rfl,rfl,by decide +kernel,rfl,by decide +kernel,by decide +kernel⟩
theorem sc_core:FnScope ["_law_number","_law_k"] ["_law_number"] (defScope s_core):=⟨rfl,rfl,rfl,by decide +kernel,rfl,by decide +kernel,by decide +kernel⟩
theorem sc_shared:FnScope ["_law_one","_law_other"] ["_law_one","_law_other"] (defScope s_shared):=⟨rfl,rfl,rfl,by decide +kernel,rfl,by decide +kernel,by decide +kernel⟩
theorem sc_split:FnScope ["_law_number","_law_found","_law_rest","_law_k"] ["_law_number"] (defScope s_split):=⟨rfl,rfl,rfl,by decide +kernel,rfl,by decide +kernel,by decide +kernel⟩
theorem sc_by_digits:FnScope ["_law_cell","_law_many","_law_most","_law_numbers","_law_k","_law_number","_law_other"] ["_law_cell","_law_many","_law_most"] (defScope s_by_digits):=⟨rfl,rfl,rfl,by decide +kernel,rfl,by decide +kernel,by decide +kernel⟩
theorem sc_more:FnScope ["_law_numbers","_law_primes_here","_law_cell","_law_most","_law_some","_law_at","_law_prime_here"] ["_law_numbers","_law_primes_here","_law_cell","_law_most"] (defScope s_more):=⟨rfl,rfl,rfl,by decide +kernel,rfl,by decide +kernel,by decide +kernel⟩
theorem sc_prime:FnScope ["_law_primes_here","_law_cell","_law_own","_law_way"] ["_law_primes_here","_law_cell"] (defScope s_prime):=⟨rfl,rfl,rfl,by decide +kernel,rfl,by decide +kernel,by decide +kernel⟩
theorem sc_no_primes:FnScope ["_law_numbers","_law_cell","_law_k","_law_some","_law_no","_law_place"] ["_law_numbers","_law_cell","_law_k"] (defScope s_no_primes):=⟨rfl,rfl,rfl,by decide +kernel,rfl,by decide +kernel,by decide +kernel⟩
theorem sc_law:FnScope ["_law_script","_law_cell","_law_most","_law_prime_here","_law_k","_law_word","_law_found","_law_spoilt","_law_numbers","_law_primes_here"] ["_law_script"] (defScope s_law):=⟨rfl,rfl,rfl,by decide +kernel,rfl,by decide +kernel,by decide +kernel⟩
theorem sc_init_BadPlace:FnScope ["self","place"] ["self","place"] (defScope s_init_BadPlace):=⟨rfl,rfl,rfl,by decide +kernel,rfl,by decide +kernel,by decide +kernel⟩
theorem ok_cell_at {f:Addr} {fd:FuncData} (F:Fun K "_law_cell_at" "_law_cell_at" s_cell_at f fd) (T:Txt K mg t) :FnOk P w K mg base CX0 1 f fd ["_law_script","_law_k"] (spCell K):=by
 refine F.ok sc_cell_at (fun vs H Q E h=>?_) (fun cdv A outer s H vs Q E hr h=>?_)
 ·obtain ⟨a,ns,k,rfl,_⟩:=h
  rfl
 obtain ⟨a,ns,k,rfl,hS,h0,q⟩:=h
 refine ⟨_,pss_cons (ps_if (pt_cmpR op_lt (pv 1) (pe_callB call_len_seq rfl T.z_len PySem.boot_len (pa_cons (pv 0) pa_nil)) (nomark _)) (pss_one (ps_ret (pe_ix ix_list (pv 0) (pv 1) (fun _ _=>rfl)))) pss_nil)
  (pss_one (ps_ret pe_int)),?_⟩
 refine ⟨_,rfl,_,rfl,a,_,rfl,.inl hS,_,_,rfl,rfl,_,rfl,?_⟩
 refine ite2 (fun c=>?_) (fun c=>?_)
 ·exact ⟨_,rfl,_,rfl,a,_,_,_,rfl,rfl,hS,cell_in h0 (decT c),q⟩
 ·have e:=cell_out (decF c) h0
  rw [e] at q
  exact q
theorem ok_whole {f:Addr} {fd:FuncData} (F:Fun K "_law_whole" "_law_whole" s_whole f fd) (T:Txt K mg t) :FnOk P w K mg base CX0 1 f fd ["_law_found"] (spWhole):=by
 refine F.ok sc_whole (fun vs H Q E h=>?_) (fun cdv A outer s H vs Q E hr h=>?_)
 ·obtain ⟨n,rfl,_⟩:=h
  rfl
 obtain ⟨n,rfl,q⟩:=h
 refine ⟨_,pss_one (ps_ret (pe_and (pe_callB call_isi rfl T.z_isinstance b_isi (pa_cons (pv 0) (pa_cons (pe_bltn (v:=.ty "int") rfl T.z_int b_int rfl) pa_nil))) (pe_one (pe_not (pe_callB call_isi rfl T.z_isinstance b_isi (pa_cons (pv 0) (pa_cons (pe_bltn (v:=.ty "bool") rfl T.z_bool b_bool rfl) pa_nil))))))),?_⟩
 refine ⟨_,rfl,_,_,_,_,rfl,.inr ⟨_,rfl⟩,.of (.int _),rfl,_,rfl,?_⟩
 refine iteT ?_
 exact ⟨_,rfl,_,_,_,_,rfl,.inr ⟨_,rfl⟩,.of (.int _),T.i_ib,_,rfl,q⟩
theorem ok_taken_out {f:Addr} {fd:FuncData} (F:Fun K "taken_out" "taken_out" s_taken_out f fd) (T:Txt K mg t) :FnOk P w K mg base CX0 1 f fd ["number","prime"] (spTaken):=by
 refine F.ok sc_taken_out (fun vs H Q E h=>?_) (fun cdv A outer s H vs Q E hr h=>?_)
 ·obtain ⟨_,_,rfl,_⟩:=h
  rfl
 obtain ⟨x,p,rfl,x0,p2,pl,q⟩:=h
 refine ⟨_,pss_cons (ps_set (i:=2) sc_taken_out.nd rfl (Or.inl rfl) pe_int)
  (pss_cons (ps_set (i:=3) sc_taken_out.nd rfl (Or.inl rfl) (pv 0))
  (pss_cons (ps_while PassesOwn.never (pt_cmpR op_eq (pe_op op_modN (pv 3) (pv 1)) pe_int (nomark _)) (pss_cons (ps_set (i:=3) sc_taken_out.nd rfl (Or.inl rfl) (pe_op op_fdivL (pv 3) (pv 1)))
  (pss_one (ps_set (i:=2) sc_taken_out.nd rfl (Or.inl rfl) (pe_op op_add (pv 2) pe_int)))))
  (pss_one (ps_ret (pe_tup (pa_cons (pv 2) (pa_cons (pv 3) pa_nil))))))),?_⟩
 refine ⟨_,rfl,?_⟩
 refine ⟨fun m σ H'=>∃ (o l:Int),σ=[some (.int x),some (.int p),some (.int o),some (.int l)]/\H=H'/\Pr.Inn x p l o/\0<=o/\l ≠ 0/\l.natAbs<=x.natAbs/\(0 < x->0 < l)/\(x < 0->l < 0)/\m=l.natAbs,
  ⟨_,0,x,rfl,rfl,Pr.inn_start x p,by omega,x0,Nat.le_refl _,id,id,rfl⟩,?_⟩
 rintro m σ H' ⟨o,l,rfl,rfl,inn,o0,l0,lx,s1,s2,rfl⟩
 refine ⟨_,rfl,_,rfl,_,_,rfl,rfl,(by show p ≠ 0; omega),rfl,_,rfl,?_⟩
 refine ite2 (fun c=>?_) (fun c=>?_)
 ·have z:l.fmod p=0:=int_inj (decT c)
  obtain ⟨t1,t2,t3,t4⟩:=taken_less p2 l0 z
  refine ⟨fun σ' H2=>σ'=[some (.int x),some (.int p),some (.int (o+1)),some (.int (l.fdiv p))]/\H=H2,?_,?_⟩
  ·rintro σ' H2 ⟨rfl,rfl⟩
   exact ⟨_,t2,o+1,l.fdiv p,rfl,rfl,Pr.inn_turn inn o0 z,by omega,t1,by omega,fun h=>t3 (s1 h),fun h=>t4 (s2 h),rfl⟩
  ·exact ⟨_,rfl,_,rfl,_,_,rfl,rfl,⟨by omega,pl⟩,_,rfl,_,_,rfl,rfl,rfl,rfl⟩
 ·have z:l.fmod p ≠ 0:=fun z=>decF c (congrArg V.int z)
  exact ⟨_,rfl,_,rfl,(by show 2<=sizeLine; decide),fun r hr'=>q r _ o l (same_new hr' _) upd_same inn o0 z l0 lx s1 s2⟩
theorem ok_divisor_after {f:Addr} {fd:FuncData} (F:Fun K "divisor_after" "divisor_after" s_divisor_after f fd) (T:Txt K mg t) :FnOk P w K mg base CX0 1 f fd ["divisor"] (spAfter):=by
 refine F.ok sc_divisor_after (fun vs H Q E h=>?_) (fun cdv A outer s H vs Q E hr h=>?_)
 ·obtain ⟨d,rfl,_⟩:=h
  rfl
 obtain ⟨d,rfl,q⟩:=h
 refine ⟨_,pss_cons (ps_if (pt_cmpR op_eq (pv 0) pe_int (nomark _)) (pss_one (ps_ret pe_int)) pss_nil)
  (pss_one (ps_ret (pe_op op_add (pv 0) pe_int))),?_⟩
 refine ⟨_,rfl,rfl,_,rfl,?_⟩
 refine ite2 (fun c=>?_) (fun c=>?_)
 ·rw [if_pos (int_inj (decT c))] at q
  exact q
 ·rw [if_neg (fun z=>decF c (congrArg V.int z))] at q
  exact ⟨_,rfl,_,_,rfl,rfl,q⟩
theorem ok_prime_parts {f:Addr} {fd:FuncData} (F:Fun K "prime_parts" "prime_parts" s_prime_parts f fd) (T:Txt K mg t) (H_divisor_after:Has P w K mg base CX0 1 "divisor_after" ["divisor"] (spAfter)) (H_taken_out:Has P w K mg base CX0 1 "taken_out" ["number","prime"] (spTaken)):FnOk P w K mg base CX0 2 f fd ["number"] (spParts0):=by
 obtain ⟨f_divisor_after,d_divisor_after,G_divisor_after,b_divisor_after,k_divisor_after,m_divisor_after⟩:=H_divisor_after
 obtain ⟨f_taken_out,d_taken_out,G_taken_out,b_taken_out,k_taken_out,m_taken_out⟩:=H_taken_out
 refine F.ok sc_prime_parts (fun vs H Q E h=>?_) (fun cdv A outer s H vs Q E hr h=>?_)
 ·obtain ⟨n,rfl,_⟩:=h
  rfl
 obtain ⟨n,rfl,n0,n1,q⟩:=h
 have hr_divisor_after:=hr.mono (show 1<=1 by decide)
 have hr_taken_out:=hr.mono (show 1<=1 by decide)
 refine ⟨_,pss_cons (ps_if (pt_cmpR op_lt (pv 0) pe_int (nomark _)) pss_never pss_nil)
  (pss_cons (ps_set (i:=1) sc_prime_parts.nd rfl (Or.inl rfl) (pe_lst pa_nil))
  (pss_cons (ps_set (i:=2) sc_prime_parts.nd rfl (Or.inl rfl) (pv 0))
  (pss_cons (ps_set (i:=3) sc_prime_parts.nd rfl (Or.inl rfl) pe_int)
  (pss_cons (ps_while PassesOwn.never (pt_cmpR op_le (pe_op op_mulG (pv 3) (pv 3)) (pv 2) (nomark _)) (pss_cut (ps_if (pt_cmpR op_eq (pe_op op_modN (pv 2) (pv 3)) pe_int (nomark _)) (pss_cons (ps_set (i:=4) sc_prime_parts.nd rfl (Or.inl rfl) (pe_call G_taken_out hr_taken_out rfl m_taken_out k_taken_out b_taken_out .nil pass0 (pa_cons (pv 2) (pa_cons (pv 3) pa_nil))))
  (pss_cons (ps_expr (pe_bm PySem.F.plainAttrs_list PySem.F.slot_list_append PySem.F.type_list_append mt_append (pv 1) (pa_cons (pe_tup (pa_cons (pv 3) (pa_cons (pe_ix ix_tup (pv 4) pe_int (fun _ _=>rfl)) pa_nil))) pa_nil)))
  (pss_one (ps_set (i:=2) sc_prime_parts.nd rfl (Or.inl rfl) (pe_ix ix_tup (pv 4) pe_int (fun _ _=>rfl)))))) pss_nil)
  (pss_one (ps_set (i:=3) sc_prime_parts.nd rfl (Or.inl rfl) (pe_call G_divisor_after hr_divisor_after rfl m_divisor_after k_divisor_after b_divisor_after .nil pass0 (pa_cons (pv 3) pa_nil))))))
  (pss_cut (ps_if (pt_cmpR op_gt (pv 2) pe_int (nomark _)) (pss_one (ps_expr (pe_bm PySem.F.plainAttrs_list PySem.F.slot_list_append PySem.F.type_list_append mt_append (pv 1) (pa_cons (pe_tup (pa_cons (pv 2) (pa_cons pe_int pa_nil))) pa_nil)))) pss_nil)
  (pss_one (ps_ret (pv 1)))))))),?_⟩
 refine ⟨_,rfl,_,_,rfl,rfl,_,rfl,iteDF (show ¬ n < 1 by omega) ?_⟩
 refine ⟨(by show 0<=sizeLine; decide),fun pl hpl=>?_⟩
 refine ⟨_,rfl,?_⟩
 refine ⟨W1 n pl H,⟨_,n,2,[],[],none,rfl,same_new hpl _,upd_same,.nil,Pr.out_start n,by omega,by omega,n0,rfl⟩,?_⟩
 rintro m σ H1 ⟨left,d,xs,rs,of,rfl,g1,hl1,t1,out,d2,dm,l1,rfl⟩
 have bd:Builtin.Int.intBits d<=1048576:=bits_lit (k:=64) (by omega) (by decide)
 have ln:=Pr.out_left out l1
 have short1:=short out.all (out_prod out l1) n1
 have rlen:=t1.len
 refine ⟨_,rfl,_,rfl,_,_,rfl,rfl,mulOk bd bd,_,rfl,_,_,rfl,rfl,_,rfl,?_⟩
 refine ite2 (fun c=>?_) (fun c=>?_)
 ·have dd:d*d<=left:=decT c
  have dl:=le_sq (show 1<=d by omega)
  refine ⟨fun σ' H2=>∃ m',m' < (left+1 - d).toNat/\W1 n pl H m' σ' H2,fun _ _ h=>h,?_⟩
  refine ⟨fun σ' H3=>∃ (ys:List (Int × Int)) (qs:List Addr) (l2:Int) (ta:Option V),σ'=[some (.int n),some (.ref pl),some (.int l2),some (.int d),ta]/\Same H H3/\H3 pl=some (.lst (qs.map V.ref))/\TupL H3 qs ys/\Pr.Out n l2 (if d=2 then 3 else d+2) ys/\1<=l2/\l2<=left,?_,?_⟩
  ·refine ⟨_,rfl,_,rfl,_,_,rfl,rfl,(by show d ≠ 0; omega),rfl,_,rfl,?_⟩
   refine ite2 (fun c2=>?_) (fun c2=>?_)
   ·have z2:left.fmod d=0:=int_inj (decT c2)
    refine ⟨_,rfl,_,rfl,left,d,rfl,(by omega),d2,Nat.lt_of_lt_of_le (log2_lt_of (k:=64) (by omega) (by decide)) (by decide),fun r H2 o l2 g2 hr2 inn o0 zl l0 lx sp sn=>?_⟩
    have lp:=sp (by omega)
    have o3:0 < o:=by
     rcases (show o=0\/0 < o by omega) with h | h
     ·have e:=inn.eq
      rw [h,show (0:Int).toNat=0 from rfl,Int.pow_zero,Int.one_mul] at e
      rw [<- e] at zl
      exact absurd z2 zl
     ·exact h
    refine ⟨_,rfl,.inl ⟨rfl,_,SqL.of (g2 _ _ hl1)⟩,_,rfl,_,rfl,r,_,_,_,rfl,rfl,SqT.of hr2,rfl,(by show 2<=sizeLine; decide),fun p hp=>?_⟩
    have hl2:=g2 _ _ hl1
    have npl:pl ≠ p:=fun z=>by subst z; rw [hl2] at hp; cases hp
    have nr:r ≠ pl:=fun z=>by subst z; rw [hl2] at hr2; cases hr2
    have nrp:r ≠ p:=fun z=>by subst z; rw [hr2] at hp; cases hp
    refine ⟨pl,_,_,rfl,rfl,(by rw [upd_ne npl]; exact hl2),(by rw [List.length_map]; exact small1000 (by omega)),?_⟩
    obtain ⟨k1,k2,k3⟩:=grown (x:=(d,o)) (g1.trans g2) hpl hp hl2 (TupL.same g2 t1)
    refine ⟨_,rfl,r,_,_,_,rfl,rfl,SqT.of (by rw [upd_ne nr,upd_ne nrp]; exact hr2),rfl,?_⟩
    exact ⟨xs ++ [(d,o)],rs ++ [p],l2,_,rfl,k1,k2,k3,Pr.out_some out inn d2 o3 zl rfl,by omega,by omega⟩
   ·have z2:left.fmod d ≠ 0:=fun z=>decF c2 (congrArg V.int z)
    exact ⟨xs,rs,left,_,rfl,g1,hl1,t1,Pr.out_none out (Pr.inn_start left d) d2 rfl z2 rfl,l1,by omega⟩
  ·rintro σ3 H3 ⟨ys,qs,l2,ta,rfl,g3,hl3,t3,out3,l21,l22⟩
   refine ⟨_,rfl,d,rfl,(l2+1 - (if d=2 then 3 else d+2)).toNat,?_,l2,_,ys,qs,_,rfl,g3,hl3,t3,out3,?_,?_,l21,rfl⟩
   all_goals split <;> omega
 ·have dd:¬ d*d<=left:=decF c
  refine ⟨fun σ' H2=>∃ (ys:List (Int × Int)) (qs:List Addr) (l2:Option V) (d2 o2:Option V),σ'=[some (.int n),some (.ref pl),l2,d2,o2]/\Same H H2/\H2 pl=some (.lst (qs.map V.ref))/\TupL H2 qs ys/\Pr.Told n ys,?_,?_⟩
  ·refine ⟨_,rfl,_,_,rfl,rfl,_,rfl,?_⟩
   refine ite2 (fun c3=>?_) (fun c3=>?_)
   ·have o3:1 < left:=decT c3
    refine ⟨_,rfl,.inl ⟨rfl,_,SqL.of hl1⟩,_,rfl,(by show 2<=sizeLine; decide),fun p hp=>?_⟩
    have npl:pl ≠ p:=fun z=>by subst z; rw [hl1] at hp; cases hp
    refine ⟨pl,_,_,rfl,rfl,(by rw [upd_ne npl]; exact hl1),(by rw [List.length_map]; exact small1000 (by omega)),?_⟩
    obtain ⟨k1,k2,k3⟩:=grown (x:=(left,1)) g1 hpl hp hl1 t1
    exact ⟨xs ++ [(left,1)],rs ++ [p],_,_,_,rfl,k1,k2,k3,Pr.told_last out d2 (by omega) o3⟩
   ·have o3:¬ 1 < left:=decF c3
    exact ⟨xs,rs,_,_,_,rfl,g1,hl1,t1,Pr.told_none out (by omega)⟩
  ·rintro σ3 H3 ⟨ys,qs,l3,d3,o3,rfl,g3,hl3,t3,told⟩
   exact ⟨_,rfl,q pl qs ys H3 g3 hpl hl3 t3 told⟩
theorem ok_core_of {f:Addr} {fd:FuncData} (F:Fun K "core_of" "core_of" s_core_of f fd) (T:Txt K mg t) (H_prime_parts:Has P w K mg base CX0 2 "prime_parts" ["number"] (spParts0)):FnOk P w K mg base CX0 3 f fd ["number"] (spCore0):=by
 obtain ⟨f_prime_parts,d_prime_parts,G_prime_parts,b_prime_parts,k_prime_parts,m_prime_parts⟩:=H_prime_parts
 refine F.ok sc_core_of (fun vs H Q E h=>?_) (fun cdv A outer s H vs Q E hr h=>?_)
 ·obtain ⟨n,rfl,_⟩:=h
  rfl
 obtain ⟨n,rfl,c',n0,n1,q⟩:=h
 have hr_prime_parts:=hr.mono (show 2<=2 by decide)
 refine ⟨_,pss_cons (ps_if (pt_cmpR op_eq (pv 0) pe_int (nomark _)) pss_never pss_nil)
  (pss_cut (ps_set (i:=1) sc_core_of.nd rfl (Or.inl rfl) (pe_ifExp (pt_cmpR op_lt (pv 0) pe_int (nomark _)) (pe_un un_neg pe_int) pe_int))
  (pss_cons (ps_set (i:=2) sc_core_of.nd rfl (Or.inl rfl) pe_int)
  (pss_cons (ps_for PassesOwn.never rfl (pi_list (pe_call G_prime_parts hr_prime_parts rfl m_prime_parts k_prime_parts b_prime_parts .nil pass0 (pa_cons (pe_callB call_abs rfl T.z_abs b_abs (pa_cons (pv 0) pa_nil)) pa_nil))) (pg_tup rfl (pgs_cons (pg_name (i:=3) sc_core_of.nd rfl (Or.inl rfl)) (pgs_cons (pg_name (i:=4) sc_core_of.nd rfl (Or.inl rfl)) pgs_nil))) (pss_cut (ps_if (pt_cmpR op_eq (pe_op op_mod (pv 4) pe_int) pe_int (nomark _)) (pss_one (ps_set (i:=1) sc_core_of.nd rfl (Or.inl rfl) (pe_op op_mulG (pv 1) (pv 3)))) pss_nil)
  (pss_one (ps_for PassesOwn.never rfl (pi_range1 rfl T.z_range (pa_cons (pe_op op_fdiv (pv 4) pe_int) pa_nil)) (pg_name (i:=5) sc_core_of.nd rfl (Or.inl rfl)) (pss_one (ps_set (i:=2) sc_core_of.nd rfl (Or.inl rfl) (pe_op op_mulG (pv 2) (pv 3))))))))
  (pss_one (ps_ret (pe_tup (pa_cons (pv 1) (pa_cons (pv 2) pa_nil)))))))),?_⟩
 refine ⟨_,rfl,rfl,_,rfl,iteDF (fun z=>c' (int_inj z)) ?_⟩
 refine ⟨fun σ' H'=>σ'=[some (.int n),some (.int (sgn n)),none,none,none,none]/\H=H',?_,?_⟩
 ·refine ⟨_,rfl,_,_,rfl,rfl,_,rfl,?_⟩
  unfold sgn
  refine ite2 (fun c2=>?_) (fun c2=>?_)
  ·refine ⟨_,rfl,?_⟩
   rw [if_pos (decT c2)]
   exact ⟨rfl,rfl⟩
  ·rw [if_neg (decF c2)]
   exact ⟨rfl,rfl⟩
 rintro _ _ ⟨rfl,rfl⟩
 have a1:1<=absI n/\absI n<=10000000000:=by
  unfold absI
  split <;> omega
 refine ⟨_,rfl,_,rfl,absI n,rfl,a1.1,a1.2,fun pl rs xs H1 g1 np hl tl told=>?_⟩
 refine ⟨pl,rfl,⟨_,SqL.of hl⟩,for_list (K:=K) (a:=pl) (xs:=rs.map V.ref) (fun i σ H'=>∃ (pr of tu:Option V),σ=[some (.int n),some (.int (sgn n*Pr.coreP (xs.take i))),some (.int (Pr.rootP (xs.take i))),pr,of,tu]/\H1=H')
  ⟨none,none,none,by show [some (V.int n),some (V.int (sgn n)),some (V.int 1),none,none,none]=[some (V.int n),some (V.int (sgn n*1)),some (V.int 1),none,none,none]; rw [Int.mul_one],rfl⟩ (fun i σ H2 _ ⟨_,_,_,_,e⟩=>e ▸ SqL.of hl) ?_ ?_⟩
 ·rintro i y σ H2 hi ⟨pr,of,tu,rfl,rfl⟩
  obtain ⟨r,hr',rfl⟩:∃ r,rs[i]?=some r/\y=.ref r:=by
   rw [List.getElem?_map] at hi
   cases e:rs[i]? with
   | none=>rw [e] at hi; cases hi
   | some r=>rw [e] at hi; exact ⟨r,rfl,(Option.some.inj hi).symm⟩
  obtain ⟨⟨p,o⟩,hx,ht⟩:=tl.get hr'
  have mem:=List.mem_of_getElem? hx
  have prt:=told.all _ mem
  have p2:2<=p:=prt.prime.two
  have o1:1<=o:=prt.often
  have o2:o<=40:=Pr.often_le told (by show absI n<=10000000000; exact a1.2) mem
  have pn:p<=absI n:=Pr.part_le told mem
  refine ⟨r,_,rfl,SqT.of ht,rfl,_,_,rfl,_,_,rfl,rfl,?_⟩
  refine ⟨fun σ' H'=>σ'=[some (.int n),some (.int (sgn n*Pr.coreP (xs.take (i+1)))),some (.int (Pr.rootP (xs.take i))),some (.int p),some (.int o),tu]/\H1=H',?_,?_⟩
  ·refine ⟨_,rfl,_,_,rfl,rfl,(by show (0:Int) < 2; decide),rfl,_,rfl,?_⟩
   rw [core_more hx]
   refine ite2 (fun c2=>?_) (fun c2=>?_)
   ·have e:o % 2=1:=int_inj (decT c2)
    rw [if_pos e,<- Int.mul_assoc]
    exact ⟨_,rfl,_,rfl,_,_,rfl,rfl,mulS (by omega) (by omega),rfl,rfl⟩
   ·have e:¬ o % 2=1:=fun z=>decF c2 (congrArg V.int z)
    rw [if_neg e,Int.mul_one]
    exact ⟨rfl,rfl⟩
  rintro _ _ ⟨rfl,rfl⟩
  refine ⟨_,rfl,_,_,rfl,rfl,⟨by decide,by decide⟩,o / 2,rfl,(by omega),(by omega),
   for_range (fun j σ H'=>∃ tu:Option V,σ=[some (.int n),some (.int (sgn n*Pr.coreP (xs.take (i+1)))),some (.int (Pr.rootP (xs.take i)*p^j)),some (.int p),some (.int o),tu]/\H1=H') ⟨tu,by rw [Int.pow_zero,Int.mul_one],rfl⟩ ?_ ?_⟩
  ·rintro j σ H' hj ⟨tu,rfl,rfl⟩
   refine ⟨_,rfl,_,rfl,_,_,rfl,rfl,mulS (by omega) (by omega),some (.int (0+(j:Int))),?_,rfl⟩
   rw [Int.pow_succ,<- Int.mul_assoc]
   rfl
  ·rintro σ H' ⟨tu,rfl,rfl⟩
   refine ⟨some (.int p),some (.int o),tu,?_,rfl⟩
   rw [root_more hx]
 ·rintro σ H2 ⟨pr,of,tu,rfl,rfl⟩
  have e:xs.take (rs.map V.ref).length=xs:=by rw [List.length_map,tl.len,List.take_length]
  rw [e]
  exact ⟨_,rfl,_,rfl,(by show 2<=sizeLine; decide),fun p hp=>q p xs _ (g1.trans (same_new hp _)) told upd_same⟩
theorem ok_is_without_squares {f:Addr} {fd:FuncData} (F:Fun K "is_without_squares" "is_without_squares" s_is_without_squares f fd) (T:Txt K mg t) (H_core_of:Has P w K mg base CX0 3 "core_of" ["number"] (spCore0)):FnOk P w K mg base CX0 4 f fd ["number"] (spNoSqB):=by
 obtain ⟨f_core_of,d_core_of,G_core_of,b_core_of,k_core_of,m_core_of⟩:=H_core_of
 refine F.ok sc_is_without_squares (fun vs H Q E h=>?_) (fun cdv A outer s H vs Q E hr h=>?_)
 ·obtain ⟨_,rfl,_⟩:=h
  rfl
 obtain ⟨n,rfl,n6,q⟩:=h
 have hr_core_of:=hr.mono (show 3<=3 by decide)
 refine ⟨_,pss_one (ps_ret (pe_and (pe_cmpR op_ne (pv 0) pe_int (nomark _)) (pe_one (pe_cmpR op_eq (pe_ix ix_tup (pe_call G_core_of hr_core_of rfl m_core_of k_core_of b_core_of .nil pass0 (pa_cons (pv 0) pa_nil)) pe_int (fun _ _=>rfl)) pe_int (nomark _))))),?_⟩
 unfold Sm6 at n6
 refine ⟨_,rfl,rfl,_,rfl,ite2 (fun c=>?_) (fun c=>?_)⟩
 ·have n0:n ≠ 0:=fun z=>neT c (congrArg V.int z)
  refine ⟨_,rfl,n,rfl,n0,by omega,by omega,fun p xs H1 g1 told hp=>⟨p,_,_,_,rfl,rfl,SqT.of hp,rfl,rfl,?_⟩⟩
  refine q _ _ g1 ⟨fun e=>⟨n0,fun p hp hd=>?_⟩,fun e=>decide_eq_true (congrArg V.int (root_one told fun p hp z=>e.2 p hp (abs_dvd.mp z)))⟩
  have r1:Pr.rootP xs=1:=int_inj (decT e)
  have cr:=Pr.core_root told.all
  rw [r1,told.prod,Int.mul_one,Int.mul_one] at cr
  exact Pr.core_no_sq hp told.all told.rise (by rw [cr]; exact abs_dvd.mpr hd)
 ·refine q _ H (Same.refl _) ⟨fun e=>?_,fun e=>absurd (int_inj (neF c)) e.1⟩
  first | exact absurd e c | exact (Bool.false_ne_true e).elim
theorem ok_sign_of_two {f:Addr} {fd:FuncData} (F:Fun K "sign_of_two" "sign_of_two" s_sign_of_two f fd) (T:Txt K mg t) :FnOk P w K mg base CX0 1 f fd ["odd"] (spTwoI):=by
 refine F.ok sc_sign_of_two (fun vs H Q E h=>?_) (fun cdv A outer s H vs Q E hr h=>?_)
 ·obtain ⟨_,rfl,_⟩:=h
  rfl
 obtain ⟨x,rfl,q⟩:=h
 refine ⟨_,pss_one (ps_ret (pe_ifExp (pt_cmpR op_in_seq (pe_op op_mod (pv 0) pe_int) (pe_tup (pa_cons pe_int (pa_cons pe_int pa_nil))) (by with_unfolding_all rfl)) (pe_un un_neg pe_int) pe_int)),?_⟩
 refine ⟨_,rfl,_,_,rfl,rfl,(by show (0:Int) < 8; decide),(by show 2<=sizeLine; decide),fun p hp=>?_⟩
 have g:=same_new hp (.tup [.int 3,.int 5])
 refine ⟨_,_,rfl,.inr (SqT.of upd_same),rfl,rfl,inV (.int (x % 8)) [.int 3,.int 5],rfl,?_⟩
 rw [in35]
 refine ite2 (fun c=>?_) (fun c=>?_)
 ·have e:Jc.twoI x=-1:=by unfold Jc.twoI; rw [if_pos (decT c)]
  have q':=q _ g
  rw [e] at q'
  exact ⟨_,rfl,q'⟩
 ·have e:Jc.twoI x=1:=by unfold Jc.twoI; rw [if_neg (decF c)]
  have q':=q _ g
  rw [e] at q'
  exact q'
theorem ok_sign_of_turn {f:Addr} {fd:FuncData} (F:Fun K "sign_of_turn" "sign_of_turn" s_sign_of_turn f fd) (T:Txt K mg t) :FnOk P w K mg base CX0 1 f fd ["one","other"] (spTurnI):=by
 refine F.ok sc_sign_of_turn (fun vs H Q E h=>?_) (fun cdv A outer s H vs Q E hr h=>?_)
 ·obtain ⟨_,_,rfl,_⟩:=h
  rfl
 obtain ⟨a,b,rfl,q⟩:=h
 refine ⟨_,pss_one (ps_ret (pe_ifExp (PW.pt (pw_and (pt_cmpR op_eq (pe_op op_mod (pv 0) pe_int) pe_int (nomark _)) (pw_and1 (pt_cmpR op_eq (pe_op op_mod (pv 1) pe_int) pe_int (nomark _))))) (pe_un un_neg pe_int) pe_int)),?_⟩
 unfold Jc.turnI at q
 refine ⟨_,rfl,_,_,rfl,rfl,(by show (0:Int) < 4; decide),rfl,_,rfl,?_⟩
 refine ite2 (fun c=>?_) (fun c=>?_)
 ·have c1:a % 4=3:=int_inj (decT c)
  refine ⟨_,rfl,_,_,rfl,rfl,(by show (0:Int) < 4; decide),rfl,_,rfl,?_⟩
  refine ite2 (fun c=>?_) (fun c=>?_)
  ·have c2:b % 4=3:=int_inj (decT c)
   rw [if_pos ⟨c1,c2⟩] at q
   exact ⟨_,rfl,q⟩
  ·rw [if_neg fun z=>decF c (congrArg V.int z.2)] at q
   exact q
 ·rw [if_neg fun z=>decF c (congrArg V.int z.1)] at q
  exact iteF q
theorem ok_sign_by {f:Addr} {fd:FuncData} (F:Fun K "sign_by" "sign_by" s_sign_by f fd) (T:Txt K mg t) (H_taken_out:Has P w K mg base CX0 1 "taken_out" ["number","prime"] (spTaken)) (H_sign_of_two:Has P w K mg base CX0 1 "sign_of_two" ["odd"] (spTwoI)) (H_sign_of_turn:Has P w K mg base CX0 1 "sign_of_turn" ["one","other"] (spTurnI)):FnOk P w K mg base CX0 2 f fd ["number","n"] (spSign):=by
 obtain ⟨f_taken_out,d_taken_out,G_taken_out,b_taken_out,k_taken_out,m_taken_out⟩:=H_taken_out
 obtain ⟨f_sign_of_two,d_sign_of_two,G_sign_of_two,b_sign_of_two,k_sign_of_two,m_sign_of_two⟩:=H_sign_of_two
 obtain ⟨f_sign_of_turn,d_sign_of_turn,G_sign_of_turn,b_sign_of_turn,k_sign_of_turn,m_sign_of_turn⟩:=H_sign_of_turn
 refine F.ok sc_sign_by (fun vs H Q E h=>?_) (fun cdv A outer s H vs Q E hr h=>?_)
 ·obtain ⟨_,_,rfl,_⟩:=h
  rfl
 obtain ⟨x,n,rfl,n0,no,nb,q⟩:=h
 have hr_taken_out:=hr.mono (show 1<=1 by decide)
 have hr_sign_of_two:=hr.mono (show 1<=1 by decide)
 have hr_sign_of_turn:=hr.mono (show 1<=1 by decide)
 refine ⟨_,pss_cons (ps_if (PW.pt (pw_or (pt_cmpR op_lt (pv 1) pe_int (nomark _)) (pw_or1 (pt_cmpR op_eq (pe_op op_mod (pv 1) pe_int) pe_int (nomark _))))) pss_never pss_nil)
  (pss_cons (ps_set (i:=2) sc_sign_by.nd rfl (Or.inl rfl) pe_int)
  (pss_cons (ps_set (i:=3) sc_sign_by.nd rfl (Or.inl rfl) (pe_op op_mod (pv 0) (pv 1)))
  (pss_cons (ps_set (i:=4) sc_sign_by.nd rfl (Or.inl rfl) (pv 1))
  (pss_cons (ps_while PassesOwn.never (pt_cmpR op_ne (pv 3) pe_int (nomark _)) (pss_cons (ps_set (i:=5) sc_sign_by.nd rfl (Or.inl rfl) (pe_call G_taken_out hr_taken_out rfl m_taken_out k_taken_out b_taken_out .nil pass0 (pa_cons (pv 3) (pa_cons pe_int pa_nil))))
  (pss_cons (ps_set (i:=6) sc_sign_by.nd rfl (Or.inl rfl) (pe_ix ix_tup (pv 5) pe_int (fun _ _=>rfl)))
  (pss_cut (ps_if (pt_cmpR op_eq (pe_op op_mod (pe_ix ix_tup (pv 5) pe_int (fun _ _=>rfl)) pe_int) pe_int (nomark _)) (pss_one (ps_set (i:=2) sc_sign_by.nd rfl (Or.inl rfl) (pe_op op_mulG (pv 2) (pe_call G_sign_of_two hr_sign_of_two rfl m_sign_of_two k_sign_of_two b_sign_of_two .nil pass0 (pa_cons (pv 4) pa_nil))))) pss_nil)
  (pss_cons (ps_set (i:=2) sc_sign_by.nd rfl (Or.inl rfl) (pe_op op_mulG (pv 2) (pe_call G_sign_of_turn hr_sign_of_turn rfl m_sign_of_turn k_sign_of_turn b_sign_of_turn .nil pass0 (pa_cons (pv 6) (pa_cons (pv 4) pa_nil)))))
  (pss_cons (ps_set (i:=3) sc_sign_by.nd rfl (Or.inl rfl) (pe_op op_mod (pv 4) (pv 6)))
  (pss_one (ps_set (i:=4) sc_sign_by.nd rfl (Or.inl rfl) (pv 6)))))))))
  (pss_one (ps_ret (pe_ifExp (pt_cmpR op_eq (pv 4) pe_int (nomark _)) (pv 2) pe_int))))))),?_⟩
 refine ⟨_,rfl,_,_,rfl,rfl,_,rfl,iteDF (show ¬ n < 1 by omega) ⟨_,rfl,_,_,rfl,rfl,(by show (0:Int) < 2; decide),rfl,_,rfl,iteDF (fun z=>by have:=int_inj z; omega) ?_⟩⟩
 refine ⟨_,rfl,_,rfl,_,_,rfl,rfl,n0,?_⟩
 refine ⟨_,rfl,?_⟩
 have t0:=Int.emod_nonneg x (show n ≠ 0 by omega)
 have t1:=Int.emod_lt_of_pos x n0
 refine ⟨WS x n H,⟨_,1,x % n,n,none,none,rfl,Same.refl H,t0,n0,no,nb,by omega,.inl rfl,by rw [Int.one_mul]; exact Jc.J_mod (Int.emod_emod x n),rfl⟩,?_⟩
 rintro m σ H1 ⟨sg,top,bot,tw,od,rfl,g1,tp,bp,bo,bb,tb,sgo,e,rfl⟩
 refine ⟨_,rfl,rfl,_,rfl,?_⟩
 refine ite2 (fun c=>?_) (fun c=>?_)
 ·have tn:top ≠ 0:=fun z=>neT c (congrArg V.int z)
  refine ⟨fun σ' H2=>∃ m',m' < top.toNat/\WS x n H m' σ' H2,fun _ _ h=>h,?_⟩
  refine ⟨_,rfl,top,2,rfl,tn,by decide,by decide,fun r H2 o l g2 hr2 inn o0 zl l0 lx sp sn=>?_⟩
  have lp:=sp (by omega)
  have lo:l % 2=1:=by
   have z:l.fmod 2=l % 2:=Int.fmod_eq_emod_of_nonneg l (by decide)
   rw [z] at zl
   omega
  refine ⟨_,rfl,r,_,_,_,rfl,rfl,SqT.of hr2,rfl,?_⟩
  refine ⟨fun σ' H3=>σ'=[some (.int x),some (.int n),some (.int (sg*(if o % 2=1 then Jc.twoI bot else 1))),some (.int top),some (.int bot),some (.ref r),some (.int l)]/\Same H2 H3,?_,?_⟩
  ·refine ⟨_,rfl,r,_,_,_,rfl,rfl,SqT.of hr2,rfl,_,_,rfl,rfl,(by show (0:Int) < 2; decide),rfl,_,rfl,?_⟩
   refine ite2 (fun c=>?_) (fun c=>?_)
   ·rw [if_pos (int_inj (decT c))]
    refine ⟨_,rfl,_,rfl,bot,rfl,fun H3 g3=>⟨_,_,rfl,rfl,mulS ?_ ?_,rfl,g3⟩⟩
    all_goals rcases twoI_or bot with h | h <;> rw [h] <;> decide
   ·rw [if_neg fun z=>decF c (congrArg V.int z),Int.mul_one]
    exact ⟨rfl,Same.refl _⟩
  rintro _ H3 ⟨rfl,g3⟩
  refine ⟨_,rfl,_,rfl,_,rfl,l,bot,rfl,_,_,rfl,rfl,mulS ?_ ?_,?_⟩
  ·rcases turnI_or l bot with h | h <;> rw [h] <;> decide
  ·rcases turnI_or l bot with h | h <;> rw [h] <;> decide
  refine ⟨_,rfl,_,rfl,_,_,rfl,rfl,lp,?_⟩
  have r0:=Int.emod_nonneg bot (show l ≠ 0 by omega)
  have r1:=Int.emod_lt_of_pos bot lp
  refine ⟨_,rfl,(bot % l).toNat,by omega,_,bot % l,l,_,_,rfl,(g1.trans g2).trans g3,r0,lp,lo,by omega,by omega,?_,?_,rfl⟩
  ·rcases sgo with h | h <;> rcases turnI_or l bot with h2 | h2 <;> rw [h,h2] <;> split <;> first | (rcases twoI_or bot with h3 | h3 <;> rw [h3] <;> decide) | decide
  ·rw [<- e]
   have st:=Jc.J_step bp bo lp lo o0
   rw [<- inn.eq] at st
   rw [st,Int.mul_assoc sg,Int.mul_assoc sg]
 ·have tz:top=0:=int_inj (neF c)
  subst tz
  refine ⟨_,rfl,rfl,_,rfl,?_⟩
  refine ite2 (fun c=>?_) (fun c=>?_)
  ·have b1:bot=1:=int_inj (decT c)
   subst b1
   rw [Jc.J_by1,Int.mul_one] at e
   subst e
   exact ⟨_,rfl,q _ g1⟩
  ·have b1:bot ≠ 1:=fun z=>decF c (congrArg V.int z)
   rw [Jc.J_zero bp b1,Int.mul_zero] at e
   have q':=q _ g1
   rw [<- e] at q'
   exact q'
theorem ok_row_less {f:Addr} {fd:FuncData} (F:Fun K "row_less" "row_less" s_row_less f fd) (T:Txt K mg t) :FnOk P w K mg base CX0 1 f fd ["row","taken","times"] (spRow):=by
 refine F.ok sc_row_less (fun vs H Q E h=>?_) (fun cdv A outer s H vs Q E hr h=>?_)
 ·obtain ⟨_,_,_,_,_,_,_,_,_,rfl,_⟩:=h
  rfl
 obtain ⟨pa,pb,x,s',t',y,u,v,k,rfl,ha,hb,m1,m2,m3,q⟩:=h
 refine ⟨_,pss_one (ps_ret (pe_tup (pa_cons (pe_op op_sub (pe_ix ix_tup (pv 0) pe_int (fun _ _=>rfl)) (pe_op op_mulG (pv 2) (pe_ix ix_tup (pv 1) pe_int (fun _ _=>rfl)))) (pa_cons (pe_op op_sub (pe_ix ix_tup (pv 0) pe_int (fun _ _=>rfl)) (pe_op op_mulG (pv 2) (pe_ix ix_tup (pv 1) pe_int (fun _ _=>rfl)))) (pa_cons (pe_op op_sub (pe_ix ix_tup (pv 0) pe_int (fun _ _=>rfl)) (pe_op op_mulG (pv 2) (pe_ix ix_tup (pv 1) pe_int (fun _ _=>rfl)))) pa_nil))))),?_⟩
 exact ⟨_,rfl,pa,_,_,_,rfl,rfl,SqT.of ha,rfl,_,rfl,_,rfl,pb,_,_,_,rfl,rfl,SqT.of hb,rfl,_,_,rfl,rfl,m1,_,_,rfl,rfl,
  _,rfl,pa,_,_,_,rfl,rfl,SqT.of ha,rfl,_,rfl,_,rfl,pb,_,_,_,rfl,rfl,SqT.of hb,rfl,_,_,rfl,rfl,m2,_,_,rfl,rfl,
  _,rfl,pa,_,_,_,rfl,rfl,SqT.of ha,rfl,_,rfl,_,rfl,pb,_,_,_,rfl,rfl,SqT.of hb,rfl,_,_,rfl,rfl,m3,_,_,rfl,rfl,
  (by show 3<=sizeLine; decide),fun p np=>q p _ (same_new np _) upd_same⟩
theorem ok_shares_of {f:Addr} {fd:FuncData} (F:Fun K "shares_of" "shares_of" s_shares_of f fd) (T:Txt K mg t) (H_row_less:Has P w K mg base CX0 1 "row_less" ["row","taken","times"] (spRow)):FnOk P w K mg base CX0 2 f fd ["one","other"] (spShares):=by
 obtain ⟨f_row_less,d_row_less,G_row_less,b_row_less,k_row_less,m_row_less⟩:=H_row_less
 refine F.ok sc_shares_of (fun vs H Q E h=>?_) (fun cdv A outer s H vs Q E hr h=>?_)
 ·obtain ⟨x,y,rfl,_⟩:=h
  rfl
 obtain ⟨x,y,rfl,hx,hy,q⟩:=h
 have hr_row_less:=hr.mono (show 1<=1 by decide)
 refine ⟨_,pss_cons (ps_set (i:=2) sc_shares_of.nd rfl (Or.inl rfl) (pe_tup (pa_cons (pv 0) (pa_cons pe_int (pa_cons pe_int pa_nil)))))
  (pss_cons (ps_set (i:=3) sc_shares_of.nd rfl (Or.inl rfl) (pe_tup (pa_cons (pv 1) (pa_cons pe_int (pa_cons pe_int pa_nil)))))
  (pss_cons (ps_while PassesOwn.never (pt_cmpR op_ne (pe_ix ix_tup (pv 3) pe_int (fun _ _=>rfl)) pe_int (nomark _)) (pss_cons (ps_set (i:=4) sc_shares_of.nd rfl (Or.inl rfl) (pe_call G_row_less hr_row_less rfl m_row_less k_row_less b_row_less .nil pass0 (pa_cons (pv 2) (pa_cons (pv 3) (pa_cons (pe_op op_fdivL (pe_ix ix_tup (pv 2) pe_int (fun _ _=>rfl)) (pe_ix ix_tup (pv 3) pe_int (fun _ _=>rfl))) pa_nil)))))
  (pss_cons (ps_set (i:=2) sc_shares_of.nd rfl (Or.inl rfl) (pv 3))
  (pss_one (ps_set (i:=3) sc_shares_of.nd rfl (Or.inl rfl) (pv 4))))))
  (pss_cons (ps_if (pt_cmpR op_lt (pe_ix ix_tup (pv 2) pe_int (fun _ _=>rfl)) pe_int (nomark _)) (pss_one (ps_ret (pe_tup (pa_cons (pe_un un_neg (pe_ix ix_tup (pv 2) pe_int (fun _ _=>rfl))) (pa_cons (pe_un un_neg (pe_ix ix_tup (pv 2) pe_int (fun _ _=>rfl))) (pa_cons (pe_un un_neg (pe_ix ix_tup (pv 2) pe_int (fun _ _=>rfl))) pa_nil)))))) pss_nil)
  (pss_one (ps_ret (pv 2)))))),?_⟩
 have B4:((x.natAbs:Int)+2*y.natAbs+1).natAbs<=4*Lm:=by
  have:=Lm_pos
  omega
 have sz0:=Sh.sz_start (x:=x) (y:=y)
 generalize ((x.natAbs:Int)+2*y.natAbs+1)=B at B4 sz0
 refine ⟨_,rfl,(by show 3<=sizeLine; decide),fun p1 n1=>?_⟩
 refine ⟨_,rfl,(by show 3<=sizeLine; decide),fun p2 n2=>?_⟩
 refine ⟨fun m σ H'=>∃ (pa pb:Addr) (a s t b u v:Int) (be:Option V),σ=[some (.int x),some (.int y),some (.ref pa),some (.ref pb),be]/\Same H H'/\H' pa=some (.tup [.int a,.int s,.int t])/\H' pb=some (.tup [.int b,.int u,.int v]) /\
  Sh.Rows x y a s t b u v/\Sh.Sz B a s t b u v/\m=b.natAbs,⟨_,p1,p2,_,_,_,_,_,_,none,rfl,(same_new n1 _).trans (same_new n2 _),same_new n2 _ _ _ upd_same,upd_same,Sh.rows_start x y,sz0,rfl⟩,?_⟩
 clear sz0 n1 n2 p1 p2
 rintro m σ H1 ⟨pa,pb,a,s',t',b,u,v,be,rfl,g,ha,hb,rws,sz,rfl⟩
 refine ⟨_,rfl,pb,_,_,_,rfl,rfl,SqT.of hb,rfl,rfl,_,rfl,?_⟩
 refine ite2 (fun c=>?_) (fun c=>?_)
 ·have b0:b ≠ 0:=fun z=>neT c (congrArg V.int z)
  have sz':=Sh.sz_turn sz b0 (a.fdiv b) (a.fmod b) (Sh.quot a b) rfl
  have rw':=Sh.rows_turn rws (a.fdiv b)
  rw [fdiv_rest] at rw'
  have qs:(a.fdiv b).natAbs<=8*Lm:=by
   have e:a.fdiv b*b=a - a.fmod b:=by have:=fdiv_rest a b; omega
   have h1:(a.fdiv b).natAbs<=(a.fdiv b*b).natAbs:=by
    rw [Int.natAbs_mul]
    exact Nat.le_mul_of_pos_right _ (by omega)
   rw [e] at h1
   have h2:=sz.a0
   have h3:=sz'.b0
   omega
  refine ⟨fun σ' H2=>∃ pc:Addr,σ'=[some (.int x),some (.int y),some (.ref pb),some (.ref pc),some (.ref pc)]/\Same H1 H2/\H2 pc=some (.tup [.int (a - a.fdiv b*b),.int (s' - a.fdiv b*u),.int (t' - a.fdiv b*v)]),?_,?_⟩
  ·rintro σ' H2 ⟨pc,rfl,g2,hc⟩
   rw [fdiv_rest] at hc
   exact ⟨(a.fmod b).natAbs,Sh.fmod_abs b0,pb,pc,b,u,v,_,_,_,_,rfl,g.trans g2,g2 _ _ hb,hc,rw',sz',rfl⟩
  ·have z1:=sz.b0
   have z2:=sz.u0
   have z3:=sz.v0
   refine ⟨_,rfl,_,rfl,_,rfl,pa,_,_,_,rfl,rfl,SqT.of ha,rfl,_,rfl,pb,_,_,_,rfl,rfl,SqT.of hb,rfl,_,_,rfl,rfl,⟨b0,Lm_log (by omega)⟩,
    pa,pb,a,s',t',b,u,v,_,rfl,ha,hb,mulL qs (by omega),mulL qs (by omega),mulL qs (by omega),fun pc H2 g2 hc=>?_⟩
   exact ⟨_,rfl,_,rfl,pc,rfl,g2,hc⟩
 ·have b0:b=0:=int_inj (neF c)
  obtain ⟨e1,⟨k1,e2⟩,⟨k2,e3⟩⟩:=Sh.rows_end rws b0
  have z2:=sz.s0
  have z3:=sz.t0
  refine ⟨_,rfl,pa,_,_,_,rfl,rfl,SqT.of ha,rfl,_,_,rfl,rfl,_,rfl,?_⟩
  refine ite2 (fun c=>?_) (fun c=>?_)
  ·have a0:a < 0:=decT c
   refine ⟨_,rfl,pa,_,_,_,rfl,rfl,SqT.of ha,rfl,_,rfl,_,rfl,pa,_,_,_,rfl,rfl,SqT.of ha,rfl,_,rfl,_,rfl,pa,_,_,_,rfl,rfl,SqT.of ha,rfl,_,rfl,(by show 3<=sizeLine; decide),fun p np=>?_⟩
   exact q p _ (-a) (-s') (-t') (g.trans (same_new np _)) upd_same (by omega) (by rw [Int.neg_mul,Int.neg_mul]; omega) ⟨-k1,by rw [Int.neg_mul_neg]; exact e2⟩ ⟨-k2,by rw [Int.neg_mul_neg]; exact e3⟩ (by omega) (by omega)
  ·have a0:¬ a < 0:=decF c
   exact ⟨_,rfl,q pa H1 a s' t' g ha (by omega) e1 ⟨k1,e2⟩ ⟨k2,e3⟩ (by omega) (by omega)⟩
theorem ok_is_plain {f:Addr} {fd:FuncData} (F:Fun K "is_plain" "is_plain" s_is_plain f fd) (T:Txt K mg t) (H_is_without_squares:Has P w K mg base CX0 4 "is_without_squares" ["number"] (spNoSqB)) (H_shares_of:Has P w K mg base CX0 2 "shares_of" ["one","other"] (spShares)):FnOk P w K mg base CX0 5 f fd ["a","b","c"] (spPlainB):=by
 obtain ⟨f_is_without_squares,d_is_without_squares,G_is_without_squares,b_is_without_squares,k_is_without_squares,m_is_without_squares⟩:=H_is_without_squares
 obtain ⟨f_shares_of,d_shares_of,G_shares_of,b_shares_of,k_shares_of,m_shares_of⟩:=H_shares_of
 refine F.ok sc_is_plain (fun vs H Q E h=>?_) (fun cdv A outer s H vs Q E hr h=>?_)
 ·obtain ⟨_,_,_,rfl,_⟩:=h
  rfl
 obtain ⟨a,b,c,rfl,a6,b6,c6,q⟩:=h
 have hr_is_without_squares:=hr.mono (show 4<=4 by decide)
 have hr_shares_of:=hr.mono (show 2<=4 by decide)
 refine ⟨_,pss_cons (ps_if (pt_not (pt_val (pe_callB (call_all rfl) rfl T.z_all b_all (pa_cons (pe_compC rfl (CompScope.gen (cl:=[]) [] [] [(".0",.local),("number",.local),("is_without_squares",.globalImplicit)] rfl (by decide +kernel) (by decide +kernel) rfl rfl (by intro p hp; cases hp) rfl (by intro p hp h; simp only [List.mem_cons,List.not_mem_nil,or_false] at hp; rcases hp with rfl | rfl | rfl <;> first | rfl | (rcases h with h | h <;> cases h)) (by decide) (by decide +kernel) rfl (by intro p hp; cases hp)) (pi_tup (pe_tup (pa_cons (pv 0) (pa_cons (pv 1) (pa_cons (pv 2) pa_nil))))) (fun C s0 H0 fp pins=>pe_call G_is_without_squares hr_is_without_squares rfl m_is_without_squares k_is_without_squares b_is_without_squares .nil pass0 (pa_cons (pv 0) pa_nil))) pa_nil)) (fun _=>rfl))) (pss_one (ps_ret pe_bl)) pss_nil)
  (pss_one (ps_ret (pe_callB (call_all rfl) rfl T.z_all b_all (pa_cons (pe_compPair rfl (CompScope2.gen (cl:=[]) [] [] [(".0",.local),("one",.local),("other",.local),("shares_of",.globalImplicit)] rfl (by decide +kernel) (by decide +kernel) rfl rfl rfl (by intro p hp; cases hp) rfl (by intro p hp h; simp only [List.mem_cons,List.not_mem_nil,or_false] at hp; rcases hp with rfl | rfl | rfl | rfl <;> first | rfl | (rcases h with h | h <;> cases h)) (by decide) (by decide +kernel) rfl (by intro p hp; cases hp)) (pi_tup (pe_tup (pa_cons (pe_tup (pa_cons (pv 0) (pa_cons (pv 1) pa_nil))) (pa_cons (pe_tup (pa_cons (pv 1) (pa_cons (pv 2) pa_nil))) (pa_cons (pe_tup (pa_cons (pv 2) (pa_cons (pv 0) pa_nil))) pa_nil))))) (fun C s0 H0 fp pins=>pe_cmpR op_eq (pe_ix (ixK_tup (K:=K) rfl) (pe_call G_shares_of hr_shares_of rfl m_shares_of k_shares_of b_shares_of .nil pass0 (pa_cons (pv 0) (pa_cons (pv 1) pa_nil))) pe_int (fun _ _=>rfl)) pe_int (nomark _))) pa_nil)))),?_⟩
 refine ⟨_,rfl,_,rfl,_,rfl,(by show 3<=sizeLine; decide),fun p0 n0=>?_⟩
 have f0:=same_new n0 (.tup [.int a,.int b,.int c])
 refine ⟨p0,rfl,⟨_,SqT.of upd_same⟩,comp_tupF (xs:=[.int a,.int b,.int c]) (SqT.of upd_same) (by show 3 < sizeLine; decide) sqB (fun H' g=>SqT.of (g _ _ upd_same)) ?_ ?_⟩
 ·intro i x H' Q' ex g k
  obtain ⟨n,rfl,hn⟩:=get3i ex
  have h2:Sm6 n:=hn.elim (fun e=>e ▸ a6) fun e=>e.elim (fun e=>e ▸ b6) fun e=>e ▸ c6
  refine ⟨_,rfl,n,rfl,h2,fun t H2 g2 ht=>?_⟩
  have kk:=k H2 g2
  rw [show sqB (.int n)=.bl t from congrArg V.bl (bS_eq ht)] at kk
  exact kk
 intro l1 H1 g1 _ hl1
 refine ⟨l1,[bS a,bS b,bS c],rfl,hl1,_,rfl,?_⟩
 by_cases hs:SqF a/\SqF b/\SqF c
 ·refine iteNE (all3.mpr ⟨bS_iff.mpr hs.1,bS_iff.mpr hs.2.1,bS_iff.mpr hs.2.2⟩) ?_
  refine ⟨_,rfl,_,rfl,(by show 2<=sizeLine; decide),fun m0 k0=>⟨_,rfl,_,rfl,(by show 2<=sizeLine; decide),fun m1 k1=>⟨_,rfl,_,rfl,(by show 2<=sizeLine; decide),fun m2 k2=>⟨(by show 3<=sizeLine; decide),fun m3 k3=>?_⟩⟩⟩⟩
  have e0:=same_new k0 (.tup [.int a,.int b])
  have e1:=same_new k1 (.tup [.int b,.int c])
  have e2:=same_new k2 (.tup [.int c,.int a])
  have e3:=same_new k3 (.tup [.ref m0,.ref m1,.ref m2])
  have w0:=(e1.trans (e2.trans e3)) m0 _ upd_same
  have w1:=(e2.trans e3) m1 _ upd_same
  have w2:=e3 m2 _ upd_same
  have big:∀ {n:Int},Sm6 n->n.natAbs<=Lm:=fun h=>Nat.le_trans h (by rw [Lm_eq]; decide +kernel)
  refine ⟨m3,rfl,⟨_,SqT.of upd_same⟩,compP_tupF (xs:=[.ref m0,.ref m1,.ref m2]) (fun H' g=>SqT.of (g _ _ upd_same)) (by show 3 < sizeLine; decide) (fun i=>.int ([a,b,c].getD i 0)) (fun i=>.int ([b,c,a].getD i 0)) (fun i=>.bl ([bC a b,bC b c,bC c a].getD i false)) ?_ ?_ ?_⟩
  ·intro i x e
   match i,e with
   | 0,e=>exact ⟨m0,(Option.some.inj e).symm,w0⟩
   | 1,e=>exact ⟨m1,(Option.some.inj e).symm,w1⟩
   | 2,e=>exact ⟨m2,(Option.some.inj e).symm,w2⟩
   | n+3,e=>cases e
  ·intro i H' Q' hi g k
   obtain ⟨x,y,ex,ey,hx,hy,x0,ec⟩:∃ x y:Int,[a,b,c].getD i 0=x/\[b,c,a].getD i 0=y/\Sm6 x/\Sm6 y/\x ≠ 0/\[bC a b,bC b c,bC c a].getD i false=bC x y:=by
    have hi3:i < 3:=hi
    obtain rfl | rfl | rfl:i=0\/i=1\/i=2:=by omega
    ·exact ⟨a,b,rfl,rfl,a6,b6,hs.1.1,rfl⟩
    ·exact ⟨b,c,rfl,rfl,b6,c6,hs.2.1.1,rfl⟩
    ·exact ⟨c,a,rfl,rfl,c6,a6,hs.2.2.1,rfl⟩
   rw [ex,ey]
   refine ⟨_,rfl,_,rfl,x,y,rfl,big hx,big hy,fun z H2 gg s' t' g2 hz g0 eg ⟨u1,v1⟩ ⟨u2,v2⟩ _ _=>⟨z,_,_,_,rfl,rfl,SqT.of hz,rfl,rfl,?_⟩⟩
   have kk:=k H2 g2
   have e:bC x y=decide (V.int gg=V.int 1):=bC_eq ⟨fun h=>cop_of eg (int_inj (decT h)),fun h=>decide_eq_true (congrArg V.int (gcd_one h x0 g0 ⟨u1,by rw [Int.mul_comm]; exact v1⟩ ⟨u2,by rw [Int.mul_comm]; exact v2⟩))⟩
   have fin:Q' (.bl (decide (V.int gg=V.int 1))) H2:=by
    rw [<- e,<- ec]
    exact kk
   exact fin
  ·intro l2 H2 g2 _ hl2
   refine ⟨l2,[bC a b,bC b c,bC c a],rfl,hl2,q _ _ (f0.trans (g1.trans (e0.trans (e1.trans (e2.trans (e3.trans g2)))))) ?_⟩
   rw [all3,bC_iff,bC_iff,bC_iff,pln_iff]
   exact ⟨fun h=>⟨hs,h⟩,fun h=>h.2⟩
 ·refine iteNF (Bool.eq_false_iff.mpr fun h=>hs (by rw [all3,bS_iff,bS_iff,bS_iff] at h; exact h)) ?_
  exact q _ _ (f0.trans g1) ⟨fun z=>(Bool.false_ne_true z).elim,fun P=>absurd (pln_iff.mp P).1 hs⟩
theorem ok_sign_at_two {f:Addr} {fd:FuncData} (F:Fun K "sign_at_two" "sign_at_two" s_sign_at_two f fd) (T:Txt K mg t) (H_sign_of_two:Has P w K mg base CX0 1 "sign_of_two" ["odd"] (spTwoI)) (H_sign_of_turn:Has P w K mg base CX0 1 "sign_of_turn" ["one","other"] (spTurnI)):FnOk P w K mg base CX0 2 f fd ["one","other"] (spAtTwo):=by
 obtain ⟨f_sign_of_two,d_sign_of_two,G_sign_of_two,b_sign_of_two,k_sign_of_two,m_sign_of_two⟩:=H_sign_of_two
 obtain ⟨f_sign_of_turn,d_sign_of_turn,G_sign_of_turn,b_sign_of_turn,k_sign_of_turn,m_sign_of_turn⟩:=H_sign_of_turn
 refine F.ok sc_sign_at_two (fun vs H Q E h=>?_) (fun cdv A outer s H vs Q E hr h=>?_)
 ·obtain ⟨_,_,_,_,_,_,rfl,_⟩:=h
  rfl
 obtain ⟨r1,r2,o1,l1,o2,l2,rfl,h1,h2,q⟩:=h
 have hr_sign_of_two:=hr.mono (show 1<=1 by decide)
 have hr_sign_of_turn:=hr.mono (show 1<=1 by decide)
 refine ⟨_,pss_cons (ps_set (i:=2) sc_sign_at_two.nd rfl (Or.inl rfl) (pe_call G_sign_of_turn hr_sign_of_turn rfl m_sign_of_turn k_sign_of_turn b_sign_of_turn .nil pass0 (pa_cons (pe_ix ix_tup (pv 0) pe_int (fun _ _=>rfl)) (pa_cons (pe_ix ix_tup (pv 1) pe_int (fun _ _=>rfl)) pa_nil))))
  (pss_cut (ps_if (pt_cmpR op_eq (pe_op op_mod (pe_ix ix_tup (pv 0) pe_int (fun _ _=>rfl)) pe_int) pe_int (nomark _)) (pss_one (ps_set (i:=2) sc_sign_at_two.nd rfl (Or.inl rfl) (pe_op op_mulG (pv 2) (pe_call G_sign_of_two hr_sign_of_two rfl m_sign_of_two k_sign_of_two b_sign_of_two .nil pass0 (pa_cons (pe_ix ix_tup (pv 1) pe_int (fun _ _=>rfl)) pa_nil))))) pss_nil)
  (pss_cut (ps_if (pt_cmpR op_eq (pe_op op_mod (pe_ix ix_tup (pv 1) pe_int (fun _ _=>rfl)) pe_int) pe_int (nomark _)) (pss_one (ps_set (i:=2) sc_sign_at_two.nd rfl (Or.inl rfl) (pe_op op_mulG (pv 2) (pe_call G_sign_of_two hr_sign_of_two rfl m_sign_of_two k_sign_of_two b_sign_of_two .nil pass0 (pa_cons (pe_ix ix_tup (pv 0) pe_int (fun _ _=>rfl)) pa_nil))))) pss_nil)
  (pss_one (ps_ret (pv 2))))),?_⟩
 unfold Jc.two4 at q
 refine ⟨_,rfl,r1,_,_,_,rfl,rfl,SqT.of h1,rfl,_,rfl,r2,_,_,_,rfl,rfl,SqT.of h2,rfl,l1,l2,rfl,?_⟩
 refine ⟨fun σ' H'=>σ'=[some (.ref r1),some (.ref r2),some (.int (Jc.turnI l1 l2*(if o1 % 2=1 then Jc.twoI l2 else 1)))]/\Same H H',?_,?_⟩
 ·refine ⟨_,rfl,r1,_,_,_,rfl,rfl,SqT.of h1,rfl,_,_,rfl,rfl,(by show (0:Int) < 2; decide),rfl,_,rfl,?_⟩
  refine ite2 (fun c=>?_) (fun c=>?_)
  ·rw [if_pos (int_inj (decT c))]
   refine ⟨_,rfl,_,rfl,r2,_,_,_,rfl,rfl,SqT.of h2,rfl,l2,rfl,fun H1 g1=>⟨_,_,rfl,rfl,mulS ?_ ?_,rfl,g1⟩⟩
   all_goals rcases twoI_or l2 with h | h <;> rw [h] <;> decide
  ·rw [if_neg fun z=>decF c (congrArg V.int z),Int.mul_one]
   exact ⟨rfl,Same.refl H⟩
 rintro _ H1 ⟨rfl,g1⟩
 refine ⟨fun σ' H'=>σ'=[some (.ref r1),some (.ref r2),some (.int (Jc.turnI l1 l2*(if o1 % 2=1 then Jc.twoI l2 else 1)*(if o2 % 2=1 then Jc.twoI l1 else 1)))]/\Same H H',?_,?_⟩
 ·refine ⟨_,rfl,r2,_,_,_,rfl,rfl,SqT.of (g1 _ _ h2),rfl,_,_,rfl,rfl,(by show (0:Int) < 2; decide),rfl,_,rfl,?_⟩
  refine ite2 (fun c=>?_) (fun c=>?_)
  ·rw [if_pos (int_inj (decT c))]
   refine ⟨_,rfl,_,rfl,r1,_,_,_,rfl,rfl,SqT.of (g1 _ _ h1),rfl,l1,rfl,fun H2 g2=>⟨_,_,rfl,rfl,mulS ?_ ?_,rfl,g1.trans g2⟩⟩
   all_goals rcases twoI_or l1 with h | h <;> rw [h] <;> decide
  ·rw [if_neg fun z=>decF c (congrArg V.int z),Int.mul_one]
   exact ⟨rfl,g1⟩
 rintro _ H2 ⟨rfl,g2⟩
 exact ⟨_,rfl,q _ g2⟩
theorem ok_sign_at_odd {f:Addr} {fd:FuncData} (F:Fun K "sign_at_odd" "sign_at_odd" s_sign_at_odd f fd) (T:Txt K mg t) (H_sign_by:Has P w K mg base CX0 2 "sign_by" ["number","n"] (spSign)):FnOk P w K mg base CX0 3 f fd ["one","other","prime"] (spAtOdd):=by
 obtain ⟨f_sign_by,d_sign_by,G_sign_by,b_sign_by,k_sign_by,m_sign_by⟩:=H_sign_by
 refine F.ok sc_sign_at_odd (fun vs H Q E h=>?_) (fun cdv A outer s H vs Q E hr h=>?_)
 ·obtain ⟨_,_,_,_,_,_,_,rfl,_⟩:=h
  rfl
 obtain ⟨r1,r2,o1,l1,o2,l2,p,rfl,h1,h2,p0,po,pb,lb,q⟩:=h
 have hr_sign_by:=hr.mono (show 2<=2 by decide)
 refine ⟨_,pss_cons (ps_set (i:=3) sc_sign_at_odd.nd rfl (Or.inl rfl) (pe_cmpR op_eq (pe_op op_mod (pe_ix ix_tup (pv 0) pe_int (fun _ _=>rfl)) pe_int) pe_int (nomark _)))
  (pss_cons (ps_set (i:=4) sc_sign_at_odd.nd rfl (Or.inl rfl) (pe_cmpR op_eq (pe_op op_mod (pe_ix ix_tup (pv 1) pe_int (fun _ _=>rfl)) pe_int) pe_int (nomark _)))
  (pss_cons (ps_if (PW.pt (pw_and (pt_val (pv 3) (fun _=>rfl)) (pw_and1 (pt_val (pv 4) (fun _=>rfl))))) (pss_one (ps_ret (pe_call G_sign_by hr_sign_by rfl m_sign_by k_sign_by b_sign_by .nil pass0 (pa_cons (pe_op op_mulG (pe_un un_neg (pe_ix ix_tup (pv 0) pe_int (fun _ _=>rfl))) (pe_ix ix_tup (pv 1) pe_int (fun _ _=>rfl))) (pa_cons (pv 2) pa_nil))))) pss_nil)
  (pss_cons (ps_if (pt_val (pv 3) (fun _=>rfl)) (pss_one (ps_ret (pe_call G_sign_by hr_sign_by rfl m_sign_by k_sign_by b_sign_by .nil pass0 (pa_cons (pe_ix ix_tup (pv 1) pe_int (fun _ _=>rfl)) (pa_cons (pv 2) pa_nil))))) pss_nil)
  (pss_cons (ps_if (pt_val (pv 4) (fun _=>rfl)) (pss_one (ps_ret (pe_call G_sign_by hr_sign_by rfl m_sign_by k_sign_by b_sign_by .nil pass0 (pa_cons (pe_ix ix_tup (pv 0) pe_int (fun _ _=>rfl)) (pa_cons (pv 2) pa_nil))))) pss_nil)
  (pss_one (ps_ret pe_int)))))),?_⟩
 unfold Jc.odd4 at q
 refine ⟨_,rfl,r1,_,_,_,rfl,rfl,SqT.of h1,rfl,_,_,rfl,rfl,(by show (0:Int) < 2; decide),rfl,?_⟩
 refine ⟨_,rfl,r2,_,_,_,rfl,rfl,SqT.of h2,rfl,_,_,rfl,rfl,(by show (0:Int) < 2; decide),rfl,?_⟩
 by_cases c1:o1 % 2=1
 ·have e1:decide (V.int (o1 % 2)=V.int 1)=true:=decide_eq_true (congrArg V.int c1)
  by_cases c2:o2 % 2=1
  ·have e2:decide (V.int (o2 % 2)=V.int 1)=true:=decide_eq_true (congrArg V.int c2)
   rw [if_pos c1,if_pos c2] at q
   rw [e1,e2]
   refine ⟨_,rfl,_,rfl,iteT ⟨_,rfl,_,rfl,iteT ?_⟩⟩
   exact ⟨_,rfl,r1,_,_,_,rfl,rfl,SqT.of h1,rfl,_,rfl,_,rfl,r2,_,_,_,rfl,rfl,SqT.of h2,rfl,_,_,rfl,rfl,mulS (by omega) (by omega),_,rfl,-l1*l2,p,rfl,p0,po,pb,fun H' g=>q _ g⟩
  ·have e2:decide (V.int (o2 % 2)=V.int 1)=false:=decide_eq_false fun z=>c2 (int_inj z)
   rw [if_pos c1,if_neg c2] at q
   rw [e1,e2]
   refine ⟨_,rfl,_,rfl,iteT ⟨_,rfl,_,rfl,iteF ?_⟩⟩
   refine ⟨_,rfl,_,rfl,iteT ?_⟩
   exact ⟨_,rfl,r2,_,_,_,rfl,rfl,SqT.of h2,rfl,_,rfl,l2,p,rfl,p0,po,pb,fun H' g=>q _ g⟩
 ·have e1:decide (V.int (o1 % 2)=V.int 1)=false:=decide_eq_false fun z=>c1 (int_inj z)
  by_cases c2:o2 % 2=1
  ·have e2:decide (V.int (o2 % 2)=V.int 1)=true:=decide_eq_true (congrArg V.int c2)
   rw [if_neg c1,if_pos c2] at q
   rw [e1,e2]
   refine ⟨_,rfl,_,rfl,iteF (iteF ?_)⟩
   refine ⟨_,rfl,_,rfl,iteF ?_⟩
   refine ⟨_,rfl,_,rfl,iteT ?_⟩
   exact ⟨_,rfl,r1,_,_,_,rfl,rfl,SqT.of h1,rfl,_,rfl,l1,p,rfl,p0,po,pb,fun H' g=>q _ g⟩
  ·have e2:decide (V.int (o2 % 2)=V.int 1)=false:=decide_eq_false fun z=>c2 (int_inj z)
   rw [if_neg c1,if_neg c2] at q
   rw [e1,e2]
   refine ⟨_,rfl,_,rfl,iteF (iteF ?_)⟩
   refine ⟨_,rfl,_,rfl,iteF ?_⟩
   refine ⟨_,rfl,_,rfl,iteF ?_⟩
   exact q _ (Same.refl H)
theorem ok_sign_at {f:Addr} {fd:FuncData} (F:Fun K "sign_at" "sign_at" s_sign_at f fd) (T:Txt K mg t) (H_taken_out:Has P w K mg base CX0 1 "taken_out" ["number","prime"] (spTaken)) (H_sign_at_two:Has P w K mg base CX0 2 "sign_at_two" ["one","other"] (spAtTwo)) (H_sign_at_odd:Has P w K mg base CX0 3 "sign_at_odd" ["one","other","prime"] (spAtOdd)):FnOk P w K mg base CX0 4 f fd ["a","b","place"] (spAt):=by
 obtain ⟨f_taken_out,d_taken_out,G_taken_out,b_taken_out,k_taken_out,m_taken_out⟩:=H_taken_out
 obtain ⟨f_sign_at_two,d_sign_at_two,G_sign_at_two,b_sign_at_two,k_sign_at_two,m_sign_at_two⟩:=H_sign_at_two
 obtain ⟨f_sign_at_odd,d_sign_at_odd,G_sign_at_odd,b_sign_at_odd,k_sign_at_odd,m_sign_at_odd⟩:=H_sign_at_odd
 refine F.ok sc_sign_at (fun vs H Q E h=>?_) (fun cdv A outer s H vs Q E hr h=>?_)
 ·obtain ⟨_,_,_,_,rfl,_⟩:=h
  rfl
 obtain ⟨a,b,p,v,rfl,a0,b0,bb,hv,q⟩:=h
 have hr_taken_out:=hr.mono (show 1<=3 by decide)
 have hr_sign_at_two:=hr.mono (show 2<=3 by decide)
 have hr_sign_at_odd:=hr.mono (show 3<=3 by decide)
 refine ⟨_,pss_cons (ps_if (pt_cmpR op_eq (pv 2) pe_int (nomark _)) (pss_one (ps_ret (pe_ifExp (PW.pt (pw_and (pt_cmpR op_lt (pv 0) pe_int (nomark _)) (pw_and1 (pt_cmpR op_lt (pv 1) pe_int (nomark _))))) (pe_un un_neg pe_int) pe_int))) pss_nil)
  (pss_cons (ps_set (i:=3) sc_sign_at.nd rfl (Or.inl rfl) (pe_call G_taken_out hr_taken_out rfl m_taken_out k_taken_out b_taken_out .nil pass0 (pa_cons (pv 0) (pa_cons (pv 2) pa_nil))))
  (pss_cons (ps_set (i:=4) sc_sign_at.nd rfl (Or.inl rfl) (pe_call G_taken_out hr_taken_out rfl m_taken_out k_taken_out b_taken_out .nil pass0 (pa_cons (pv 1) (pa_cons (pv 2) pa_nil))))
  (pss_cons (ps_if (pt_cmpR op_eq (pv 2) pe_int (nomark _)) (pss_one (ps_ret (pe_call G_sign_at_two hr_sign_at_two rfl m_sign_at_two k_sign_at_two b_sign_at_two .nil pass0 (pa_cons (pv 3) (pa_cons (pv 4) pa_nil))))) pss_nil)
  (pss_one (ps_ret (pe_call G_sign_at_odd hr_sign_at_odd rfl m_sign_at_odd k_sign_at_odd b_sign_at_odd .nil pass0 (pa_cons (pv 3) (pa_cons (pv 4) (pa_cons (pv 2) pa_nil))))))))),?_⟩
 rcases hv with ⟨rfl,hv⟩ | ⟨hp,pb,o1,l1,o2,l2,d1,d2,hv⟩
 ·refine ⟨_,rfl,rfl,_,rfl,iteT ?_⟩
  refine ⟨_,rfl,_,_,rfl,rfl,_,rfl,?_⟩
  subst hv
  have q:=q H (Same.refl H)
  refine ite2 (fun c=>?_) (fun c=>?_)
  ·have c1:a < 0:=decT c
   refine ⟨_,rfl,_,_,rfl,rfl,_,rfl,?_⟩
   refine ite2 (fun c=>?_) (fun c=>?_)
   ·rw [if_pos ⟨c1,decT c⟩] at q
    exact ⟨_,rfl,q⟩
   ·rw [if_neg fun z=>decF c z.2] at q
    exact q
  ·rw [if_neg fun z=>decF c z.1] at q
   exact iteF q
 ·have p2:=hp.two
  refine ⟨_,rfl,rfl,_,rfl,iteDF (fun z=>by have:=int_inj z; omega) ?_⟩
  have plog:p.natAbs.log2 < 9000:=Nat.lt_of_lt_of_le (log2_lt_of (k:=64) (by omega) (by decide)) (by decide)
  refine ⟨_,rfl,_,rfl,a,p,rfl,a0,p2,plog,fun r1 H1 o l g1 h1 inn o0 zl l0 lx sp sn=>?_⟩
  obtain ⟨rfl,rfl⟩:=(Jc.Dec.of_inn inn o0 zl).unique (by omega) d1
  refine ⟨_,rfl,_,rfl,b,p,rfl,b0,p2,plog,fun r2 H2 o l g2 h2 inn2 o02 zl2 l02 lx2 sp2 sn2=>?_⟩
  obtain ⟨rfl,rfl⟩:=(Jc.Dec.of_inn inn2 o02 zl2).unique (by omega) d2
  subst hv
  unfold Jc.hs at q
  refine ⟨_,rfl,rfl,_,rfl,?_⟩
  refine ite2 (fun c=>?_) (fun c=>?_)
  ·have e2:p=2:=int_inj (decT c)
   rw [if_pos e2] at q
   exact ⟨_,rfl,_,rfl,r1,r2,_,_,_,_,rfl,g2 _ _ h1,h2,fun H3 g3=>q _ ((g1.trans g2).trans g3)⟩
  ·have e2:p ≠ 2:=fun z=>decF c (congrArg V.int z)
   rw [if_neg e2] at q
   exact ⟨_,rfl,_,rfl,_,rfl,r1,r2,_,_,_,_,p,rfl,g2 _ _ h1,h2,by omega,prm_odd hp e2,by omega,by omega,fun H3 g3=>q _ ((g1.trans g2).trans g3)⟩
theorem ok_places_in_question {f:Addr} {fd:FuncData} (F:Fun K "places_in_question" "places_in_question" s_places_in_question f fd) (T:Txt K mg t) (H_prime_parts:Has P w K mg base CX0 2 "prime_parts" ["number"] (spParts0)):FnOk P w K mg base CX0 3 f fd ["a","b","c"] (spQuest):=by
 obtain ⟨f_prime_parts,d_prime_parts,G_prime_parts,b_prime_parts,k_prime_parts,m_prime_parts⟩:=H_prime_parts
 refine F.ok sc_places_in_question (fun vs H Q E h=>?_) (fun cdv A outer s H vs Q E hr h=>?_)
 ·obtain ⟨_,_,_,rfl,_⟩:=h
  rfl
 obtain ⟨a,b,c,rfl,P,a6,b6,c6,q⟩:=h
 have hr_prime_parts:=hr.mono (show 2<=2 by decide)
 refine ⟨_,pss_cons (ps_set (i:=3) sc_places_in_question.nd rfl (Or.inl rfl) (pe_lst pa_nil))
  (pss_cons (ps_for PassesOwn.never rfl (pi_tup (pe_tup (pa_cons (pv 0) (pa_cons (pv 1) (pa_cons (pv 2) pa_nil))))) (pg_name (i:=4) sc_places_in_question.nd rfl (Or.inl rfl)) (pss_one (ps_expr (pe_bm PySem.F.plainAttrs_list PySem.F.slot_list_extend PySem.F.type_list_extend mt_extend (pv 3) (pa_cons (pe_compPairIf rfl (CompScope2.gen (cl:=[]) [] [] [(".0",.local),("prime",.local),("often",.local)] rfl (by decide +kernel) (by decide +kernel) rfl rfl rfl (by intro p hp; cases hp) rfl (by intro p hp h; simp only [List.mem_cons,List.not_mem_nil,or_false] at hp; rcases hp with rfl | rfl | rfl <;> first | rfl | (rcases h with h | h <;> cases h)) (by decide) (by decide +kernel) rfl (by intro p hp; cases hp)) (pi_list (pe_call G_prime_parts hr_prime_parts rfl m_prime_parts k_prime_parts b_prime_parts .nil pass0 (pa_cons (pe_callB call_abs rfl T.z_abs b_abs (pa_cons (pv 4) pa_nil)) pa_nil))) (fun C s0 H0 fp pins=>pt_cmpR op_gt (pv 0) pe_int (nomark _)) (fun C s0 H0 fp pins=>pv 0)) pa_nil)))))
  (pss_one (ps_ret (pe_op op_cat (pe_lst (pa_cons pe_int (pa_cons pe_int pa_nil))) (pe_callB (call_sortedS rfl) rfl T.z_sorted b_sorted (pa_cons (pe_callTy (call_setL rfl) rfl T.z_set b_set (pa_cons (pv 3) pa_nil)) pa_nil)))))),?_⟩
 refine ⟨(by show 0<=sizeLine; decide),fun od nod=>?_⟩
 refine ⟨_,rfl,_,rfl,_,rfl,(by show 3<=sizeLine; decide),fun p0 n0=>?_⟩
 have g0:=same_new nod (.lst [])
 have g1:=same_new n0 (.tup [.int a,.int b,.int c])
 refine ⟨p0,rfl,⟨_,SqT.of upd_same⟩,for_tup (xs:=[.int a,.int b,.int c]) (fun i σ H'=>∃ (nu:Option V) (os:List Int),σ=[some (.int a),some (.int b),some (.int c),some (.ref od),nu]/\Same H H'/\H' p0=some (.tup [.int a,.int b,.int c])/\H' od=some (.lst (os.map V.int))/\os.Nodup/\os.length<=20*i/\(∀ p,p ∈ os ↔ Pr.Prm p/\p ≠ 2/\∃ (j:Nat) (n:Int),j < i/\[a,b,c][j]?=some n/\p ∣ n)) ⟨none,[],rfl,g0.trans g1,upd_same,g1 _ _ upd_same,.nil,by decide,fun p=>⟨(fun z=>by cases z),(fun ⟨_,_,j,n,h,_⟩=>by omega)⟩⟩ ?_ ?_ ?_⟩
 ·rintro i σ H' hi ⟨nu,os,rfl,g,h0,_⟩
  exact SqT.of h0
 ·rintro i x σ H' hx ⟨nu,os,rfl,g,h0,hod,nd,le,mem⟩
  obtain ⟨n,rfl,hn,n0',n6⟩:∃ n:Int,x=.int n/\[a,b,c][i]?=some n/\n ≠ 0/\Sm6 n:=by
   match i,hx with
   | 0,e=>exact ⟨a,(Option.some.inj e).symm,rfl,P.a0,a6⟩
   | 1,e=>exact ⟨b,(Option.some.inj e).symm,rfl,P.b0,b6⟩
   | 2,e=>exact ⟨c,(Option.some.inj e).symm,rfl,P.c0,c6⟩
   | n+3,e=>cases e
  have a1:1<=absI n/\absI n<=10000000000:=by
   unfold absI Sm6 at *
   split <;> omega
  refine ⟨_,rfl,.inl ⟨rfl,_,SqL.of hod⟩,_,rfl,n,rfl,absI n,rfl,a1.1,a1.2,fun pl rs xs H1 g1 np hl tl told=>?_⟩
  have ln:=told_len told n6
  refine ⟨pl,rfl,⟨_,SqL.of hl⟩,compPI_list (rs:=rs) (xs:=xs) (Nat.lt_of_lt_of_le ln (by decide)) tl.len (fun H' g=>SqL.of (g _ _ hl)) ?_ (fun p=>decide (2 < p)) ?_ ?_ ?_⟩
  ·intro j r y e1 e2
   obtain ⟨y',e3,e4⟩:=tl.get e1
   rw [e2] at e3
   cases e3
   exact e4
  ·intro y H2 Q2 g2 k
   exact ⟨_,rfl,_,_,rfl,rfl,_,rfl,k⟩
  ·intro y H2 Q2 g2 k
   exact ⟨_,rfl,k⟩
  ·intro l H2 g2 nl hl2
   obtain ⟨ond,omem⟩:=odds_told told
   have ol:((xs.map (·.1)).filter fun p=>decide (2 < p)).length<=20:=by
    have:=List.length_filter_le (fun p=>decide (2 < p)) (xs.map (·.1))
    rw [List.length_map] at this
    omega
   generalize (xs.map (·.1)).filter (fun p=>decide (2 < p))=ns at ond omem ol hl2
   have hod2:=g2 _ _ (g1 _ _ hod)
   have apart:∀ p ∈ os,p ∉ ns:=by
    intro p h1 h2
    obtain ⟨pp,p2,j,m,hj,hm,hd⟩:=(mem p).mp h1
    have hd2:=((omem p).mp h2).2.2
    match i,j,hn,hm,hj with
    | 1,0,e1,e2,_=>cases e1; cases e2; exact P.ab p pp hd hd2
    | 2,0,e1,e2,_=>cases e1; cases e2; exact P.ca p pp hd2 hd
    | 2,1,e1,e2,_=>cases e1; cases e2; exact P.bc p pp hd hd2
    | 0,j,_,_,hj=>omega
    | 1,j+1,_,_,hj=>omega
    | 2,j+2,_,_,hj=>omega
    | i+3,j,e1,_,_=>cases e1
   refine ⟨od,l,_,_,rfl,rfl,hod2,hl2,?_,?_⟩
   ·rw [List.length_map,List.length_map]
    have hi3:i < 3:=by
     match i,hn with
     | 0,_=>decide
     | 1,_=>decide
     | 2,_=>decide
     | i+3,e=>cases e
    exact Nat.le_trans (by omega:os.length+ns.length<=100) (by decide)
   have ne:od ≠ p0:=fun z=>by
    subst z
    rw [h0] at hod
    cases hod
   refine ⟨some (.int n),os ++ ns,rfl,fun b o e=>?_,?_,?_,?_,?_,fun p=>?_⟩
   ·rw [upd_ne (ne_of_none e nod)]
    exact g2 _ _ (g1 _ _ (g b o e))
   ·rw [upd_ne (Ne.symm ne)]
    exact g2 _ _ (g1 _ _ h0)
   ·rw [upd_same,List.map_append]
   ·exact List.nodup_append.mpr ⟨nd,ond,fun x hx y hy e=>apart x hx (e ▸ hy)⟩
   ·rw [List.length_append]
    omega
   ·rw [List.mem_append,mem,omem]
    constructor
    ·rintro (⟨a1,a2,j,m,hj,hm,hd⟩ | ⟨a1,a2,hd⟩)
     ·exact ⟨a1,a2,j,m,by omega,hm,hd⟩
     ·exact ⟨a1,a2,i,n,by omega,hn,hd⟩
    ·rintro ⟨a1,a2,j,m,hj,hm,hd⟩
     by_cases e:j=i
     ·subst e
      rw [hn] at hm
      cases hm
      exact .inr ⟨a1,a2,hd⟩
     ·exact .inl ⟨a1,a2,j,m,by omega,hm,hd⟩
 ·rintro σ H' ⟨nu,os,rfl,g,h0,hod,nd,le,mem⟩
  have le60:os.length<=60:=le
  refine ⟨(by show 2<=sizeLine; decide),fun z nz=>⟨_,rfl,od,os,rfl,SqL.of (same_new nz _ _ _ hod),(by omega),fun pS nS=>⟨pS,os,rfl,upd_same,(by omega),fun sr ks nsr strict mems=>?_⟩⟩⟩
  have f1:=same_new nz (.lst [.int 0,.int 2])
  have fS:=fun o=>same_new nS o
  have f2:=same_new nsr (.lst (ks.map V.int))
  have lk:ks.length<=60:=Nat.le_trans (List.Nodup.length_le_of_subset (strict.imp fun h=>Int.ne_of_lt h) fun k hk=>(mems k).mp hk) le60
  refine ⟨z,sr,_,_,rfl,rfl,f2 _ _ (fS _ _ _ upd_same),upd_same,?_,fun r nr=>?_⟩
  ·rw [List.length_map]
   exact Nat.le_trans (by show 2+ks.length<=100; omega) (by decide)
  have memk:∀ x,x ∈ ks ↔ Pr.Prm x/\x ≠ 2/\(x ∣ a\/x ∣ b\/x ∣ c):=by
   intro x
   rw [mems,mem]
   constructor
   ·rintro ⟨a1,a2,j,m,hj,hm,hd⟩
    refine ⟨a1,a2,?_⟩
    match j,hm with
    | 0,e=>cases e; exact .inl hd
    | 1,e=>cases e; exact .inr (.inl hd)
    | 2,e=>cases e; exact .inr (.inr hd)
    | j+3,e=>cases e
   ·rintro ⟨a1,a2,hd | hd | hd⟩
    ·exact ⟨a1,a2,0,a,(by show 0 < 3; decide),rfl,hd⟩
    ·exact ⟨a1,a2,1,b,(by show 1 < 3; decide),rfl,hd⟩
    ·exact ⟨a1,a2,2,c,(by show 2 < 3; decide),rfl,hd⟩
  refine q r ks _ (g.trans (f1.trans ((fS _).trans (f2.trans (same_new nr _))))) ?_ upd_same ?_ ?_ memk
  ·exact g.free (f1.free ((fS _).free (f2.free nr)))
  ·refine List.pairwise_cons.mpr ⟨fun x m=>?_,List.pairwise_cons.mpr ⟨fun x m=>?_,strict⟩⟩
   ·rcases List.mem_cons.mp m with rfl | m
    ·decide
    ·have:=((memk x).mp m).1.two
     omega
   ·have h1:=((memk x).mp m).1.two
    have h2:=((memk x).mp m).2.1
    omega
  ·show ks.length+1+1 < 100
   omega
theorem ok_places_without_point {f:Addr} {fd:FuncData} (F:Fun K "places_without_point" "places_without_point" s_places_without_point f fd) (T:Txt K mg t) (H_places_in_question:Has P w K mg base CX0 3 "places_in_question" ["a","b","c"] (spQuest)) (H_sign_at:Has P w K mg base CX0 4 "sign_at" ["a","b","place"] (spAt)):FnOk P w K mg base CX0 5 f fd ["a","b","c"] (spBadH):=by
 obtain ⟨f_places_in_question,d_places_in_question,G_places_in_question,b_places_in_question,k_places_in_question,m_places_in_question⟩:=H_places_in_question
 obtain ⟨f_sign_at,d_sign_at,G_sign_at,b_sign_at,k_sign_at,m_sign_at⟩:=H_sign_at
 refine F.ok sc_places_without_point (fun vs H Q E h=>?_) (fun cdv A outer s H vs Q E hr h=>?_)
 ·obtain ⟨_,_,_,rfl,_⟩:=h
  rfl
 obtain ⟨a,b,c,rfl,P,a6,b6,c6,q⟩:=h
 have hr_places_in_question:=hr.mono (show 3<=4 by decide)
 have hr_sign_at:=hr.mono (show 4<=4 by decide)
 refine ⟨_,pss_one (ps_ret (pe_compIfC rfl (CompScope.gen (cl:=[("c",_),("b",_),("a",_)]) ["a","b","c"] [0,1,2] [(".0",.local),("place",.local),("sign_at",.globalImplicit),("a",.cell),("b",.cell),("c",.cell)] rfl (by decide +kernel) (by decide +kernel) rfl rfl (by intro p hp; simp only [List.mem_cons,List.not_mem_nil,or_false] at hp; rcases hp with rfl | rfl | rfl <;> rfl) rfl (by intro p hp h; simp only [List.mem_cons,List.not_mem_nil,or_false] at hp; rcases hp with rfl | rfl | rfl | rfl | rfl | rfl <;> first | rfl | (rcases h with h | h <;> cases h)) (by decide) (by decide +kernel) rfl (by intro p hp; simp only [List.zip_cons_cons,List.zip_nil_left,List.mem_cons,List.not_mem_nil,or_false] at hp; rcases hp with rfl | rfl | rfl <;> exact ⟨rfl,rfl⟩)) (pi_list (pe_call G_places_in_question hr_places_in_question rfl m_places_in_question k_places_in_question b_places_in_question .nil pass0 (pa_cons (pv 0) (pa_cons (pv 1) (pa_cons (pv 2) pa_nil))))) (fun C s0 H0 fp pins=>pt_cmpR op_eq (pe_call G_sign_at hr_sign_at rfl m_sign_at k_sign_at b_sign_at .nil pass0 (pa_cons (pe_op op_mulG (pe_un un_neg (pv 1)) (pv 3)) (pa_cons (pe_op op_mulG (pe_un un_neg (pv 2)) (pv 3)) (pa_cons (pv 0) pa_nil)))) (pe_un un_neg pe_int) (nomark _)) (fun C s0 H0 fp pins=>pv 0))),?_⟩
 refine ⟨_,rfl,_,rfl,_,rfl,a,b,c,rfl,P,a6,b6,c6,fun p ks H2 g2 np hp st ln mem=>?_⟩
 have six:∀ {n:Int},Sm6 n->n.natAbs<=1000000:=fun h=>h
 have ma:IntMulOk (-a) c:=IntMulOk.of_right (intBits_le_64 (by have:=six c6; omega) (by have:=six c6; omega))
 have mb:IntMulOk (-b) c:=IntMulOk.of_right (intBits_le_64 (by have:=six c6; omega) (by have:=six c6; omega))
 have nz:∀ {x:Int},x ≠ 0->-x*c ≠ 0:=fun h z=>by
  rcases Int.mul_eq_zero.mp z with w | w
  ·omega
  ·exact P.c0 w
 have bs:(-b*c).natAbs < 2^64:=by
  rw [Int.natAbs_mul]
  have h1:(-b).natAbs<=1000000:=by have:=six b6; omega
  have h2:=six c6
  exact Nat.lt_of_le_of_lt (Nat.mul_le_mul h1 h2) (by decide)
 have small:∀ {x n:Int},Sm6 n->n ≠ 0->x ∣ n->x < 10000000000:=fun {x n} h6 n0 hd=>by
  have h1:=Nat.le_of_dvd (by omega) (Int.natAbs_dvd_natAbs.mpr hd)
  have h2:=six h6
  omega
 have sign:∀ x:Int,x ∈ (0 :: 2 :: ks)->At (-a*c) (-b*c) x (Jc.At0 (-a*c) (-b*c) x):=by
  intro x hx
  have prime:∀ {y:Int},Pr.Prm y->y < 10000000000->At (-a*c) (-b*c) y (Jc.At0 (-a*c) (-b*c) y):=fun {y} hy hb=>by
   obtain ⟨l1,o1,d1⟩:=Jc.decs hy (nz P.a0)
   obtain ⟨l2,o2,d2⟩:=Jc.decs hy (nz P.b0)
   refine .inr ⟨hy,hb,o1,l1,o2,l2,d1,d2,?_⟩
   unfold Jc.At0
   rw [if_neg (by have:=hy.two; omega)]
   exact Jc.H_eq hy d1 d2
  rcases List.mem_cons.mp hx with rfl | hx
  ·refine .inl ⟨rfl,?_⟩
   unfold Jc.At0
   rw [if_pos rfl]
   rfl
  rcases List.mem_cons.mp hx with rfl | hx
  ·exact prime Jc.prm_2 (by decide)
  ·obtain ⟨hp',n2,hd⟩:=(mem x).mp hx
   exact prime hp' (hd.elim (small a6 P.a0) fun h=>h.elim (small b6 P.b0) (small c6 P.c0))
 refine ⟨p,rfl,⟨_,SqL.of hp⟩,compIf_listF (xs:=(0 :: 2 :: ks).map V.int) (by rw [List.length_map]; exact Nat.lt_of_lt_of_le ln (by decide)) (fun w=>match w with
   | .int x=>decide (Jc.At0 (-a*c) (-b*c) x=-1)
   | _=>false) id (fun H' g=>SqL.of (g _ _ hp)) ?_ ?_ ?_⟩
 ·intro i x H' Q' hx g k
  obtain ⟨n,hn,rfl⟩:=List.mem_map.mp (List.mem_of_getElem? hx)
  have h1:=sign n hn
  refine ⟨_,rfl,_,rfl,_,rfl,_,_,rfl,rfl,ma,_,rfl,_,rfl,_,rfl,_,_,rfl,rfl,mb,_,rfl,-a*c,-b*c,n,_,rfl,nz P.a0,nz P.b0,bs,h1,fun H3 g3=>⟨_,rfl,rfl,_,rfl,?_⟩⟩
  have kk:=k H3 g3
  have e:decide (V.int (Jc.At0 (-a*c) (-b*c) n)=V.int (-1))=decide (Jc.At0 (-a*c) (-b*c) n=-1):=by simp
  rw [e]
  exact kk
 ·intro i x H' Q' hx e g k
  exact ⟨_,rfl,k _ (Same.refl _)⟩
 ·intro l H' g nl hl
  have e:(((0 :: 2 :: ks).map V.int).filter fun w=>match w with
   | .int x=>decide (Jc.At0 (-a*c) (-b*c) x=-1)
   | _=>false).map id=(bads a b c ks).map V.int:=by
   rw [List.map_id,List.filter_map]
   rfl
  rw [e] at hl
  exact q l ks H' (g2.trans g) (g2.free nl) ⟨mem,st⟩ (by simp only [List.length_cons] at ln; omega) hl
theorem ok_bad_places {f:Addr} {fd:FuncData} (F:Fun K "bad_places" "bad_places" s_bad_places f fd) (T:Txt K mg t) (H_is_plain:Has P w K mg base CX0 5 "is_plain" ["a","b","c"] (spPlainB)) (H_places_without_point:Has P w K mg base CX0 5 "places_without_point" ["a","b","c"] (spBadH)):FnOk P w K mg base (XF P w) 6 f fd ["a","b","c"] (spBadX19 t.c13):=by
 obtain ⟨f_is_plain,d_is_plain,G_is_plain,b_is_plain,k_is_plain,m_is_plain⟩:=H_is_plain
 obtain ⟨f_places_without_point,d_places_without_point,G_places_without_point,b_places_without_point,k_places_without_point,m_places_without_point⟩:=H_places_without_point
 refine F.okX sc_bad_places (fun vs H Q E h=>?_) (fun cdv A outer s H vs Q E hr h=>?_)
 ·obtain ⟨_,_,_,rfl,_⟩:=h
  rfl
 obtain ⟨a,b,c,rfl,a6,b6,c6,q1,q2⟩:=h
 have hr_is_plain:=hr.mono (show 5<=5 by decide)
 have hr_places_without_point:=hr.mono (show 5<=5 by decide)
 refine ⟨_,pss_cons (ps_if (pt_not (pt_val (pe_call G_is_plain hr_is_plain rfl m_is_plain k_is_plain b_is_plain .nil pass0 (pa_cons (pv 0) (pa_cons (pv 1) (pa_cons (pv 2) pa_nil)))) (fun _=>rfl))) (pss_one (ps_raise T.m_NotPlain T.x_NotPlain rfl (pa_cons pe_str pa_nil))) pss_nil)
  (pss_one (PS.nox (ps_ret (pe_call G_places_without_point hr_places_without_point rfl m_places_without_point k_places_without_point b_places_without_point .nil pass0 (pa_cons (pv 0) (pa_cons (pv 1) (pa_cons (pv 2) pa_nil))))))),?_⟩
 refine ⟨_,rfl,_,rfl,_,rfl,a,b,c,rfl,a6,b6,c6,fun t H1 g1 ht=>⟨_,rfl,?_⟩⟩
 by_cases P:Pln a b c
 ·refine iteNE (ht.mpr P) ?_
  refine ⟨_,rfl,_,rfl,_,rfl,a,b,c,rfl,P,a6,b6,c6,fun p ks H2 g2 np hq lk hp=>q1 P p _ H2 (g1.trans g2) hp ?_ fun x=>bads_mem P hq x⟩
  have:=List.length_filter_le (fun x=>decide (Jc.At0 (-a*c) (-b*c) x=-1)) (0 :: 2 :: ks)
  exact Nat.lt_of_le_of_lt this (by simp only [List.length_cons]; omega)
 ·refine iteNF (Bool.eq_false_iff.mpr fun h=>P (ht.mp h)) ?_
  exact ⟨(by show 1<=sizeLine; decide),q2 P _ g1⟩
theorem ok_is_prime {f:Addr} {fd:FuncData} (F:Fun K "is_prime" "is_prime" s_is_prime f fd) (T:Txt K mg t) (H_prime_parts:Has P w K mg base CX0 2 "prime_parts" ["number"] (spParts0)):FnOk P w K mg base CX0 3 f fd ["number"] (spIsPrime):=by
 obtain ⟨f_prime_parts,d_prime_parts,G_prime_parts,b_prime_parts,k_prime_parts,m_prime_parts⟩:=H_prime_parts
 refine F.ok sc_is_prime (fun vs H Q E h=>?_) (fun cdv A outer s H vs Q E hr h=>?_)
 ·obtain ⟨_,rfl,_⟩:=h
  rfl
 obtain ⟨n,rfl,nb,q⟩:=h
 have hr_prime_parts:=hr.mono (show 2<=2 by decide)
 have hu64:=hu64_of hr
 refine ⟨_,pss_one (ps_ret (pe_and (pe_cmpR op_gt (pv 0) pe_int (nomark _)) (pe_one (pe_cmpR (op_eqPairs hu64) (pe_call G_prime_parts hr_prime_parts rfl m_prime_parts k_prime_parts b_prime_parts .nil pass0 (pa_cons (pv 0) pa_nil)) (pe_lst (pa_cons (pe_tup (pa_cons (pv 0) (pa_cons pe_int pa_nil))) pa_nil)) (nomark _))))),?_⟩
 refine ⟨_,rfl,_,_,rfl,rfl,_,rfl,?_⟩
 refine ite2 (fun c=>?_) (fun c=>?_)
 ·have c1:1 < n:=decT c
  refine ⟨_,rfl,n,rfl,by omega,nb,fun p rs xs H1 g1 hn hl tl told=>?_⟩
  refine ⟨_,rfl,(by show 2<=sizeLine; decide),fun r hr1=>⟨(by show 1<=sizeLine; decide),fun p2 hp2=>?_⟩⟩
  have g2:=same_new hr1 (.tup [.int n,.int 1])
  have g3:=same_new hp2 (.lst [.ref r])
  refine ⟨p,p2,rs,[r],xs,[(n,1)],rfl,rfl,g3 _ _ (g2 _ _ hl),TupL.same (g2.trans g3) tl,upd_same,.cons (g3 _ _ upd_same) .nil,q _ _ ((g1.trans g2).trans g3) ⟨fun e=>?_,fun e=>?_⟩⟩
  ·rw [of_decide_eq_true e] at told
   exact prime_told told
  ·exact decide_eq_true (told_prime e told)
 ·have c1:¬ 1 < n:=decF c
  exact q false H (Same.refl H) ⟨(fun z=>by cases z),fun z=>by have:=z.two; omega⟩
theorem ok_churn {f:Addr} {fd:FuncData} (F:Fun K "_law_churn" "_law_churn" s_churn f fd) (T:Txt K mg t) :FnOk P w K mg base CX0 1 f fd ["_law_cell","_law_turn"] (spChurn):=by
 refine F.ok sc_churn (fun vs H Q E h=>?_) (fun cdv A outer s H vs Q E hr h=>?_)
 ·obtain ⟨_,_,rfl,_⟩:=h
  rfl
 obtain ⟨c,t,rfl,t0,t1,q⟩:=h
 refine ⟨_,pss_cons (ps_set (i:=2) sc_churn.nd rfl (Or.inl rfl) (pe_op op_add (pe_op op_mod (pv 0) pe_int) pe_int))
  (pss_cons (ps_for PassesOwn.never rfl (pi_range1 rfl T.z_range (pa_cons (pe_op op_add (pe_op op_mod (pv 1) pe_int) pe_int) pa_nil)) (pg_name (i:=3) sc_churn.nd rfl (Or.inl rfl)) (pss_cons (ps_set (i:=4) sc_churn.nd rfl (Or.inl rfl) (pe_op op_mulG (pe_op op_mod (pe_op op_mulG (pv 2) (pv 2)) pe_int) (pe_op op_add (pv 1) pe_int)))
  (pss_one (ps_set (i:=2) sc_churn.nd rfl (Or.inl rfl) (pe_op op_mod (pe_op op_add (pe_op op_add (pe_op op_add (pv 4) (pe_op op_mulG pe_int (pv 2))) (pe_op op_mulG pe_int (pv 3))) (pv 1)) pe_int)))))
  (pss_one (ps_ret (pv 2)))),?_⟩
 refine ⟨_,rfl,_,_,rfl,rfl,(by show (0:Int) < 2147483563; decide),_,_,rfl,rfl,?_⟩
 refine ⟨_,rfl,_,_,rfl,rfl,(by show (0:Int) < 5; decide),_,_,rfl,rfl,t % 5+2,rfl,by omega,by omega,?_⟩
 refine for_range (fun i σ H'=>∃ (x:Int) (k y:Option V),σ=[some (.int c),some (.int t),some (.int x),k,y]/\H=H'/\0<=x/\x<=2147483563) ⟨c % 2147483563+1,none,none,rfl,rfl,by omega,by omega⟩ ?_ ?_
 ·rintro i σ H' hi ⟨x,k,y,rfl,rfl,x0,x1⟩
  refine ⟨_,rfl,_,rfl,_,_,rfl,rfl,mulS (by omega) (by omega),_,_,rfl,rfl,(by show (0:Int) < 2147483563; decide),_,rfl,_,_,rfl,rfl,_,_,rfl,rfl,mulS (by omega) (by omega),?_⟩
  refine ⟨_,rfl,_,rfl,_,_,rfl,rfl,mulS (by omega) (by omega),_,_,rfl,rfl,_,rfl,_,_,rfl,rfl,IntMulOk.of_left (intBits_le_64 (by decide) (by decide)),_,_,rfl,rfl,_,rfl,_,_,rfl,rfl,_,_,rfl,rfl,(by show (0:Int) < 2147483563; decide),?_⟩
  exact ⟨_,_,_,rfl,rfl,Int.emod_nonneg _ (by decide),Int.le_of_lt (Int.emod_lt_of_pos _ (by decide))⟩
 ·rintro σ H' ⟨x,k,y,rfl,rfl,x0,x1⟩
  exact ⟨_,rfl,q x x0 x1⟩
theorem ok_primes {f:Addr} {fd:FuncData} (F:Fun K "_law_primes" "_law_primes" s_primes f fd) (T:Txt K mg t) :FnOk P w K mg base CX0 1 f fd [] (spPrimes):=by
 refine F.ok sc_primes (fun vs H Q E h=>?_) (fun cdv A outer s H vs Q E hr h=>?_)
 ·obtain ⟨rfl,_⟩:=h
  rfl
 obtain ⟨rfl,q⟩:=h
 obtain ⟨es,es2,p1,p2,p3,q2,q3,q4,q5,hes,hes2,e⟩:∃ (es es2:List Expr) (p1 p2 p3 q2 q3 q4 q5:Pos),IntsE es Pa/\IntsE es2 Pb/\defBody s_primes=[.Assign [.Name "_law_some" p1] (.List es p2) p3,.Return (some (.BinOp (.Name "_law_some" q2) .Add (.List es2 q3) q4)) q5]:=
  ⟨_,_,_,_,_,_,_,_,_,(.cons (.cons (.cons (.cons (.cons (.cons (.cons (.cons (.cons (.cons (.cons (.cons .nil)))))))))))),(.cons (.cons (.cons (.cons (.cons (.cons (.cons (.cons .nil)))))))),rfl⟩
 rw [e]
 refine ⟨_,pss_cons (ps_set (i:=0) sc_primes.nd rfl (Or.inl rfl) (pe_lst (pa_ints hes))) (pss_one (ps_ret (pe_op op_cat (pv 0) (pe_lst (pa_ints hes2))))),?_⟩
 refine ⟨(by show 12<=sizeLine; decide),fun a1 h1=>?_⟩
 refine ⟨_,rfl,(by show 8<=sizeLine; decide),fun a2 h2=>?_⟩
 have g1:=same_new h1 (.lst (Pa.map V.int))
 have g2:=same_new h2 (.lst (Pb.map V.int))
 refine ⟨a1,a2,_,_,rfl,rfl,g2 _ _ upd_same,upd_same,(by show 20<=sizeLine; decide),fun a3 h3=>?_⟩
 have g3:=same_new h3 (.lst (Pa.map V.int ++ Pb.map V.int))
 exact q a3 _ ((g1.trans g2).trans g3) ((g1.trans g2).free h3) upd_same
theorem ok_core {f:Addr} {fd:FuncData} (F:Fun K "_law_core" "_law_core" s_core f fd) (T:Txt K mg t) :FnOk P w K mg base CX0 1 f fd ["_law_number"] (spLCore):=by
 refine F.ok sc_core (fun vs H Q E h=>?_) (fun cdv A outer s H vs Q E hr h=>?_)
 ·obtain ⟨_,rfl,_⟩:=h
  rfl
 obtain ⟨n,rfl,n1,n6,q⟩:=h
 refine ⟨_,pss_cons (ps_set (i:=1) sc_core.nd rfl (Or.inl rfl) pe_int)
  (pss_cons (ps_while PassesOwn.never (pt_cmpR op_le (pe_op op_mulG (pv 1) (pv 1)) (pe_callB call_abs rfl T.z_abs b_abs (pa_cons (pv 0) pa_nil)) (nomark _)) (pss_cons (ps_while PassesOwn.never (pt_cmpR op_eq (pe_op op_mod (pv 0) (pe_op op_mulG (pv 1) (pv 1))) pe_int (nomark _)) (pss_one (ps_set (i:=0) sc_core.nd rfl (Or.inl rfl) (pe_op op_fdivL (pv 0) (pe_op op_mulG (pv 1) (pv 1))))))
  (pss_one (ps_set (i:=1) sc_core.nd rfl (Or.inl rfl) (pe_op op_add (pv 1) pe_int)))))
  (pss_one (ps_ret (pv 0)))),?_⟩
 refine ⟨fun u σ H'=>∃ (m k:Int),σ=[some (.int m),some (.int k)]/\H=H'/\1<=m/\m ∣ n/\2<=k/\k<=1001/\(∀ d:Int,2<=d->d < k->¬ d*d ∣ m)/\u=(1001 - k).toNat,⟨_,n,2,rfl,rfl,n1,Int.dvd_refl n,by decide,by decide,fun d h1 h2=>by omega,rfl⟩,?_⟩
 rintro u σ H1 ⟨m,k,rfl,rfl,m1,mn,k2,kb,hd,rfl⟩
 have mle:=Int.le_of_dvd (by omega) mn
 refine ⟨_,rfl,_,rfl,_,_,rfl,rfl,IntMulOk.of_right (intBits_le_64 (by omega) (by omega)),_,rfl,m,rfl,_,_,rfl,rfl,_,rfl,?_⟩
 refine ite2 (fun c=>?_) (fun c=>?_)
 ·have c':k*k<=(if m < 0 then -m else m):=decT c
  rw [if_neg (by omega)] at c'
  have k1000:k<=1000:=by
   by_cases z:k<=1000
   ·exact z
   ·have:=Int.mul_le_mul (show (1001:Int)<=k by omega) (show (1001:Int)<=k by omega) (by decide) (by omega)
    omega
  have kk:0 < k*k:=Int.mul_pos (by omega) (by omega)
  refine ⟨fun σ' H2=>∃ (m':Int),σ'=[some (.int m'),some (.int (k+1))]/\H=H2/\1<=m'/\m' ∣ m/\¬ k*k ∣ m',?_,?_⟩
  ·rintro _ _ ⟨m',rfl,rfl,m1',mm,e0⟩
   refine ⟨(1001 - (k+1)).toNat,by omega,m',k+1,rfl,rfl,m1',Int.dvd_trans mm mn,by omega,by omega,fun d d2 dk dd=>?_,rfl⟩
   by_cases z:d=k
   ·exact e0 (z ▸ dd)
   ·exact hd d d2 (by omega) (Int.dvd_trans dd mm)
  refine ⟨fun v σ H'=>∃ (m':Int),σ=[some (.int m'),some (.int k)]/\H=H'/\1<=m'/\m' ∣ m/\v=m'.toNat,⟨_,m,rfl,rfl,m1,Int.dvd_refl m,rfl⟩,?_⟩
  rintro v σ H2 ⟨m',rfl,rfl,m1',mm,rfl⟩
  have mle':=Int.le_of_dvd (by omega) mm
  refine ⟨_,rfl,_,rfl,_,rfl,_,_,rfl,rfl,IntMulOk.of_right (intBits_le_64 (by omega) (by omega)),_,_,rfl,rfl,kk,rfl,_,rfl,?_⟩
  refine ite2 (fun e=>?_) (fun e=>?_)
  ·have e0:m' % (k*k)=0:=int_inj (decT e)
   obtain ⟨t,rfl⟩:=Int.dvd_of_emod_eq_zero e0
   have ft:(k*k*t).fdiv (k*k)=t:=Int.mul_fdiv_cancel_left t (by omega)
   have t1:1<=t:=by
    by_cases z:1<=t
    ·exact z
    ·have:=Int.mul_le_mul_of_nonneg_left (show t<=0 by omega) (show 0<=k*k by omega)
     rw [Int.mul_zero] at this
     omega
   have lt:t < k*k*t:=by
    have h4:=Int.mul_le_mul (show (2:Int)<=k by omega) (show (2:Int)<=k by omega) (by decide) (by omega)
    have:=Int.mul_le_mul_of_nonneg_right (show (4:Int)<=k*k by omega) (show 0<=t by omega)
    omega
   refine ⟨fun σ' H2=>σ'=[some (.int t),some (.int k)]/\H=H2,?_,?_⟩
   ·rintro _ _ ⟨rfl,rfl⟩
    exact ⟨t.toNat,by omega,t,rfl,rfl,t1,Int.dvd_trans (Int.dvd_mul_left _ t) mm,rfl⟩
   refine ⟨_,rfl,_,rfl,_,rfl,_,_,rfl,rfl,IntMulOk.of_right (intBits_le_64 (by omega) (by omega)),_,_,rfl,rfl,⟨by omega,Nat.lt_of_lt_of_le (log2_lt_of (k:=64) (by omega) (by decide)) (by decide)⟩,?_⟩
   show ([some (V.int (k*k*t)),some (V.int k)].set 0 (some (V.int ((k*k*t).fdiv (k*k)))))=_/\_
   rw [ft]
   exact ⟨rfl,rfl⟩
  ·have e0:¬ k*k ∣ m':=fun d=>decF e (congrArg V.int (Int.emod_eq_zero_of_dvd d))
   exact ⟨_,rfl,_,_,rfl,rfl,m',rfl,rfl,m1',mm,e0⟩
 ·have c':¬ k*k<=(if m < 0 then -m else m):=decF c
  rw [if_neg (by omega)] at c'
  exact ⟨_,rfl,q m m1 mn (core_end m1 k2 (by omega) hd)⟩
theorem ok_shared {f:Addr} {fd:FuncData} (F:Fun K "_law_shared" "_law_shared" s_shared f fd) (T:Txt K mg t) :FnOk P w K mg base CX0 1 f fd ["_law_one","_law_other"] (spLShared):=by
 refine F.ok sc_shared (fun vs H Q E h=>?_) (fun cdv A outer s H vs Q E hr h=>?_)
 ·obtain ⟨_,_,rfl,_⟩:=h
  rfl
 obtain ⟨x,y,rfl,q⟩:=h
 refine ⟨_,pss_cons (ps_while PassesOwn.never (pt_cmpR op_ne (pv 1) pe_int (nomark _)) (pss_one (ps_par (i:=0) (j:=1) rfl sc_shared.nd rfl rfl (by decide) rfl rfl (pa_cons (pv 1) (pa_cons (pe_op op_modN (pv 0) (pv 1)) pa_nil)) rfl)))
  (pss_one (ps_ret (pe_callB call_abs rfl T.z_abs b_abs (pa_cons (pv 0) pa_nil)))),?_⟩
 refine ⟨fun m σ H'=>∃ (f o:Int),σ=[some (.int f),some (.int o)]/\H=H'/\(∀ d:Int,(d ∣ f/\d ∣ o) ↔ (d ∣ x/\d ∣ y))/\m=o.natAbs,⟨_,_,_,rfl,rfl,fun d=>Iff.rfl,rfl⟩,?_⟩
 rintro m σ H1 ⟨f,o,rfl,rfl,hd,rfl⟩
 refine ⟨_,rfl,rfl,_,rfl,ite2 (fun c=>?_) (fun c=>?_)⟩
 ·have on:o ≠ 0:=fun zz=>neT c (congrArg V.int zz)
  have r1:=fmod_lt f on
  refine ⟨fun σ' H2=>σ'=[some (.int o),some (.int (f.fmod o))]/\H=H2,?_,?_⟩
  ·rintro σ' H2 ⟨rfl,rfl⟩
   exact ⟨(f.fmod o).natAbs,r1,o,f.fmod o,rfl,rfl,fun d=>(fmod_dvd d).trans (hd d),rfl⟩
  ·exact ⟨_,rfl,_,rfl,_,rfl,_,_,rfl,rfl,on,_,_,rfl,rfl,rfl⟩
 ·have on:o=0:=int_inj (neF c)
  subst on
  have hs:=(hd f).mp ⟨Int.dvd_refl f,Int.dvd_zero f⟩
  refine ⟨_,rfl,f,rfl,?_⟩
  have e:(if f < 0 then -f else f)=(f.natAbs:Int):=by split <;> omega
  rw [e]
  exact q _ (Int.natCast_nonneg _) (Int.natAbs_dvd.mpr hs.1) (Int.natAbs_dvd.mpr hs.2) fun d d1 d2=>Int.dvd_natAbs.mpr ((hd d).mpr ⟨d1,d2⟩).1
theorem ok_split {f:Addr} {fd:FuncData} (F:Fun K "_law_split" "_law_split" s_split f fd) (T:Txt K mg t) :FnOk P w K mg base CX0 1 f fd ["_law_number"] (spLSplit):=by
 refine F.ok sc_split (fun vs H Q E h=>?_) (fun cdv A outer s H vs Q E hr h=>?_)
 ·obtain ⟨_,rfl,_⟩:=h
  rfl
 obtain ⟨n,rfl,n0,n6,q⟩:=h
 refine ⟨_,pss_cons (ps_set (i:=1) sc_split.nd rfl (Or.inl rfl) (pe_lst pa_nil))
  (pss_cons (ps_set (i:=2) sc_split.nd rfl (Or.inl rfl) (pe_callB call_abs rfl T.z_abs b_abs (pa_cons (pv 0) pa_nil)))
  (pss_cons (ps_set (i:=3) sc_split.nd rfl (Or.inl rfl) pe_int)
  (pss_cons (ps_while PassesOwn.never (pt_cmpR op_le (pe_op op_mulG (pv 3) (pv 3)) (pv 2) (nomark _)) (pss_one (ps_if (pt_cmpR op_eq (pe_op op_mod (pv 2) (pv 3)) pe_int (nomark _)) (pss_cons (ps_expr (pe_bm PySem.F.plainAttrs_list PySem.F.slot_list_append PySem.F.type_list_append mt_append (pv 1) (pa_cons (pv 3) pa_nil)))
  (pss_one (ps_set (i:=2) sc_split.nd rfl (Or.inl rfl) (pe_op op_fdivL (pv 2) (pv 3))))) (pss_one (ps_set (i:=3) sc_split.nd rfl (Or.inl rfl) (pe_op op_add (pv 3) pe_int))))))
  (pss_cut (ps_if (pt_cmpR op_gt (pv 2) pe_int (nomark _)) (pss_one (ps_expr (pe_bm PySem.F.plainAttrs_list PySem.F.slot_list_append PySem.F.type_list_append mt_append (pv 1) (pa_cons (pv 2) pa_nil)))) pss_nil)
  (pss_one (ps_ret (pe_callB (call_sortedS rfl) rfl T.z_sorted b_sorted (pa_cons (pe_callTy (call_setL rfl) rfl T.z_set b_set (pa_cons (pv 1) pa_nil)) pa_nil)))))))),?_⟩
 refine ⟨(by show 0<=sizeLine; decide),fun f hf=>?_⟩
 refine ⟨_,rfl,n,rfl,?_⟩
 have en:(if n < 0 then -n else n)=(n.natAbs:Int):=by split <;> omega
 refine ⟨fun u σ H'=>∃ (r k:Int) (fs:List Int),σ=[some (.int n),some (.ref f),some (.int r),some (.int k)]/\Same H H'/\H' f=some (.lst (fs.map V.int))/\Spl n fs r k/\k<=1001/\u=(r+2000 - k).toNat,
  ⟨_,_,2,[],rfl,same_new hf _,upd_same,⟨fun f m=>(by cases m),by rw [en]; simp,by rw [en]; omega,by decide,fun d d2 dk=>by omega⟩,by decide,rfl⟩,?_⟩
 rintro u σ H1 ⟨r,k,fs,rfl,g,hl,S,kb,rfl⟩
 obtain ⟨rb,ln⟩:=S.le n6
 have r1:=S.r1
 have k2:=S.k2
 refine ⟨_,rfl,_,rfl,_,_,rfl,rfl,IntMulOk.of_right (intBits_le_64 (by omega) (by omega)),_,rfl,_,_,rfl,rfl,_,rfl,?_⟩
 refine ite2 (fun c=>?_) (fun c=>?_)
 ·have c':k*k<=r:=decT c
  have k1000:=S.kb n6 c'
  refine ⟨fun σ' H'=>∃ (r' k':Int) (fs':List Int),σ'=[some (.int n),some (.ref f),some (.int r'),some (.int k')]/\Same H H'/\H' f=some (.lst (fs'.map V.int))/\Spl n fs' r' k'/\k'<=1001/\(r'+2000 - k').toNat < (r+2000 - k).toNat,?_,?_⟩
  ·rintro _ _ ⟨r',k',fs',rfl,g',hl',S',kb',lt⟩
   exact ⟨_,lt,r',k',fs',rfl,g',hl',S',kb',rfl⟩
  refine ⟨_,rfl,_,rfl,_,_,rfl,rfl,(by omega),rfl,_,rfl,?_⟩
  refine ite2 (fun e=>?_) (fun e=>?_)
  ·have e0:r % k=0:=int_inj (decT e)
   obtain ⟨t,rfl⟩:=Int.dvd_of_emod_eq_zero e0
   have ft:(k*t).fdiv k=t:=Int.mul_fdiv_cancel_left t (by omega)
   have t1:1<=t:=by
    by_cases z:1<=t
    ·exact z
    ·have:=Int.mul_le_mul_of_nonneg_left (show t<=0 by omega) (show 0<=k by omega)
     rw [Int.mul_zero] at this
     omega
   have lt:t < k*t:=by
    have:=Int.mul_le_mul_of_nonneg_right (show (2:Int)<=k by omega) (show 0<=t by omega)
    omega
   refine ⟨_,rfl,.inl ⟨rfl,_,SqL.of hl⟩,_,rfl,f,_,_,rfl,rfl,hl,(by rw [List.length_map]; exact Nat.lt_of_lt_of_le ln (by decide)),?_⟩
   refine ⟨_,rfl,_,rfl,_,_,rfl,rfl,⟨by omega,Nat.lt_of_lt_of_le (log2_lt_of (k:=64) (by omega) (by decide)) (by decide)⟩,t,k,fs ++ [k],?_,fun b o z=>?_,?_,S.take t1,kb,by omega⟩
   ·show ([some (V.int n),some (V.ref f),some (V.int (k*t)),some (V.int k)].set 2 (some (V.int ((k*t).fdiv k))))=_
    rw [ft]
    rfl
   ·rw [upd_ne (ne_of_none z hf)]
    exact g b o z
   ·rw [upd_same,List.map_append]
    rfl
  ·have e0:¬ k ∣ r:=fun d=>decF e (congrArg V.int (Int.emod_eq_zero_of_dvd d))
   exact ⟨_,rfl,_,_,rfl,rfl,r,k+1,fs,rfl,g,hl,S.next e0,by omega,by omega⟩
 ·have c':¬ k*k<=r:=decF c
  refine ⟨fun σ' H'=>∃ (r k:Int) (fs:List Int),σ'=[some (.int n),some (.ref f),some (.int r),some (.int k)]/\Same H H'/\H' f=some (.lst (fs.map V.int))/\(∃ k',Spl n fs 1 k')/\fs.length<=20,?_,?_⟩
  ·refine ⟨_,rfl,_,_,rfl,rfl,_,rfl,?_⟩
   refine ite2 (fun e=>?_) (fun e=>?_)
   ·have e0:r > 1:=decT e
    refine ⟨_,rfl,.inl ⟨rfl,_,SqL.of hl⟩,_,rfl,f,_,_,rfl,rfl,hl,(by rw [List.length_map]; exact Nat.lt_of_lt_of_le ln (by decide)),?_⟩
    refine ⟨r,k,fs ++ [r],rfl,fun b o z=>?_,?_,⟨2,S.last c' (by omega)⟩,by rw [List.length_append,List.length_singleton]; omega⟩
    ·rw [upd_ne (ne_of_none z hf)]
     exact g b o z
    ·rw [upd_same,List.map_append]
     rfl
   ·have e0:¬ r > 1:=decF e
    have r1':r=1:=by omega
    subst r1'
    exact ⟨_,k,fs,rfl,g,hl,⟨k,S⟩,by omega⟩
  ·rintro _ H2 ⟨r,k,fs,rfl,g,hl,⟨k',S⟩,ln⟩
   refine ⟨_,rfl,f,fs,rfl,SqL.of hl,(by omega),fun pS nS=>⟨pS,fs,rfl,upd_same,(by omega),fun sr ks nsr strict mems=>?_⟩⟩
   have fS:=fun o=>same_new nS o
   have f2:=same_new nsr (.lst (ks.map V.int))
   refine q sr ks _ (g.trans ((fS _).trans f2)) (g.free ((fS _).free nsr)) upd_same strict ?_ fun x=>by rw [mems,S.mem]
   exact Nat.lt_of_le_of_lt (List.Nodup.length_le_of_subset (strict.imp fun h=>Int.ne_of_lt h) fun k hk=>(mems k).mp hk) (S.le n6).2
theorem ok_fits_by_8 {f:Addr} {fd:FuncData} (F:Fun K "_law_fits_by_8" "_law_fits_by_8" s_fits_by_8 f fd) (T:Txt K mg t) :FnOk P w K mg base CX0 1 f fd ["_law_a","_law_b","_law_c"] (spFits):=by
 refine F.ok sc_fits_by_8 (fun vs H Q E h=>?_) (fun cdv A outer s H vs Q E hr h=>?_)
 ·obtain ⟨_,_,_,rfl,_⟩:=h
  rfl
 obtain ⟨a,b,c,rfl,q⟩:=h
 refine ⟨_,pss_cons (ps_for PassesOwn.never rfl (pi_range1 rfl T.z_range (pa_cons pe_int pa_nil)) (pg_name (i:=3) sc_fits_by_8.nd rfl (Or.inl rfl)) (pss_cons (ps_par3 (i:=4) (j:=5) (k:=6) rfl sc_fits_by_8.nd rfl rfl rfl (by decide) (by decide) (by decide) rfl rfl rfl (pa_cons (pe_op op_mod (pv 3) pe_int) (pa_cons (pe_op op_mod (pe_op op_fdiv (pv 3) pe_int) pe_int) (pa_cons (pe_op op_fdiv (pv 3) pe_int) pa_nil))) rfl)
  (pss_one (ps_if (PW.pt (pw_and (pt_cmpR op_gt (pe_op op_add (pe_op op_add (pe_op op_mod (pv 4) pe_int) (pe_op op_mod (pv 5) pe_int)) (pe_op op_mod (pv 6) pe_int)) pe_int (nomark _)) (pw_and1 (pt_cmpR op_eq (pe_op op_mod (pe_op op_add (pe_op op_add (pe_op op_mulG (pe_op op_mulG (pv 0) (pv 4)) (pv 4)) (pe_op op_mulG (pe_op op_mulG (pv 1) (pv 5)) (pv 5))) (pe_op op_mulG (pe_op op_mulG (pv 2) (pv 6)) (pv 6))) pe_int) pe_int (nomark _))))) (pss_one (ps_ret pe_bl)) pss_nil))))
  (pss_one (ps_ret pe_bl)),?_⟩
 refine ⟨512,rfl,by decide,by decide,for_range (fun i σ H'=>∃ x1 x2 x3 x4:Option V,σ=[some (.int a),some (.int b),some (.int c),x1,x2,x3,x4]/\Same H H'/\∀ k:Int,0<=k->k < i->¬ (0 < k % 8 % 2+k / 8 % 8 % 2+k / 64 % 2/\(a*(k % 8)*(k % 8)+b*(k / 8 % 8)*(k / 8 % 8)+c*(k / 64)*(k / 64)) % 8=0)) ⟨none,none,none,none,rfl,Same.refl H,fun r r0 r1=>by omega⟩ ?_ ?_⟩
 ·rintro i σ H' hi ⟨x1,x2,x3,x4,rfl,g,no⟩
  have i9:i < 512:=hi
  refine ⟨_,rfl,_,_,rfl,rfl,(by show (0:Int) < 8; decide),_,rfl,_,_,rfl,rfl,⟨by decide,by decide⟩,_,_,rfl,rfl,(by show (0:Int) < 8; decide),_,rfl,_,_,rfl,rfl,⟨by decide,by decide⟩,_,_,_,rfl,?_⟩
  have g1:=g
  refine ⟨_,rfl,_,_,rfl,rfl,(by show (0:Int) < 2; decide),_,rfl,_,_,rfl,rfl,(by show (0:Int) < 2; decide),_,_,rfl,rfl,_,rfl,_,_,rfl,rfl,(by show (0:Int) < 2; decide),_,_,rfl,rfl,_,_,rfl,rfl,_,rfl,?_⟩
  have o1:0<=(0+(i:Int)) % 8/\(0+(i:Int)) % 8 < 8:=by omega
  have o2:0<=(0+(i:Int)) / 8 % 8/\(0+(i:Int)) / 8 % 8 < 8:=by omega
  have o3:0<=(0+(i:Int)) / 64/\(0+(i:Int)) / 64 < 8:=by omega
  refine ite2 (fun c1=>?_) (fun c1=>?_)
  ·have f1:(0+(i:Int)) % 8 % 2+(0+(i:Int)) / 8 % 8 % 2+(0+(i:Int)) / 64 % 2 > 0:=decT c1
   refine ⟨_,rfl,_,rfl,_,_,rfl,rfl,mulS (by omega) (by omega),_,rfl,_,_,rfl,rfl,mulS (by omega) (by omega),_,rfl,_,rfl,_,_,rfl,rfl,mulS (by omega) (by omega),_,rfl,_,_,rfl,rfl,mulS (by omega) (by omega),_,_,rfl,rfl,_,rfl,_,rfl,_,_,rfl,rfl,mulS (by omega) (by omega),_,rfl,_,_,rfl,rfl,mulS (by omega) (by omega),_,_,rfl,rfl,_,_,rfl,rfl,(by show (0:Int) < 8; decide),rfl,_,rfl,?_⟩
   refine ite2 (fun c2=>?_) (fun c2=>?_)
   ·exact q true _ g1 ⟨fun _=>fit_of f1 (int_inj (decT c2)),fun _=>rfl⟩
   ·refine ⟨_,_,_,_,rfl,g1,fun k k0 k1=>?_⟩
    by_cases e:k=0+(i:Int)
    ·rw [e]
     exact fun z=>decF c2 (congrArg V.int z.2)
    ·exact no k k0 (by omega)
  ·refine ⟨_,_,_,_,rfl,g1,fun k k0 k1=>?_⟩
   by_cases e:k=0+(i:Int)
   ·rw [e]
    exact fun z=>decF c1 z.1
   ·exact no k k0 (by omega)
 ·rintro σ H' ⟨x1,x2,x3,x4,rfl,g,no⟩
  refine q false _ g ⟨fun z=>(by cases z),fun z=>?_⟩
  obtain ⟨k,k0,k1,k2⟩:=fit_small z
  exact absurd k2 (no k k0 k1)
theorem ok_plain {f:Addr} {fd:FuncData} (F:Fun K "_law_plain" "_law_plain" s_plain f fd) (T:Txt K mg t) (H_primes:Has P w K mg base CX0 1 "_law_primes" [] (spPrimes)) (H_churn:Has P w K mg base CX0 1 "_law_churn" ["_law_cell","_law_turn"] (spChurn)) (H_cell_at:Has P w K mg base CX0 1 "_law_cell_at" ["_law_script","_law_k"] (spCell K)):FnOk P w K mg base CX0 2 f fd ["_law_script","_law_start","_law_many","_law_most"] (spLPlain K):=by
 obtain ⟨f_primes,d_primes,G_primes,b_primes,k_primes,m_primes⟩:=H_primes
 obtain ⟨f_churn,d_churn,G_churn,b_churn,k_churn,m_churn⟩:=H_churn
 obtain ⟨f_cell_at,d_cell_at,G_cell_at,b_cell_at,k_cell_at,m_cell_at⟩:=H_cell_at
 refine F.ok sc_plain (fun vs H Q E h=>?_) (fun cdv A outer s H vs Q E hr h=>?_)
 ·obtain ⟨_,_,_,rfl,_⟩:=h
  rfl
 obtain ⟨a,ns,M,rfl,hS,M0,M1,q⟩:=h
 have hr_primes:=hr.mono (show 1<=1 by decide)
 have hr_churn:=hr.mono (show 1<=1 by decide)
 have hr_cell_at:=hr.mono (show 1<=1 by decide)
 refine ⟨_,pss_cons (ps_set (i:=4) sc_plain.nd rfl (Or.inl rfl) (pe_lst (pa_cons pe_int (pa_cons pe_int (pa_cons pe_int pa_nil)))))
  (pss_cons (ps_set (i:=5) sc_plain.nd rfl (Or.inl rfl) (pe_lst (pa_cons (pe_lst pa_nil) (pa_cons (pe_lst pa_nil) (pa_cons (pe_lst pa_nil) pa_nil)))))
  (pss_cons (ps_set (i:=6) sc_plain.nd rfl (Or.inl rfl) (pe_call0 G_primes hr_primes rfl m_primes k_primes b_primes .nil pass0))
  (pss_cons (ps_for PassesOwn.never rfl (pi_range1 rfl T.z_range (pa_cons (pv 2) pa_nil)) (pg_name (i:=7) sc_plain.nd rfl (Or.inl rfl)) (pss_cons (ps_set (i:=9) sc_plain.nd rfl (Or.inl rfl) (pe_op op_mod (pe_call G_churn hr_churn rfl m_churn k_churn b_churn .nil pass0 (pa_cons (pe_call G_cell_at hr_cell_at rfl m_cell_at k_cell_at b_cell_at .nil pass0 (pa_cons (pv 0) (pa_cons (pe_op op_add (pv 1) (pe_op op_mod (pv 7) pe_int)) pa_nil))) (pa_cons (pe_op op_add (pv 7) pe_int) pa_nil))) pe_int))
  (pss_one (ps_if (PW.pt (pw_and (pt_cmpR op_lt (pv 9) pe_int (nomark _)) (pw_and1 (pt_cmpR op_le (pe_op op_mulG (pe_ix ix_list (pv 4) (pv 9) (fun _ _=>rfl)) (pe_ix ix_list (pv 6) (pv 7) (fun _ _=>rfl))) (pv 3) (nomark _))))) (pss_cons (ps_asg (pe_op op_mulG (pe_ix ix_list (pv 4) (pv 9) (fun _ _=>rfl)) (pe_ix ix_list (pv 6) (pv 7) (fun _ _=>rfl))) (pg_sub (pv 4) (pv 9) set_list))
  (pss_one (ps_expr (pe_bm PySem.F.plainAttrs_list PySem.F.slot_list_append PySem.F.type_list_append mt_append (pe_ix ix_list (pv 5) (pv 9) (fun _ _=>rfl)) (pa_cons (pe_ix ix_list (pv 6) (pv 7) (fun _ _=>rfl)) pa_nil))))) pss_nil))))
  (pss_cons (ps_set (i:=8) sc_plain.nd rfl (Or.inl rfl) (pe_call G_churn hr_churn rfl m_churn k_churn b_churn .nil pass0 (pa_cons (pe_call G_cell_at hr_cell_at rfl m_cell_at k_cell_at b_cell_at .nil pass0 (pa_cons (pv 0) (pa_cons (pv 1) pa_nil))) (pa_cons pe_int pa_nil))))
  (pss_cons (ps_for PassesOwn.never rfl (pi_range1 rfl T.z_range (pa_cons pe_int pa_nil)) (pg_name (i:=9) sc_plain.nd rfl (Or.inl rfl)) (pss_one (ps_if (pt_cmpR op_eq (pe_op op_mod (pe_op op_fdivL (pv 8) (pe_ix ix_list (pe_lst (pa_cons pe_int (pa_cons pe_int (pa_cons pe_int pa_nil)))) (pv 9) (fun _ _=>rfl))) pe_int) pe_int (nomark _)) (pss_one (ps_asg (pe_op op_sub pe_int (pe_ix ix_list (pv 4) (pv 9) (fun _ _=>rfl))) (pg_sub (pv 4) (pv 9) set_list))) pss_nil)))
  (pss_one (ps_ret (pe_tup (pa_cons (pv 4) (pa_cons (pv 5) pa_nil)))))))))),?_⟩
 refine ⟨(by show 3<=sizeLine; decide),fun l hl=>?_⟩
 refine ⟨(by show 0<=sizeLine; decide),fun q0 h0=>⟨(by show 0<=sizeLine; decide),fun q1 h1=>⟨(by show 0<=sizeLine; decide),fun q2 h2=>⟨(by show 3<=sizeLine; decide),fun m hm=>?_⟩⟩⟩⟩
 have g1:=same_new hl (.lst [.int 1,.int 1,.int 1])
 have g2:=same_new h0 (.lst [])
 have g3:=same_new h1 (.lst [])
 have g4:=same_new h2 (.lst [])
 have g5:=same_new hm (.lst [.ref q0,.ref q1,.ref q2])
 have K0:Hs H _ l m q0 q1 q2 1 1 1 [] [] []:={
  same:=g1.trans (g2.trans (g3.trans (g4.trans g5)))
  hl:=(g2.trans (g3.trans (g4.trans g5))) _ _ upd_same
  hm:=upd_same
  h0:=(g3.trans (g4.trans g5)) _ _ upd_same
  h1:=(g4.trans g5) _ _ upd_same
  h2:=g5 _ _ upd_same
  fl:=hl
  f0:=g1.free h0
  f1:=g1.free (g2.free h1)
  f2:=g1.free (g2.free (g3.free h2))
  lm:=(ne_of_none ((g2.trans (g3.trans g4)) _ _ upd_same) hm).symm
  l0:=(ne_of_none upd_same h0).symm
  l1:=(ne_of_none (g2 _ _ upd_same) h1).symm
  l2:=(ne_of_none ((g2.trans g3) _ _ upd_same) h2).symm
  m0:=ne_of_none ((g3.trans g4) _ _ upd_same) hm
  m1:=ne_of_none (g4 _ _ upd_same) hm
  m2:=ne_of_none upd_same hm
  d01:=ne_of_none upd_same h1
  d02:=ne_of_none (g3 _ _ upd_same) h2
  d12:=ne_of_none upd_same h2 }
 refine ⟨rfl,fun sa H6 g6 hn6 h6=>?_⟩
 have sl:=ne_of_none K0.hl hn6
 have s0:=ne_of_none K0.h0 hn6
 have s1:=ne_of_none K0.h1 hn6
 have s2:=ne_of_none K0.h2 hn6
 refine ⟨_,rfl,20,rfl,by decide,by decide,for_range (fun i σ H'=>∃ (n0 n1 n2:Int) (p0 p1 p2:List Int) (x7 x9:Option V),σ=[some (.ref a),some (.int 3),some (.int 20),some (.int M),some (.ref l),some (.ref m),some (.ref sa),x7,none,x9]/\Hs H H' l m q0 q1 q2 n0 n1 n2 p0 p1 p2/\H' sa=some (.lst (P20.map V.int))/\Made (P20.take i) M n0 n1 n2 p0 p1 p2/\0 < n0/\0 < n1/\0 < n2) ⟨1,1,1,[],[],[],none,none,rfl,K0.grow g6,h6,⟨⟨List.nodup_nil,fun p m=>(by cases m),fun p m=>(by cases m),fun p m=>(by cases m)⟩,⟨rfl,M0⟩,⟨rfl,M0⟩,⟨rfl,M0⟩⟩,by decide,by decide,by decide⟩ ?_ ?_⟩
 ·rintro i σ H' hi ⟨n0,n1,n2,p0,p1,p2,x7,x9,rfl,K1,hsa,md,b0,b1,b2⟩
  have i20:i < 20:=hi
  obtain ⟨z0,z1,z2,z3,z4⟩:=step20 i i20
  refine ⟨_,rfl,_,rfl,_,rfl,_,_,rfl,rfl,(by show (0:Int) < 20; decide),_,_,rfl,rfl,a,ns,_,rfl,K1.same.seq hS,(by show 0<=3+(0+(i:Int)) % 20; omega),_,rfl,_,_,rfl,rfl,_,_,rfl,(by show 0<=0+(i:Int)+1; omega),(by show 0+(i:Int)+1<=100; omega),fun x x0 x1=>⟨_,_,rfl,rfl,(by show (0:Int) < 7; decide),?_⟩⟩
  have hz20:=at20 i20
  generalize P20.getD i 0=z at *
  have l0:=line20 (md.k0.len M1 fun p m=>two20 p (take20 (by omega) _ (md.al.a0 p m)))
  have l1:=line20 (md.k1.len M1 fun p m=>two20 p (take20 (by omega) _ (md.al.a1 p m)))
  have l2:=line20 (md.k2.len M1 fun p m=>two20 p (take20 (by omega) _ (md.al.a2 p m)))
  have x7':0<=x % 7:=by omega
  refine ⟨_,rfl,_,_,rfl,rfl,_,rfl,ite2 (fun c1=>?_) (fun c1=>?_)⟩
  ·have v3:x % 7 < 3:=decT c1
   have hv3:x % 7=0\/x % 7=1\/x % 7=2:=by omega
   rcases hv3 with e3 | e3 | e3
   ·refine ⟨_,rfl,_,rfl,l,_,_,_,rfl,rfl,SqL.of K1.hl,atI0 e3,_,rfl,_,rfl,sa,_,_,_,rfl,rfl,SqL.of hsa,hz20,_,_,rfl,rfl,mulS (by omega) (by omega),_,rfl,_,_,rfl,rfl,_,rfl,?_⟩
    refine ite2 (fun c2=>?_) (fun c2=>?_)
    ·have f1:n0*z<=M:=decT c2
     refine ⟨_,rfl,_,rfl,l,_,_,_,rfl,rfl,SqL.of K1.hl,atI0 e3,_,rfl,_,rfl,sa,_,_,_,rfl,rfl,SqL.of hsa,hz20,_,_,rfl,rfl,mulS (by omega) (by omega),_,rfl,_,rfl,l,_,_,0,rfl,rfl,K1.hl,ixN0 e3,?_⟩
     have K2:=K1.setn (n0*z) n1 n2
     have hsa2:upd H' l (.lst [.int (n0*z),.int n1,.int n2]) sa=some (.lst (P20.map V.int)):=by rw [upd_ne sl.symm]; exact hsa
     refine ⟨_,rfl,_,rfl,m,_,_,_,rfl,rfl,SqL.of K2.hm,atI0 e3,.inl ⟨rfl,_,SqL.of K2.h0⟩,_,rfl,_,rfl,sa,_,_,_,rfl,rfl,SqL.of hsa2,hz20,q0,_,_,rfl,rfl,K2.h0,(by rw [List.length_map]; exact l0),?_⟩
     exact ⟨_,_,_,_,_,_,_,_,rfl,K2.app0 z,(by rw [upd_ne s0.symm]; exact hsa2),md.mul0 z4 z2 z3 (by omega) (by rw [absI_pos b0]; exact f1),Int.mul_pos b0 (by omega),b1,b2⟩
    ·exact ⟨_,_,_,_,_,_,_,_,rfl,K1,hsa,md.mono z4,b0,b1,b2⟩
   ·refine ⟨_,rfl,_,rfl,l,_,_,_,rfl,rfl,SqL.of K1.hl,atI1 e3,_,rfl,_,rfl,sa,_,_,_,rfl,rfl,SqL.of hsa,hz20,_,_,rfl,rfl,mulS (by omega) (by omega),_,rfl,_,_,rfl,rfl,_,rfl,?_⟩
    refine ite2 (fun c2=>?_) (fun c2=>?_)
    ·have f1:n1*z<=M:=decT c2
     refine ⟨_,rfl,_,rfl,l,_,_,_,rfl,rfl,SqL.of K1.hl,atI1 e3,_,rfl,_,rfl,sa,_,_,_,rfl,rfl,SqL.of hsa,hz20,_,_,rfl,rfl,mulS (by omega) (by omega),_,rfl,_,rfl,l,_,_,1,rfl,rfl,K1.hl,ixN1 e3,?_⟩
     have K2:=K1.setn n0 (n1*z) n2
     have hsa2:upd H' l (.lst [.int n0,.int (n1*z),.int n2]) sa=some (.lst (P20.map V.int)):=by rw [upd_ne sl.symm]; exact hsa
     refine ⟨_,rfl,_,rfl,m,_,_,_,rfl,rfl,SqL.of K2.hm,atI1 e3,.inl ⟨rfl,_,SqL.of K2.h1⟩,_,rfl,_,rfl,sa,_,_,_,rfl,rfl,SqL.of hsa2,hz20,q1,_,_,rfl,rfl,K2.h1,(by rw [List.length_map]; exact l1),?_⟩
     exact ⟨_,_,_,_,_,_,_,_,rfl,K2.app1 z,(by rw [upd_ne s1.symm]; exact hsa2),md.mul1 z4 z2 z3 (by omega) (by rw [absI_pos b1]; exact f1),b0,Int.mul_pos b1 (by omega),b2⟩
    ·exact ⟨_,_,_,_,_,_,_,_,rfl,K1,hsa,md.mono z4,b0,b1,b2⟩
   ·refine ⟨_,rfl,_,rfl,l,_,_,_,rfl,rfl,SqL.of K1.hl,atI2 e3,_,rfl,_,rfl,sa,_,_,_,rfl,rfl,SqL.of hsa,hz20,_,_,rfl,rfl,mulS (by omega) (by omega),_,rfl,_,_,rfl,rfl,_,rfl,?_⟩
    refine ite2 (fun c2=>?_) (fun c2=>?_)
    ·have f1:n2*z<=M:=decT c2
     refine ⟨_,rfl,_,rfl,l,_,_,_,rfl,rfl,SqL.of K1.hl,atI2 e3,_,rfl,_,rfl,sa,_,_,_,rfl,rfl,SqL.of hsa,hz20,_,_,rfl,rfl,mulS (by omega) (by omega),_,rfl,_,rfl,l,_,_,2,rfl,rfl,K1.hl,ixN2 e3,?_⟩
     have K2:=K1.setn n0 n1 (n2*z)
     have hsa2:upd H' l (.lst [.int n0,.int n1,.int (n2*z)]) sa=some (.lst (P20.map V.int)):=by rw [upd_ne sl.symm]; exact hsa
     refine ⟨_,rfl,_,rfl,m,_,_,_,rfl,rfl,SqL.of K2.hm,atI2 e3,.inl ⟨rfl,_,SqL.of K2.h2⟩,_,rfl,_,rfl,sa,_,_,_,rfl,rfl,SqL.of hsa2,hz20,q2,_,_,rfl,rfl,K2.h2,(by rw [List.length_map]; exact l2),?_⟩
     exact ⟨_,_,_,_,_,_,_,_,rfl,K2.app2 z,(by rw [upd_ne s2.symm]; exact hsa2),md.mul2 z4 z2 z3 (by omega) (by rw [absI_pos b2]; exact f1),b0,b1,Int.mul_pos b2 (by omega)⟩
    ·exact ⟨_,_,_,_,_,_,_,_,rfl,K1,hsa,md.mono z4,b0,b1,b2⟩
  ·exact ⟨_,_,_,_,_,_,_,_,rfl,K1,hsa,md.mono z4,b0,b1,b2⟩
 ·rintro σ H' ⟨n0,n1,n2,p0,p1,p2,x7,x9,rfl,K1,hsa,md,b0,b1,b2⟩
  refine ⟨_,rfl,_,rfl,a,ns,3,rfl,K1.same.seq hS,by decide,_,_,rfl,by decide,by decide,fun s s0 s1=>?_⟩
  refine ⟨3,rfl,by decide,by decide,for_range (fun i σ H'=>∃ (n0 n1 n2:Int) (x9:Option V),σ=[some (.ref a),some (.int 3),some (.int 20),some (.int M),some (.ref l),some (.ref m),some (.ref sa),x7,some (.int s),x9]/\Hs H H' l m q0 q1 q2 n0 n1 n2 p0 p1 p2/\Made P20 M n0 n1 n2 p0 p1 p2) ⟨n0,n1,n2,_,rfl,K1,md.mono (take20 (Nat.le_refl _))⟩ ?_ ?_⟩
  ·clear md K1 b0 b1 b2
   rintro i σ H2 hi ⟨n0,n1,n2,x9,rfl,K1,md⟩
   have i3:i < 3:=hi
   have hi3:i=0\/i=1\/i=2:=by omega
   refine ⟨_,rfl,(by show 3<=sizeLine; decide),fun w hw=>?_⟩
   have K2:=K1.grow (same_new hw (.lst [.int 1,.int 2,.int 4]))
   rcases hi3 with rfl | rfl | rfl
   ·refine ⟨_,rfl,w,_,_,_,rfl,rfl,SqL.of upd_same,rfl,_,_,rfl,rfl,⟨by decide,by decide⟩,_,_,rfl,rfl,(by show (0:Int) < 2; decide),rfl,_,rfl,?_⟩
    refine ite2 (fun c2=>?_) (fun c2=>?_)
    ·refine ⟨_,rfl,_,rfl,l,_,_,_,rfl,rfl,SqL.of K2.hl,rfl,_,_,rfl,rfl,_,rfl,_,rfl,l,_,_,0,rfl,rfl,K2.hl,rfl,?_⟩
     exact ⟨_,_,_,_,rfl,K2.setn (0 - n0) n1 n2,{ md with k0:=md.k0.neg }⟩
    ·exact ⟨_,_,_,_,rfl,K2,md⟩
   ·refine ⟨_,rfl,w,_,_,_,rfl,rfl,SqL.of upd_same,rfl,_,_,rfl,rfl,⟨by decide,by decide⟩,_,_,rfl,rfl,(by show (0:Int) < 2; decide),rfl,_,rfl,?_⟩
    refine ite2 (fun c2=>?_) (fun c2=>?_)
    ·refine ⟨_,rfl,_,rfl,l,_,_,_,rfl,rfl,SqL.of K2.hl,rfl,_,_,rfl,rfl,_,rfl,_,rfl,l,_,_,1,rfl,rfl,K2.hl,rfl,?_⟩
     exact ⟨_,_,_,_,rfl,K2.setn n0 (0 - n1) n2,{ md with k1:=md.k1.neg }⟩
    ·exact ⟨_,_,_,_,rfl,K2,md⟩
   ·refine ⟨_,rfl,w,_,_,_,rfl,rfl,SqL.of upd_same,rfl,_,_,rfl,rfl,⟨by decide,by decide⟩,_,_,rfl,rfl,(by show (0:Int) < 2; decide),rfl,_,rfl,?_⟩
    refine ite2 (fun c2=>?_) (fun c2=>?_)
    ·refine ⟨_,rfl,_,rfl,l,_,_,_,rfl,rfl,SqL.of K2.hl,rfl,_,_,rfl,rfl,_,rfl,_,rfl,l,_,_,2,rfl,rfl,K2.hl,rfl,?_⟩
     exact ⟨_,_,_,_,rfl,K2.setn n0 n1 (0 - n2),{ md with k2:=md.k2.neg }⟩
    ·exact ⟨_,_,_,_,rfl,K2,md⟩
  ·rintro σ H2 ⟨n0,n1,n2,x9,rfl,K2,md⟩
   exact ⟨_,rfl,_,rfl,(by show 2<=sizeLine; decide),fun t' ht=>q t' _ _ _ _ _ _ _ _ _ _ _ _ (K2.grow (same_new ht _)) upd_same md⟩
theorem ok_more {f:Addr} {fd:FuncData} (F:Fun K "_law_more" "_law_more" s_more f fd) (T:Txt K mg t) (H_churn:Has P w K mg base CX0 1 "_law_churn" ["_law_cell","_law_turn"] (spChurn)):FnOk P w K mg base CX0 2 f fd ["_law_numbers","_law_primes_here","_law_cell","_law_most"] (spMore):=by
 obtain ⟨f_churn,d_churn,G_churn,b_churn,k_churn,m_churn⟩:=H_churn
 refine F.ok sc_more (fun vs H Q E h=>?_) (fun cdv A outer s H vs Q E hr h=>?_)
 ·obtain ⟨_,_,_,_,_,_,_,_,_,_,_,_,_,_,rfl,_⟩:=h
  rfl
 obtain ⟨B,c,M,l,m,q0,q1,q2,n0,n1,n2,p0,p1,p2,rfl,M1,K0,md,q⟩:=h
 have hr_churn:=hr.mono (show 1<=1 by decide)
 obtain ⟨es,w1,w2,w3,hes,e⟩:∃ (es:List Expr) (w1 w2 w3:Pos),IntsE es P16/\defBody s_more=.Assign [.Name "_law_some" w1] (.List es w2) w3 :: (defBody s_more).tail:=
  ⟨_,_,_,_,(.cons (.cons (.cons (.cons (.cons (.cons (.cons (.cons (.cons (.cons (.cons (.cons (.cons (.cons (.cons (.cons .nil)))))))))))))))),rfl⟩
 rw [e]
 refine ⟨_,pss_cons (ps_set (i:=4) sc_more.nd rfl (Or.inl rfl) (pe_lst (pa_ints hes)))
  (pss_cons (ps_set (i:=5) sc_more.nd rfl (Or.inl rfl) (pe_op op_mod (pe_call G_churn hr_churn rfl m_churn k_churn b_churn .nil pass0 (pa_cons (pv 2) (pa_cons pe_int pa_nil))) pe_int))
  (pss_cons (ps_set (i:=6) sc_more.nd rfl (Or.inl rfl) (pe_ix ix_list (pv 4) (pe_op op_mod (pe_call G_churn hr_churn rfl m_churn k_churn b_churn .nil pass0 (pa_cons (pv 2) (pa_cons pe_int pa_nil))) pe_int) (fun _ _=>rfl)))
  (pss_one (ps_if (pt_cmpR op_le (pe_op op_mulG (pe_callB call_abs rfl T.z_abs b_abs (pa_cons (pe_ix ix_list (pv 0) (pv 5) (fun _ _=>rfl)) pa_nil)) (pv 6)) (pv 3) (nomark _)) (pss_cons (ps_asg (pe_op op_mulG (pe_ix ix_list (pv 0) (pv 5) (fun _ _=>rfl)) (pv 6)) (pg_sub (pv 0) (pv 5) set_list))
  (pss_one (ps_expr (pe_bm PySem.F.plainAttrs_list PySem.F.slot_list_append PySem.F.type_list_append mt_append (pe_ix ix_list (pv 1) (pv 5) (fun _ _=>rfl)) (pa_cons (pv 6) pa_nil))))) pss_nil)))),?_⟩
 refine ⟨(by show 16<=sizeLine; decide),fun a1 h1=>?_⟩
 have g1:=same_new h1 (.lst (P16.map V.int))
 have K1:=K0.grow g1
 refine ⟨_,rfl,c,3,rfl,by decide,by decide,fun x x0 x1=>⟨_,_,rfl,rfl,(by show (0:Int) < 3; decide),?_⟩⟩
 refine ⟨_,rfl,_,rfl,c,4,rfl,by decide,by decide,fun y y0 y1=>⟨_,_,rfl,rfl,(by show (0:Int) < 16; decide),a1,_,_,_,rfl,rfl,SqL.of upd_same,atL2 (L:=P16) (k:=y % 16) (by omega) (by show y % 16 < 16; omega),?_⟩⟩
 have st:=step16 (y % 16).toNat (by omega)
 generalize P16.getD (y % 16).toNat 0=z at st
 obtain ⟨z0,z1,z2,z3⟩:=st
 have l0:=line20 (md.k0.len M1 fun p m=>two20 p (md.al.a0 p m))
 have l1:=line20 (md.k1.len M1 fun p m=>two20 p (md.al.a1 p m))
 have l2:=line20 (md.k2.len M1 fun p m=>two20 p (md.al.a2 p m))
 have hx3:x % 3=0\/x % 3=1\/x % 3=2:=by omega
 rcases hx3 with e3 | e3 | e3
 ·refine ⟨_,rfl,_,rfl,l,_,_,_,rfl,rfl,SqL.of K1.hl,atI0 e3,_,rfl,_,rfl,_,_,rfl,rfl,mulS (by omega) (by omega),_,rfl,_,_,rfl,rfl,_,rfl,?_⟩
  refine ite2 (fun c1=>?_) (fun c1=>?_)
  ·have f1:absI n0*z<=M:=decT c1
   have f2:z ∈ P36:=z3
   refine ⟨_,rfl,_,rfl,l,_,_,_,rfl,rfl,SqL.of K1.hl,atI0 e3,_,rfl,_,_,rfl,rfl,mulS (by omega) (by omega),_,rfl,_,rfl,l,_,_,0,rfl,rfl,K1.hl,ixN0 e3,?_⟩
   have K2:=K1.setn (n0*z) n1 n2
   refine ⟨_,rfl,_,rfl,m,_,_,_,rfl,rfl,SqL.of K2.hm,atI0 e3,.inl ⟨rfl,_,SqL.of K2.h0⟩,_,rfl,q0,_,_,rfl,rfl,K2.h0,(by rw [List.length_map]; exact l0),?_⟩
   exact q _ _ _ _ _ _ _ (K2.app0 z) (md.mul0 p20_36 z2 f2 (by omega) f1)
  ·exact q _ _ _ _ _ _ _ K1 (md.mono p20_36)
 ·refine ⟨_,rfl,_,rfl,l,_,_,_,rfl,rfl,SqL.of K1.hl,atI1 e3,_,rfl,_,rfl,_,_,rfl,rfl,mulS (by omega) (by omega),_,rfl,_,_,rfl,rfl,_,rfl,?_⟩
  refine ite2 (fun c1=>?_) (fun c1=>?_)
  ·have f1:absI n1*z<=M:=decT c1
   have f2:z ∈ P36:=z3
   refine ⟨_,rfl,_,rfl,l,_,_,_,rfl,rfl,SqL.of K1.hl,atI1 e3,_,rfl,_,_,rfl,rfl,mulS (by omega) (by omega),_,rfl,_,rfl,l,_,_,1,rfl,rfl,K1.hl,ixN1 e3,?_⟩
   have K2:=K1.setn n0 (n1*z) n2
   refine ⟨_,rfl,_,rfl,m,_,_,_,rfl,rfl,SqL.of K2.hm,atI1 e3,.inl ⟨rfl,_,SqL.of K2.h1⟩,_,rfl,q1,_,_,rfl,rfl,K2.h1,(by rw [List.length_map]; exact l1),?_⟩
   exact q _ _ _ _ _ _ _ (K2.app1 z) (md.mul1 p20_36 z2 f2 (by omega) f1)
  ·exact q _ _ _ _ _ _ _ K1 (md.mono p20_36)
 ·refine ⟨_,rfl,_,rfl,l,_,_,_,rfl,rfl,SqL.of K1.hl,atI2 e3,_,rfl,_,rfl,_,_,rfl,rfl,mulS (by omega) (by omega),_,rfl,_,_,rfl,rfl,_,rfl,?_⟩
  refine ite2 (fun c1=>?_) (fun c1=>?_)
  ·have f1:absI n2*z<=M:=decT c1
   have f2:z ∈ P36:=z3
   refine ⟨_,rfl,_,rfl,l,_,_,_,rfl,rfl,SqL.of K1.hl,atI2 e3,_,rfl,_,_,rfl,rfl,mulS (by omega) (by omega),_,rfl,_,rfl,l,_,_,2,rfl,rfl,K1.hl,ixN2 e3,?_⟩
   have K2:=K1.setn n0 n1 (n2*z)
   refine ⟨_,rfl,_,rfl,m,_,_,_,rfl,rfl,SqL.of K2.hm,atI2 e3,.inl ⟨rfl,_,SqL.of K2.h2⟩,_,rfl,q2,_,_,rfl,rfl,K2.h2,(by rw [List.length_map]; exact l2),?_⟩
   exact q _ _ _ _ _ _ _ (K2.app2 z) (md.mul2 p20_36 z2 f2 (by omega) f1)
  ·exact q _ _ _ _ _ _ _ K1 (md.mono p20_36)
theorem ok_by_digits {f:Addr} {fd:FuncData} (F:Fun K "_law_by_digits" "_law_by_digits" s_by_digits f fd) (T:Txt K mg t) (H_core:Has P w K mg base CX0 1 "_law_core" ["_law_number"] (spLCore)) (H_shared:Has P w K mg base CX0 1 "_law_shared" ["_law_one","_law_other"] (spLShared)) (H_split:Has P w K mg base CX0 1 "_law_split" ["_law_number"] (spLSplit)):FnOk P w K mg base CX0 2 f fd ["_law_cell","_law_many","_law_most"] (spLDig):=by
 obtain ⟨f_core,d_core,G_core,b_core,k_core,m_core⟩:=H_core
 obtain ⟨f_shared,d_shared,G_shared,b_shared,k_shared,m_shared⟩:=H_shared
 obtain ⟨f_split,d_split,G_split,b_split,k_split,m_split⟩:=H_split
 refine F.ok sc_by_digits (fun vs H Q E h=>?_) (fun cdv A outer s H vs Q E hr h=>?_)
 ·obtain ⟨_,_,rfl,_⟩:=h
  rfl
 obtain ⟨c,M,rfl,M0,M1,q⟩:=h
 have hr_core:=hr.mono (show 1<=1 by decide)
 have hr_shared:=hr.mono (show 1<=1 by decide)
 have hr_split:=hr.mono (show 1<=1 by decide)
 refine ⟨_,pss_cons (ps_set (i:=3) sc_by_digits.nd rfl (Or.inl rfl) (pe_lst pa_nil))
  (pss_cons (ps_for PassesOwn.never rfl (pi_range1 rfl T.z_range (pa_cons (pv 1) pa_nil)) (pg_name (i:=4) sc_by_digits.nd rfl (Or.inl rfl)) (pss_cons (ps_set (i:=5) sc_by_digits.nd rfl (Or.inl rfl) (pe_call G_core hr_core rfl m_core k_core b_core .nil pass0 (pa_cons (pe_op op_add pe_int (pe_op op_mod (pv 0) (pv 2))) pa_nil)))
  (pss_cons (ps_set (i:=0) sc_by_digits.nd rfl (Or.inl rfl) (pe_op op_fdivL (pv 0) (pv 2)))
  (pss_cons (ps_for PassesOwn.never rfl (pi_list (pv 3)) (pg_name (i:=6) sc_by_digits.nd rfl (Or.inl rfl)) (pss_one (ps_set (i:=5) sc_by_digits.nd rfl (Or.inl rfl) (pe_op op_fdivL (pv 5) (pe_call G_shared hr_shared rfl m_shared k_shared b_shared .nil pass0 (pa_cons (pv 5) (pa_cons (pv 6) pa_nil)))))))
  (pss_cons (ps_expr (pe_bm PySem.F.plainAttrs_list PySem.F.slot_list_append PySem.F.type_list_append mt_append (pv 3) (pa_cons (pe_op op_mulG (pv 5) (pe_ix ix_list (pe_lst (pa_cons pe_int (pa_cons (pe_un un_neg pe_int) pa_nil))) (pe_op op_mod (pv 0) pe_int) (fun _ _=>rfl))) pa_nil)))
  (pss_one (ps_set (i:=0) sc_by_digits.nd rfl (Or.inl rfl) (pe_op op_fdiv (pv 0) pe_int))))))))
  (pss_one (ps_ret (pe_tup (pa_cons (pv 3) (pa_cons (pe_compC rfl (CompScope.gen (cl:=[]) [] [] [(".0",.local),("_law_number",.local),("_law_split",.globalImplicit)] rfl (by decide +kernel) (by decide +kernel) rfl rfl (by intro p hp; cases hp) rfl (by intro p hp h; simp only [List.mem_cons,List.not_mem_nil,or_false] at hp; rcases hp with rfl | rfl | rfl <;> first | rfl | (rcases h with h | h <;> cases h)) (by decide) (by decide +kernel) rfl (by intro p hp; cases hp)) (pi_list (pv 3)) (fun C s0 H0 fp pins=>pe_call G_split hr_split rfl m_split k_split b_split .nil pass0 (pa_cons (pv 0) pa_nil))) pa_nil)))))),?_⟩
 refine ⟨(by show 0<=sizeLine; decide),fun l hl=>?_⟩
 have g1:=same_new hl (.lst [])
 refine ⟨_,rfl,3,rfl,by decide,by decide,for_range (fun i σ H'=>∃ (c:Int) (ns:List Int) (x4 x5 x6:Option V),σ=[some (.int c),some (.int 3),some (.int M),some (.ref l),x4,x5,x6]/\Same H H'/\H' l=some (.lst (ns.map V.int))/\ns.length=i/\Dg M ns) ⟨c,[],none,none,none,rfl,g1,upd_same,rfl,Dg.nil⟩ ?_ ?_⟩
 ·rintro i σ H1 hi ⟨c,ns,x4,x5,x6,rfl,g2,h2,ln,D⟩
  have i3:i < 3:=hi
  refine ⟨_,rfl,_,rfl,_,_,rfl,rfl,(by omega),_,_,rfl,rfl,1+c % M,rfl,(by have:=Int.emod_nonneg c (show M ≠ 0 by omega); omega),(by have:=Int.emod_lt_of_pos c (show 0 < M by omega); omega),fun n n1 nd sq=>?_⟩
  have nM:n<=M:=by
   have h1:=Int.emod_lt_of_pos c (show 0 < M by omega)
   have h0:=Int.emod_nonneg c (show M ≠ 0 by omega)
   have:=Int.le_of_dvd (by omega) nd
   omega
  refine ⟨_,rfl,_,rfl,_,_,rfl,rfl,⟨by omega,Nat.lt_of_lt_of_le (log2_lt_of (k:=64) (by omega) (by decide)) (by decide)⟩,?_⟩
  refine ⟨_,rfl,l,rfl,⟨_,SqL.of h2⟩,for_list (xs:=ns.map V.int) (fun j σ H'=>∃ (r:Int) (x6:Option V),σ=[some (.int (c.fdiv M)),some (.int 3),some (.int M),some (.ref l),some (.int (0+(i:Int))),some (.int r),x6]/\H1=H'/\1<=r/\r<=M/\Sqf r/\∀ o ∈ ns.take j,Cop r o) ⟨n,x6,rfl,rfl,n1,nM,sq,fun o h=>by cases h⟩ ?_ ?_ ?_⟩
  ·rintro j σ H7 hj ⟨r,x6,rfl,rfl,_⟩
   exact SqL.of h2
  ·rintro j x σ H7 hx ⟨r,x6,rfl,rfl,r1,rM,sr,co⟩
   obtain ⟨o,ho,rfl⟩:∃ o,ns[j]?=some o/\V.int o=x:=by
    rw [List.getElem?_map] at hx
    cases e:ns[j]? with
    | none=>rw [e] at hx; cases hx
    | some p=>rw [e] at hx; exact ⟨p,rfl,Option.some.inj hx⟩
   refine ⟨_,rfl,_,rfl,_,rfl,r,o,rfl,fun g g0 gr go gd=>?_⟩
   have gn:g ≠ 0:=fun z=>by
    rw [z] at gr
    have:=Int.zero_dvd.mp gr
    omega
   obtain ⟨t,et⟩:=gr
   have gM:g<=M:=by
    have:=Int.le_of_dvd (show 0 < r by omega) ⟨t,et⟩
    omega
   have ft:r.fdiv g=t:=by rw [et]; exact Int.mul_fdiv_cancel_left t gn
   have t1:1<=t:=by
    by_cases z:1<=t
    ·exact z
    ·have:=Int.mul_le_mul_of_nonneg_left (show t<=0 by omega) g0
     rw [Int.mul_zero] at this
     omega
   have tr:t ∣ r:=⟨g,by rw [et,Int.mul_comm]⟩
   refine ⟨_,_,rfl,rfl,⟨gn,Nat.lt_of_lt_of_le (log2_lt_of (k:=64) (by omega) (by decide)) (by decide)⟩,t,some (.int o),?_,rfl,t1,?_,fun d d2 dd=>sr d d2 (Int.dvd_trans dd tr),?_⟩
   ·show [_,_,_,_,_,some (V.int (r.fdiv g)),_]=_
    rw [ft]
   ·have:=Int.le_of_dvd (by omega) tr
    omega
   ·intro o' ho'
    rw [List.take_succ,ho] at ho'
    rcases List.mem_append.mp ho' with h | h
    ·exact fun p hp h1 h2=>co o' h p hp (Int.dvd_trans h1 tr) h2
    ·have e:o'=o:=by simpa using h
     subst e
     intro p hp h1 h2
     have pg:=gd p (Int.dvd_trans h1 tr) h2
     refine sr p hp.two ?_
     rw [et]
     exact Int.mul_dvd_mul pg h1
  ·rintro σ H7 ⟨r,x6,rfl,rfl,r1,rM,sr,co⟩
   rw [List.length_map,List.take_length] at co
   have h2':=h2
   refine ⟨_,rfl,.inl ⟨rfl,_,SqL.of h2⟩,_,rfl,_,rfl,(by show 2<=sizeLine; decide),fun w hw=>⟨_,rfl,_,_,rfl,rfl,(by show (0:Int) < 2; decide),?_⟩⟩
   have g3:=same_new hw (.lst [.int 1,.int (-1)])
   obtain ⟨s,es,ev⟩:=two_at ((c.fdiv M))
   refine ⟨w,_,_,_,rfl,rfl,SqL.of upd_same,es,_,_,rfl,rfl,sgn_ok ev,l,_,_,rfl,rfl,g3 _ _ h2,(by rw [List.length_map]; exact line20 (by omega)),?_⟩
   refine ⟨_,rfl,_,_,rfl,rfl,⟨by decide,by decide⟩,_,ns ++ [r*s],_,_,_,rfl,same_put (g2.trans g3) hl,?_,by rw [List.length_append,ln]; rfl,D.add r1 rM sr ev co⟩
   rw [List.map_append]
   exact upd_same
 ·rintro σ H1 ⟨c,ns,x4,x5,x6,rfl,g2,h2,ln,D⟩
  have hlr:H1 l=some (.lst (ns.map V.int)):=h2
  refine ⟨_,rfl,_,rfl,l,rfl,⟨_,SqL.of h2⟩,comp_listR (xs:=ns.map V.int) (by rw [List.length_map,ln]; decide) (fun H' g=>SqL.of (g _ _ h2)) (fun j vs H'=>∃ rs:List (Addr × List Int),vs=rs.map (fun r=>V.ref r.1)/\Spz H1 H' ns rs) (fun p hp=>⟨[],rfl,Spz.nil⟩) ?_ ?_⟩
  ·rintro j x vs H' acc Q' hx g na ha ⟨rs,rfl,S⟩ lv k
   obtain ⟨n,hn,rfl⟩:∃ o,ns[j]?=some o/\V.int o=x:=by
    rw [List.getElem?_map] at hx
    cases e:ns[j]? with
    | none=>rw [e] at hx; cases hx
    | some p=>rw [e] at hx; exact ⟨p,rfl,Option.some.inj hx⟩
   have nm:=List.mem_of_getElem? hn
   refine ⟨_,rfl,n,rfl,D.nz n nm,(by have:=D.le n nm; omega),fun p ks H2 g2 fp hp srt lk mem=>k _ _ g2 ⟨rs ++ [(p,ks)],by rw [List.map_append]; rfl,?_⟩⟩
   rw [List.length_map] at lv
   exact S.add g g2 ha fp hp (lv ▸ hn) srt lk mem
  ·rintro p H2 vs g3 np hp lv ⟨rs,rfl,S⟩
   rw [List.length_map,List.length_map] at lv
   obtain ⟨n0,n1,n2,rfl⟩:∃ a b c,ns=[a,b,c]:=by
    match ns,ln with
    | [a,b,c],_=>exact ⟨a,b,c,rfl⟩
   obtain ⟨⟨q0,p0⟩,⟨q1,p1⟩,⟨q2,p2⟩,rfl⟩:∃ a b c,rs=[a,b,c]:=by
    match rs,lv with
    | [a,b,c],_=>exact ⟨a,b,c,rfl⟩
   refine ⟨(by show 2<=sizeLine; decide),fun t ht=>?_⟩
   have g4:=same_new ht (.tup [.ref l,.ref p])
   have r0:=S.row 0 rfl rfl
   have r1:=S.row 1 rfl rfl
   have r2:=S.row 2 rfl rfl
   have nd:=S.nd
   refine q t _ l p q0 q1 q2 n0 n1 n2 p0 p1 p2 { same:=g2.trans (g3.trans g4),hl:=g4 _ _ (g3 _ _ h2),hm:=g4 _ _ hp,h0:=g4 _ _ r0.h,h1:=g4 _ _ r1.h,h2:=g4 _ _ r2.h,fl:=hl,f0:=g2.free r0.f,f1:=g2.free r1.f,f2:=g2.free r2.f,lm:=(ne_of_none h2 np).symm,l0:=(ne_of_none h2 r0.f).symm,l1:=(ne_of_none h2 r1.f).symm,l2:=(ne_of_none h2 r2.f).symm,m0:=r0.ne hp,m1:=r1.ne hp,m2:=r2.ne hp,d01:=?_,d02:=?_,d12:=?_ } upd_same (D.tri M1 r0 r1 r2)
   ·simp at nd; exact nd.1.1
   ·simp at nd; exact nd.1.2
   ·simp at nd; exact nd.2
theorem ok_power_by {f:Addr} {fd:FuncData} (F:Fun K "power_by" "power_by" s_power_by f fd) (T:Txt K mg t) :FnOk P w K mg base CX0 1 f fd ["number","k","n"] (spPower):=by
 refine F.ok sc_power_by (fun vs H Q E h=>?_) (fun cdv A outer s H vs Q E hr h=>?_)
 ·obtain ⟨_,_,_,rfl,_⟩:=h
  rfl
 obtain ⟨x,k,n,rfl,k0,n0,nL,q⟩:=h
 refine ⟨_,pss_cons (ps_set (i:=3) sc_power_by.nd rfl (Or.inl rfl) (pe_op op_mod pe_int (pv 2)))
  (pss_cons (ps_set (i:=4) sc_power_by.nd rfl (Or.inl rfl) (pe_op op_mod (pv 0) (pv 2)))
  (pss_cons (ps_set (i:=5) sc_power_by.nd rfl (Or.inl rfl) (pv 1))
  (pss_cons (ps_while PassesOwn.never (pt_cmpR op_gt (pv 5) pe_int (nomark _)) (pss_cut (ps_if (pt_cmpR op_eq (pe_op op_mod (pv 5) pe_int) pe_int (nomark _)) (pss_one (ps_set (i:=3) sc_power_by.nd rfl (Or.inl rfl) (pe_op op_mod (pe_op op_mulG (pv 3) (pv 4)) (pv 2)))) pss_nil)
  (pss_cons (ps_set (i:=4) sc_power_by.nd rfl (Or.inl rfl) (pe_op op_mod (pe_op op_mulG (pv 4) (pv 4)) (pv 2)))
  (pss_one (ps_set (i:=5) sc_power_by.nd rfl (Or.inl rfl) (pe_op op_fdiv (pv 5) pe_int))))))
  (pss_one (ps_ret (pv 3)))))),?_⟩
 refine ⟨_,rfl,_,_,rfl,rfl,n0,?_⟩
 refine ⟨_,rfl,_,rfl,_,_,rfl,rfl,n0,?_⟩
 refine ⟨_,rfl,?_⟩
 refine ⟨fun m σ H'=>∃ (p f l:Int),σ=[some (.int x),some (.int k),some (.int n),some (.int p),some (.int f),some (.int l)]/\H=H'/\0<=p/\p < n/\0<=f/\f < n/\0<=l/\p*f^l.toNat % n=Pw.PM x k.toNat n/\m=l.toNat,
  ⟨_,1 % n,x % n,k,rfl,rfl,Int.emod_nonneg _ (by omega),Int.emod_lt_of_pos _ n0,Int.emod_nonneg _ (by omega),Int.emod_lt_of_pos _ n0,k0,Pw.start x n k.toNat,rfl⟩,?_⟩
 rintro m σ H1 ⟨p,f,l,rfl,rfl,p0,p1,f0,f1,l0,e,rfl⟩
 refine ⟨_,rfl,_,_,rfl,rfl,_,rfl,?_⟩
 refine ite2 (fun c=>?_) (fun c=>?_)
 ·have lp:0 < l:=decT c
  refine ⟨fun σ' H2=>∃ (p f' l':Int),σ'=[some (.int x),some (.int k),some (.int n),some (.int p),some (.int f'),some (.int l')]/\H=H2/\0<=p/\p < n/\f'=f*f % n/\l'=l / 2/\p*(f*f % n)^(l.toNat / 2) % n=Pw.PM x k.toNat n,?_,?_⟩
  ·rintro σ' H2 ⟨p,f',l',rfl,rfl,p0,p1,rfl,rfl,e⟩
   refine ⟨(l / 2).toNat,by omega,p,_,_,rfl,rfl,p0,p1,Int.emod_nonneg _ (by omega),Int.emod_lt_of_pos _ n0,by omega,?_,rfl⟩
   rw [half_toNat l l0]
   exact e
  refine ⟨fun σ' H2=>∃ (p:Int),σ'=[some (.int x),some (.int k),some (.int n),some (.int p),some (.int f),some (.int l)]/\H=H2/\0<=p/\p < n/\p*(f*f % n)^(l.toNat / 2) % n=Pw.PM x k.toNat n,?_,?_⟩
  ·refine ⟨_,rfl,_,_,rfl,rfl,(by show (0:Int) < 2; decide),rfl,_,rfl,?_⟩
   refine ite2 (fun c=>?_) (fun c=>?_)
   ·have o:l % 2=1:=int_inj (decT c)
    exact ⟨_,rfl,_,rfl,_,_,rfl,rfl,mulL (by omega) (by omega),_,rfl,_,_,rfl,rfl,n0,_,rfl,rfl,Int.emod_nonneg _ (by omega),Int.emod_lt_of_pos _ n0,Pw.turn_odd e (by omega)⟩
   ·have o:¬ l % 2=1:=fun z=>decF c (congrArg V.int z)
    exact ⟨p,rfl,rfl,p0,p1,Pw.turn_even e (by omega)⟩
  ·rintro _ _ ⟨p,rfl,rfl,p0,p1,e⟩
   refine ⟨_,rfl,_,rfl,_,_,rfl,rfl,mulL (by omega) (by omega),_,rfl,_,_,rfl,rfl,n0,?_⟩
   exact ⟨_,rfl,_,_,rfl,rfl,⟨by decide,by decide⟩,p,_,_,rfl,rfl,p0,p1,rfl,rfl,e⟩
 ·have lz:¬ 0 < l:=decF c
  have l00:l=0:=by omega
  subst l00
  have e2:p=Pw.PM x k.toNat n:=Pw.done e p0 p1
  subst e2
  exact ⟨_,rfl,q⟩
theorem ok_has_root {f:Addr} {fd:FuncData} (F:Fun K "has_root" "has_root" s_has_root f fd) (T:Txt K mg t) (H_sign_by:Has P w K mg base CX0 2 "sign_by" ["number","n"] (spSign)):FnOk P w K mg base CX0 3 f fd ["number","prime"] (spHas):=by
 obtain ⟨f_sign_by,d_sign_by,G_sign_by,b_sign_by,k_sign_by,m_sign_by⟩:=H_sign_by
 refine F.ok sc_has_root (fun vs H Q E h=>?_) (fun cdv A outer s H vs Q E hr h=>?_)
 ·obtain ⟨_,_,rfl,_⟩:=h
  rfl
 obtain ⟨x,p,rfl,hp,pb,q⟩:=h
 have hr_sign_by:=hr.mono (show 2<=2 by decide)
 have p2:=hp.two
 refine ⟨_,pss_one (ps_ret (pe_or (pe_cmpR op_eq (pv 1) pe_int (nomark _)) (pe_one (pe_cmpR op_ne (pe_call G_sign_by hr_sign_by rfl m_sign_by k_sign_by b_sign_by .nil pass0 (pa_cons (pv 0) (pa_cons (pv 1) pa_nil))) (pe_un un_neg pe_int) (nomark _))))),?_⟩
 refine ⟨_,rfl,rfl,_,rfl,?_⟩
 refine ite2 (fun c=>?_) (fun c=>?_)
 ·have e:p=2:=int_inj (decT c)
  have z:=q true H (Same.refl H) ⟨fun _=>.inl e,fun _=>rfl⟩
  exact z
 ·have e:p ≠ 2:=fun z=>decF c (congrArg V.int z)
  refine ⟨_,rfl,_,rfl,x,p,rfl,by omega,Jc.prm_odd hp e,by omega,fun H1 g1=>⟨_,rfl,rfl,?_⟩⟩
  refine q _ H1 g1 ⟨fun z=>.inr fun y=>neT z (congrArg V.int y),fun z=>?_⟩
  rcases z with z | z
  ·exact absurd z e
  ·rw [decide_eq_false fun y=>z (int_inj y)]
   rfl
theorem ok_least_without_root {f:Addr} {fd:FuncData} (F:Fun K "least_without_root" "least_without_root" s_least_without_root f fd) (T:Txt K mg t) (H_has_root:Has P w K mg base CX0 3 "has_root" ["number","prime"] (spHas)):FnOk P w K mg base CX0 4 f fd ["prime"] (spLeast):=by
 obtain ⟨f_has_root,d_has_root,G_has_root,b_has_root,k_has_root,m_has_root⟩:=H_has_root
 refine F.ok sc_least_without_root (fun vs H Q E h=>?_) (fun cdv A outer s H vs Q E hr h=>?_)
 ·obtain ⟨_,rfl,_⟩:=h
  rfl
 obtain ⟨p,rfl,hp,p2,q⟩:=h
 have hr_has_root:=hr.mono (show 3<=3 by decide)
 obtain ⟨pp,pb,nr⟩:=q6 hp
 obtain ⟨z,z2,zp,hz⟩:=nr p2
 refine ⟨_,pss_cons (ps_set (i:=1) sc_least_without_root.nd rfl (Or.inl rfl) pe_int)
  (pss_cons (ps_while PassesOwn.never (pt_val (pe_call G_has_root hr_has_root rfl m_has_root k_has_root b_has_root .nil pass0 (pa_cons (pv 1) (pa_cons (pv 0) pa_nil))) (fun _=>rfl)) (pss_one (ps_set (i:=1) sc_least_without_root.nd rfl (Or.inl rfl) (pe_op op_add (pv 1) pe_int))))
  (pss_one (ps_ret (pv 1)))),?_⟩
 refine ⟨fun m σ H'=>∃ k:Int,σ=[some (.int p),some (.int k)]/\Same H H'/\k<=z/\m=(z - k).toNat,⟨_,2,rfl,Same.refl H,z2,rfl⟩,?_⟩
 rintro m σ H1 ⟨k,rfl,g1,kz,rfl⟩
 refine ⟨_,rfl,_,rfl,k,p,rfl,pp,by omega,fun b H2 g2 hb=>⟨_,rfl,?_⟩⟩
 refine ite2 (fun c=>?_) (fun c=>?_)
 ·have kn:k ≠ z:=fun y=>by
   rcases hb.mp c with e | e
   ·exact p2 e
   ·rw [y] at e; exact e hz
  refine ⟨fun σ' H3=>σ'=[some (.int p),some (.int (k+1))]/\H2=H3,?_,?_⟩
  ·rintro σ' H3 ⟨rfl,rfl⟩
   exact ⟨(z - (k+1)).toNat,by omega,k+1,rfl,g1.trans g2,by omega,rfl⟩
  ·exact ⟨_,rfl,_,_,rfl,rfl,rfl,rfl⟩
 ·refine ⟨_,rfl,q k H2 (g1.trans g2) ?_⟩
  by_cases e:Jc.J k p=-1
  ·exact e
  ·exact absurd (hb.mpr (.inr e)) c
theorem ok_root_by_odd_prime {f:Addr} {fd:FuncData} (F:Fun K "root_by_odd_prime" "root_by_odd_prime" s_root_by_odd_prime f fd) (T:Txt K mg t) (H_taken_out:Has P w K mg base CX0 1 "taken_out" ["number","prime"] (spTaken)) (H_power_by:Has P w K mg base CX0 1 "power_by" ["number","k","n"] (spPower)) (H_least_without_root:Has P w K mg base CX0 4 "least_without_root" ["prime"] (spLeast)):FnOk P w K mg base CX0 5 f fd ["number","prime"] (spRootO):=by
 obtain ⟨f_taken_out,d_taken_out,G_taken_out,b_taken_out,k_taken_out,m_taken_out⟩:=H_taken_out
 obtain ⟨f_power_by,d_power_by,G_power_by,b_power_by,k_power_by,m_power_by⟩:=H_power_by
 obtain ⟨f_least_without_root,d_least_without_root,G_least_without_root,b_least_without_root,k_least_without_root,m_least_without_root⟩:=H_least_without_root
 refine F.ok sc_root_by_odd_prime (fun vs H Q E h=>?_) (fun cdv A outer s H vs Q E hr h=>?_)
 ·obtain ⟨_,_,rfl,_⟩:=h
  rfl
 obtain ⟨x,p,rfl,hp,p2,hx,q⟩:=h
 have hr_taken_out:=hr.mono (show 1<=4 by decide)
 have hr_power_by:=hr.mono (show 1<=4 by decide)
 have hr_least_without_root:=hr.mono (show 4<=4 by decide)
 obtain ⟨pp,pb,nr⟩:=q6 hp
 have po:=Jc.prm_odd pp p2
 have ptwo:=pp.two
 have LB:=Lm_big
 have pL:p.natAbs<=Lm:=by omega
 refine ⟨_,pss_cons (ps_set (i:=2) sc_root_by_odd_prime.nd rfl (Or.inl rfl) (pe_ix ix_tup (pe_call G_taken_out hr_taken_out rfl m_taken_out k_taken_out b_taken_out .nil pass0 (pa_cons (pe_op op_sub (pv 1) pe_int) (pa_cons pe_int pa_nil))) pe_int (fun _ _=>rfl)))
  (pss_cons (ps_set (i:=3) sc_root_by_odd_prime.nd rfl (Or.inl rfl) (pe_call G_power_by hr_power_by rfl m_power_by k_power_by b_power_by .nil pass0 (pa_cons (pv 0) (pa_cons (pe_op op_fdiv (pe_op op_add (pv 2) pe_int) pe_int) (pa_cons (pv 1) pa_nil)))))
  (pss_cons (ps_set (i:=4) sc_root_by_odd_prime.nd rfl (Or.inl rfl) (pe_call G_power_by hr_power_by rfl m_power_by k_power_by b_power_by .nil pass0 (pa_cons (pv 0) (pa_cons (pv 2) (pa_cons (pv 1) pa_nil)))))
  (pss_cons (ps_set (i:=5) sc_root_by_odd_prime.nd rfl (Or.inl rfl) (pe_call G_power_by hr_power_by rfl m_power_by k_power_by b_power_by .nil pass0 (pa_cons (pe_call G_least_without_root hr_least_without_root rfl m_least_without_root k_least_without_root b_least_without_root .nil pass0 (pa_cons (pv 1) pa_nil)) (pa_cons (pv 2) (pa_cons (pv 1) pa_nil)))))
  (pss_cons (ps_set (i:=6) sc_root_by_odd_prime.nd rfl (Or.inl rfl) (pe_op op_fdiv (pe_op op_fdivL (pe_op op_sub (pv 1) pe_int) (pv 2)) pe_int))
  (pss_cons (ps_while PassesOwn.never (pt_cmpR op_gt (pv 6) pe_int (nomark _)) (pss_cut (ps_if (pt_cmpR op_ne (pe_call G_power_by hr_power_by rfl m_power_by k_power_by b_power_by .nil pass0 (pa_cons (pv 4) (pa_cons (pv 6) (pa_cons (pv 1) pa_nil)))) pe_int (nomark _)) (pss_cons (ps_set (i:=3) sc_root_by_odd_prime.nd rfl (Or.inl rfl) (pe_op op_mod (pe_op op_mulG (pv 3) (pv 5)) (pv 1)))
  (pss_one (ps_set (i:=4) sc_root_by_odd_prime.nd rfl (Or.inl rfl) (pe_op op_mod (pe_op op_mulG (pe_op op_mulG (pv 4) (pv 5)) (pv 5)) (pv 1))))) pss_nil)
  (pss_cons (ps_set (i:=5) sc_root_by_odd_prime.nd rfl (Or.inl rfl) (pe_op op_mod (pe_op op_mulG (pv 5) (pv 5)) (pv 1)))
  (pss_one (ps_set (i:=6) sc_root_by_odd_prime.nd rfl (Or.inl rfl) (pe_op op_fdiv (pv 6) pe_int))))))
  (pss_one (ps_ret (pv 3)))))))),?_⟩
 refine ⟨_,rfl,_,_,rfl,rfl,p - 1,2,rfl,by omega,by decide,by decide,fun r H1 o l g1 hr1 inn o0 zl l0 lx sp sn=>?_⟩
 have lp:=sp (by omega)
 have lo:l % 2=1:=by
  have z:l.fmod 2=l % 2:=Int.fmod_eq_emod_of_nonneg l (by decide)
  rw [z] at zl
  omega
 obtain ⟨L,rfl⟩:∃ L:Nat,l=(L:Int):=⟨l.toNat,by omega⟩
 obtain ⟨E1,rfl⟩:∃ E1:Nat,o=(E1:Int):=⟨o.toNat,by omega⟩
 have pe:p - 1=2^E1*(L:Int):=inn.eq
 have e1:1<=E1:=by
  rcases Nat.eq_zero_or_pos E1 with z | z
  ·subst z
   rw [Int.pow_zero,Int.one_mul] at pe
   omega
  ·exact z
 refine ⟨r,_,_,_,rfl,rfl,SqT.of hr1,rfl,?_⟩
 refine ⟨_,rfl,_,rfl,_,_,rfl,rfl,_,_,rfl,rfl,⟨by decide,by decide⟩,_,rfl,x,_,p,rfl,(by show 0<=((L:Int)+1) / 2; omega),by omega,pL,?_⟩
 refine ⟨_,rfl,_,rfl,_,rfl,x,_,p,rfl,(by omega),by omega,pL,?_⟩
 refine ⟨_,rfl,p,rfl,hp,p2,fun z H2 g2 hz=>⟨_,rfl,_,rfl,z,_,p,rfl,(by omega),by omega,pL,?_⟩⟩
 have T:=Jc.ton_start (n:=x) (z:=z) (o:=L) (e:=E1) pp po hx hz (by omega) pe e1
 have hdiv:Int.fdiv (p - 1) (L:Int)=2^E1:=by
  rw [pe,Int.fdiv_eq_ediv_of_nonneg _ (by omega),Int.mul_ediv_cancel _ (by omega)]
 refine ⟨_,rfl,_,_,rfl,rfl,_,rfl,_,_,rfl,rfl,⟨by omega,Nat.lt_of_lt_of_le (log2_lt_of (k:=64) (by omega) (by decide)) (by decide)⟩,_,_,rfl,rfl,⟨by decide,by decide⟩,?_⟩
 have hh:Int.fdiv (p - 1) (L:Int) / 4=((2^E1 / 4:Nat):Int):=by
  rw [hdiv,Int.natCast_ediv,Int.natCast_pow]
  rfl
 have r1:((((L:Int)+1) / 2)).toNat=(L+1) / 2:=by omega
 have rng:∀ (u:Int) (k:Nat),0<=Pw.PM u k p/\Pw.PM u k p < p:=fun u k=>⟨Pw.PM_nonneg (by omega),Pw.PM_lt (by omega)⟩
 refine ⟨fun m σ H'=>∃ (ro ov tu:Int) (hf:Nat),σ=[some (.int x),some (.int p),some (.int (L:Int)),some (.int ro),some (.int ov),some (.int tu),some (.int (hf:Int))]/\H2=H'/\Jc.Ton p x ro ov tu hf/\(0<=ro/\ro < p)/\(0<=ov/\ov < p)/\(0<=tu/\tu < p)/\m=hf,
  ⟨_,Pw.PM x ((L+1) / 2) p,Pw.PM x L p,Pw.PM z L p,2^E1 / 4,?_,rfl,T,rng _ _,rng _ _,rng _ _,rfl⟩,?_⟩
 ·rw [<- r1,<- hh]
  rfl
 rintro m σ H3 ⟨ro,ov,tu,hf,rfl,rfl,T,ror,ovr,tur,hm⟩
 refine ⟨_,rfl,_,_,rfl,rfl,_,rfl,?_⟩
 refine ite2 (fun c=>?_) (fun c=>?_)
 ·have h0:hf ≠ 0:=by
   have c1:(0:Int) < (hf:Int):=decT c
   omega
  have one:(1:Int) % p=1:=Int.emod_eq_of_lt (by decide) (by omega)
  refine ⟨fun σ' H4=>∃ (ro ov:Int),σ'=[some (.int x),some (.int p),some (.int (L:Int)),some (.int ro),some (.int ov),some (.int (tu*tu % p)),some (.int ((hf:Int) / 2))]/\H2=H4/\Jc.Ton p x ro ov (tu*tu % p) (hf / 2)/\(0<=ro/\ro < p)/\(0<=ov/\ov < p),?_,?_⟩
  ·rintro σ' H4 ⟨ro,ov,rfl,rfl,T,ror,ovr⟩
   refine ⟨hf / 2,by omega,ro,ov,_,hf / 2,?_,rfl,T,ror,ovr,⟨Int.emod_nonneg _ (by omega),Int.emod_lt_of_pos _ (by omega)⟩,rfl⟩
   rw [Int.natCast_ediv]
   rfl
  refine ⟨fun σ' H4=>∃ (ro ov:Int),σ'=[some (.int x),some (.int p),some (.int (L:Int)),some (.int ro),some (.int ov),some (.int tu),some (.int (hf:Int))]/\H2=H4/\Jc.Ton p x ro ov (tu*tu % p) (hf / 2)/\(0<=ro/\ro < p)/\(0<=ov/\ov < p),?_,?_⟩
  ·refine ⟨_,rfl,_,rfl,_,rfl,ov,_,p,rfl,by omega,by omega,pL,rfl,_,rfl,?_⟩
   refine ite2 (fun c2=>?_) (fun c2=>?_)
   ·have d:¬ ov^hf % p=1 % p:=fun y=>neT c2 (congrArg V.int (by rw [Int.toNat_natCast,Pw.PM_eq,y,one]))
    refine ⟨_,rfl,_,rfl,_,_,rfl,rfl,mulS (by omega) (by omega),_,rfl,_,_,rfl,rfl,(by show 0 < p; omega),?_⟩
    refine ⟨_,rfl,_,rfl,_,_,rfl,rfl,mulS (by omega) (by omega),_,rfl,_,_,rfl,rfl,mulS (by omega) (by omega),_,rfl,_,_,rfl,rfl,(by show 0 < p; omega),?_⟩
    exact ⟨_,_,rfl,rfl,T.turn pp h0 d,⟨Int.emod_nonneg _ (by omega),Int.emod_lt_of_pos _ (by omega)⟩,⟨Int.emod_nonneg _ (by omega),Int.emod_lt_of_pos _ (by omega)⟩⟩
   ·have d:ov^hf % p=1 % p:=by
     have y:=int_inj (neF c2)
     rw [Int.toNat_natCast,Pw.PM_eq] at y
     rw [y,one]
    exact ⟨ro,ov,rfl,rfl,T.keep h0 d,ror,ovr⟩
  ·rintro _ _ ⟨ro,ov,rfl,rfl,T',ror',ovr'⟩
   refine ⟨_,rfl,_,rfl,_,_,rfl,rfl,mulS (by omega) (by omega),_,rfl,_,_,rfl,rfl,(by show 0 < p; omega),?_⟩
   exact ⟨_,rfl,_,_,rfl,rfl,⟨by decide,by decide⟩,ro,ov,rfl,rfl,T',ror',ovr'⟩
 ·have h0:hf=0:=by
   have c1:¬ (0:Int) < (hf:Int):=decF c
   omega
  subst h0
  exact ⟨_,rfl,q ro _ (g1.trans g2) ror.1 ror.2 (Int.emod_eq_emod_iff_emod_sub_eq_zero.mp T.done)⟩
theorem ok_root_by_prime {f:Addr} {fd:FuncData} (F:Fun K "root_by_prime" "root_by_prime" s_root_by_prime f fd) (T:Txt K mg t) (H_root_by_odd_prime:Has P w K mg base CX0 5 "root_by_odd_prime" ["number","prime"] (spRootO)):FnOk P w K mg base CX0 6 f fd ["number","prime"] (spRootP):=by
 obtain ⟨f_root_by_odd_prime,d_root_by_odd_prime,G_root_by_odd_prime,b_root_by_odd_prime,k_root_by_odd_prime,m_root_by_odd_prime⟩:=H_root_by_odd_prime
 refine F.ok sc_root_by_prime (fun vs H Q E h=>?_) (fun cdv A outer s H vs Q E hr h=>?_)
 ·obtain ⟨_,_,rfl,_⟩:=h
  rfl
 obtain ⟨x,p,rfl,hp,hx,q⟩:=h
 have hr_root_by_odd_prime:=hr.mono (show 5<=5 by decide)
 obtain ⟨pp,pb,nr⟩:=q6 hp
 have ptwo:=pp.two
 refine ⟨_,pss_cons (ps_if (PW.pt (pw_or (pt_cmpR op_eq (pv 1) pe_int (nomark _)) (pw_or1 (pt_cmpR op_eq (pe_op op_mod (pv 0) (pv 1)) pe_int (nomark _))))) (pss_one (ps_ret (pe_op op_mod (pv 0) (pv 1)))) pss_nil)
  (pss_one (ps_ret (pe_call G_root_by_odd_prime hr_root_by_odd_prime rfl m_root_by_odd_prime k_root_by_odd_prime b_root_by_odd_prime .nil pass0 (pa_cons (pv 0) (pa_cons (pv 1) pa_nil))))),?_⟩
 have x0:=Int.emod_nonneg x (show p ≠ 0 by omega)
 have x1:=Int.emod_lt_of_pos x (show 0 < p by omega)
 refine ⟨_,rfl,rfl,_,rfl,?_⟩
 refine ite2 (fun c=>iteT ?_) (fun c=>⟨_,rfl,_,rfl,_,_,rfl,rfl,(by show 0 < p; omega),rfl,_,rfl,?_⟩)
 ·have e:p=2:=int_inj (decT c)
  subst e
  refine ⟨_,rfl,_,rfl,_,_,rfl,rfl,(by show (0:Int) < 2; decide),q _ H (Same.refl H) x0 x1 ?_⟩
  refine Int.emod_eq_emod_iff_emod_sub_eq_zero.mp ?_
  rcases (show x % 2=0\/x % 2=1 by omega) with h | h <;> rw [h] <;> rfl
 ·have e:p ≠ 2:=fun z=>decF c (congrArg V.int z)
  refine ite2 (fun c2=>?_) (fun c2=>?_)
  ·have e0:x % p=0:=int_inj (decT c2)
   refine ⟨_,rfl,_,rfl,_,_,rfl,rfl,(by show 0 < p; omega),q _ H (Same.refl H) x0 x1 ?_⟩
   rw [e0]
   exact Int.emod_eq_emod_iff_emod_sub_eq_zero.mp (by rw [e0]; exact Int.zero_emod p)
  ·have e0:x % p ≠ 0:=fun z=>decF c2 (congrArg V.int z)
   have u:=Jc.J_unit pp (l:=x) (fun d=>e0 (Int.emod_eq_zero_of_dvd d))
   have j1:Jc.J x p=1:=by
    rcases hx with z | z
    ·exact absurd z e
    ·rcases Jc.J_or x p with y | y | y
     ·exact y
     ·rw [y] at u; cases u
     ·exact absurd y z
   exact ⟨_,rfl,_,rfl,x,p,rfl,hp,e,j1,fun w H1 g1 w0 w1 hw=>q w H1 g1 w0 w1 hw⟩
theorem ok_back_by {f:Addr} {fd:FuncData} (F:Fun K "back_by" "back_by" s_back_by f fd) (T:Txt K mg t) (H_shares_of:Has P w K mg base CX0 2 "shares_of" ["one","other"] (spShares)):FnOk P w K mg base CX0 3 f fd ["number","n"] (spBackC):=by
 obtain ⟨f_shares_of,d_shares_of,G_shares_of,b_shares_of,k_shares_of,m_shares_of⟩:=H_shares_of
 refine F.ok sc_back_by (fun vs H Q E h=>?_) (fun cdv A outer s H vs Q E hr h=>?_)
 ·obtain ⟨_,_,rfl,_⟩:=h
  rfl
 obtain ⟨x,n,rfl,bx,bn,n0,co,q⟩:=h
 have hr_shares_of:=hr.mono (show 2<=2 by decide)
 refine ⟨_,pss_cons (ps_set (i:=2) sc_back_by.nd rfl (Or.inl rfl) (pe_call G_shares_of hr_shares_of rfl m_shares_of k_shares_of b_shares_of .nil pass0 (pa_cons (pv 0) (pa_cons (pv 1) pa_nil))))
  (pss_cons (ps_if (pt_cmpR op_ne (pe_ix ix_tup (pv 2) pe_int (fun _ _=>rfl)) pe_int (nomark _)) pss_never pss_nil)
  (pss_one (ps_ret (pe_op op_mod (pe_ix ix_tup (pv 2) pe_int (fun _ _=>rfl)) (pv 1))))),?_⟩
 refine ⟨_,rfl,_,rfl,x,n,rfl,bx,bn,fun p H1 g s1 t1 g1 hp g0 eg d1 d2 b1 b2=>?_⟩
 obtain ⟨u1,e1⟩:=d1
 obtain ⟨u2,e2⟩:=d2
 obtain rfl:=co g g0 ⟨u1,by rw [Int.mul_comm]; exact e1⟩ ⟨u2,by rw [Int.mul_comm]; exact e2⟩
 refine ⟨_,rfl,p,_,_,_,rfl,rfl,SqT.of hp,rfl,rfl,_,rfl,iteNS rfl ?_⟩
 refine ⟨_,rfl,p,_,_,_,rfl,rfl,SqT.of hp,rfl,_,rfl,_,_,rfl,rfl,n0,q _ _ g1 (emod_b n0).1 (emod_b n0).2 ?_⟩
 have em:=Int.mul_ediv_add_emod s1 n
 generalize s1 % n=r at *
 refine ⟨-(x*(s1 / n)) - t1,?_⟩
 rw [show r=s1 - n*(s1 / n) by omega,Int.mul_sub,Int.mul_comm x s1]
 grind
theorem ok_init_BadPlace {f:Addr} {fd:FuncData} (F:Fun K "__init__" "BadPlace.__init__" s_init_BadPlace f fd) (T:Txt K mg t) :FnOk P w K mg base CX0 1 f fd ["self","place"] (spIni t.c0 "place"):=by
 refine F.ok sc_init_BadPlace (fun vs H Q E h=>?_) (fun cdv A outer s H vs Q E hr h=>?_)
 ·obtain ⟨_,_,rfl,_⟩:=h
  rfl
 obtain ⟨e,v,rfl,he,q⟩:=h
 refine ⟨_,pss_cons (ps_expr (pe_baseInit rfl T.m_CurveError T.y1 T.y2 T.y3 (pa_cons (pv 0) (pa_cons pe_str pa_nil)))) (pss_one (ps_excfld (pv 0) (pv 1) rfl)),?_⟩
 refine ⟨_,rfl,e,t.c0,t.iBadPlace,_,rfl,he,T.x_BadPlace,?_⟩
 refine ⟨_,rfl,_,rfl,e,t.c0,rfl,upd_same,T.set_BadPlace,fun dx hdx=>?_⟩
 have ne:dx ≠ e:=fun z=>by subst z; rw [upd_same] at hdx; cases hdx
 refine q dx _ upd_same (by rw [upd_ne ne]; exact upd_same) fun b o nb hb=>?_
 have bd:b ≠ dx:=fun z=>by subst z; rw [upd_ne nb] at hdx; rw [hdx] at hb; cases hb
 rw [upd_ne nb,upd_ne bd,upd_ne nb]
 exact hb
theorem ok_product_of_alike {f:Addr} {fd:FuncData} (F:Fun K "product_of_alike" "product_of_alike" s_product_of_alike f fd) (T:Txt K mg t) :FnOk P w K mg base CX0 1 f fd ["factor","k"] (spProdA):=by
 refine F.ok sc_product_of_alike (fun vs H Q E h=>?_) (fun cdv A outer s H vs Q E hr h=>?_)
 ·obtain ⟨_,_,rfl,_⟩:=h
  rfl
 obtain ⟨p,k,rfl,p2,pb,kb,q⟩:=h
 refine ⟨_,pss_cons (ps_set (i:=2) sc_product_of_alike.nd rfl (Or.inl rfl) pe_int)
  (pss_cons (ps_for PassesOwn.never rfl (pi_range1 rfl T.z_range (pa_cons (pv 1) pa_nil)) (pg_name (i:=3) sc_product_of_alike.nd rfl (Or.inl rfl)) (pss_one (ps_set (i:=2) sc_product_of_alike.nd rfl (Or.inl rfl) (pe_op op_mulG (pv 2) (pv 0)))))
  (pss_one (ps_ret (pv 2)))),?_⟩
 refine ⟨_,rfl,k,rfl,by omega,by omega,for_range (fun i σ H'=>∃ x3:Option V,σ=[some (.int p),some (.int k),some (.int (p^i)),x3]/\H=H') ⟨none,by rw [Int.pow_zero]; rfl,rfl⟩ ?_ ?_⟩
 ·rintro i σ H' hi ⟨x3,rfl,rfl⟩
  refine ⟨_,rfl,_,rfl,_,_,rfl,rfl,mulS (by omega) (by omega),some (.int (0+(i:Int))),?_,rfl⟩
  rw [Int.pow_succ]
  rfl
 ·rintro σ H' ⟨x3,rfl,rfl⟩
  refine ⟨_,rfl,?_⟩
  rw [show (k:Int).toNat=k by omega]
  exact q
theorem ok_has_lasting_root {f:Addr} {fd:FuncData} (F:Fun K "has_lasting_root" "has_lasting_root" s_has_lasting_root f fd) (T:Txt K mg t) (H_sign_by:Has P w K mg base CX0 2 "sign_by" ["number","n"] (spSign)):FnOk P w K mg base CX0 3 f fd ["number","prime"] (spHasL):=by
 obtain ⟨f_sign_by,d_sign_by,G_sign_by,b_sign_by,k_sign_by,m_sign_by⟩:=H_sign_by
 refine F.ok sc_has_lasting_root (fun vs H Q E h=>?_) (fun cdv A outer s H vs Q E hr h=>?_)
 ·obtain ⟨_,_,rfl,_⟩:=h
  rfl
 obtain ⟨x,p,rfl,hp,pb,q⟩:=h
 have hr_sign_by:=hr.mono (show 2<=2 by decide)
 refine ⟨_,pss_cons (ps_if (pt_cmpR op_eq (pv 1) pe_int (nomark _)) (pss_one (ps_ret (pe_cmpR op_eq (pe_op op_mod (pv 0) pe_int) pe_int (nomark _)))) pss_nil)
  (pss_one (ps_ret (pe_cmpR op_eq (pe_call G_sign_by hr_sign_by rfl m_sign_by k_sign_by b_sign_by .nil pass0 (pa_cons (pv 0) (pa_cons (pv 1) pa_nil))) pe_int (nomark _)))),?_⟩
 refine ⟨_,rfl,rfl,_,rfl,ite2 (fun c=>?_) (fun c=>?_)⟩
 ·obtain rfl:p=2:=int_inj (decT c)
  refine ⟨_,rfl,_,_,rfl,rfl,(by show (0:Int) < 8; decide),rfl,q _ _ (Same.refl _) ⟨fun h=>.inl ⟨rfl,int_inj (decT h)⟩,fun h=>?_⟩⟩
  rcases h with ⟨_,h⟩ | ⟨h,_⟩
  ·exact decide_eq_true (congrArg V.int h)
  ·exact absurd rfl h
 ·have n2:p ≠ 2:=fun z=>decF c (congrArg V.int z)
  have:=hp.two
  refine ⟨_,rfl,_,rfl,x,p,rfl,by omega,Jc.prm_odd hp n2,by omega,fun H1 g1=>⟨rfl,q _ _ g1 ⟨fun h=>.inr ⟨n2,int_inj (decT h)⟩,fun h=>?_⟩⟩⟩
  rcases h with ⟨h,_⟩ | ⟨_,h⟩
  ·exact absurd h n2
  ·exact decide_eq_true (congrArg V.int h)
theorem ok_root_by_odd_power {f:Addr} {fd:FuncData} (F:Fun K "root_by_odd_power" "root_by_odd_power" s_root_by_odd_power f fd) (T:Txt K mg t) (H_root_by_prime:Has P w K mg base CX0 6 "root_by_prime" ["number","prime"] (spRootP)) (H_back_by:Has P w K mg base CX0 3 "back_by" ["number","n"] (spBackC)):FnOk P w K mg base CX0 7 f fd ["number","prime","power"] (spRootOP):=by
 obtain ⟨f_root_by_prime,d_root_by_prime,G_root_by_prime,b_root_by_prime,k_root_by_prime,m_root_by_prime⟩:=H_root_by_prime
 obtain ⟨f_back_by,d_back_by,G_back_by,b_back_by,k_back_by,m_back_by⟩:=H_back_by
 refine F.ok sc_root_by_odd_power (fun vs H Q E h=>?_) (fun cdv A outer s H vs Q E hr h=>?_)
 ·obtain ⟨_,_,_,rfl,_⟩:=h
  rfl
 obtain ⟨x,p,k,rfl,hp,n2,pb,k1,k2,x0,x1,hj,q⟩:=h
 have hr_root_by_prime:=hr.mono (show 6<=6 by decide)
 have hr_back_by:=hr.mono (show 3<=6 by decide)
 have p2:=hp.two
 have w0:0 < p^k:=pow_pos' p2
 have wb:=pow_le p2 pb k2
 have pw:=pow_self p2 k1
 have nx:=Jc.J_nz hp hj
 have dp:p ∣ p^k:=Jc.pow_dvd_self k1
 refine ⟨_,pss_cons (ps_set (i:=3) sc_root_by_odd_power.nd rfl (Or.inl rfl) (pe_call G_root_by_prime hr_root_by_prime rfl m_root_by_prime k_root_by_prime b_root_by_prime .nil pass0 (pa_cons (pv 0) (pa_cons (pv 1) pa_nil))))
  (pss_cons (ps_while PassesOwn.never (pt_cmpR op_ne (pe_op op_mod (pe_op op_sub (pe_op op_mulG (pv 3) (pv 3)) (pv 0)) (pv 2)) pe_int (nomark _)) (pss_one (ps_set (i:=3) sc_root_by_odd_power.nd rfl (Or.inl rfl) (pe_op op_mod (pe_op op_sub (pv 3) (pe_op op_mulG (pe_op op_sub (pe_op op_mulG (pv 3) (pv 3)) (pv 0)) (pe_call G_back_by hr_back_by rfl m_back_by k_back_by b_back_by .nil pass0 (pa_cons (pe_op op_mulG pe_int (pv 3)) (pa_cons (pv 2) pa_nil))))) (pv 2)))))
  (pss_one (ps_ret (pv 3)))),?_⟩
 refine ⟨_,rfl,_,rfl,x,p,rfl,⟨hp,by omega⟩,.inr (by rw [hj]; decide),fun r0 H1 g1 r00 r01 rr=>?_⟩
 refine ⟨fun m σ H'=>∃ (r:Int) (e:Nat),σ=[some (.int x),some (.int p),some (.int (p^k)),some (.int r)]/\Same H H'/\0<=r/\r < p^k/\1<=e/\e<=k/\p^e ∣ r*r - x/\m=k - e,⟨_,r0,1,rfl,g1,r00,by omega,by decide,k1,by rw [Int.pow_succ,Int.pow_zero,Int.one_mul]; exact Int.dvd_of_emod_eq_zero rr,rfl⟩,?_⟩
 rintro m σ H2 ⟨r,e,rfl,g2,ra,rb,e1,ek,he,rfl⟩
 have rn:r.natAbs<=10^48:=by omega
 have xn:x.natAbs<=10^48:=by omega
 have rr2:=nab rn rn
 have nr:¬ p ∣ r:=fun d=>nx (by
  have h1:p ∣ r*r - x:=Int.dvd_trans (Jc.pow_dvd_self e1) he
  have:=Int.dvd_sub (Int.dvd_trans d (Int.dvd_mul_right r r)) h1
  rwa [show r*r - (r*r - x)=x by omega] at this)
 refine ⟨_,rfl,_,rfl,_,_,rfl,rfl,mulB (by omega) (by omega),_,rfl,_,_,rfl,rfl,_,rfl,_,_,rfl,rfl,w0,rfl,_,rfl,?_⟩
 refine ite2 (fun c=>?_) (fun c=>?_)
 ·have nz:(r*r - x) % p^k ≠ 0:=fun z=>neT c (congrArg V.int z)
  have elt:e < k:=by
   by_cases z:e < k
   ·exact z
   ·obtain rfl:e=k:=by omega
    exact absurd (Int.emod_eq_zero_of_dvd he) nz
  refine ⟨fun σ' H'=>∃ (r:Int) (e':Nat),σ'=[some (.int x),some (.int p),some (.int (p^k)),some (.int r)]/\Same H H'/\0<=r/\r < p^k/\e < e'/\e'<=k/\p^e' ∣ r*r - x,?_,?_⟩
  ·rintro _ H3 ⟨r',e',rfl,g3,a1,a2,a3,a4,a5⟩
   exact ⟨k - e',by omega,r',e',rfl,g3,a1,a2,by omega,a4,a5,rfl⟩
  have nd2:¬ p ∣ 2*r:=fun d=>(Pr.euclid hp d).elim (fun d2=>n2 (Pr.prm_dvd_prm hp Jc.prm_2 d2)) nr
  have L:10^49<=Lm:=by rw [Lm_eq]; decide +kernel
  refine ⟨_,rfl,_,rfl,_,rfl,_,_,rfl,rfl,mulB (by omega) (by omega),_,rfl,_,_,rfl,rfl,_,rfl,_,_,rfl,rfl,mulB (by decide) (by omega),_,rfl,2*r,p^k,rfl,by omega,by omega,w0,fun g h0 h1 h2=>Jc.cop hp nd2 h0 h1 h2,fun i H3 g3 i0 i1 hi=>?_⟩
  refine ⟨_,_,rfl,rfl,mulB (by omega) (by omega),_,_,rfl,rfl,_,rfl,_,_,rfl,rfl,w0,?_⟩
  exact ⟨_,min (2*e) k,rfl,g2.trans g3,(emod_b w0).1,(emod_b w0).2,by omega,Nat.min_le_right _ _,Jc.newton he hi⟩
 ·have z:(r*r - x) % p^k=0:=int_inj (neF c)
  exact ⟨_,rfl,q r _ g2 ra rb nr (Int.dvd_of_emod_eq_zero z)⟩
theorem ok_root_by_power_of_two {f:Addr} {fd:FuncData} (F:Fun K "root_by_power_of_two" "root_by_power_of_two" s_root_by_power_of_two f fd) (T:Txt K mg t) :FnOk P w K mg base CX0 1 f fd ["number","power"] (spRoot2P):=by
 refine F.ok sc_root_by_power_of_two (fun vs H Q E h=>?_) (fun cdv A outer s H vs Q E hr h=>?_)
 ·obtain ⟨_,_,rfl,_⟩:=h
  rfl
 obtain ⟨x,k,rfl,k1,k2,x0,x1,x8,q⟩:=h
 have wb:(2:Int)^k<=4096:=two_le k2
 refine ⟨_,pss_cons (ps_set (i:=2) sc_root_by_power_of_two.nd rfl (Or.inl rfl) pe_int)
  (pss_cons (ps_set (i:=3) sc_root_by_power_of_two.nd rfl (Or.inl rfl) pe_int)
  (pss_cons (ps_while PassesOwn.never (pt_cmpR op_lt (pv 3) (pv 1) (nomark _)) (pss_cut (ps_if (pt_cmpR op_ne (pe_op op_mod (pe_op op_sub (pe_op op_mulG (pv 2) (pv 2)) (pv 0)) (pe_op op_mulG pe_int (pv 3))) pe_int (nomark _)) (pss_one (ps_set (i:=2) sc_root_by_power_of_two.nd rfl (Or.inl rfl) (pe_op op_add (pv 2) (pe_op op_fdiv (pv 3) pe_int)))) pss_nil)
  (pss_one (ps_set (i:=3) sc_root_by_power_of_two.nd rfl (Or.inl rfl) (pe_op op_mulG pe_int (pv 3))))))
  (pss_one (ps_ret (pv 2))))),?_⟩
 refine ⟨fun m σ H'=>∃ (r w:Int) (j:Nat),σ=[some (.int x),some (.int (2^k)),some (.int r),some (.int (8*w))]/\H=H'/\w=2^j/\0 < r/\r < 4*w/\(r=1\/8*w<=2^k)/\r % 2=1/\8*w ∣ r*r - x/\m=12 - j/\j<=10,⟨_,1,1,0,rfl,rfl,rfl,by decide,by decide,.inl rfl,by decide,Int.dvd_of_emod_eq_zero (by omega),rfl,by decide⟩,?_⟩
 rintro m σ H2 ⟨r,w,j,rfl,rfl,hw,ra,rb,rc,ro,hd,rfl,jb⟩
 have w0:0 < w:=by rw [hw]; exact Int.pow_pos (by decide)
 refine ⟨_,rfl,_,rfl,_,_,rfl,rfl,_,rfl,?_⟩
 refine ite2 (fun c=>?_) (fun c=>?_)
 ·have lt:8*w < 2^k:=decT c
  have j8:j+3 < k:=by
   by_cases z:j+3 < k
   ·exact z
   ·exfalso
    have h1:(2:Int)^(j+3)=w*8:=by rw [Int.pow_add,<- hw]; rfl
    have h2:(2:Int)^k<=2^(j+3):=two_mono (by omega)
    omega
  have up:16*w<=2^k:=by
   have h1:(2:Int)^(j+4)=w*16:=by rw [Int.pow_add,<- hw]; rfl
   have h2:(2:Int)^(j+4)<=2^k:=two_mono (by omega)
   omega
  refine ⟨fun σ' H'=>∃ (r:Int),σ'=[some (.int x),some (.int (2^k)),some (.int r),some (.int (8*(2*w)))]/\H=H'/\0 < r/\r < 4*(2*w)/\r % 2=1/\8*(2*w) ∣ r*r - x,?_,?_⟩
  ·rintro _ _ ⟨r',rfl,rfl,a1,a2,a3,a4⟩
   exact ⟨12 - (j+1),by omega,r',2*w,j+1,rfl,rfl,by rw [hw,Int.pow_succ,Int.mul_comm],a1,a2,.inr (by omega),a3,a4,rfl,by omega⟩
  have e16:(2:Int)*(8*w)=16*w:=by omega
  have s16:(8:Int)*(2*w)=16*w:=by omega
  refine ⟨fun σ' H'=>∃ (r:Int),σ'=[some (.int x),some (.int (2^k)),some (.int r),some (.int (8*w))]/\H=H'/\0 < r/\r < 4*(2*w)/\r % 2=1/\16*w ∣ r*r - x,?_,?_⟩
  ·refine ⟨_,rfl,_,rfl,_,_,rfl,rfl,mulS (by omega) (by omega),_,rfl,_,_,rfl,rfl,_,rfl,_,_,rfl,rfl,mulS (by omega) (by omega),_,_,rfl,rfl,(by show 0 < 2*(8*w); omega),rfl,_,rfl,?_⟩
   refine ite2 (fun d=>?_) (fun d=>?_)
   ·have nz:¬ 16*w ∣ r*r - x:=fun z=>neT d (congrArg V.int (by rw [e16]; exact Int.emod_eq_zero_of_dvd z))
    refine ⟨_,rfl,_,rfl,_,_,rfl,rfl,⟨by decide,by decide⟩,_,_,rfl,rfl,?_⟩
    have hh:8*w / 2=4*w:=by omega
    rw [hh]
    exact ⟨_,rfl,rfl,by omega,by omega,by omega,Jc.half_step ro hd nz⟩
   ·have z:(r*r - x) % (2*(8*w))=0:=int_inj (neF d)
    rw [e16] at z
    exact ⟨_,rfl,rfl,ra,by omega,ro,Int.dvd_of_emod_eq_zero z⟩
  ·rintro _ _ ⟨r',rfl,rfl,a1,a2,a3,a4⟩
   refine ⟨_,rfl,_,_,rfl,rfl,mulS (by omega) (by omega),?_⟩
   refine ⟨r',?_,rfl,a1,a2,a3,by rw [s16]; exact a4⟩
   show [some (V.int x),some (V.int (2^k)),some (V.int r'),some (V.int (2*(8*w)))]=_
   rw [e16,s16]
 ·have ge:¬ 8*w < 2^k:=decF c
  have k2':(2:Int)<=2^k:=by have:=two_mono (i:=1) (j:=k) k1; simpa using this
  refine ⟨_,rfl,q r (by omega) (by omega) (fun d=>by have:=Int.emod_eq_zero_of_dvd d; omega) (Int.dvd_trans ?_ hd)⟩
  have h1:8*w=(2:Int)^(j+3):=by rw [Int.pow_add,<- hw]; omega
  rw [h1]
  refine two_dvd ?_
  by_cases z:k<=j+3
  ·exact z
  ·have h2:(2:Int)^(j+3+1)<=2^k:=two_mono (by omega)
   rw [Int.pow_succ,<- h1] at h2
   omega
theorem ok_lasting_root {f:Addr} {fd:FuncData} (F:Fun K "lasting_root" "lasting_root" s_lasting_root f fd) (T:Txt K mg t) (H_root_by_power_of_two:Has P w K mg base CX0 1 "root_by_power_of_two" ["number","power"] (spRoot2P)) (H_root_by_odd_power:Has P w K mg base CX0 7 "root_by_odd_power" ["number","prime","power"] (spRootOP)):FnOk P w K mg base CX0 8 f fd ["number","prime","power"] (spLasR):=by
 obtain ⟨f_root_by_power_of_two,d_root_by_power_of_two,G_root_by_power_of_two,b_root_by_power_of_two,k_root_by_power_of_two,m_root_by_power_of_two⟩:=H_root_by_power_of_two
 obtain ⟨f_root_by_odd_power,d_root_by_odd_power,G_root_by_odd_power,b_root_by_odd_power,k_root_by_odd_power,m_root_by_odd_power⟩:=H_root_by_odd_power
 refine F.ok sc_lasting_root (fun vs H Q E h=>?_) (fun cdv A outer s H vs Q E hr h=>?_)
 ·obtain ⟨_,_,_,rfl,_⟩:=h
  rfl
 obtain ⟨x,p,k,rfl,hp,pb,k1,k2,x0,x1,hl,q⟩:=h
 have hr_root_by_power_of_two:=hr.mono (show 1<=7 by decide)
 have hr_root_by_odd_power:=hr.mono (show 7<=7 by decide)
 refine ⟨_,pss_cons (ps_if (pt_cmpR op_eq (pv 1) pe_int (nomark _)) (pss_one (ps_ret (pe_call G_root_by_power_of_two hr_root_by_power_of_two rfl m_root_by_power_of_two k_root_by_power_of_two b_root_by_power_of_two .nil pass0 (pa_cons (pv 0) (pa_cons (pv 2) pa_nil))))) pss_nil)
  (pss_one (ps_ret (pe_call G_root_by_odd_power hr_root_by_odd_power rfl m_root_by_odd_power k_root_by_odd_power b_root_by_odd_power .nil pass0 (pa_cons (pv 0) (pa_cons (pv 1) (pa_cons (pv 2) pa_nil)))))),?_⟩
 refine ⟨_,rfl,rfl,_,rfl,ite2 (fun c=>?_) (fun c=>?_)⟩
 ·obtain rfl:p=2:=int_inj (decT c)
  have h8:x % 8=1:=hl.elim (·.2) fun z=>absurd rfl z.1
  exact ⟨_,rfl,_,rfl,x,k,rfl,k1,k2,x0,x1,h8,fun r a1 a2 a3 a4=>q r _ (Same.refl _) a1 a2 a3 a4⟩
 ·have n2:p ≠ 2:=fun z=>decF c (congrArg V.int z)
  have hj:Jc.J x p=1:=hl.elim (fun z=>absurd z.1 n2) (·.2)
  exact ⟨_,rfl,_,rfl,_,rfl,x,p,k,rfl,hp,n2,pb,k1,k2,x0,x1,hj,q⟩
theorem ok_rests_led {f:Addr} {fd:FuncData} (F:Fun K "rests_led" "rests_led" s_rests_led f fd) (T:Txt K mg t) (H_back_by:Has P w K mg base CX0 3 "back_by" ["number","n"] (spBackC)) (H_has_lasting_root:Has P w K mg base CX0 3 "has_lasting_root" ["number","prime"] (spHasL)) (H_lasting_root:Has P w K mg base CX0 8 "lasting_root" ["number","prime","power"] (spLasR)):FnOk P w K mg base CX0 9 f fd ["numbers","prime","power"] (spLed):=by
 obtain ⟨f_back_by,d_back_by,G_back_by,b_back_by,k_back_by,m_back_by⟩:=H_back_by
 obtain ⟨f_has_lasting_root,d_has_lasting_root,G_has_lasting_root,b_has_lasting_root,k_has_lasting_root,m_has_lasting_root⟩:=H_has_lasting_root
 obtain ⟨f_lasting_root,d_lasting_root,G_lasting_root,b_lasting_root,k_lasting_root,m_lasting_root⟩:=H_lasting_root
 refine F.ok sc_rests_led (fun vs H Q E h=>?_) (fun cdv A outer s H vs Q E hr h=>?_)
 ·obtain ⟨_,_,_,_,_,_,rfl,_⟩:=h
  rfl
 obtain ⟨l,A',B',C',p,k,rfl,hl,hp,pb,k1,k2,a6,b6,c6,q1,q2⟩:=h
 have hr_back_by:=hr.mono (show 3<=8 by decide)
 have hr_has_lasting_root:=hr.mono (show 3<=8 by decide)
 have hr_lasting_root:=hr.mono (show 8<=8 by decide)
 have p2:=hp.two
 have w0:0 < p^k:=pow_pos' p2
 have wb:=pow_le p2 pb k2
 have pw:=pow_self p2 k1
 unfold Sm6 at a6 b6 c6
 refine ⟨_,pss_cons (ps_if (pt_cmpR op_eq (pe_op op_mod (pe_ix ix_list (pv 0) pe_int (fun _ _=>rfl)) (pv 1)) pe_int (nomark _)) (pss_one (ps_ret (pe_lst pa_nil))) pss_nil)
  (pss_cons (ps_set (i:=3) sc_rests_led.nd rfl (Or.inl rfl) (pe_un un_neg (pe_call G_back_by hr_back_by rfl m_back_by k_back_by b_back_by .nil pass0 (pa_cons (pe_ix ix_list (pv 0) pe_int (fun _ _=>rfl)) (pa_cons (pv 2) pa_nil)))))
  (pss_cons (ps_for PassesOwn.never rfl (pi_range1 rfl T.z_range (pa_cons (pe_op op_add (pv 1) pe_int) pa_nil)) (pg_name (i:=4) sc_rests_led.nd rfl (Or.inl rfl)) (pss_cons (ps_set (i:=5) sc_rests_led.nd rfl (Or.inl rfl) (pe_op op_mod (pe_op op_mulG (pv 3) (pe_op op_add (pe_op op_mulG (pe_op op_mulG (pe_ix ix_list (pv 0) pe_int (fun _ _=>rfl)) (pv 4)) (pv 4)) (pe_ix ix_list (pv 0) pe_int (fun _ _=>rfl)))) (pv 2)))
  (pss_one (ps_if (pt_val (pe_call G_has_lasting_root hr_has_lasting_root rfl m_has_lasting_root k_has_lasting_root b_has_lasting_root .nil pass0 (pa_cons (pv 5) (pa_cons (pv 1) pa_nil))) (fun _=>rfl)) (pss_one (ps_ret (pe_lst (pa_cons (pe_call G_lasting_root hr_lasting_root rfl m_lasting_root k_lasting_root b_lasting_root .nil pass0 (pa_cons (pv 5) (pa_cons (pv 1) (pa_cons (pv 2) pa_nil)))) (pa_cons (pv 4) (pa_cons pe_int pa_nil)))))) pss_nil))))
  (pss_one (ps_ret (pe_lst pa_nil))))),?_⟩
 refine ⟨_,rfl,l,_,_,_,rfl,rfl,SqL.of hl,rfl,_,rfl,_,_,rfl,rfl,(by show 0 < p; omega),rfl,_,rfl,ite2 (fun c=>?_) (fun c=>?_)⟩
 ·have d:p ∣ A':=Int.dvd_of_emod_eq_zero (int_inj (decT c))
  exact ⟨(by show 0<=sizeLine; decide),fun t ht=>q1 t _ (same_new ht _) upd_same fun z=>z.1 d⟩
 have nd:¬ p ∣ A':=fun d=>decF c (congrArg V.int (Int.emod_eq_zero_of_dvd d))
 have L:10^49<=Lm:=by rw [Lm_eq]; decide +kernel
 refine ⟨_,rfl,l,_,_,_,rfl,rfl,SqL.of hl,rfl,_,rfl,A',p^k,rfl,by omega,by omega,w0,fun g h0 h1 h2=>Jc.cop hp nd h0 h1 h2,fun o H1 g1 o0 o1 ho=>?_⟩
 have ho':p^k ∣ -o*A'+1:=by
  rw [show -o*A'+1=-(A'*o - 1) by grind]
  exact Int.dvd_neg.mpr ho
 have hl1:=g1 _ _ hl
 refine ⟨_,rfl,?_⟩
 refine ⟨_,rfl,_,_,rfl,rfl,p+1,rfl,by omega,by omega,for_range (fun i σ H'=>∃ x4 x5:Option V,σ=[some (.ref l),some (.int p),some (.int (p^k)),some (.int (-o)),x4,x5]/\Same H1 H'/\∀ s:Int,0<=s->s < i->¬ Jc.Las p ((-o*(B'*s*s+C')) % p^k)) ⟨none,none,rfl,Same.refl _,fun s s0 s1=>by omega⟩ ?_ ?_⟩
 ·rintro i σ H2 hi ⟨x4,x5,rfl,g2,no⟩
  have i1:(i:Int) < p+1:=by omega
  have hl2:=g2 _ _ hl1
  have in_:(0+(i:Int)).natAbs<=10^5:=by omega
  have m1:=nab (show B'.natAbs<=10^6 by omega) in_
  have m2:=nab m1 in_
  refine ⟨_,rfl,_,rfl,l,_,_,_,rfl,rfl,SqL.of hl2,rfl,_,rfl,_,_,rfl,rfl,mulB (by omega) (by omega),_,rfl,_,_,rfl,rfl,mulB (by omega) (by omega),_,rfl,l,_,_,_,rfl,rfl,SqL.of hl2,rfl,_,_,rfl,rfl,_,_,rfl,rfl,mulB (by omega) (by omega),_,rfl,_,_,rfl,rfl,w0,?_⟩
  refine ⟨_,rfl,_,rfl,_,p,rfl,hp,pb,fun b H3 g3 hb=>⟨_,rfl,?_⟩⟩
  cases b with
  | true=>
   refine iteT ⟨_,rfl,_,rfl,_,rfl,_,p,k,rfl,hp,pb,k1,k2,(emod_b w0).1,(emod_b w0).2,hb.mp rfl,fun r H4 g4 r0 r1 nr hr=>?_⟩
   refine ⟨_,rfl,(by show 3<=sizeLine; decide),fun t ht=>?_⟩
   have slt:0+(i:Int) < p^k:=by
    by_cases z:0+(i:Int) < p^k
    ·exact z
    ·exfalso
     have ew:p^k=p:=by omega
     have ei:(i:Int)=p:=by omega
     refine no 0 (by decide) (by omega) ?_
     have hb2:=hb.mp rfl
     have e:(-o*(B'*0*0+C')) % p^k=(-o*(B'*(0+(i:Int))*(0+(i:Int))+C')) % p^k:=by
      rw [ew,ei,Int.zero_add,show -o*(B'*p*p+C')=-o*(B'*0*0+C')+p*(-o*B'*p) by grind]
      exact (Int.add_mul_emod_self_left _ _ _).symm
     rw [e]
     exact hb2
   exact q2 t r (0+(i:Int)) _ (g1.trans (g2.trans (g3.trans (g4.trans (same_new ht _))))) upd_same r0 r1 (by omega) slt nr (Jc.fit_of ho' hr)
  | false=>
   refine iteF ⟨_,_,rfl,g2.trans g3,fun s s0 s1=>?_⟩
   by_cases z:s=0+(i:Int)
   ·rw [z]
    exact fun h=>Bool.false_ne_true (hb.mpr h)
   ·exact no s s0 (by omega)
 ·rintro σ H2 ⟨x4,x5,rfl,g2,no⟩
  refine ⟨(by show 0<=sizeLine; decide),fun t ht=>q1 t _ (g1.trans (g2.trans (same_new ht _))) upd_same fun ⟨_,s,s0,s1,h⟩=>?_⟩
  exact no s s0 (by omega) (Jc.las_of hp nd k1 ho' h)
theorem ok_rests_found {f:Addr} {fd:FuncData} (F:Fun K "rests_found" "rests_found" s_rests_found f fd) (T:Txt K mg t) (H_rests_led:Has P w K mg base CX0 9 "rests_led" ["numbers","prime","power"] (spLed)):FnOk P w K mg base CX0 10 f fd ["numbers","prime","power"] (spFnd):=by
 obtain ⟨f_rests_led,d_rests_led,G_rests_led,b_rests_led,k_rests_led,m_rests_led⟩:=H_rests_led
 refine F.ok sc_rests_found (fun vs H Q E h=>?_) (fun cdv A outer s H vs Q E hr h=>?_)
 ·obtain ⟨_,_,_,_,_,_,rfl,_⟩:=h
  rfl
 obtain ⟨l,a,b,c,p,k,rfl,hl,hp,pb,k1,k2,a6,b6,c6,hL,q⟩:=h
 have hr_rests_led:=hr.mono (show 9<=9 by decide)
 have hu64:=hu64_of hr
 have p2:=hp.two
 have pw:=pow_self p2 k1
 refine ⟨_,pss_one (ps_for PassesOwn.never rfl (pi_range1 rfl T.z_range (pa_cons pe_int pa_nil)) (pg_name (i:=3) sc_rests_found.nd rfl (Or.inl rfl)) (pss_cons (ps_set (i:=4) sc_rests_found.nd rfl (Or.inl rfl) (pe_call G_rests_led hr_rests_led rfl m_rests_led k_rests_led b_rests_led .nil pass0 (pa_cons (pe_op op_cat (pe_slice sl_list (pv 0) (po_some (pv 3)) po_none) (pe_slice sl_list (pv 0) po_none (po_some (pv 3)))) (pa_cons (pv 1) (pa_cons (pv 2) pa_nil)))))
  (pss_one (ps_if (pt_cmpR (op_neNil hu64) (pv 4) (pe_lst pa_nil) (nomark _)) (pss_one (ps_ret (pe_op op_cat (pe_slice sl_list (pv 4) (po_some (pe_op op_sub pe_int (pv 3))) po_none) (pe_slice sl_list (pv 4) po_none (po_some (pe_op op_sub pe_int (pv 3))))))) pss_nil)))),?_⟩
 refine ⟨3,rfl,by decide,by decide,for_range (fun i σ H'=>∃ x3 x4:Option V,σ=[some (.ref l),some (.int p),some (.int (p^k)),x3,x4]/\Same H H'/\(0 < i->¬ Jc.Lead p a b c)/\(1 < i->¬ Jc.Lead p b c a)/\(2 < i->¬ Jc.Lead p c a b)) ⟨none,none,rfl,Same.refl _,fun z=>by omega,fun z=>by omega,fun z=>by omega⟩ ?_ ?_⟩
 ·rintro i σ H1 hi ⟨x3,x4,rfl,g1,n0,n1,n2⟩
  have i3:i < 3:=hi
  have hl1:=g1 _ _ hl
  obtain ⟨u,v,w,e1,e2,u6,v6,w6,no,fin⟩:∃ u v w:Int,(cutV [.int a,.int b,.int c] (some (0+(i:Int))) none ++ cutV [.int a,.int b,.int c] none (some (0+(i:Int))))=[V.int u,.int v,.int w]/\(cutV [.int a,.int b,.int c] (some (0+(i:Int))) none).length+(cutV [V.int a,.int b,.int c] none (some (0+(i:Int)))).length<=sizeLine/\Sm6 u/\Sm6 v/\Sm6 w /\
    (¬ Jc.Lead p u v w->(0 < i+1->¬ Jc.Lead p a b c)/\(1 < i+1->¬ Jc.Lead p b c a)/\(2 < i+1->¬ Jc.Lead p c a b)) /\
    ∀ r s:Int,0<=r->r < p^k->0<=s->s < p^k->¬ p ∣ r->p^k ∣ u*r*r+v*s*s+w->∃ x y z:Int,cutV [V.int r,.int s,.int 1] (some (3 - (0+(i:Int)))) none ++ cutV [V.int r,.int s,.int 1] none (some (3 - (0+(i:Int))))=[.int x,.int y,.int z]/\(cutV [V.int r,.int s,.int 1] (some (3 - (0+(i:Int)))) none).length+(cutV [V.int r,.int s,.int 1] none (some (3 - (0+(i:Int))))).length<=sizeLine/\Ft p k a b c x y z:=by
   obtain rfl | rfl | rfl:i=0\/i=1\/i=2:=by omega
   ·refine ⟨a,b,c,rfl,(by show 3<=sizeLine; decide),a6,b6,c6,fun h=>⟨fun _=>h,fun z=>by omega,fun z=>by omega⟩,fun r s r0 r1 s0 s1 nr hf=>⟨r,s,1,rfl,(by show 3<=sizeLine; decide),⟨r0,r1,s0,s1,by decide,by omega,fun z=>nr z.1,?_⟩⟩⟩
    rw [Int.mul_one,Int.mul_one]
    exact hf
   ·refine ⟨b,c,a,rfl,(by show 3<=sizeLine; decide),b6,c6,a6,fun h=>⟨fun _=>n0 (by decide),fun _=>h,fun z=>by omega⟩,fun r s r0 r1 s0 s1 nr hf=>⟨1,r,s,rfl,(by show 3<=sizeLine; decide),⟨by decide,by omega,r0,r1,s0,s1,fun z=>nr z.2.1,?_⟩⟩⟩
    rw [Int.mul_one,Int.mul_one,show a+b*r*r+c*s*s=b*r*r+c*s*s+a by omega]
    exact hf
   ·refine ⟨c,a,b,rfl,(by show 3<=sizeLine; decide),c6,a6,b6,fun h=>⟨fun _=>n0 (by decide),fun _=>n1 (by decide),fun _=>h⟩,fun r s r0 r1 s0 s1 nr hf=>⟨s,1,r,rfl,(by show 3<=sizeLine; decide),⟨s0,s1,by decide,by omega,r0,r1,fun z=>nr z.2.2,?_⟩⟩⟩
    rw [Int.mul_one,Int.mul_one,show a*s*s+b+c*r*r=c*r*r+a*s*s+b by omega]
    exact hf
  refine ⟨_,rfl,_,rfl,_,rfl,l,_,rfl,SqL.of hl1,fun p1 h1=>?_⟩
  refine ⟨_,rfl,_,rfl,_,rfl,l,_,rfl,SqL.of (same_new h1 _ _ _ hl1),fun p2' h2=>?_⟩
  refine ⟨p1,p2',_,_,rfl,rfl,same_new h2 _ _ _ upd_same,upd_same,e2,fun p3 h3=>?_⟩
  rw [e1]
  have g4:=g1.trans ((same_new h1 _).trans ((same_new h2 _).trans (same_new h3 (.lst [.int u,.int v,.int w]))))
  refine ⟨_,rfl,_,rfl,p3,u,v,w,p,k,rfl,upd_same,hp,pb,k1,k2,u6,v6,w6,fun t H5 g5 ht nl=>?_,fun t r s H5 g5 ht r0 r1 s0 s1 nr hf=>?_⟩
  ·refine ⟨_,rfl,(by show 0<=sizeLine; decide),fun e he=>?_⟩
   refine ⟨t,e,[],rfl,rfl,same_new he _ _ _ ht,upd_same,_,rfl,iteF ?_⟩
   exact ⟨_,_,rfl,g4.trans (g5.trans (same_new he _)),no nl⟩
  ·obtain ⟨x,y,z,e3,e4,ft⟩:=fin r s r0 r1 s0 s1 nr hf
   refine ⟨_,rfl,(by show 0<=sizeLine; decide),fun e he=>?_⟩
   have ht6:=same_new he (.lst []) _ _ ht
   refine ⟨t,e,[r,s,1],rfl,rfl,ht6,upd_same,_,rfl,iteT ?_⟩
   refine ⟨_,rfl,_,rfl,_,_,rfl,rfl,_,rfl,t,_,rfl,SqL.of ht6,fun p7 h7=>?_⟩
   refine ⟨_,rfl,_,rfl,_,_,rfl,rfl,_,rfl,t,_,rfl,SqL.of (same_new h7 _ _ _ ht6),fun p8 h8=>?_⟩
   refine ⟨p7,p8,_,_,rfl,rfl,same_new h8 _ _ _ upd_same,upd_same,e4,fun p9 h9=>?_⟩
   rw [e3]
   exact q p9 x y z _ (g4.trans (g5.trans ((same_new he _).trans ((same_new h7 _).trans ((same_new h8 _).trans (same_new h9 _)))))) upd_same ft
 ·rintro σ H1 ⟨x3,x4,rfl,g1,n0,n1,n2⟩
  rcases hL with h | h | h
  ·exact absurd h (n0 (by decide))
  ·exact absurd h (n1 (by decide))
  ·exact absurd h (n2 (by decide))
theorem ok_fitting_rests {f:Addr} {fd:FuncData} (F:Fun K "fitting_rests" "fitting_rests" s_fitting_rests f fd) (T:Txt K mg t) (H_bad_places:Has P w K mg base (XF P w) 6 "bad_places" ["a","b","c"] (spBadX19 t.c13)) (H_is_prime:Has P w K mg base CX0 3 "is_prime" ["number"] (spIsPrime)) (H_init_BadPlace:HasI P w K mg base 1 t.iBadPlace ["self","place"] (spIni t.c0 "place")) (H_rests_found:Has P w K mg base CX0 10 "rests_found" ["numbers","prime","power"] (spFnd)) (H_product_of_alike:Has P w K mg base CX0 1 "product_of_alike" ["factor","k"] (spProdA)):FnOk P w K mg base (XB P w) 11 f fd ["a","b","c","prime","k"] (spFit t.c0 t.c8 t.c13):=by
 obtain ⟨f_bad_places,d_bad_places,G_bad_places,b_bad_places,k_bad_places,m_bad_places⟩:=H_bad_places
 obtain ⟨f_is_prime,d_is_prime,G_is_prime,b_is_prime,k_is_prime,m_is_prime⟩:=H_is_prime
 obtain ⟨d_init_BadPlace,G_init_BadPlace,b_init_BadPlace⟩:=H_init_BadPlace
 obtain ⟨f_rests_found,d_rests_found,G_rests_found,b_rests_found,k_rests_found,m_rests_found⟩:=H_rests_found
 obtain ⟨f_product_of_alike,d_product_of_alike,G_product_of_alike,b_product_of_alike,k_product_of_alike,m_product_of_alike⟩:=H_product_of_alike
 replace G_bad_places:=G_bad_places.up (CX':=XB P w) fun _ _ _ _ _ _ z=>.inr z
 refine F.okB sc_fitting_rests (fun vs H Q E h=>?_) (fun cdv A outer s H vs Q E hr h=>?_)
 ·obtain ⟨_,_,_,_,_,rfl,_⟩:=h
  rfl
 obtain ⟨a,b,c,p,k,rfl,a6,b6,c6,pm,k1,k2,pb,qn,qp,qb,qt⟩:=h
 have hr_bad_places:=hr.mono (show 6<=10 by decide)
 have hr_is_prime:=hr.mono (show 3<=10 by decide)
 have hr_init_BadPlace:=hr.mono (show 1<=10 by decide)
 have hr_rests_found:=hr.mono (show 10<=10 by decide)
 have hr_product_of_alike:=hr.mono (show 1<=10 by decide)
 refine ⟨_,pss_cons (ps_set (i:=5) sc_fitting_rests.nd rfl (Or.inl rfl) (pe_call G_bad_places hr_bad_places rfl m_bad_places k_bad_places b_bad_places .nil passB (pa_cons (pv 0) (pa_cons (pv 1) (pa_cons (pv 2) pa_nil)))))
  (pss_cons (ps_if (pt_not (pt_val (pe_call G_is_prime hr_is_prime rfl m_is_prime k_is_prime b_is_prime .nil pass0 (pa_cons (pv 3) pa_nil)) (fun _=>rfl))) (pss_one (PS.up (CX:=XF P w) (ps_raise T.m_NoPlace T.x_NoPlace rfl (pa_cons pe_str pa_nil)) (fun _ _ _ _ _ _ z=>.inr z))) pss_nil)
  (pss_cons (ps_if (pt_cmpR op_in_seq (pv 3) (pv 5) (by with_unfolding_all rfl)) (pss_one (PS.up (CX:=XD P w) (ps_raiseD T.mk_BadPlace G_init_BadPlace (hr.mono (show 1+1<=10 by decide)) b_init_BadPlace T.m_BadPlace rfl (pa_cons (pv 3) pa_nil)) (fun _ _ _ _ _ _ z=>.inl z))) pss_nil)
  (pss_one (PS.nox (ps_ret (pe_callTy call_tuple_of rfl T.z_tuple b_tuple (pa_cons (pe_call G_rests_found hr_rests_found rfl m_rests_found k_rests_found b_rests_found .nil pass0 (pa_cons (pe_lst (pa_cons (pv 0) (pa_cons (pv 1) (pa_cons (pv 2) pa_nil)))) (pa_cons (pv 3) (pa_cons (pe_call G_product_of_alike hr_product_of_alike rfl m_product_of_alike k_product_of_alike b_product_of_alike .nil pass0 (pa_cons (pv 3) (pa_cons (pv 4) pa_nil))) pa_nil)))) pa_nil))))))),?_⟩
 refine ⟨_,rfl,_,rfl,_,rfl,a,b,c,rfl,a6,b6,c6,fun P bl bs H1 g1 hbl bln mem=>?_,fun nP H1 g1=>qn nP H1 g1⟩
 refine ⟨_,rfl,p,rfl,by omega,fun t' H2 g2 ht=>⟨_,rfl,?_⟩⟩
 by_cases hp:Pr.Prm p
 ·have p2:=hp.two
  have pb':=pb hp
  refine iteNE (ht.mpr hp) ?_
  refine ⟨_,rfl,_,rfl,bl,_,rfl,.inl (SqL.of (g2 _ _ hbl)),rfl,flat_ints bs,_,rfl,ite2 (fun d=>?_) (fun d=>?_)⟩
  ·have hb:=(mem p).mp (in_ints.mp d)
   refine ⟨_,rfl,(by show 1<=sizeLine; decide),fun e he=>⟨e,_,rfl,upd_same,fun dx H3 he2 hdx kk=>⟨rfl,dx,he2,?_⟩⟩⟩
   have ne:dx ≠ e:=fun z=>by subst z; rw [he2] at hdx; cases hdx
   refine qb P hp hb dx _ (fun x o hx=>?_) (by rw [without_ne ne]; exact hdx)
   have hx2:=g2 _ _ (g1 _ _ hx)
   have nb:=ne_of_none hx2 he
   rw [without_ne nb]
   exact kk x o nb (by rw [upd_ne nb]; exact hx2)
  ·have hb:¬ Jc.BadJ a b c p:=fun z=>d (in_ints.mpr ((mem p).mpr z))
   refine ⟨_,rfl,_,rfl,_,rfl,(by show 3<=sizeLine; decide),fun l hl=>?_⟩
   have g3:=same_new hl (.lst [.int a,.int b,.int c])
   refine ⟨_,rfl,_,rfl,_,rfl,p,k,rfl,p2,pb',k2,?_⟩
   refine ⟨l,a,b,c,p,k,rfl,upd_same,hp,pb',k1,k2,a6,b6,c6,Jc.leads hp P hb,fun t x y z H4 g4 ht4 ft=>?_⟩
   exact ⟨t,_,rfl,.inl ⟨SqL.of ht4,fun r hr=>qt P hp hb r x y z _ (g1.trans (g2.trans (g3.trans (g4.trans (same_new hr _))))) upd_same ft⟩⟩
 ·refine iteNF (Bool.eq_false_iff.mpr fun h=>hp (ht.mp h)) ?_
  exact ⟨(by show 1<=sizeLine; decide),qp P hp _ (g1.trans g2)⟩
theorem ok_root {f:Addr} {fd:FuncData} (F:Fun K "_law_root" "_law_root" s_root f fd) (T:Txt K mg t) :FnOk P w K mg base CX0 1 f fd ["_law_number","_law_prime_here"] (spRoot):=by
 refine F.ok sc_root (fun vs H Q E h=>?_) (fun cdv A outer s H vs Q E hr h=>?_)
 ·obtain ⟨_,_,rfl,_⟩:=h
  rfl
 obtain ⟨n,p,rfl,p2,p3,q⟩:=h
 refine ⟨_,pss_cons (ps_for PassesOwn.never rfl (pi_range1 rfl T.z_range (pa_cons (pe_op op_add (pe_op op_fdiv (pv 1) pe_int) pe_int) pa_nil)) (pg_name (i:=2) sc_root.nd rfl (Or.inl rfl)) (pss_one (ps_if (pt_cmpR op_eq (pe_op op_mod (pe_op op_sub (pe_op op_mulG (pv 2) (pv 2)) (pv 0)) (pv 1)) pe_int (nomark _)) (pss_one (ps_ret pe_bl)) pss_nil)))
  (pss_one (ps_ret pe_bl)),?_⟩
 refine ⟨_,rfl,_,_,rfl,rfl,⟨by decide,by decide⟩,_,_,rfl,rfl,p / 2+1,rfl,by omega,by omega,for_range (fun i σ H'=>∃ x:Option V,σ=[some (.int n),some (.int p),x]/\H=H'/\∀ r:Int,0<=r->r < i->(r*r - n) % p ≠ 0) ⟨none,rfl,rfl,fun r r0 r1=>by omega⟩ ?_ ?_⟩
 ·rintro i σ H' hi ⟨x,rfl,rfl,no⟩
  refine ⟨_,rfl,_,rfl,_,_,rfl,rfl,mulS (by omega) (by omega),_,rfl,_,_,rfl,rfl,_,rfl,_,_,rfl,rfl,(by show 0 < p; omega),rfl,_,rfl,?_⟩
  refine ite2 (fun c=>?_) (fun c=>?_)
  ·have f:((0+(i:Int))*(0+(i:Int)) - n) % p=0:=int_inj (decT c)
   exact q true ⟨fun _=>⟨_,Int.dvd_of_emod_eq_zero f⟩,fun _=>rfl⟩
  ·have f:¬ ((0+(i:Int))*(0+(i:Int)) - n) % p=0:=fun z=>decF c (congrArg V.int z)
   rw [Int.zero_add] at f
   refine ⟨_,rfl,rfl,fun r r0 r1=>?_⟩
   by_cases e:r=i
   ·rw [e]; exact f
   ·exact no r r0 (by omega)
 ·rintro σ H' ⟨x,rfl,rfl,no⟩
  refine q false ⟨fun z=>(by cases z),fun z=>?_⟩
  obtain ⟨r,r0,r1,r2⟩:=rt_small (by omega) z
  exact absurd r2 (no r r0 (by omega))
theorem ok_is_bad {f:Addr} {fd:FuncData} (F:Fun K "_law_is_bad" "_law_is_bad" s_is_bad f fd) (T:Txt K mg t) (H_fits_by_8:Has P w K mg base CX0 1 "_law_fits_by_8" ["_law_a","_law_b","_law_c"] (spFits)) (H_root:Has P w K mg base CX0 1 "_law_root" ["_law_number","_law_prime_here"] (spRoot)):FnOk P w K mg base CX0 2 f fd ["_law_numbers","_law_primes_here","_law_prime_here"] (spIsBad):=by
 obtain ⟨f_fits_by_8,d_fits_by_8,G_fits_by_8,b_fits_by_8,k_fits_by_8,m_fits_by_8⟩:=H_fits_by_8
 obtain ⟨f_root,d_root,G_root,b_root,k_root,m_root⟩:=H_root
 refine F.ok sc_is_bad (fun vs H Q E h=>?_) (fun cdv A outer s H vs Q E hr h=>?_)
 ·obtain ⟨_,_,_,_,_,_,_,_,_,_,_,_,_,_,rfl,_⟩:=h
  rfl
 obtain ⟨B,l,m,q0,q1,q2,M,n0,n1,n2,p,p0,p1,p2,rfl,K0,T0,hM,hp,pb,q⟩:=h
 have hr_fits_by_8:=hr.mono (show 1<=1 by decide)
 have hr_root:=hr.mono (show 1<=1 by decide)
 have two:=hp.two
 have P:=T0.P
 have y0:=T0.y0
 have y1:=T0.y1
 have y2:=T0.y2
 refine ⟨_,pss_cons (ps_if (pt_cmpR op_eq (pv 2) pe_int (nomark _)) (pss_one (ps_ret (pe_not (pe_call G_fits_by_8 hr_fits_by_8 rfl m_fits_by_8 k_fits_by_8 b_fits_by_8 .nil pass0 (pa_cons (pe_ix ix_list (pv 0) pe_int (fun _ _=>rfl)) (pa_cons (pe_ix ix_list (pv 0) pe_int (fun _ _=>rfl)) (pa_cons (pe_ix ix_list (pv 0) pe_int (fun _ _=>rfl)) pa_nil))))))) pss_nil)
  (pss_cons (ps_for PassesOwn.never rfl (pi_range1 rfl T.z_range (pa_cons pe_int pa_nil)) (pg_name (i:=3) sc_is_bad.nd rfl (Or.inr rfl)) (pss_one (ps_if (pt_cmpR op_in_seq (pv 2) (pe_ix ix_list (pv 1) (pv 3) (fun _ _=>rfl)) (by with_unfolding_all rfl)) (pss_cons (ps_setCI (k:=4) sc_is_bad.nd rfl (Or.inl rfl) rfl rfl (CompScope.gen (cl:=[("_law_numbers",_),("_law_at",_)]) ["_law_at","_law_numbers"] [3,0] [(".0",.local),("_law_k",.local),("_law_at",.cell),("_law_numbers",.cell)] rfl (by decide +kernel) (by decide +kernel) rfl rfl (by intro p hp; simp only [List.mem_cons,List.not_mem_nil,or_false] at hp; rcases hp with rfl | rfl <;> rfl) rfl (by intro p hp h; simp only [List.mem_cons,List.not_mem_nil,or_false] at hp; rcases hp with rfl | rfl | rfl | rfl <;> first | rfl | (rcases h with h | h <;> cases h)) (by decide) (by decide +kernel) rfl (by intro p hp; simp only [List.zip_cons_cons,List.zip_nil_left,List.mem_cons,List.not_mem_nil,or_false] at hp; rcases hp with rfl | rfl <;> exact ⟨rfl,rfl⟩)) (pi_range1 rfl T.z_range (pa_cons pe_int pa_nil)) (fun C s0 H0 fp pins=>pt_cmpR op_ne (pv 0) (pv 1) (nomark _)) (fun C s0 H0 fp pins=>pe_ix (ixK_list (K:=K) rfl) (pv 2) (pv 0) (fun _ _=>rfl)) (Or.inl rfl))
  (pss_one (ps_ret (pe_not (pe_call G_root hr_root rfl m_root k_root b_root .nil pass0 (pa_cons (pe_op op_sub pe_int (pe_op op_mulG (pe_ix ix_list (pv 4) pe_int (fun _ _=>rfl)) (pe_ix ix_list (pv 4) pe_int (fun _ _=>rfl)))) (pa_cons (pv 2) pa_nil))))))) pss_nil)))
  (pss_one (ps_ret pe_bl))),?_⟩
 refine ⟨_,rfl,rfl,_,rfl,ite2 (fun c=>?_) (fun c=>?_)⟩
 ·obtain rfl:p=2:=int_inj (decT c)
  refine ⟨_,rfl,l,_,_,_,rfl,rfl,SqL.of K0.hl,rfl,_,rfl,l,_,_,_,rfl,rfl,SqL.of K0.hl,rfl,_,rfl,l,_,_,_,rfl,rfl,SqL.of K0.hl,rfl,n0,n1,n2,rfl,fun d H1 g1 hd=>⟨_,rfl,q _ _ g1 ?_⟩⟩
  rw [bad_at2,<- hd]
  cases d <;> simp
 have n2':p ≠ 2:=fun z=>decF c (congrArg V.int z)
 refine ⟨3,rfl,by decide,by decide,for_range (fun i σ H'=>∃ x3 x4:Option V,σ=[some (.ref l),some (.ref m),some (.int p),x3,x4]/\Same H H'/\(0 < i->p ∉ p0)/\(1 < i->p ∉ p1)/\(2 < i->p ∉ p2)) ⟨none,none,rfl,Same.refl _,fun z=>by omega,fun z=>by omega,fun z=>by omega⟩ ?_ ?_⟩
 ·rintro i σ H1 hi ⟨x3,x4,rfl,g1,k0,k1,k2⟩
  have i3:i < 3:=hi
  have K1:=K0.grow g1
  obtain ⟨qi,pi,u,v,eq,hq,e1,no,fin⟩:∃ (qi:Addr) (pi:List Int) (u v:Int),atI [V.ref q0,.ref q1,.ref q2] (0+(i:Int))=some (.ref qi)/\H1 qi=some (.lst (pi.map V.int))/\(((((List.range 3).map fun (j:Nat)=>V.int (0+(j:Int))).filter (fun v=>!decide (v=V.int (0+(i:Int))))).map (fun v=>if v=.int 0 then .int n0 else if v=.int 1 then .int n1 else .int n2))=[V.int u,.int v]) /\
    (p ∉ pi->(0 < i+1->p ∉ p0)/\(1 < i+1->p ∉ p1)/\(2 < i+1->p ∉ p2))/\(u.natAbs<=1000000/\v.natAbs<=1000000/\(p ∈ pi->∀ b:Bool,(b=true ↔ Pl.Rt (0 - u*v) p)->((!b)=true ↔ Jc.BadJ n0 n1 n2 p))):=by
   obtain rfl | rfl | rfl:i=0\/i=1\/i=2:=by omega
   ·exact ⟨q0,p0,n1,n2,rfl,K1.h0,rfl,fun z=>⟨fun _=>z,fun y=>by omega,fun y=>by omega⟩,by omega,by omega,fun z b hb=>bad_rt hp n2' P ((T0.m0 p).mp z).2 hb⟩
   ·exact ⟨q1,p1,n0,n2,rfl,K1.h1,rfl,fun z=>⟨fun _=>k0 (by decide),fun _=>z,fun y=>by omega⟩,by omega,by omega,fun z b hb=>(bad_rt hp n2' P.rot ((T0.m1 p).mp z).2 (by rw [Int.mul_comm]; exact hb)).trans Jc.BadJ.rot⟩
   ·exact ⟨q2,p2,n0,n1,rfl,K1.h2,rfl,fun z=>⟨fun _=>k0 (by decide),fun _=>k1 (by decide),fun _=>z⟩,by omega,by omega,fun z b hb=>(bad_rt hp n2' P.rot.rot ((T0.m2 p).mp z).2 hb).trans (Jc.BadJ.rot.trans Jc.BadJ.rot)⟩
  refine ⟨_,rfl,_,rfl,_,rfl,m,_,_,_,rfl,rfl,SqL.of K1.hm,eq,qi,_,rfl,.inl (SqL.of hq),rfl,flat_ints pi,_,rfl,ite2 (fun d=>?_) (fun d=>?_)⟩
  ·have hm:=in_ints.mp d
   refine ⟨3,rfl,by decide,by decide,compIf_three (fun v=>!decide (v=V.int (0+(i:Int)))) (fun v=>if v=.int 0 then .int n0 else if v=.int 1 then .int n1 else .int n2) ?_ ?_ ?_⟩
   ·intro k H' Q' hk g kk
    exact ⟨_,rfl,_,rfl,rfl,_,rfl,kk _ (Same.refl _)⟩
   ·intro k H' Q' hk hp g kk
    have hk3:k=0\/k=1\/k=2:=by omega
    rcases hk3 with rfl | rfl | rfl
    ·exact ⟨_,rfl,_,rfl,l,_,_,_,rfl,rfl,SqL.of (g _ _ K1.hl),rfl,kk _ (Same.refl _)⟩
    ·exact ⟨_,rfl,_,rfl,l,_,_,_,rfl,rfl,SqL.of (g _ _ K1.hl),rfl,kk _ (Same.refl _)⟩
    ·exact ⟨_,rfl,_,rfl,l,_,_,_,rfl,rfl,SqL.of (g _ _ K1.hl),rfl,kk _ (Same.refl _)⟩
   intro b H2 g2 nb hb
   rw [e1] at hb
   refine ⟨_,rfl,b,_,_,_,rfl,rfl,SqL.of hb,rfl,_,rfl,b,_,_,_,rfl,rfl,SqL.of hb,rfl,_,_,rfl,rfl,mulS (by omega) (by omega),_,_,rfl,rfl,_,rfl,0 - u*v,p,rfl,by omega,pb,fun t ht=>⟨_,rfl,q _ _ (g1.trans g2) (fin.2.2 hm t ht)⟩⟩
  ·exact ⟨_,_,rfl,g1,no fun z=>d (in_ints.mpr z)⟩
 ·rintro σ H1 ⟨x3,x4,rfl,g1,k0,k1,k2⟩
  refine q false _ g1 ⟨fun z=>(Bool.false_ne_true z).elim,fun z=>?_⟩
  rcases z with ⟨z,_⟩ | ⟨z,_⟩ | ⟨_,_,z⟩
  ·omega
  ·exact absurd z n2'
  ·rcases z with ⟨z,_⟩ | ⟨z,_⟩ | ⟨z,_⟩
   ·exact absurd ((T0.m0 p).mpr ⟨hp,z⟩) (k0 (by decide))
   ·exact absurd ((T0.m1 p).mpr ⟨hp,z⟩) (k1 (by decide))
   ·exact absurd ((T0.m2 p).mpr ⟨hp,z⟩) (k2 (by decide))
theorem ok_fit {f:Addr} {fd:FuncData} (F:Fun K "_law_fit" "_law_fit" s_fit f fd) (T:Txt K mg t) (H_whole:Has P w K mg base CX0 1 "_law_whole" ["_law_found"] (spWhole)):FnOk P w K mg base CX0 2 f fd ["_law_found","_law_numbers","_law_prime_here","_law_k"] (spLFit):=by
 obtain ⟨f_whole,d_whole,G_whole,b_whole,k_whole,m_whole⟩:=H_whole
 refine F.ok sc_fit (fun vs H Q E h=>?_) (fun cdv A outer s H vs Q E hr h=>?_)
 ·obtain ⟨_,_,_,_,_,_,_,_,_,_,rfl,_⟩:=h
  rfl
 obtain ⟨t',l,a,b,c,p,x,y,z,k,rfl,ht,hl,a6,b6,c6,p2,pb,kb,ft,q⟩:=h
 have hr_whole:=hr.mono (show 1<=1 by decide)
 have w0:0 < p^k:=pow_pos' p2
 have wb:=pow_le p2 pb kb
 have fx0:=ft.x0
 have fx1:=ft.x1
 have fy0:=ft.y0
 have fy1:=ft.y1
 have fz0:=ft.z0
 have fz1:=ft.z1
 unfold Sm6 at a6 b6 c6
 refine ⟨_,pss_cons (ps_set (i:=4) sc_fit.nd rfl (Or.inr rfl) pe_int)
  (pss_cons (ps_for PassesOwn.never rfl (pi_range1 rfl T.z_range (pa_cons (pv 3) pa_nil)) (pg_name (i:=5) sc_fit.nd rfl (Or.inl rfl)) (pss_one (ps_set (i:=4) sc_fit.nd rfl (Or.inr rfl) (pe_op op_mulG (pv 4) (pv 2)))))
  (pss_cons (ps_if (PW.pt (pw_or (pt_not (pt_val (pe_callB call_isi rfl T.z_isinstance b_isi (pa_cons (pv 0) (pa_cons (pe_bltn (v:=.ty "tuple") rfl T.z_tuple b_tuple rfl) pa_nil))) (fun _=>rfl))) (pw_or1 (pt_cmpR op_ne (pe_callB call_len_seq rfl T.z_len PySem.boot_len (pa_cons (pv 0) pa_nil)) pe_int (nomark _))))) (pss_one (ps_ret pe_bl)) pss_nil)
  (pss_cons (ps_if (pt_not (pt_val (pe_callB (call_all rfl) rfl T.z_all b_all (pa_cons (pe_compC rfl (CompScope.gen (cl:=[("_law_power",_)]) ["_law_power"] [4] [(".0",.local),("_law_rest",.local),("_law_whole",.globalImplicit),("_law_power",.cell)] rfl (by decide +kernel) (by decide +kernel) rfl rfl (by intro p hp; simp only [List.mem_cons,List.not_mem_nil,or_false] at hp; rcases hp with rfl <;> rfl) rfl (by intro p hp h; simp only [List.mem_cons,List.not_mem_nil,or_false] at hp; rcases hp with rfl | rfl | rfl | rfl <;> first | rfl | (rcases h with h | h <;> cases h)) (by decide) (by decide +kernel) rfl (by intro p hp; simp only [List.zip_cons_cons,List.zip_nil_left,List.mem_cons,List.not_mem_nil,or_false] at hp; rcases hp with rfl <;> exact ⟨rfl,rfl⟩)) (pi_tup (pv 0)) (fun C s0 H0 fp pins=>pe_and (pe_call G_whole hr_whole rfl m_whole k_whole b_whole .nil pass0 (pa_cons (pv 0) pa_nil)) (pe_one (pe_chain op_le op_lt pe_int (pv 0) (pv 1))))) pa_nil)) (fun _=>rfl))) (pss_one (ps_ret pe_bl)) pss_nil)
  (pss_cons (ps_if (pt_val (pe_callB (call_all rfl) rfl T.z_all b_all (pa_cons (pe_compC rfl (CompScope.gen (cl:=[("_law_prime_here",_)]) ["_law_prime_here"] [2] [(".0",.local),("_law_rest",.local),("_law_prime_here",.cell)] rfl (by decide +kernel) (by decide +kernel) rfl rfl (by intro p hp; simp only [List.mem_cons,List.not_mem_nil,or_false] at hp; rcases hp with rfl <;> rfl) rfl (by intro p hp h; simp only [List.mem_cons,List.not_mem_nil,or_false] at hp; rcases hp with rfl | rfl | rfl <;> first | rfl | (rcases h with h | h <;> cases h)) (by decide) (by decide +kernel) rfl (by intro p hp; simp only [List.zip_cons_cons,List.zip_nil_left,List.mem_cons,List.not_mem_nil,or_false] at hp; rcases hp with rfl <;> exact ⟨rfl,rfl⟩)) (pi_tup (pv 0)) (fun C s0 H0 fp pins=>pe_cmpR op_eq (pe_op op_mod (pv 0) (pv 1)) pe_int (nomark _))) pa_nil)) (fun _=>rfl)) (pss_one (ps_ret pe_bl)) pss_nil)
  (pss_one (ps_ret (pe_cmpR op_eq (pe_op op_mod (pe_callB (call_sum rfl) rfl T.z_sum b_sum (pa_cons (pe_compPair rfl (CompScope2.gen (cl:=[]) [] [] [(".0",.local),("_law_number",.local),("_law_rest",.local)] rfl (by decide +kernel) (by decide +kernel) rfl rfl rfl (by intro p hp; cases hp) rfl (by intro p hp h; simp only [List.mem_cons,List.not_mem_nil,or_false] at hp; rcases hp with rfl | rfl | rfl <;> first | rfl | (rcases h with h | h <;> cases h)) (by decide) (by decide +kernel) rfl (by intro p hp; cases hp)) (pi_zipL rfl T.z_zip (pa_cons (pv 1) (pa_cons (pv 0) pa_nil))) (fun C s0 H0 fp pins=>pe_op op_mulG (pe_op op_mulG (pv 0) (pv 1)) (pv 1))) pa_nil)) (pv 4)) pe_int (nomark _)))))))),?_⟩
 refine ⟨_,rfl,k,rfl,by omega,by omega,for_range (fun i σ H'=>∃ x5:Option V,σ=[some (.ref t'),some (.ref l),some (.int p),some (.int k),some (.int (p^i)),x5]/\H=H') ⟨none,by rw [Int.pow_zero]; rfl,rfl⟩ ?_ ?_⟩
 ·rintro i σ H' hi ⟨x5,rfl,rfl⟩
  refine ⟨_,rfl,_,rfl,_,_,rfl,rfl,mulS (by omega) (by omega),some (.int (0+(i:Int))),?_,rfl⟩
  rw [Int.pow_succ]
  rfl
 rintro σ H' ⟨x5,rfl,rfl⟩
 rw [show (k:Int).toNat=k by omega]
 refine ⟨_,rfl,_,_,_,_,rfl,.inr ⟨_,rfl⟩,.of (.tup ht),rfl,_,rfl,iteF ?_⟩
 refine ⟨_,rfl,t',_,rfl,.inr (SqT.of ht),rfl,_,rfl,iteNS rfl ?_⟩
 refine ⟨_,rfl,t',rfl,⟨_,SqT.of ht⟩,comp_tupF (xs:=[.int x,.int y,.int z]) (SqT.of ht) (by show 3 < sizeLine; decide) (fun _=>.bl true) (fun H' g=>SqT.of (g _ _ ht)) ?_ ?_⟩
 ·intro i v H' Q' hv g kk
  obtain ⟨n,rfl,hn⟩:=get3i hv
  have n01:0<=n/\n < p^k:=by rcases hn with rfl | rfl | rfl <;> exact ⟨by omega,by omega⟩
  refine ⟨_,rfl,n,rfl,_,rfl,iteT ?_⟩
  refine ⟨_,rfl,_,_,rfl,rfl,_,rfl,iteE (decide_eq_true n01.1) ⟨_,rfl,_,_,rfl,rfl,?_⟩⟩
  have fin:=kk _ (Same.refl _)
  show Q' (.bl (decide (n < p^k))) _
  rw [decide_eq_true n01.2]
  exact fin
 intro l1 H1 g1 _ hl1
 refine ⟨l1,[true,true,true],rfl,hl1,_,rfl,iteNE rfl ?_⟩
 have ht1:=g1 _ _ ht
 refine ⟨_,rfl,t',rfl,⟨_,SqT.of ht1⟩,comp_tupF (xs:=[.int x,.int y,.int z]) (SqT.of ht1) (by show 3 < sizeLine; decide) (dvB p) (fun H' g=>SqT.of (g _ _ ht1)) ?_ ?_⟩
 ·intro i v H' Q' hv g kk
  obtain ⟨n,rfl,hn⟩:=get3i hv
  exact ⟨_,rfl,_,rfl,_,_,rfl,rfl,(by show 0 < p; omega),rfl,kk _ (Same.refl _)⟩
 intro l2 H2 g2 _ hl2
 refine ⟨l2,[decide (V.int (x % p)=V.int 0),decide (V.int (y % p)=V.int 0),decide (V.int (z % p)=V.int 0)],rfl,hl2,_,rfl,ite2 (fun c=>?_) (fun _=>?_)⟩
 ·obtain ⟨c1,c2,c3⟩:=all3.mp c
  exact absurd ⟨Int.dvd_of_emod_eq_zero (int_inj (decT c1)),Int.dvd_of_emod_eq_zero (int_inj (decT c2)),Int.dvd_of_emod_eq_zero (int_inj (decT c3))⟩ ft.nd
 have hl2':=g2 _ _ (g1 _ _ hl)
 have ht2:=g2 _ _ ht1
 have mul1:∀ {n r:Int},n.natAbs<=1000000->0<=r->r < p^k->IntMulOk n r/\IntMulOk (n*r) r:=fun {n r} h1 h2 h3=>by
  have:=nab h1 (show r.natAbs<=10^48 by omega)
  exact ⟨mulB (by omega) (by omega),mulB (by omega) (by omega)⟩
 refine ⟨_,rfl,_,rfl,l,t',_,_,rfl,SqL.of hl2',SqT.of ht2,compP_zipLF (xs:=[.int a,.int b,.int c]) (ys:=[.int x,.int y,.int z]) (fun H' g=>SqL.of (g _ _ hl2')) (fun H' g=>SqT.of (g _ _ ht2)) rfl (by show 3 < sizeLine; decide) prB ?_ ?_⟩
 ·intro i u v H' Q' hu hv g kk
  match i,hu,hv with
  | 0,hu,hv=>
   cases hu
   cases hv
   have m:=mul1 a6 fx0 fx1
   exact ⟨_,rfl,_,rfl,_,_,rfl,rfl,m.1,_,rfl,_,_,rfl,rfl,m.2,kk _ (Same.refl _)⟩
  | 1,hu,hv=>
   cases hu
   cases hv
   have m:=mul1 b6 fy0 fy1
   exact ⟨_,rfl,_,rfl,_,_,rfl,rfl,m.1,_,rfl,_,_,rfl,rfl,m.2,kk _ (Same.refl _)⟩
  | 2,hu,hv=>
   cases hu
   cases hv
   have m:=mul1 c6 fz0 fz1
   exact ⟨_,rfl,_,rfl,_,_,rfl,rfl,m.1,_,rfl,_,_,rfl,rfl,m.2,kk _ (Same.refl _)⟩
  | n+3,hu,_=>cases hu
 intro s H3 g3 _ hs
 refine ⟨s,[a*x*x,b*y*y,c*z*z],rfl,hs,_,rfl,_,_,rfl,rfl,w0,rfl,?_⟩
 have fin:=q _ (g1.trans (g2.trans g3))
 have e:[a*x*x,b*y*y,c*z*z].sum % p^k=0:=by
  refine Int.emod_eq_zero_of_dvd ?_
  have:=ft.fit
  rw [show [a*x*x,b*y*y,c*z*z].sum=a*x*x+b*y*y+c*z*z by simp [List.sum_cons]; omega]
  exact this
 show Q (.bl (decide (V.int ([a*x*x,b*y*y,c*z*z].sum % p^k)=V.int 0))) _
 rw [e]
 exact fin
theorem ok_alone {f:Addr} {fd:FuncData} (F:Fun K "_law_alone" "_law_alone" s_alone f fd) (T:Txt K mg t) :FnOk P w K mg base CX0 1 f fd ["_law_e","_law_sort"] (spAl3 t.c0 t.c8 t.c13):=by
 refine F.ok sc_alone (fun vs H Q E h=>?_) (fun cdv A outer s H vs Q E hr h=>?_)
 ·obtain ⟨_,_,_,_,rfl,_⟩:=h
  rfl
 obtain ⟨e,C,k,r,rfl,hk,hw,he,q⟩:=h
 have hu64:=hu64_of hr
 have hr3:r=0\/r=8\/r=13:=hw.elim (fun z=>.inl z.2) fun z=>.inr (z.imp (·.2) (·.2))
 obtain ⟨b0,b1,b2,b3,b4,b5,b6,b7,b8,b9,b10,b11,b12,b13,b14,i0,i1,i2,i3,i4,i5,i6,i7,i8,i9,i10,i11,i12,i13,i14,iv,X,eb⟩:∃ b0 b1 b2 b3 b4 b5 b6 b7 b8 b9 b10 b11 b12 b13 b14:Bool,W.kitOne K (.ref C) (.ref t.c0)=some b0/\W.kitOne K (.ref C) (.ref t.c1)=some b1/\W.kitOne K (.ref C) (.ref t.c2)=some b2/\W.kitOne K (.ref C) (.ref t.c3)=some b3/\W.kitOne K (.ref C) (.ref t.c4)=some b4/\W.kitOne K (.ref C) (.ref t.c5)=some b5/\W.kitOne K (.ref C) (.ref t.c6)=some b6/\W.kitOne K (.ref C) (.ref t.c7)=some b7/\W.kitOne K (.ref C) (.ref t.c8)=some b8/\W.kitOne K (.ref C) (.ref t.c9)=some b9/\W.kitOne K (.ref C) (.ref t.c10)=some b10/\W.kitOne K (.ref C) (.ref t.c11)=some b11/\W.kitOne K (.ref C) (.ref t.c12)=some b12/\W.kitOne K (.ref C) (.ref t.c13)=some b13/\W.kitOne K (.ref C) (.ref t.c14)=some b14/\W.kitOne K (.ref C) (.type "ValueError")=some true/\ExcCls K C/\[b0,b1,b2,b3,b4,b5,b6,b7,b8,b9,b10,b11,b12,b13,b14]=bls r 15:=by
  rcases hw with ⟨rfl,rfl⟩ | ⟨rfl,rfl⟩ | ⟨rfl,rfl⟩
  ·exact ⟨_,_,_,_,_,_,_,_,_,_,_,_,_,_,_,T.i_0,T.i_1,T.i_2,T.i_3,T.i_4,T.i_5,T.i_6,T.i_7,T.i_8,T.i_9,T.i_10,T.i_11,T.i_12,T.i_13,T.i_14,T.i_ve,T.exc,rfl⟩
  ·exact ⟨_,_,_,_,_,_,_,_,_,_,_,_,_,_,_,T.i_0_2,T.i_1_2,T.i_2_2,T.i_3_2,T.i_4_2,T.i_5_2,T.i_6_2,T.i_7_2,T.i_8_2,T.i_9_2,T.i_10_2,T.i_11_2,T.i_12_2,T.i_13_2,T.i_14_2,T.i_ve_2,T.exc_2,rfl⟩
  ·exact ⟨_,_,_,_,_,_,_,_,_,_,_,_,_,_,_,T.i_0_3,T.i_1_3,T.i_2_3,T.i_3_3,T.i_4_3,T.i_5_3,T.i_6_3,T.i_7_3,T.i_8_3,T.i_9_3,T.i_10_3,T.i_11_3,T.i_12_3,T.i_13_3,T.i_14_3,T.i_ve_3,T.exc_3,rfl⟩
 refine ⟨_,pss_cons (ps_set (i:=2) sc_alone.nd rfl (Or.inl rfl) (pe_lst (pa_isiS X (by rfl) (Or.inl (by rfl)) (by rfl) T.z_isinstance b_isi (.cons (by rfl) T.m_BadPlace (by decide) i0 (.cons (by rfl) T.m_Flat (by decide) i1 (.cons (by rfl) T.m_NoBack (by decide) i2 (.cons (by rfl) T.m_NoJoin (by decide) i3 .nil)))))))
  (pss_cons (ps_set (i:=2) sc_alone.nd rfl (Or.inl rfl) (pe_op op_cat (pv 2) (pe_lst (pa_isiS X (by rfl) (Or.inl (by rfl)) (by rfl) T.z_isinstance b_isi (.cons (by rfl) T.m_NoLine (by decide) i4 (.cons (by rfl) T.m_NoName (by decide) i5 (.cons (by rfl) T.m_NoNumber (by decide) i6 (.cons (by rfl) T.m_NoPair (by decide) i7 .nil))))))))
  (pss_cons (ps_set (i:=2) sc_alone.nd rfl (Or.inl rfl) (pe_op op_cat (pv 2) (pe_lst (pa_isiS X (by rfl) (Or.inl (by rfl)) (by rfl) T.z_isinstance b_isi (.cons (by rfl) T.m_NoPlace (by decide) i8 (.cons (by rfl) T.m_NoRow (by decide) i9 (.cons (by rfl) T.m_NoSign (by decide) i10 (.cons (by rfl) T.m_NoText (by decide) i11 .nil))))))))
  (pss_cons (ps_set (i:=2) sc_alone.nd rfl (Or.inl rfl) (pe_op op_cat (pv 2) (pe_lst (pa_isiS X (by rfl) (Or.inl (by rfl)) (by rfl) T.z_isinstance b_isi (.cons (by rfl) T.m_NoVertex (by decide) i12 (.cons (by rfl) T.m_NotPlain (by decide) i13 (.cons (by rfl) T.m_OffCurve (by decide) i14 .nil)))))))
  (pss_one (ps_ret (pe_and (pe_callB (call_isiS rfl) rfl T.z_isinstance b_isi (pa_cons (pv 0) (pa_cons (pe_bltn (v:=.ty "ValueError") rfl T.z_ValueError b_ValueError rfl) pa_nil)))
   (pe_one (pe_cmpR (op_eqBlG hu64) (pv 2) (pe_comp rfl (CompScope.one (k:=1) [(".0",.local),("_law_k",.local),("_law_sort",.cell)] rfl (by decide +kernel) (by decide +kernel) rfl rfl rfl rfl (by decide +kernel) (by decide) (by decide +kernel) rfl rfl) (pi_range1 rfl T.z_range (pa_cons pe_int pa_nil)) (fun C s0 H0 fp pins=>pe_cmpR op_eq (pv 0) (pv 1) (nomark _))) (nomark _))))))))),?_⟩
 refine ⟨e,rfl,he,(by show 4<=sizeLine; decide),fun p1 n1=>?_⟩
 have g1:=same_new n1 (.lst ([b0,b1,b2,b3].map V.bl))
 have he1:=he.same g1
 refine ⟨_,rfl,e,rfl,he1,(by show 4<=sizeLine; decide),fun p2 n2=>?_⟩
 have g2:=same_new n2 (.lst ([b4,b5,b6,b7].map V.bl))
 refine ⟨p1,p2,_,_,rfl,rfl,g2 _ _ upd_same,upd_same,(by show 8<=sizeLine; decide),fun p3 n3=>?_⟩
 have g3:=g2.trans (same_new n3 (.lst (([b0,b1,b2,b3].map V.bl) ++ ([b4,b5,b6,b7].map V.bl))))
 have he3:=he1.same g3
 refine ⟨_,rfl,e,rfl,he3,(by show 4<=sizeLine; decide),fun p4 n4=>?_⟩
 have g4:=same_new n4 (.lst ([b8,b9,b10,b11].map V.bl))
 refine ⟨p3,p4,_,_,rfl,rfl,g4 _ _ upd_same,upd_same,(by show 12<=sizeLine; decide),fun p5 n5=>?_⟩
 have g5:=g4.trans (same_new n5 (.lst (([b0,b1,b2,b3].map V.bl) ++ ([b4,b5,b6,b7].map V.bl) ++ ([b8,b9,b10,b11].map V.bl))))
 have he5:=he3.same g5
 refine ⟨_,rfl,e,rfl,he5,(by show 3<=sizeLine; decide),fun p6 n6=>?_⟩
 have g6:=same_new n6 (.lst ([b12,b13,b14].map V.bl))
 refine ⟨p5,p6,_,_,rfl,rfl,g6 _ _ upd_same,upd_same,(by show 15<=sizeLine; decide),fun p7 n7=>?_⟩
 have g7:=g6.trans (same_new n7 (.lst (([b0,b1,b2,b3].map V.bl) ++ ([b4,b5,b6,b7].map V.bl) ++ ([b8,b9,b10,b11].map V.bl) ++ ([b12,b13,b14].map V.bl))))
 have he7:=he5.same g7
 refine ⟨_,rfl,_,_,_,_,rfl,.inr ⟨_,rfl⟩,he7.ty X,iv,_,rfl,iteT ?_⟩
 have G:=(g1.trans (g3.trans (g5.trans g7)))
 refine ⟨_,rfl,15,rfl,by decide,by decide,fun acc hacc=>?_⟩
 refine ⟨fun i m H' vs=>i<=15/\m=15 - i/\vs=(bls k i).map V.bl/\Same H H'/\H' p7=some (.lst ((bls r 15).map V.bl))/\H' acc=some (.lst vs),⟨_,Nat.zero_le _,rfl,rfl,G.trans (same_new hacc _),same_new hacc _ _ _ (by rw [<- eb]; exact upd_same),upd_same⟩,?_⟩
 rintro i m H9 vs ⟨hi,rfl,rfl,g9,hl,ha⟩
 refine ⟨ha,?_⟩
 by_cases h3:i=15
 ·subst h3
  refine .inl ⟨Nat.le_refl _,?_⟩
  have z:=q _ g9
  rcases hr3 with rfl | rfl | rfl <;> rcases hk with rfl | rfl | rfl <;> exact ⟨p7,acc,bls _ 15,bls _ 15,rfl,rfl,hl,ha,rfl,rfl,z⟩
 ·refine .inr ⟨by (show i < 15; omega),?_,?_⟩
  ·rw [List.length_map,bls_len]
   exact Nat.lt_of_le_of_lt hi (by decide)
  ·rintro z H2 ⟨rfl,rfl⟩
   refine ⟨_,rfl,_,rfl,rfl,ha,15 - (i+1),by omega,by omega,rfl,?_,fun b o z=>?_,?_,upd_same⟩
   ·rw [bls_more,List.map_append]
    rfl
   ·rw [upd_ne (fun y=>by subst y; rw [G _ _ z] at hacc; cases hacc)]
    exact g9 b o z
   ·rw [upd_ne (fun y=>by subst y; rw [upd_same] at hacc; cases hacc)]
    exact hl
theorem ok_told {f:Addr} {fd:FuncData} (F:Fun K "_law_told" "_law_told" s_told f fd) (T:Txt K mg t) (H_fitting_rests:Has P w K mg base (XB P w) 11 "fitting_rests" ["a","b","c","prime","k"] (spFit t.c0 t.c8 t.c13)) (H_alone:Has P w K mg base CX0 1 "_law_alone" ["_law_e","_law_sort"] (spAl3 t.c0 t.c8 t.c13)):FnOk P w K mg base CX0 12 f fd ["_law_numbers","_law_prime_here","_law_k"] (spTold19):=by
 obtain ⟨f_fitting_rests,d_fitting_rests,G_fitting_rests,b_fitting_rests,k_fitting_rests,m_fitting_rests⟩:=H_fitting_rests
 obtain ⟨f_alone,d_alone,G_alone,b_alone,k_alone,m_alone⟩:=H_alone
 refine F.ok sc_told (fun vs H Q E h=>?_) (fun cdv A outer s H vs Q E hr h=>?_)
 ·obtain ⟨_,_,_,_,_,_,rfl,_⟩:=h
  rfl
 obtain ⟨l,a,b,c,p,k,rfl,hl,a6,b6,c6,pm,k1,k2,pb,qn,qp,qb,qt⟩:=h
 have hr_fitting_rests:=hr.mono (show 11<=11 by decide)
 have hr_alone:=hr.mono (show 1<=11 by decide)
 refine ⟨_,pss_cons (ps_set (i:=3) sc_told.nd rfl (Or.inl rfl) pe_non)
  (pss_cons (ps_set (i:=4) sc_told.nd rfl (Or.inl rfl) pe_non)
  (pss_cons (ps_tryU (iy:=4) (i:=5) (C1:=t.c0) (C2:=t.c8) (C3:=t.c13) G_fitting_rests hr_fitting_rests rfl m_fitting_rests k_fitting_rests b_fitting_rests (pa_cons (pe_ix ix_list (pv 0) pe_int (fun _ _=>rfl)) (pa_cons (pe_ix ix_list (pv 0) pe_int (fun _ _=>rfl)) (pa_cons (pe_ix ix_list (pv 0) pe_int (fun _ _=>rfl)) (pa_cons (pv 1) (pa_cons (pv 2) pa_nil))))) T.m_CurveError rfl T.x_CurveError T.x_BadPlace T.u_BadPlace T.x_NoPlace T.u_NoPlace T.x_NotPlain T.u_NotPlain sc_told.nd rfl rfl rfl rfl (fun ea o u=>pss_one (ps_set (i:=3) sc_told.nd rfl (Or.inl rfl) (pv 5))) (fun ea=>pss_one (ps_set (i:=3) sc_told.nd rfl (Or.inl rfl) (pv 5))))
  (pss_cons (ps_if (pt_cmpR op_isN (pv 3) pe_non (nomark _)) (pss_one (ps_ret (pe_tup (pa_cons pe_str (pa_cons (pv 4) pa_nil))))) pss_nil)
  (pss_cons (ps_if (pt_val (pe_call G_alone hr_alone rfl m_alone k_alone b_alone .nil pass0 (pa_cons (pv 3) (pa_cons pe_int pa_nil))) (fun _=>rfl)) (pss_one (ps_ret (pe_tup (pa_cons pe_str (pa_cons (pe_xfldS K (pv 3)) pa_nil))))) pss_nil)
  (pss_cons (ps_if (pt_val (pe_call G_alone hr_alone rfl m_alone k_alone b_alone .nil pass0 (pa_cons (pv 3) (pa_cons pe_int pa_nil))) (fun _=>rfl)) (pss_one (ps_ret (pe_tup (pa_cons pe_str (pa_cons pe_int pa_nil))))) pss_nil)
  (pss_one (ps_ret (pe_tup (pa_cons (pe_ix ix_list (pe_lst (pa_cons pe_str (pa_cons pe_str pa_nil))) (pe_callTy call_int1 rfl T.z_int b_int (pa_cons (pe_call G_alone hr_alone rfl m_alone k_alone b_alone .nil pass0 (pa_cons (pv 3) (pa_cons pe_int pa_nil))) pa_nil)) (fun _ _=>rfl)) (pa_cons pe_int pa_nil)))))))))),?_⟩
 refine ⟨_,rfl,l,_,_,_,rfl,rfl,SqL.of hl,rfl,_,rfl,l,_,_,_,rfl,rfl,SqL.of hl,rfl,_,rfl,l,_,_,_,rfl,rfl,SqL.of hl,rfl,_,rfl,_,rfl,a,b,c,p,k,rfl,a6,b6,c6,pm,k1,k2,pb,fun nP H1 g1=>?_,fun P np H1 g1=>?_,fun P hp hb dx H1 g1 hdx=>?_,fun P hp hb t' x y z H1 g1 ht ft=>?_⟩
 ·refine .inr ⟨rfl,t.c13,.inr rfl,rfl,fun e he=>⟨_,rfl,?_⟩⟩
  have g2:=same_new he (.ext (ExcAt t.c13 e))
  refine ⟨_,rfl,rfl,_,rfl,ite2 (fun c=>nomatch decT c) fun _=>?_⟩
  refine ⟨_,rfl,e,t.c13,0,13,rfl,.inl rfl,.inr (.inr ⟨rfl,rfl⟩),.inr upd_same,fun H3 g3=>⟨false,rfl,iteF ?_⟩⟩
  refine ⟨_,rfl,e,t.c13,8,13,rfl,.inr (.inl rfl),.inr (.inr ⟨rfl,rfl⟩),.inr (g3 _ _ upd_same),fun H4 g4=>⟨false,rfl,iteF ?_⟩⟩
  refine ⟨(by show 2<=sizeLine; decide),fun w hw=>?_⟩
  have g5:=same_new hw (.lst [.str ("other":Str),.str ("plain":Str)])
  refine ⟨_,rfl,e,t.c13,13,13,rfl,.inr (.inr rfl),.inr (.inr ⟨rfl,rfl⟩),.inr (g5 _ _ (g4 _ _ (g3 _ _ upd_same))),fun H6 g6=>.inr ⟨true,rfl,?_⟩⟩
  exact ⟨w,_,_,_,rfl,rfl,SqL.of (g6 _ _ upd_same),rfl,(by show 2<=sizeLine; decide),fun r hr=>qn nP r _ (g1.trans (g2.trans (g3.trans (g4.trans (g5.trans (g6.trans (same_new hr _))))))) upd_same⟩
 ·refine .inr ⟨rfl,t.c8,.inl rfl,rfl,fun e he=>⟨_,rfl,?_⟩⟩
  have g2:=same_new he (.ext (ExcAt t.c8 e))
  refine ⟨_,rfl,rfl,_,rfl,ite2 (fun c=>nomatch decT c) fun _=>?_⟩
  refine ⟨_,rfl,e,t.c8,0,8,rfl,.inl rfl,.inr (.inl ⟨rfl,rfl⟩),.inr upd_same,fun H3 g3=>⟨false,rfl,iteF ?_⟩⟩
  refine ⟨_,rfl,e,t.c8,8,8,rfl,.inr (.inl rfl),.inr (.inl ⟨rfl,rfl⟩),.inr (g3 _ _ upd_same),fun H4 g4=>⟨true,rfl,iteT ?_⟩⟩
  exact ⟨(by show 2<=sizeLine; decide),fun r hr=>qp P np r _ (g1.trans (g2.trans (g3.trans (g4.trans (same_new hr _))))) upd_same⟩
 ·refine .inl ⟨dx,rfl,rfl,fun e o he=>⟨_,rfl,?_⟩⟩
  have g2:=same_new he (.frz o (.ext (ExcD t.c0 e dx)))
  refine ⟨_,rfl,rfl,_,rfl,ite2 (fun c=>nomatch decT c) fun _=>?_⟩
  refine ⟨_,rfl,e,t.c0,0,0,rfl,.inl rfl,.inl ⟨rfl,rfl⟩,.inl ⟨dx,.inr ⟨o,upd_same⟩⟩,fun H3 g3=>⟨true,rfl,iteT ?_⟩⟩
  exact ⟨_,rfl,e,t.c0,dx,_,_,rfl,.inr ⟨o,g3 _ _ upd_same⟩,g3 _ _ (g2 _ _ hdx),T.fld_BadPlace,rfl,(by show 2<=sizeLine; decide),fun r hr=>qb P hp hb r _ (g1.trans (g2.trans (g3.trans (same_new hr _)))) upd_same⟩
 ·refine ⟨_,rfl,rfl,_,rfl,ite2 (fun _=>?_) fun c=>absurd rfl (decF c)⟩
  exact ⟨_,rfl,(by show 2<=sizeLine; decide),fun r hr=>qt P hp hb r t' x y z _ (g1.trans (same_new hr _)) upd_same (same_new hr _ _ _ ht) ft⟩
theorem ok_prime {f:Addr} {fd:FuncData} (F:Fun K "_law_prime" "_law_prime" s_prime f fd) (T:Txt K mg t) (H_churn:Has P w K mg base CX0 1 "_law_churn" ["_law_cell","_law_turn"] (spChurn)) (H_primes:Has P w K mg base CX0 1 "_law_primes" [] (spPrimes)):FnOk P w K mg base CX0 2 f fd ["_law_primes_here","_law_cell"] (spLPr):=by
 obtain ⟨f_churn,d_churn,G_churn,b_churn,k_churn,m_churn⟩:=H_churn
 obtain ⟨f_primes,d_primes,G_primes,b_primes,k_primes,m_primes⟩:=H_primes
 refine F.ok sc_prime (fun vs H Q E h=>?_) (fun cdv A outer s H vs Q E hr h=>?_)
 ·obtain ⟨_,_,_,_,_,_,_,_,_,_,_,_,_,_,rfl,_⟩:=h
  rfl
 obtain ⟨B,l,m,q0,q1,q2,M,n0,n1,n2,c,p0,p1,p2,rfl,K0,T0,q⟩:=h
 have hr_churn:=hr.mono (show 1<=1 by decide)
 have hr_primes:=hr.mono (show 1<=1 by decide)
 have hu64:=hu64_of hr
 have l0:=T0.R.l0
 have l1:=T0.R.l1
 have l2:=T0.R.l2
 refine ⟨_,pss_cons (ps_setCI (k:=2) sc_prime.nd rfl (Or.inl rfl) rfl rfl (CompScope.gen (cl:=[]) [] [] [(".0",.local),("_law_prime_here",.local)] rfl (by decide +kernel) (by decide +kernel) rfl rfl (by intro p hp; cases hp) rfl (by intro p hp h; simp only [List.mem_cons,List.not_mem_nil,or_false] at hp; rcases hp with rfl | rfl <;> first | rfl | (rcases h with h | h <;> cases h)) (by decide) (by decide +kernel) rfl (by intro p hp; cases hp)) (pi_list (pe_op op_cat (pe_op op_cat (pe_ix ix_list (pv 0) pe_int (fun _ _=>rfl)) (pe_ix ix_list (pv 0) pe_int (fun _ _=>rfl))) (pe_ix ix_list (pv 0) pe_int (fun _ _=>rfl)))) (fun C s0 H0 fp pins=>pt_cmpR op_lt (pv 0) (pe_op op_pow pe_int pe_int) (nomark _)) (fun C s0 H0 fp pins=>pv 0) (Or.inl rfl))
  (pss_cons (ps_set (i:=3) sc_prime.nd rfl (Or.inl rfl) (pe_op op_mod (pe_call G_churn hr_churn rfl m_churn k_churn b_churn .nil pass0 (pa_cons (pv 1) (pa_cons pe_int pa_nil))) pe_int))
  (pss_cons (ps_if (pt_cmpR op_eq (pv 3) pe_int (nomark _)) (pss_one (ps_ret pe_int)) pss_nil)
  (pss_cut (ps_if (PW.pt (pw_and (pt_cmpR op_lt (pv 3) pe_int (nomark _)) (pw_and1 (pt_cmpR (op_neNil hu64) (pv 2) (pe_lst pa_nil) (nomark _))))) (pss_one (ps_ret (pe_ix ix_list (pv 2) (pe_op op_mod (pe_call G_churn hr_churn rfl m_churn k_churn b_churn .nil pass0 (pa_cons (pv 1) (pa_cons pe_int pa_nil))) (pe_callB call_len_seq rfl T.z_len PySem.boot_len (pa_cons (pv 2) pa_nil))) (fun _ _=>rfl)))) pss_nil)
  (pss_cons (ps_if (pt_cmpR op_eq (pe_op op_mod (pe_call G_churn hr_churn rfl m_churn k_churn b_churn .nil pass0 (pa_cons (pv 1) (pa_cons pe_int pa_nil))) pe_int) pe_int (nomark _)) (pss_one (ps_ret (pe_ix ix_list (pe_lst (pa_cons pe_int (pa_cons pe_int (pa_cons pe_int (pa_cons pe_int (pa_cons pe_int (pa_cons pe_int (pa_cons pe_int pa_nil)))))))) (pe_op op_mod (pe_call G_churn hr_churn rfl m_churn k_churn b_churn .nil pass0 (pa_cons (pv 1) (pa_cons pe_int pa_nil))) pe_int) (fun _ _=>rfl)))) pss_nil)
  (pss_one (ps_ret (pe_ix ix_list (pe_call0 G_primes hr_primes rfl m_primes k_primes b_primes .nil pass0) (pe_op op_mod (pe_call G_churn hr_churn rfl m_churn k_churn b_churn .nil pass0 (pa_cons (pv 1) (pa_cons pe_int pa_nil))) pe_int) (fun _ _=>rfl)))))))),?_⟩
 refine ⟨_,rfl,m,_,_,_,rfl,rfl,SqL.of K0.hm,rfl,_,rfl,m,_,_,_,rfl,rfl,SqL.of K0.hm,rfl,q0,q1,_,_,rfl,rfl,K0.h0,K0.h1,?_,fun w1 k1=>?_⟩
 ·rw [List.length_map,List.length_map]
  exact Nat.le_trans (by show p0.length+p1.length<=100; omega) (by decide)
 have g1:=same_new k1 (.lst (p0.map V.int ++ p1.map V.int))
 have K1:=K0.grow g1
 refine ⟨_,rfl,m,_,_,_,rfl,rfl,SqL.of K1.hm,rfl,w1,q2,_,_,rfl,rfl,upd_same,K1.h2,?_,fun w2 k2=>?_⟩
 ·rw [List.length_append,List.length_map,List.length_map,List.length_map]
  exact Nat.le_trans (by show p0.length+p1.length+p2.length<=100; omega) (by decide)
 have g2:=same_new k2 (.lst (p0.map V.int ++ p1.map V.int ++ p2.map V.int))
 have hw:(upd (upd H w1 (.lst (p0.map V.int ++ p1.map V.int))) w2 (.lst (p0.map V.int ++ p1.map V.int ++ p2.map V.int))) w2=some (.lst ((p0 ++ p1 ++ p2).map V.int)):=by
  rw [upd_same,List.map_append,List.map_append]
 have g12:=g1.trans g2
 generalize upd (upd H w1 (.lst (p0.map V.int ++ p1.map V.int))) w2 (.lst (p0.map V.int ++ p1.map V.int ++ p2.map V.int))=H2 at hw g12 ⊢
 have prm:∀ x,x ∈ p0 ++ p1 ++ p2->Pr.Prm x:=fun x hx=>by
  rcases List.mem_append.mp hx with h | h
  ·rcases List.mem_append.mp h with h | h
   ·exact ((T0.m0 x).mp h).1
   ·exact ((T0.m1 x).mp h).1
  ·exact ((T0.m2 x).mp h).1
 have ln:(p0 ++ p1 ++ p2).length<=57:=by
  simp only [List.length_append]
  omega
 generalize p0 ++ p1 ++ p2=ps at hw prm ln
 refine ⟨w2,rfl,⟨_,SqL.of hw⟩,compIf_listF (xs:=ps.map V.int) (by rw [List.length_map]; exact line_big (by omega)) ltB id (fun H' g=>SqL.of (g _ _ hw)) ?_ ?_ ?_⟩
 ·intro i x H' Q' hx g k
  obtain ⟨n,hn,rfl⟩:=List.mem_map.mp (List.mem_of_getElem? hx)
  exact ⟨_,rfl,_,_,rfl,rfl,⟨by decide,by decide,by decide⟩,_,_,rfl,rfl,_,rfl,k _ (Same.refl _)⟩
 ·intro i x H' Q' hx e g k
  exact ⟨_,rfl,k _ (Same.refl _)⟩
 intro o H3 g3 no ho
 rw [List.map_id,ltB_map] at ho
 have own:∀ x,x ∈ ps.filter lt4->Pr.Prm x/\x<=10000:=fun x hx=>by
  have:=List.mem_filter.mp hx
  exact ⟨prm x this.1,by have h2:x < 10^Int.toNat 4:=of_decide_eq_true this.2; have:(10:Int)^Int.toNat 4=10000:=(by decide); omega⟩
 have lo:(ps.filter lt4).length<=57:=Nat.le_trans (List.length_filter_le _ _) ln
 generalize ps.filter lt4=os at ho own lo
 refine ⟨_,rfl,c,1,rfl,by decide,by decide,fun u u0 u1=>⟨_,_,rfl,rfl,(by show (0:Int) < 4; decide),?_⟩⟩
 refine ⟨_,rfl,rfl,_,rfl,ite2 (fun _=>q 2 _ (g12.trans g3) Jc.prm_2 (by decide)) (fun _=>?_)⟩
 refine ⟨fun σ' H'=>σ'=[some (.ref m),some (.int c),some (.ref o),some (.int (u % 4))]/\Same H3 H',?_,?_⟩
 ·refine ⟨_,rfl,_,_,rfl,rfl,_,rfl,ite2 (fun _=>?_) (fun _=>⟨rfl,Same.refl _⟩)⟩
  refine ⟨_,rfl,(by show 0<=sizeLine; decide),fun e he=>?_⟩
  have ho4:=same_new he (.lst []) _ _ ho
  refine ⟨o,e,os,rfl,rfl,ho4,upd_same,_,rfl,?_⟩
  cases os with
  | nil=>exact iteF ⟨rfl,same_new he _⟩
  | cons z zs=>
   refine iteT ⟨_,rfl,_,rfl,c,2,rfl,by decide,by decide,fun v v0 v1=>?_⟩
   have len:(((z :: zs).map V.int).length:Int)=((z :: zs).length:Int):=by rw [List.length_map]
   have pos:0 < ((z :: zs).length:Int):=by simp only [List.length_cons]; omega
   refine ⟨_,rfl,o,_,rfl,.inl (SqL.of ho4),_,_,rfl,rfl,(by rw [len]; exact pos),o,_,_,_,rfl,rfl,SqL.of ho4,atL2 (L:=z :: zs) (by rw [len]; exact (emod_b pos).1) (by rw [len]; exact (emod_b pos).2),?_⟩
   have hm:(z :: zs).getD (v % (((z :: zs).map V.int).length:Int)).toNat 0 ∈ z :: zs:=getD_mem (by rw [len]; have:=emod_b (x:=v) pos; omega)
   exact q _ _ (g12.trans (g3.trans (same_new he _))) (own _ hm).1 (own _ hm).2
 rintro _ H4 ⟨rfl,g4⟩
 refine ⟨_,rfl,c,9,rfl,by decide,by decide,fun v v0 v1=>⟨_,_,rfl,rfl,(by show (0:Int) < 4; decide),rfl,_,rfl,ite2 (fun _=>?_) (fun _=>?_)⟩⟩
 ·refine ⟨(by show 7<=sizeLine; decide),fun w hw=>?_⟩
  refine ⟨_,rfl,c,3,rfl,by decide,by decide,fun v v0 v1=>⟨_,_,rfl,rfl,(by show (0:Int) < 7; decide),w,_,_,_,rfl,rfl,SqL.of upd_same,atL2 (L:=P7) (by omega) (by show v % 7 < 7; omega),?_⟩⟩
  have h7:=p7 (v % 7).toNat (by omega)
  exact q _ _ (g12.trans (g3.trans (g4.trans (same_new hw _)))) (prm36 h7.1) h7.2
 ·refine ⟨rfl,fun sa H5 g5 hn5 h5=>?_⟩
  refine ⟨_,rfl,c,3,rfl,by decide,by decide,fun v v0 v1=>⟨_,_,rfl,rfl,(by show (0:Int) < 18; decide),sa,_,_,_,rfl,rfl,SqL.of h5,atL2 (L:=P20) (by omega) (by show v % 18 < 20; omega),?_⟩⟩
  have h20:=p20 (v % 18).toNat (by omega)
  exact q _ _ (g12.trans (g3.trans (g4.trans g5))) (prm36 h20.1) (by have:=h20.2.1; omega)
theorem ok_no_primes {f:Addr} {fd:FuncData} (F:Fun K "_law_no_primes" "_law_no_primes" s_no_primes f fd) (T:Txt K mg t) (H_primes:Has P w K mg base CX0 1 "_law_primes" [] (spPrimes)) (H_churn:Has P w K mg base CX0 1 "_law_churn" ["_law_cell","_law_turn"] (spChurn)) (H_told:Has P w K mg base CX0 12 "_law_told" ["_law_numbers","_law_prime_here","_law_k"] (spTold19)):FnOk P w K mg base CX0 13 f fd ["_law_numbers","_law_cell","_law_k"] (spNoPr):=by
 obtain ⟨f_primes,d_primes,G_primes,b_primes,k_primes,m_primes⟩:=H_primes
 obtain ⟨f_churn,d_churn,G_churn,b_churn,k_churn,m_churn⟩:=H_churn
 obtain ⟨f_told,d_told,G_told,b_told,k_told,m_told⟩:=H_told
 refine F.ok sc_no_primes (fun vs H Q E h=>?_) (fun cdv A outer s H vs Q E hr h=>?_)
 ·obtain ⟨_,_,_,_,_,_,rfl,_⟩:=h
  rfl
 obtain ⟨l,a,b,c,d,k,rfl,hl,a6,b6,c6,P,k1,k2,q⟩:=h
 have hr_primes:=hr.mono (show 1<=12 by decide)
 have hr_churn:=hr.mono (show 1<=12 by decide)
 have hr_told:=hr.mono (show 12<=12 by decide)
 have hu64:=hu64_of hr
 refine ⟨_,pss_cons (ps_set (i:=3) sc_no_primes.nd rfl (Or.inl rfl) (pe_call0 G_primes hr_primes rfl m_primes k_primes b_primes .nil pass0))
  (pss_cons (ps_set (i:=4) sc_no_primes.nd rfl (Or.inl rfl) (pe_op op_mulG (pe_ix ix_list (pv 3) (pe_op op_mod (pe_call G_churn hr_churn rfl m_churn k_churn b_churn .nil pass0 (pa_cons (pv 1) (pa_cons pe_int pa_nil))) pe_int) (fun _ _=>rfl)) (pe_ix ix_list (pv 3) (pe_op op_mod (pe_call G_churn hr_churn rfl m_churn k_churn b_churn .nil pass0 (pa_cons (pv 1) (pa_cons pe_int pa_nil))) pe_int) (fun _ _=>rfl))))
  (pss_cut (ps_if (pt_cmpR op_eq (pe_op op_mod (pe_call G_churn hr_churn rfl m_churn k_churn b_churn .nil pass0 (pa_cons (pv 1) (pa_cons pe_int pa_nil))) pe_int) pe_int (nomark _)) (pss_one (ps_set (i:=4) sc_no_primes.nd rfl (Or.inl rfl) (pe_op op_mulG (pe_ix ix_list (pe_lst (pa_cons pe_int (pa_cons pe_int (pa_cons pe_int (pa_cons pe_int (pa_cons pe_int (pa_cons pe_int (pa_cons pe_int pa_nil)))))))) (pe_op op_mod (pe_call G_churn hr_churn rfl m_churn k_churn b_churn .nil pass0 (pa_cons (pv 1) (pa_cons pe_int pa_nil))) pe_int) (fun _ _=>rfl)) (pe_ix ix_list (pe_lst (pa_cons pe_int (pa_cons pe_int (pa_cons pe_int (pa_cons pe_int (pa_cons pe_int pa_nil)))))) (pe_op op_mod (pe_call G_churn hr_churn rfl m_churn k_churn b_churn .nil pass0 (pa_cons (pv 1) (pa_cons pe_int pa_nil))) pe_int) (fun _ _=>rfl))))) pss_nil)
  (pss_cons (ps_for PassesOwn.never rfl (pi_list (pe_lst (pa_cons pe_int (pa_cons pe_int (pa_cons (pe_op op_sub pe_int (pe_ix ix_list (pv 3) (pe_op op_mod (pe_call G_churn hr_churn rfl m_churn k_churn b_churn .nil pass0 (pa_cons (pv 1) (pa_cons pe_int pa_nil))) pe_int) (fun _ _=>rfl))) (pa_cons (pv 4) pa_nil)))))) (pg_name (i:=5) sc_no_primes.nd rfl (Or.inl rfl)) (pss_one (ps_if (pt_cmpR (op_neD hu64) (pe_call G_told hr_told rfl m_told k_told b_told .nil pass0 (pa_cons (pv 0) (pa_cons (pv 5) (pa_cons (pv 2) pa_nil)))) (pe_tup (pa_cons pe_str (pa_cons pe_int pa_nil))) (nomark _)) (pss_one (ps_ret pe_bl)) pss_nil)))
  (pss_one (ps_ret pe_bl))))),?_⟩
 refine ⟨rfl,fun sa H1 g1 hn1 h1=>?_⟩
 have some17:∀ v:Int,atI (P20.map V.int) (v % 17)=some (.int (P20.getD (v % 17).toNat 0)):=fun v=>atL2 (L:=P20) (by omega) (by show v % 17 < 20; omega)
 refine ⟨_,rfl,_,rfl,d,4,rfl,by decide,by decide,fun u u0 u1=>⟨_,_,rfl,rfl,(by show (0:Int) < 17; decide),sa,_,_,_,rfl,rfl,SqL.of h1,some17 u,?_⟩⟩
 have hu:=p20 (u % 17).toNat (by omega)
 refine ⟨_,rfl,_,rfl,d,5,rfl,by decide,by decide,fun v v0 v1=>⟨_,_,rfl,rfl,(by show (0:Int) < 17; decide),sa,_,_,_,rfl,rfl,SqL.of h1,some17 v,?_⟩⟩
 have hv:=p20 (v % 17).toNat (by omega)
 refine ⟨_,_,rfl,rfl,mulS (by omega) (by omega),?_⟩
 have np1:=np_mul hu.2.2 hv.2.2
 have b1:=mul_le4 (by omega) hu.2.1 (by omega) hv.2.1
 refine ⟨fun σ' H'=>∃ n:Int,σ'=[some (.ref l),some (.int d),some (.int k),some (.ref sa),some (.int n),none]/\Same H1 H'/\¬ Pr.Prm n/\n<=1000000,?_,?_⟩
 ·refine ⟨_,rfl,d,10,rfl,by decide,by decide,fun v v0 v1=>⟨_,_,rfl,rfl,(by show (0:Int) < 2; decide),rfl,_,rfl,ite2 (fun _=>?_) (fun _=>⟨_,rfl,Same.refl _,np1,by omega⟩)⟩⟩
  refine ⟨(by show 7<=sizeLine; decide),fun w hw=>?_⟩
  refine ⟨_,rfl,d,4,rfl,by decide,by decide,fun v v0 v1=>⟨_,_,rfl,rfl,(by show (0:Int) < 7; decide),w,_,_,_,rfl,rfl,SqL.of upd_same,atL2 (L:=Pn7) (by omega) (by show v % 7 < 7; omega),?_⟩⟩
  have h7:=pn7 (v % 7).toNat (by omega)
  refine ⟨(by show 5<=sizeLine; decide),fun w' hw'=>?_⟩
  refine ⟨_,rfl,d,5,rfl,by decide,by decide,fun v' v0 v1=>⟨_,_,rfl,rfl,(by show (0:Int) < 5; decide),w',_,_,_,rfl,rfl,SqL.of upd_same,atL2 (L:=Pn5) (by omega) (by show v' % 5 < 5; omega),?_⟩⟩
  have h5:=pn5 (v' % 5).toNat (by omega)
  refine ⟨_,_,rfl,rfl,mulS (by omega) (by omega),?_⟩
  have b2:=mul_le4 (by omega) h7.2 (by omega) h5.2
  exact ⟨_,rfl,(same_new hw _).trans (same_new hw' _),np_mul h7.1 h5.1,by omega⟩
 rintro _ H2 ⟨n,rfl,g2,np,nb⟩
 have h2:=g2 _ _ h1
 refine ⟨_,rfl,_,rfl,d,6,rfl,by decide,by decide,fun v v0 v1=>⟨_,_,rfl,rfl,(by show (0:Int) < 17; decide),sa,_,_,_,rfl,rfl,SqL.of h2,some17 v,?_⟩⟩
 have hv:=p20 (v % 17).toNat (by omega)
 generalize P20.getD (v % 17).toNat 0=z at hv ⊢
 refine ⟨_,_,rfl,rfl,_,rfl,(by show 4<=sizeLine; decide),fun w hw=>?_⟩
 have g3:=same_new hw (.lst [.int 0,.int 1,.int (0 - z),.int n])
 have small:∀ {y:Int},y < 2->¬ Pr.Prm y:=fun h hp=>by have:=hp.two; omega
 have each:∀ {j:Nat} {x:V},[V.int 0,.int 1,.int (0 - z),.int n][j]?=some x->∃ y:Int,x=.int y/\¬ Pr.Prm y/\y<=1000000:=fun {j x} h=>by
  match j,h with
  | 0,h=>exact ⟨0,(Option.some.inj h).symm,small (by decide),by decide⟩
  | 1,h=>exact ⟨1,(Option.some.inj h).symm,small (by decide),by decide⟩
  | 2,h=>exact ⟨0 - z,(Option.some.inj h).symm,small (by omega),by omega⟩
  | 3,h=>exact ⟨n,(Option.some.inj h).symm,np,nb⟩
  | j+4,h=>cases h
 have gl:=g1.trans (g2.trans g3)
 refine ⟨w,rfl,⟨_,SqL.of upd_same⟩,for_list (xs:=[.int 0,.int 1,.int (0 - z),.int n]) (fun j σ H'=>∃ x5:Option V,σ=[some (.ref l),some (.int d),some (.int k),some (.ref sa),some (.int n),x5]/\Same (upd H2 w (.lst [.int 0,.int 1,.int (0 - z),.int n])) H') ⟨none,rfl,Same.refl _⟩ ?_ ?_ ?_⟩
 ·rintro j σ H4 hj ⟨x5,rfl,g4⟩
  exact SqL.of (g4 _ _ upd_same)
 ·rintro j x σ H4 hx ⟨x5,rfl,g4⟩
  obtain ⟨y,rfl,ny,yb⟩:=each hx
  refine ⟨_,rfl,_,rfl,_,rfl,l,a,b,c,y,k,rfl,(gl.trans g4) _ _ hl,a6,b6,c6,yb,k1,k2,fun z=>absurd z ny,fun z=>absurd P z,fun _ _ r H5 g5 hr=>?_,fun _ z=>absurd z ny,fun _ z=>absurd z ny⟩
  refine ⟨(by show 2<=sizeLine; decide),fun e he=>?_⟩
  refine ⟨_,_,.tup (same_new he _ _ _ hr) (.cons .str (.cons .int .nil)),.tup upd_same (.cons .str (.cons .int .nil)),shW (fun h=>h.1),shW (fun h=>h.1),?_⟩
  rw [eqvW]
  exact ⟨_,rfl,iteF ⟨_,rfl,g4.trans (g5.trans (same_new he _))⟩⟩
 ·rintro σ H4 ⟨x5,rfl,g4⟩
  exact q _ (gl.trans g4)
theorem ok_law {f:Addr} {fd:FuncData} (F:Fun K "law" "law" s_law f fd) (T:Txt K mg t) (H_cell_at:Has P w K mg base CX0 1 "_law_cell_at" ["_law_script","_law_k"] (spCell K)) (H_by_digits:Has P w K mg base CX0 2 "_law_by_digits" ["_law_cell","_law_many","_law_most"] (spLDig)) (H_plain:Has P w K mg base CX0 2 "_law_plain" ["_law_script","_law_start","_law_many","_law_most"] (spLPlain K)) (H_more:Has P w K mg base CX0 2 "_law_more" ["_law_numbers","_law_primes_here","_law_cell","_law_most"] (spMore)) (H_prime:Has P w K mg base CX0 2 "_law_prime" ["_law_primes_here","_law_cell"] (spLPr)) (H_churn:Has P w K mg base CX0 1 "_law_churn" ["_law_cell","_law_turn"] (spChurn)) (H_told:Has P w K mg base CX0 12 "_law_told" ["_law_numbers","_law_prime_here","_law_k"] (spTold19)) (H_is_bad:Has P w K mg base CX0 2 "_law_is_bad" ["_law_numbers","_law_primes_here","_law_prime_here"] (spIsBad)) (H_whole:Has P w K mg base CX0 1 "_law_whole" ["_law_found"] (spWhole)) (H_fit:Has P w K mg base CX0 2 "_law_fit" ["_law_found","_law_numbers","_law_prime_here","_law_k"] (spLFit)) (H_no_primes:Has P w K mg base CX0 13 "_law_no_primes" ["_law_numbers","_law_cell","_law_k"] (spNoPr)):FnOk P w K mg base CX0 14 f fd ["_law_script"] (spLaw K):=by
 obtain ⟨f_cell_at,d_cell_at,G_cell_at,b_cell_at,k_cell_at,m_cell_at⟩:=H_cell_at
 obtain ⟨f_by_digits,d_by_digits,G_by_digits,b_by_digits,k_by_digits,m_by_digits⟩:=H_by_digits
 obtain ⟨f_plain,d_plain,G_plain,b_plain,k_plain,m_plain⟩:=H_plain
 obtain ⟨f_more,d_more,G_more,b_more,k_more,m_more⟩:=H_more
 obtain ⟨f_prime,d_prime,G_prime,b_prime,k_prime,m_prime⟩:=H_prime
 obtain ⟨f_churn,d_churn,G_churn,b_churn,k_churn,m_churn⟩:=H_churn
 obtain ⟨f_told,d_told,G_told,b_told,k_told,m_told⟩:=H_told
 obtain ⟨f_is_bad,d_is_bad,G_is_bad,b_is_bad,k_is_bad,m_is_bad⟩:=H_is_bad
 obtain ⟨f_whole,d_whole,G_whole,b_whole,k_whole,m_whole⟩:=H_whole
 obtain ⟨f_fit,d_fit,G_fit,b_fit,k_fit,m_fit⟩:=H_fit
 obtain ⟨f_no_primes,d_no_primes,G_no_primes,b_no_primes,k_no_primes,m_no_primes⟩:=H_no_primes
 refine F.ok sc_law (fun vs H Q E h=>?_) (fun cdv A outer s H vs Q E hr h=>?_)
 ·obtain ⟨a,ns,rfl,_⟩:=h
  rfl
 obtain ⟨a,ns,rfl,hS,h63,hb,q⟩:=h
 have hu64:=hu64_of hr
 have hr_cell_at:=hr.mono (show 1<=13 by decide)
 have hr_by_digits:=hr.mono (show 2<=13 by decide)
 have hr_plain:=hr.mono (show 2<=13 by decide)
 have hr_more:=hr.mono (show 2<=13 by decide)
 have hr_prime:=hr.mono (show 2<=13 by decide)
 have hr_churn:=hr.mono (show 1<=13 by decide)
 have hr_told:=hr.mono (show 12<=13 by decide)
 have hr_is_bad:=hr.mono (show 2<=13 by decide)
 have hr_whole:=hr.mono (show 1<=13 by decide)
 have hr_fit:=hr.mono (show 2<=13 by decide)
 have hr_no_primes:=hr.mono (show 13<=13 by decide)
 refine ⟨_,pss_cons (ps_set (i:=1) sc_law.nd rfl (Or.inl rfl) (pe_call G_cell_at hr_cell_at rfl m_cell_at k_cell_at b_cell_at .nil pass0 (pa_cons (pv 0) (pa_cons pe_int pa_nil))))
  (pss_cons (ps_set (i:=2) sc_law.nd rfl (Or.inl rfl) (pe_ix ix_list (pe_lst (pa_cons pe_int (pa_cons pe_int (pa_cons (pe_op op_pow pe_int pe_int) pa_nil)))) (pe_op op_mod (pe_call G_cell_at hr_cell_at rfl m_cell_at k_cell_at b_cell_at .nil pass0 (pa_cons (pv 0) (pa_cons pe_int pa_nil))) pe_int) (fun _ _=>rfl)))
  (pss_cut (ps_if (pt_cmpR op_eq (pe_op op_mod (pe_op op_fdiv (pe_call G_cell_at hr_cell_at rfl m_cell_at k_cell_at b_cell_at .nil pass0 (pa_cons (pv 0) (pa_cons pe_int pa_nil))) pe_int) pe_int) pe_int (nomark _)) (pss_one (ps_asg (pe_call G_by_digits hr_by_digits rfl m_by_digits k_by_digits b_by_digits .nil pass0 (pa_cons (pe_call G_cell_at hr_cell_at rfl m_cell_at k_cell_at b_cell_at .nil pass0 (pa_cons (pv 0) (pa_cons pe_int pa_nil))) (pa_cons pe_int (pa_cons (pv 2) pa_nil)))) (pg_tup rfl (pgs_cons (pg_name (i:=8) sc_law.nd rfl (Or.inl rfl)) (pgs_cons (pg_name (i:=9) sc_law.nd rfl (Or.inl rfl)) pgs_nil))))) (pss_cons (ps_asg (pe_call G_plain hr_plain rfl m_plain k_plain b_plain .nil pass0 (pa_cons (pv 0) (pa_cons pe_int (pa_cons pe_int (pa_cons (pv 2) pa_nil))))) (pg_tup rfl (pgs_cons (pg_name (i:=8) sc_law.nd rfl (Or.inl rfl)) (pgs_cons (pg_name (i:=9) sc_law.nd rfl (Or.inl rfl)) pgs_nil))))
  (pss_one (ps_expr (pe_call G_more hr_more rfl m_more k_more b_more .nil pass0 (pa_cons (pv 8) (pa_cons (pv 9) (pa_cons (pe_call G_cell_at hr_cell_at rfl m_cell_at k_cell_at b_cell_at .nil pass0 (pa_cons (pv 0) (pa_cons pe_int pa_nil))) (pa_cons (pv 2) pa_nil)))))))))
  (pss_cons (ps_set (i:=3) sc_law.nd rfl (Or.inl rfl) (pe_call G_prime hr_prime rfl m_prime k_prime b_prime .nil pass0 (pa_cons (pv 9) (pa_cons (pv 1) pa_nil))))
  (pss_cons (ps_set (i:=4) sc_law.nd rfl (Or.inl rfl) (pe_op op_add pe_int (pe_op op_mod (pe_call G_churn hr_churn rfl m_churn k_churn b_churn .nil pass0 (pa_cons (pe_call G_cell_at hr_cell_at rfl m_cell_at k_cell_at b_cell_at .nil pass0 (pa_cons (pv 0) (pa_cons pe_int pa_nil))) (pa_cons pe_int pa_nil))) pe_int)))
  (pss_cons (ps_asg (pe_call G_told hr_told rfl m_told k_told b_told .nil pass0 (pa_cons (pv 8) (pa_cons (pv 3) (pa_cons (pv 4) pa_nil)))) (pg_tup rfl (pgs_cons (pg_name (i:=5) sc_law.nd rfl (Or.inl rfl)) (pgs_cons (pg_name (i:=6) sc_law.nd rfl (Or.inl rfl)) pgs_nil))))
  (pss_cut (ps_if (pt_val (pe_call G_is_bad hr_is_bad rfl m_is_bad k_is_bad b_is_bad .nil pass0 (pa_cons (pv 8) (pa_cons (pv 9) (pa_cons (pv 3) pa_nil)))) (fun _=>rfl)) (pss_one (ps_if (PW.pt (pw_or (pt_cmpR op_ne (pv 5) pe_str (nomark _)) (pw_or (pt_not (pt_val (pe_call G_whole hr_whole rfl m_whole k_whole b_whole .nil pass0 (pa_cons (pv 6) pa_nil)) (fun _=>rfl))) (pw_or1 (pt_cmpR op_ne (pv 6) (pv 3) (nomark _)))))) (pss_one (ps_ret pe_bl)) pss_nil)) (pss_one (ps_if (PW.pt (pw_or (pt_cmpR op_ne (pv 5) pe_str (nomark _)) (pw_or1 (pt_not (pt_val (pe_call G_fit hr_fit rfl m_fit k_fit b_fit .nil pass0 (pa_cons (pv 6) (pa_cons (pv 8) (pa_cons (pv 3) (pa_cons (pv 4) pa_nil))))) (fun _=>rfl)))))) (pss_one (ps_ret pe_bl)) pss_nil)))
  (pss_cons (ps_if (pt_cmpR op_eq (pe_op op_mod (pe_call G_churn hr_churn rfl m_churn k_churn b_churn .nil pass0 (pa_cons (pv 1) (pa_cons pe_int pa_nil))) pe_int) pe_int (nomark _)) (pss_cons (ps_set (i:=7) sc_law.nd rfl (Or.inl rfl) (pe_lst (pa_cons (pe_lst (pa_cons (pe_ix ix_list (pv 8) pe_int (fun _ _=>rfl)) (pa_cons (pe_ix ix_list (pv 8) pe_int (fun _ _=>rfl)) (pa_cons pe_int pa_nil)))) (pa_cons (pe_lst (pa_cons pe_int (pa_cons (pe_ix ix_list (pv 8) pe_int (fun _ _=>rfl)) (pa_cons (pe_ix ix_list (pv 8) pe_int (fun _ _=>rfl)) pa_nil)))) (pa_cons (pe_lst (pa_cons pe_int (pa_cons (pe_ix ix_list (pv 8) pe_int (fun _ _=>rfl)) (pa_cons (pe_un un_neg pe_int) pa_nil)))) pa_nil)))))
  (pss_cons (ps_set (i:=7) sc_law.nd rfl (Or.inl rfl) (pe_ix ix_list (pv 7) (pe_op op_mod (pe_call G_churn hr_churn rfl m_churn k_churn b_churn .nil pass0 (pa_cons (pv 1) (pa_cons pe_int pa_nil))) pe_int) (fun _ _=>rfl)))
  (pss_one (ps_ret (pe_and (pe_cmpR (op_eqD hu64) (pe_call G_told hr_told rfl m_told k_told b_told .nil pass0 (pa_cons (pv 7) (pa_cons (pv 3) (pa_cons (pv 4) pa_nil)))) (pe_tup (pa_cons pe_str (pa_cons pe_int pa_nil))) (nomark _)) (pe_one (pe_cmpR (op_eqD hu64) (pe_call G_told hr_told rfl m_told k_told b_told .nil pass0 (pa_cons (pv 7) (pa_cons pe_int (pa_cons (pv 4) pa_nil)))) (pe_tup (pa_cons pe_str (pa_cons pe_int pa_nil))) (nomark _)))))))) pss_nil)
  (pss_one (ps_ret (pe_call G_no_primes hr_no_primes rfl m_no_primes k_no_primes b_no_primes .nil pass0 (pa_cons (pv 8) (pa_cons (pv 1) (pa_cons (pv 4) pa_nil))))))))))))),?_⟩
 refine ⟨_,rfl,a,ns,_,rfl,hS,by decide,?_⟩
 refine ⟨_,_,rfl,rfl,⟨by decide,by decide,by decide⟩,(by show 3<=sizeLine; decide),fun w hw=>?_⟩
 have g1:=same_new hw (.lst [.int 30,.int 1000,.int (10^Int.toNat 6)])
 have hS1:=g1.seq hS
 obtain ⟨M,eM,M0,M1⟩:=at3k (ns.getD (Int.toNat 0) 0)
 refine ⟨_,rfl,a,ns,_,rfl,hS1,by decide,_,_,rfl,rfl,(by show (0:Int) < 3; decide),w,_,_,_,rfl,rfl,SqL.of upd_same,eM,?_⟩
 generalize ns.getD (Int.toNat 1) 0=cl
 generalize upd H w (.lst [.int 30,.int 1000,.int (10^Int.toNat 6)])=H1 at g1 hS1 ⊢
 refine ⟨fun σ' H'=>∃ (l m q0 q1 q2:Addr) (n0 n1 n2:Int) (p0 p1 p2:List Int),σ'=[some (.ref a),some (.int cl),some (.int M),none,none,none,none,none,some (.ref l),some (.ref m)]/\Hs H1 H' l m q0 q1 q2 n0 n1 n2 p0 p1 p2/\Tri M n0 n1 n2 p0 p1 p2,?_,?_⟩
 ·refine ⟨_,rfl,a,ns,_,rfl,hS1,by decide,_,_,rfl,rfl,⟨by decide,by decide⟩,_,_,rfl,rfl,(by show (0:Int) < 2; decide),rfl,_,rfl,ite2 (fun _=>?_) (fun _=>?_)⟩
  ·refine ⟨_,rfl,a,ns,_,rfl,hS1,by decide,_,rfl,_,M,rfl,M0,M1,fun t H2 l m q0 q1 q2 n0 n1 n2 p0 p1 p2 K2 ht T2=>?_⟩
   exact ⟨t,_,rfl,SqT.of ht,rfl,_,_,rfl,_,_,rfl,rfl,l,m,q0,q1,q2,n0,n1,n2,p0,p1,p2,rfl,K2,T2⟩
  ·refine ⟨_,rfl,_,rfl,a,ns,M,rfl,hS1,M0,M1,fun u H2 l m q0 q1 q2 n0 n1 n2 p0 p1 p2 K2 hu md2=>?_⟩
   have hS2:=K2.same.seq hS1
   refine ⟨u,_,rfl,SqT.of hu,rfl,_,_,rfl,_,_,rfl,rfl,?_⟩
   refine ⟨_,rfl,_,rfl,_,rfl,a,ns,_,rfl,hS2,by decide,_,rfl,_,_,M,l,m,q0,q1,q2,n0,n1,n2,p0,p1,p2,rfl,M1,K2,md2,fun H3 n0 n1 n2 p0 p1 p2 K3 md=>?_⟩
   exact ⟨l,m,q0,q1,q2,n0,n1,n2,p0,p1,p2,rfl,K3,md.tri M1⟩
 rintro _ H4 ⟨l,m,q0,q1,q2,n0,n1,n2,p0,p1,p2,rfl,K4,T4⟩
 have P:=T4.P
 have s0:Sm6 n0:=by show n0.natAbs<=1000000; have:=T4.y0; omega
 have s1:Sm6 n1:=by show n1.natAbs<=1000000; have:=T4.y1; omega
 have s2:Sm6 n2:=by show n2.natAbs<=1000000; have:=T4.y2; omega
 refine ⟨_,rfl,_,rfl,_,l,m,q0,q1,q2,M,n0,n1,n2,cl,p0,p1,p2,rfl,K4,T4,fun p H5 g5 hp pb=>?_⟩
 have K5:=K4.grow g5
 have hS5:=K5.same.seq hS1
 refine ⟨_,rfl,a,ns,_,rfl,hS5,by decide,_,_,rfl,by decide,by decide,fun u u0 u1=>⟨_,_,rfl,rfl,(by show (0:Int) < 12; decide),_,_,rfl,rfl,?_⟩⟩
 obtain ⟨k,ek,k1,k2⟩:∃ k:Nat,1+u % 12=(k:Int)/\1<=k/\k<=12:=⟨(1+u % 12).toNat,by omega,by omega,by omega⟩
 show gName 4 (V.int (1+u % 12)) _ _ _
 rw [ek]
 have told:∀ {Hx:Hp} {Q':VK} {E':XK},Same H5 Hx->(∀ (r:Addr) (H':Hp),Same Hx H'->((Jc.BadJ n0 n1 n2 p/\H' r=some (.tup [.str ("bad":Str),.int p]))\/(¬ Jc.BadJ n0 n1 n2 p/\∃ (t:Addr) (x y z:Int),H' r=some (.tup [.str ("told":Str),.ref t])/\H' t=some (.tup [.int x,.int y,.int z])/\Ft p k n0 n1 n2 x y z))->Q' (.ref r) H')->spTold19 [.ref l,.int p,.int k] Hx Q' E':=
  fun {Hx Q' E'} gx qq=>⟨l,n0,n1,n2,p,k,rfl,gx _ _ K5.hl,s0,s1,s2,by omega,k1,k2,fun _=>pb,fun z=>absurd P z,fun _ z=>absurd hp z,fun _ _ z r H' g h=>qq r H' g (.inl ⟨z,h⟩),fun _ _ z r t x y w H' g h1 h2 ft=>qq r H' g (.inr ⟨z,t,x,y,w,h1,h2,ft⟩)⟩
 refine ⟨_,rfl,_,rfl,_,rfl,?_⟩
 unfold tNil
 refine told (Same.refl _) fun r H6 g6 hr6=>?_
 have K6:=K5.grow g6
 obtain ⟨wd,fd',hr',hx⟩:∃ (wd:Str) (fd':V),H6 r=some (.tup [.str wd,fd'])/\((Jc.BadJ n0 n1 n2 p/\wd=("bad":Str)/\fd'=.int p)\/(¬ Jc.BadJ n0 n1 n2 p/\wd=("told":Str)/\∃ (t:Addr) (x y z:Int),fd'=.ref t/\H6 t=some (.tup [.int x,.int y,.int z])/\Ft p k n0 n1 n2 x y z)):=by
  rcases hr6 with ⟨z,h⟩ | ⟨z,t,x,y,v,h,ht,ft⟩
  ·exact ⟨_,_,h,.inl ⟨z,rfl,rfl⟩⟩
  ·exact ⟨_,_,h,.inr ⟨z,rfl,t,x,y,v,rfl,ht,ft⟩⟩
 refine ⟨r,_,rfl,SqT.of hr',rfl,_,_,rfl,_,_,rfl,rfl,?_⟩
 refine ⟨fun σ' H'=>σ'=[some (.ref a),some (.int cl),some (.int M),some (.int p),some (.int k),some (.str wd),some fd',none,some (.ref l),some (.ref m)]/\Same H6 H',?_,?_⟩
 ·refine ⟨_,rfl,_,rfl,_,rfl,_,l,m,q0,q1,q2,M,n0,n1,n2,p,p0,p1,p2,rfl,K6,T4,M1,hp,pb,fun b H7 g7 hbd=>⟨_,rfl,?_⟩⟩
  rcases hx with ⟨z,rfl,rfl⟩ | ⟨z,rfl,t,x,y,v,rfl,ht,ft⟩
  ·obtain rfl:=hbd.mpr z
   refine iteT ⟨_,rfl,rfl,_,rfl,iteNS rfl ⟨_,rfl,p,rfl,_,rfl,iteF ⟨_,rfl,_,rfl,rfl,_,rfl,iteNS rfl ⟨rfl,g7⟩⟩⟩⟩
  ·obtain rfl:b=false:=Bool.eq_false_iff.mpr fun h=>z (hbd.mp h)
   refine iteF ⟨_,rfl,rfl,_,rfl,iteNS rfl ⟨_,rfl,_,rfl,_,rfl,_,rfl,t,l,n0,n1,n2,p,x,y,v,k,rfl,g7 _ _ ht,g7 _ _ K6.hl,s0,s1,s2,hp.two,pb,k2,ft,fun H8 g8=>⟨_,rfl,iteF ⟨rfl,g7.trans g8⟩⟩⟩⟩
 rintro _ H7 ⟨rfl,g7⟩
 have K7:=K6.grow g7
 refine ⟨_,rfl,cl,7,rfl,by decide,by decide,fun v v0 v1=>⟨_,_,rfl,rfl,(by show (0:Int) < 6; decide),rfl,_,rfl,ite2 (fun _=>?_) (fun _=>?_)⟩⟩
 ·refine ⟨_,rfl,l,_,_,_,rfl,rfl,SqL.of K7.hl,rfl,_,rfl,l,_,_,_,rfl,rfl,SqL.of K7.hl,rfl,(by show 3<=sizeLine; decide),fun w1 h1=>?_⟩
  have r1:=same_new h1 (.lst [.int n1,.int n2,.int 0])
  have K8:=K7.grow r1
  refine ⟨_,rfl,l,_,_,_,rfl,rfl,SqL.of K8.hl,rfl,_,rfl,l,_,_,_,rfl,rfl,SqL.of K8.hl,rfl,(by show 3<=sizeLine; decide),fun w2 h2=>?_⟩
  have r2:=same_new h2 (.lst [.int 9,.int n0,.int n1])
  have K9:=K8.grow r2
  refine ⟨_,rfl,l,_,_,_,rfl,rfl,SqL.of K9.hl,rfl,_,rfl,(by show 3<=sizeLine; decide),fun w3 h3=>?_⟩
  have r3:=same_new h3 (.lst [.int 2,.int n0,.int (-6)])
  refine ⟨(by show 3<=sizeLine; decide),fun w4 h4=>?_⟩
  have r4:=same_new h4 (.lst [.ref w1,.ref w2,.ref w3])
  refine ⟨_,rfl,_,rfl,cl,8,rfl,by decide,by decide,fun v v0 v1=>?_⟩
  obtain ⟨H8,e8⟩:∃ H8:Hp,H8=(upd (upd (upd (upd H7 w1 (.lst [.int n1,.int n2,.int 0])) w2 (.lst [.int 9,.int n0,.int n1])) w3 (.lst [.int 2,.int n0,.int (-6)])) w4 (.lst [.ref w1,.ref w2,.ref w3])):=⟨_,rfl⟩
  have h1':H8 w1=some (.lst [.int n1,.int n2,.int 0]):=by rw [e8]; exact (r2.trans (r3.trans r4)) _ _ upd_same
  have h2':H8 w2=some (.lst [.int 9,.int n0,.int n1]):=by rw [e8]; exact (r3.trans r4) _ _ upd_same
  have h3':H8 w3=some (.lst [.int 2,.int n0,.int (-6)]):=by rw [e8]; exact r4 _ _ upd_same
  obtain ⟨z,e,y0,y1,y2,hz,t0,t1,t2,nP⟩:∃ (z:Addr) (e:atI [V.ref w1,.ref w2,.ref w3] (v % 3)=some (.ref z)) (y0 y1 y2:Int),H8 z=some (.lst [.int y0,.int y1,.int y2])/\Sm6 y0/\Sm6 y1/\Sm6 y2/\¬ Pln y0 y1 y2:=by
   rcases (show v % 3=0\/v % 3=1\/v % 3=2 by omega) with h | h | h
   ·exact ⟨w1,by rw [h]; rfl,_,_,_,h1',s1,s2,by show (0:Int).natAbs<=1000000; decide,fun P=>P.c0 rfl⟩
   ·exact ⟨w2,by rw [h]; rfl,_,_,_,h2',by show (9:Int).natAbs<=1000000; decide,s0,s1,fun P=>P.sa 3 prm_3 ⟨1,rfl⟩⟩
   ·exact ⟨w3,by rw [h]; rfl,_,_,_,h3',by show (2:Int).natAbs<=1000000; decide,s0,by show (-6:Int).natAbs<=1000000; decide,fun P=>P.ca 2 Jc.prm_2 ⟨-3,rfl⟩ ⟨1,rfl⟩⟩
  rw [e8] at hz
  have plain:∀ {Hx:Hp} {Q':VK} {E':XK} (i:Int),i<=10000->Same (upd (upd (upd (upd H7 w1 (.lst [.int n1,.int n2,.int 0])) w2 (.lst [.int 9,.int n0,.int n1])) w3 (.lst [.int 2,.int n0,.int (-6)])) w4 (.lst [.ref w1,.ref w2,.ref w3])) Hx->(∀ (r:Addr) (H':Hp),Same Hx H'->H' r=some (.tup [.str ("plain":Str),.int 0])->Q' (.ref r) H')->spTold19 [.ref z,.int i,.int k] Hx Q' E':=
   fun {Hx Q' E'} i hi gx qq=>⟨z,y0,y1,y2,i,k,rfl,gx _ _ hz,t0,t1,t2,by omega,k1,k2,fun _=>hi,fun _ r H' g h=>qq r H' g h,fun P=>absurd P nP,fun P=>absurd P nP,fun P=>absurd P nP⟩
  refine ⟨_,_,rfl,rfl,(by show (0:Int) < 3; decide),w4,_,_,_,rfl,rfl,SqL.of upd_same,e,?_⟩
  refine ⟨_,rfl,_,rfl,_,rfl,?_⟩
  refine plain p pb (Same.refl _) fun r1 H9 g9 hr1=>?_
  refine ⟨(by show 2<=sizeLine; decide),fun w5 h5=>?_⟩
  have g10:=same_new h5 (.tup [.str ("plain":Str),.int 0])
  refine ⟨_,_,.tup (g10 _ _ hr1) (.cons .str (.cons .int .nil)),.tup upd_same (.cons .str (.cons .int .nil)),shW (fun h=>h.2),shW (fun h=>h.2),?_⟩
  rw [eqvW]
  refine ⟨_,rfl,iteT ?_⟩
  refine ⟨_,rfl,_,rfl,?_⟩
  refine plain 1 (by decide) (g9.trans g10) fun r2 H11 g11 hr2=>?_
  refine ⟨(by show 2<=sizeLine; decide),fun w6 h6=>?_⟩
  have g12:=same_new h6 (.tup [.str ("plain":Str),.int 0])
  refine ⟨_,_,.tup (g12 _ _ hr2) (.cons .str (.cons .int .nil)),.tup upd_same (.cons .str (.cons .int .nil)),shW (fun h=>h.2),shW (fun h=>h.2),?_⟩
  rw [eqvW]
  exact q _
 ·exact ⟨_,rfl,_,rfl,_,rfl,l,n0,n1,n2,cl,k,rfl,K7.hl,s0,s1,s2,P,k1,k2,fun H8 g8=>q _⟩
end
theorem all_mk {l:W.OpenLaw} {w:World} {K:W.Frag} {h:Heap} {mg:Str->Option Value} {fa qce qc0 qc1 qc2 qc3 qc4 qc5 qc6 qc7 qc8 qc9 qc10 qc11 qc12 qc13 qc14 qiBadPlace:Addr} (X:K.In h) (G:h.Ns mainGlobals mg) (hfa:mg "law"=some (.ref fa))
  {f1 f2 f3 f4 f5 f6 f7 f8 f9 f10 f11 f12 f13 f14 f15 f16 f17 f18 f19 f20 f21 f22 f23 f24 f25 f26 f27 f28 f29 f30 f31 f32 f33 f34 f36 f37 f38 f39 f40 f41 f42 f43 f44 f45 f46 f47 f48 f49 f50 f51 f52:Addr} {od1 an1 od2 an2 od3 an3 od4 an4 od5 an5 od6 an6 od7 an7 od8 an8 od9 an9 od10 an10 od11 an11 od12 an12 od13 an13 od14 an14 od15 an15 od16 an16 od17 an17 od18 an18 od19 an19 od20 an20 od21 an21 od22 an22 od23 an23 od24 an24 od25 an25 od26 an26 od27 an27 od28 an28 od29 an29 od30 an30 od31 an31 od32 an32 od33 an33 od34 an34 od35 an35 od36 an36 od37 an37 od38 an38 od39 an39 od40 an40 od41 an41 od42 an42 od43 an43 od44 an44 od45 an45 od46 an46 od47 an47 od48 an48 od49 an49 od50 an50 od51 an51 od52 an52:Option Addr} {sl1 sl2 sl3 sl4 sl5 sl6 sl7 sl8 sl9 sl10 sl11 sl12 sl13 sl14 sl15 sl16 sl17 sl18 sl19 sl20 sl21 sl22 sl23 sl24 sl25 sl26 sl27 sl28 sl29 sl30 sl31 sl32 sl33 sl34 sl35 sl36 sl37 sl38 sl39 sl40 sl41 sl42 sl43 sl44 sl45 sl46 sl47 sl48 sl49 sl50 sl51 sl52:Array (Option Value)} {oc1 kV1 dc1 pm1 cd1 ct1 oc2 kV2 dc2 pm2 cd2 ct2 oc3 kV3 dc3 pm3 cd3 ct3 oc4 kV4 dc4 pm4 cd4 ct4 oc5 kV5 dc5 pm5 cd5 ct5 oc6 kV6 dc6 pm6 cd6 ct6 oc7 kV7 dc7 pm7 cd7 ct7 oc8 kV8 dc8 pm8 cd8 ct8 oc9 kV9 dc9 pm9 cd9 ct9 oc10 kV10 dc10 pm10 cd10 ct10 oc11 kV11 dc11 pm11 cd11 ct11 oc12 kV12 dc12 pm12 cd12 ct12 oc13 kV13 dc13 pm13 cd13 ct13 oc14 kV14 dc14 pm14 cd14 ct14 oc15 kV15 dc15 pm15 cd15 ct15 oc16 kV16 dc16 pm16 cd16 ct16 oc17 kV17 dc17 pm17 cd17 ct17 oc18 kV18 dc18 pm18 cd18 ct18 oc19 kV19 dc19 pm19 cd19 ct19 oc20 kV20 dc20 pm20 cd20 ct20 oc21 kV21 dc21 pm21 cd21 ct21 oc22 kV22 dc22 pm22 cd22 ct22 oc23 kV23 dc23 pm23 cd23 ct23 oc24 kV24 dc24 pm24 cd24 ct24 oc25 kV25 dc25 pm25 cd25 ct25 oc26 kV26 dc26 pm26 cd26 ct26 oc27 kV27 dc27 pm27 cd27 ct27 oc28 kV28 dc28 pm28 cd28 ct28 oc29 kV29 dc29 pm29 cd29 ct29 oc30 kV30 dc30 pm30 cd30 ct30 oc31 kV31 dc31 pm31 cd31 ct31 oc32 kV32 dc32 pm32 cd32 ct32 oc33 kV33 dc33 pm33 cd33 ct33 oc34 kV34 dc34 pm34 cd34 ct34 oc35 kV35 dc35 pm35 cd35 ct35 oc36 kV36 dc36 pm36 cd36 ct36 oc37 kV37 dc37 pm37 cd37 ct37 oc38 kV38 dc38 pm38 cd38 ct38 oc39 kV39 dc39 pm39 cd39 ct39 oc40 kV40 dc40 pm40 cd40 ct40 oc41 kV41 dc41 pm41 cd41 ct41 oc42 kV42 dc42 pm42 cd42 ct42 oc43 kV43 dc43 pm43 cd43 ct43 oc44 kV44 dc44 pm44 cd44 ct44 oc45 kV45 dc45 pm45 cd45 ct45 oc46 kV46 dc46 pm46 cd46 ct46 oc47 kV47 dc47 pm47 cd47 ct47 oc48 kV48 dc48 pm48 cd48 ct48 oc49 kV49 dc49 pm49 cd49 ct49 oc50 kV50 dc50 pm50 cd50 ct50 oc51 kV51 dc51 pm51 cd51 ct51 oc52 kV52 dc52 pm52 cd52 ct52:Value}
  (a1:W.nsIn K mainGlobals "taken_out"=some (some (.ref f1))) (l1:K.lookup f1=some ⟨oc1,od1,.func (W.fnOf "taken_out" "taken_out" (defArgs s_taken_out) (defBody s_taken_out) (defScope s_taken_out) .none kV1 dc1 pm1 an1 cd1 ct1),sl1⟩) (g1:W.codeIn K cd1 "taken_out"=true) (k1:W.keepIn K (.ref f1)=true)
  (a2:W.nsIn K mainGlobals "divisor_after"=some (some (.ref f2))) (l2:K.lookup f2=some ⟨oc2,od2,.func (W.fnOf "divisor_after" "divisor_after" (defArgs s_divisor_after) (defBody s_divisor_after) (defScope s_divisor_after) .none kV2 dc2 pm2 an2 cd2 ct2),sl2⟩) (g2:W.codeIn K cd2 "divisor_after"=true) (k2:W.keepIn K (.ref f2)=true)
  (a3:W.nsIn K mainGlobals "prime_parts"=some (some (.ref f3))) (l3:K.lookup f3=some ⟨oc3,od3,.func (W.fnOf "prime_parts" "prime_parts" (defArgs s_prime_parts) (defBody s_prime_parts) (defScope s_prime_parts) .none kV3 dc3 pm3 an3 cd3 ct3),sl3⟩) (g3:W.codeIn K cd3 "prime_parts"=true) (k3:W.keepIn K (.ref f3)=true)
  (a4:W.nsIn K mainGlobals "core_of"=some (some (.ref f4))) (l4:K.lookup f4=some ⟨oc4,od4,.func (W.fnOf "core_of" "core_of" (defArgs s_core_of) (defBody s_core_of) (defScope s_core_of) .none kV4 dc4 pm4 an4 cd4 ct4),sl4⟩) (g4:W.codeIn K cd4 "core_of"=true) (k4:W.keepIn K (.ref f4)=true)
  (a5:W.nsIn K mainGlobals "is_without_squares"=some (some (.ref f5))) (l5:K.lookup f5=some ⟨oc5,od5,.func (W.fnOf "is_without_squares" "is_without_squares" (defArgs s_is_without_squares) (defBody s_is_without_squares) (defScope s_is_without_squares) .none kV5 dc5 pm5 an5 cd5 ct5),sl5⟩) (g5:W.codeIn K cd5 "is_without_squares"=true) (k5:W.keepIn K (.ref f5)=true)
  (a6:W.nsIn K mainGlobals "sign_of_two"=some (some (.ref f6))) (l6:K.lookup f6=some ⟨oc6,od6,.func (W.fnOf "sign_of_two" "sign_of_two" (defArgs s_sign_of_two) (defBody s_sign_of_two) (defScope s_sign_of_two) .none kV6 dc6 pm6 an6 cd6 ct6),sl6⟩) (g6:W.codeIn K cd6 "sign_of_two"=true) (k6:W.keepIn K (.ref f6)=true)
  (a7:W.nsIn K mainGlobals "sign_of_turn"=some (some (.ref f7))) (l7:K.lookup f7=some ⟨oc7,od7,.func (W.fnOf "sign_of_turn" "sign_of_turn" (defArgs s_sign_of_turn) (defBody s_sign_of_turn) (defScope s_sign_of_turn) .none kV7 dc7 pm7 an7 cd7 ct7),sl7⟩) (g7:W.codeIn K cd7 "sign_of_turn"=true) (k7:W.keepIn K (.ref f7)=true)
  (a8:W.nsIn K mainGlobals "sign_by"=some (some (.ref f8))) (l8:K.lookup f8=some ⟨oc8,od8,.func (W.fnOf "sign_by" "sign_by" (defArgs s_sign_by) (defBody s_sign_by) (defScope s_sign_by) .none kV8 dc8 pm8 an8 cd8 ct8),sl8⟩) (g8:W.codeIn K cd8 "sign_by"=true) (k8:W.keepIn K (.ref f8)=true)
  (a9:W.nsIn K mainGlobals "row_less"=some (some (.ref f9))) (l9:K.lookup f9=some ⟨oc9,od9,.func (W.fnOf "row_less" "row_less" (defArgs s_row_less) (defBody s_row_less) (defScope s_row_less) .none kV9 dc9 pm9 an9 cd9 ct9),sl9⟩) (g9:W.codeIn K cd9 "row_less"=true) (k9:W.keepIn K (.ref f9)=true)
  (a10:W.nsIn K mainGlobals "shares_of"=some (some (.ref f10))) (l10:K.lookup f10=some ⟨oc10,od10,.func (W.fnOf "shares_of" "shares_of" (defArgs s_shares_of) (defBody s_shares_of) (defScope s_shares_of) .none kV10 dc10 pm10 an10 cd10 ct10),sl10⟩) (g10:W.codeIn K cd10 "shares_of"=true) (k10:W.keepIn K (.ref f10)=true)
  (a11:W.nsIn K mainGlobals "is_plain"=some (some (.ref f11))) (l11:K.lookup f11=some ⟨oc11,od11,.func (W.fnOf "is_plain" "is_plain" (defArgs s_is_plain) (defBody s_is_plain) (defScope s_is_plain) .none kV11 dc11 pm11 an11 cd11 ct11),sl11⟩) (g11:W.codeIn K cd11 "is_plain"=true) (k11:W.keepIn K (.ref f11)=true)
  (a12:W.nsIn K mainGlobals "sign_at_two"=some (some (.ref f12))) (l12:K.lookup f12=some ⟨oc12,od12,.func (W.fnOf "sign_at_two" "sign_at_two" (defArgs s_sign_at_two) (defBody s_sign_at_two) (defScope s_sign_at_two) .none kV12 dc12 pm12 an12 cd12 ct12),sl12⟩) (g12:W.codeIn K cd12 "sign_at_two"=true) (k12:W.keepIn K (.ref f12)=true)
  (a13:W.nsIn K mainGlobals "sign_at_odd"=some (some (.ref f13))) (l13:K.lookup f13=some ⟨oc13,od13,.func (W.fnOf "sign_at_odd" "sign_at_odd" (defArgs s_sign_at_odd) (defBody s_sign_at_odd) (defScope s_sign_at_odd) .none kV13 dc13 pm13 an13 cd13 ct13),sl13⟩) (g13:W.codeIn K cd13 "sign_at_odd"=true) (k13:W.keepIn K (.ref f13)=true)
  (a14:W.nsIn K mainGlobals "sign_at"=some (some (.ref f14))) (l14:K.lookup f14=some ⟨oc14,od14,.func (W.fnOf "sign_at" "sign_at" (defArgs s_sign_at) (defBody s_sign_at) (defScope s_sign_at) .none kV14 dc14 pm14 an14 cd14 ct14),sl14⟩) (g14:W.codeIn K cd14 "sign_at"=true) (k14:W.keepIn K (.ref f14)=true)
  (a15:W.nsIn K mainGlobals "places_in_question"=some (some (.ref f15))) (l15:K.lookup f15=some ⟨oc15,od15,.func (W.fnOf "places_in_question" "places_in_question" (defArgs s_places_in_question) (defBody s_places_in_question) (defScope s_places_in_question) .none kV15 dc15 pm15 an15 cd15 ct15),sl15⟩) (g15:W.codeIn K cd15 "places_in_question"=true) (k15:W.keepIn K (.ref f15)=true)
  (a16:W.nsIn K mainGlobals "places_without_point"=some (some (.ref f16))) (l16:K.lookup f16=some ⟨oc16,od16,.func (W.fnOf "places_without_point" "places_without_point" (defArgs s_places_without_point) (defBody s_places_without_point) (defScope s_places_without_point) .none kV16 dc16 pm16 an16 cd16 ct16),sl16⟩) (g16:W.codeIn K cd16 "places_without_point"=true) (k16:W.keepIn K (.ref f16)=true)
  (a17:W.nsIn K mainGlobals "bad_places"=some (some (.ref f17))) (l17:K.lookup f17=some ⟨oc17,od17,.func (W.fnOf "bad_places" "bad_places" (defArgs s_bad_places) (defBody s_bad_places) (defScope s_bad_places) .none kV17 dc17 pm17 an17 cd17 ct17),sl17⟩) (g17:W.codeIn K cd17 "bad_places"=true) (k17:W.keepIn K (.ref f17)=true)
  (a18:W.nsIn K mainGlobals "is_prime"=some (some (.ref f18))) (l18:K.lookup f18=some ⟨oc18,od18,.func (W.fnOf "is_prime" "is_prime" (defArgs s_is_prime) (defBody s_is_prime) (defScope s_is_prime) .none kV18 dc18 pm18 an18 cd18 ct18),sl18⟩) (g18:W.codeIn K cd18 "is_prime"=true) (k18:W.keepIn K (.ref f18)=true)
  (a19:W.nsIn K mainGlobals "_law_cell_at"=some (some (.ref f19))) (l19:K.lookup f19=some ⟨oc19,od19,.func (W.fnOf "_law_cell_at" "_law_cell_at" (defArgs s_cell_at) (defBody s_cell_at) (defScope s_cell_at) .none kV19 dc19 pm19 an19 cd19 ct19),sl19⟩) (g19:W.codeIn K cd19 "_law_cell_at"=true) (k19:W.keepIn K (.ref f19)=true)
  (a20:W.nsIn K mainGlobals "_law_churn"=some (some (.ref f20))) (l20:K.lookup f20=some ⟨oc20,od20,.func (W.fnOf "_law_churn" "_law_churn" (defArgs s_churn) (defBody s_churn) (defScope s_churn) .none kV20 dc20 pm20 an20 cd20 ct20),sl20⟩) (g20:W.codeIn K cd20 "_law_churn"=true) (k20:W.keepIn K (.ref f20)=true)
  (a21:W.nsIn K mainGlobals "_law_primes"=some (some (.ref f21))) (l21:K.lookup f21=some ⟨oc21,od21,.func (W.fnOf "_law_primes" "_law_primes" (defArgs s_primes) (defBody s_primes) (defScope s_primes) .none kV21 dc21 pm21 an21 cd21 ct21),sl21⟩) (g21:W.codeIn K cd21 "_law_primes"=true) (k21:W.keepIn K (.ref f21)=true)
  (a22:W.nsIn K mainGlobals "_law_core"=some (some (.ref f22))) (l22:K.lookup f22=some ⟨oc22,od22,.func (W.fnOf "_law_core" "_law_core" (defArgs s_core) (defBody s_core) (defScope s_core) .none kV22 dc22 pm22 an22 cd22 ct22),sl22⟩) (g22:W.codeIn K cd22 "_law_core"=true) (k22:W.keepIn K (.ref f22)=true)
  (a23:W.nsIn K mainGlobals "_law_shared"=some (some (.ref f23))) (l23:K.lookup f23=some ⟨oc23,od23,.func (W.fnOf "_law_shared" "_law_shared" (defArgs s_shared) (defBody s_shared) (defScope s_shared) .none kV23 dc23 pm23 an23 cd23 ct23),sl23⟩) (g23:W.codeIn K cd23 "_law_shared"=true) (k23:W.keepIn K (.ref f23)=true)
  (a24:W.nsIn K mainGlobals "_law_split"=some (some (.ref f24))) (l24:K.lookup f24=some ⟨oc24,od24,.func (W.fnOf "_law_split" "_law_split" (defArgs s_split) (defBody s_split) (defScope s_split) .none kV24 dc24 pm24 an24 cd24 ct24),sl24⟩) (g24:W.codeIn K cd24 "_law_split"=true) (k24:W.keepIn K (.ref f24)=true)
  (a25:W.nsIn K mainGlobals "_law_fits_by_8"=some (some (.ref f25))) (l25:K.lookup f25=some ⟨oc25,od25,.func (W.fnOf "_law_fits_by_8" "_law_fits_by_8" (defArgs s_fits_by_8) (defBody s_fits_by_8) (defScope s_fits_by_8) .none kV25 dc25 pm25 an25 cd25 ct25),sl25⟩) (g25:W.codeIn K cd25 "_law_fits_by_8"=true) (k25:W.keepIn K (.ref f25)=true)
  (a26:W.nsIn K mainGlobals "_law_plain"=some (some (.ref f26))) (l26:K.lookup f26=some ⟨oc26,od26,.func (W.fnOf "_law_plain" "_law_plain" (defArgs s_plain) (defBody s_plain) (defScope s_plain) .none kV26 dc26 pm26 an26 cd26 ct26),sl26⟩) (g26:W.codeIn K cd26 "_law_plain"=true) (k26:W.keepIn K (.ref f26)=true)
  (a27:W.nsIn K mainGlobals "_law_more"=some (some (.ref f27))) (l27:K.lookup f27=some ⟨oc27,od27,.func (W.fnOf "_law_more" "_law_more" (defArgs s_more) (defBody s_more) (defScope s_more) .none kV27 dc27 pm27 an27 cd27 ct27),sl27⟩) (g27:W.codeIn K cd27 "_law_more"=true) (k27:W.keepIn K (.ref f27)=true)
  (a28:W.nsIn K mainGlobals "_law_by_digits"=some (some (.ref f28))) (l28:K.lookup f28=some ⟨oc28,od28,.func (W.fnOf "_law_by_digits" "_law_by_digits" (defArgs s_by_digits) (defBody s_by_digits) (defScope s_by_digits) .none kV28 dc28 pm28 an28 cd28 ct28),sl28⟩) (g28:W.codeIn K cd28 "_law_by_digits"=true) (k28:W.keepIn K (.ref f28)=true)
  (a29:W.nsIn K mainGlobals "power_by"=some (some (.ref f29))) (l29:K.lookup f29=some ⟨oc29,od29,.func (W.fnOf "power_by" "power_by" (defArgs s_power_by) (defBody s_power_by) (defScope s_power_by) .none kV29 dc29 pm29 an29 cd29 ct29),sl29⟩) (g29:W.codeIn K cd29 "power_by"=true) (k29:W.keepIn K (.ref f29)=true)
  (a30:W.nsIn K mainGlobals "has_root"=some (some (.ref f30))) (l30:K.lookup f30=some ⟨oc30,od30,.func (W.fnOf "has_root" "has_root" (defArgs s_has_root) (defBody s_has_root) (defScope s_has_root) .none kV30 dc30 pm30 an30 cd30 ct30),sl30⟩) (g30:W.codeIn K cd30 "has_root"=true) (k30:W.keepIn K (.ref f30)=true)
  (a31:W.nsIn K mainGlobals "least_without_root"=some (some (.ref f31))) (l31:K.lookup f31=some ⟨oc31,od31,.func (W.fnOf "least_without_root" "least_without_root" (defArgs s_least_without_root) (defBody s_least_without_root) (defScope s_least_without_root) .none kV31 dc31 pm31 an31 cd31 ct31),sl31⟩) (g31:W.codeIn K cd31 "least_without_root"=true) (k31:W.keepIn K (.ref f31)=true)
  (a32:W.nsIn K mainGlobals "root_by_odd_prime"=some (some (.ref f32))) (l32:K.lookup f32=some ⟨oc32,od32,.func (W.fnOf "root_by_odd_prime" "root_by_odd_prime" (defArgs s_root_by_odd_prime) (defBody s_root_by_odd_prime) (defScope s_root_by_odd_prime) .none kV32 dc32 pm32 an32 cd32 ct32),sl32⟩) (g32:W.codeIn K cd32 "root_by_odd_prime"=true) (k32:W.keepIn K (.ref f32)=true)
  (a33:W.nsIn K mainGlobals "root_by_prime"=some (some (.ref f33))) (l33:K.lookup f33=some ⟨oc33,od33,.func (W.fnOf "root_by_prime" "root_by_prime" (defArgs s_root_by_prime) (defBody s_root_by_prime) (defScope s_root_by_prime) .none kV33 dc33 pm33 an33 cd33 ct33),sl33⟩) (g33:W.codeIn K cd33 "root_by_prime"=true) (k33:W.keepIn K (.ref f33)=true)
  (a34:W.nsIn K mainGlobals "back_by"=some (some (.ref f34))) (l34:K.lookup f34=some ⟨oc34,od34,.func (W.fnOf "back_by" "back_by" (defArgs s_back_by) (defBody s_back_by) (defScope s_back_by) .none kV34 dc34 pm34 an34 cd34 ct34),sl34⟩) (g34:W.codeIn K cd34 "back_by"=true) (k34:W.keepIn K (.ref f34)=true)
  {ocC35:Value} {odC35:Option Addr} {slC35:Array (Option Value)} {nmC35 qnC35:Str} {bsC35 mrC35 suC35:List Value} {nsC35:Addr} {hdC35 abC35 dlC35:Bool} {snC35:List Str} {coC35:Option Bool}
  (o35:K.lookup qc0=some ⟨ocC35,odC35,.cls ⟨nmC35,bsC35,mrC35,nsC35,qnC35,hdC35,snC35,suC35,abC35,coC35,dlC35⟩,slC35⟩)
  (a35:W.nsIn K nsC35 "__init__"=some (some (.ref qiBadPlace))) (l35:K.lookup qiBadPlace=some ⟨oc35,od35,.func (W.fnOf "__init__" "BadPlace.__init__" (defArgs s_init_BadPlace) (defBody s_init_BadPlace) (defScope s_init_BadPlace) .none kV35 dc35 pm35 an35 cd35 ct35),sl35⟩) (g35:W.codeIn K cd35 "BadPlace.__init__"=true) (k35:W.keepIn K (.ref qiBadPlace)=true)
  (a36:W.nsIn K mainGlobals "product_of_alike"=some (some (.ref f36))) (l36:K.lookup f36=some ⟨oc36,od36,.func (W.fnOf "product_of_alike" "product_of_alike" (defArgs s_product_of_alike) (defBody s_product_of_alike) (defScope s_product_of_alike) .none kV36 dc36 pm36 an36 cd36 ct36),sl36⟩) (g36:W.codeIn K cd36 "product_of_alike"=true) (k36:W.keepIn K (.ref f36)=true)
  (a37:W.nsIn K mainGlobals "has_lasting_root"=some (some (.ref f37))) (l37:K.lookup f37=some ⟨oc37,od37,.func (W.fnOf "has_lasting_root" "has_lasting_root" (defArgs s_has_lasting_root) (defBody s_has_lasting_root) (defScope s_has_lasting_root) .none kV37 dc37 pm37 an37 cd37 ct37),sl37⟩) (g37:W.codeIn K cd37 "has_lasting_root"=true) (k37:W.keepIn K (.ref f37)=true)
  (a38:W.nsIn K mainGlobals "root_by_odd_power"=some (some (.ref f38))) (l38:K.lookup f38=some ⟨oc38,od38,.func (W.fnOf "root_by_odd_power" "root_by_odd_power" (defArgs s_root_by_odd_power) (defBody s_root_by_odd_power) (defScope s_root_by_odd_power) .none kV38 dc38 pm38 an38 cd38 ct38),sl38⟩) (g38:W.codeIn K cd38 "root_by_odd_power"=true) (k38:W.keepIn K (.ref f38)=true)
  (a39:W.nsIn K mainGlobals "root_by_power_of_two"=some (some (.ref f39))) (l39:K.lookup f39=some ⟨oc39,od39,.func (W.fnOf "root_by_power_of_two" "root_by_power_of_two" (defArgs s_root_by_power_of_two) (defBody s_root_by_power_of_two) (defScope s_root_by_power_of_two) .none kV39 dc39 pm39 an39 cd39 ct39),sl39⟩) (g39:W.codeIn K cd39 "root_by_power_of_two"=true) (k39:W.keepIn K (.ref f39)=true)
  (a40:W.nsIn K mainGlobals "lasting_root"=some (some (.ref f40))) (l40:K.lookup f40=some ⟨oc40,od40,.func (W.fnOf "lasting_root" "lasting_root" (defArgs s_lasting_root) (defBody s_lasting_root) (defScope s_lasting_root) .none kV40 dc40 pm40 an40 cd40 ct40),sl40⟩) (g40:W.codeIn K cd40 "lasting_root"=true) (k40:W.keepIn K (.ref f40)=true)
  (a41:W.nsIn K mainGlobals "rests_led"=some (some (.ref f41))) (l41:K.lookup f41=some ⟨oc41,od41,.func (W.fnOf "rests_led" "rests_led" (defArgs s_rests_led) (defBody s_rests_led) (defScope s_rests_led) .none kV41 dc41 pm41 an41 cd41 ct41),sl41⟩) (g41:W.codeIn K cd41 "rests_led"=true) (k41:W.keepIn K (.ref f41)=true)
  (a42:W.nsIn K mainGlobals "rests_found"=some (some (.ref f42))) (l42:K.lookup f42=some ⟨oc42,od42,.func (W.fnOf "rests_found" "rests_found" (defArgs s_rests_found) (defBody s_rests_found) (defScope s_rests_found) .none kV42 dc42 pm42 an42 cd42 ct42),sl42⟩) (g42:W.codeIn K cd42 "rests_found"=true) (k42:W.keepIn K (.ref f42)=true)
  (a43:W.nsIn K mainGlobals "fitting_rests"=some (some (.ref f43))) (l43:K.lookup f43=some ⟨oc43,od43,.func (W.fnOf "fitting_rests" "fitting_rests" (defArgs s_fitting_rests) (defBody s_fitting_rests) (defScope s_fitting_rests) .none kV43 dc43 pm43 an43 cd43 ct43),sl43⟩) (g43:W.codeIn K cd43 "fitting_rests"=true) (k43:W.keepIn K (.ref f43)=true)
  (a44:W.nsIn K mainGlobals "_law_whole"=some (some (.ref f44))) (l44:K.lookup f44=some ⟨oc44,od44,.func (W.fnOf "_law_whole" "_law_whole" (defArgs s_whole) (defBody s_whole) (defScope s_whole) .none kV44 dc44 pm44 an44 cd44 ct44),sl44⟩) (g44:W.codeIn K cd44 "_law_whole"=true) (k44:W.keepIn K (.ref f44)=true)
  (a45:W.nsIn K mainGlobals "_law_root"=some (some (.ref f45))) (l45:K.lookup f45=some ⟨oc45,od45,.func (W.fnOf "_law_root" "_law_root" (defArgs s_root) (defBody s_root) (defScope s_root) .none kV45 dc45 pm45 an45 cd45 ct45),sl45⟩) (g45:W.codeIn K cd45 "_law_root"=true) (k45:W.keepIn K (.ref f45)=true)
  (a46:W.nsIn K mainGlobals "_law_is_bad"=some (some (.ref f46))) (l46:K.lookup f46=some ⟨oc46,od46,.func (W.fnOf "_law_is_bad" "_law_is_bad" (defArgs s_is_bad) (defBody s_is_bad) (defScope s_is_bad) .none kV46 dc46 pm46 an46 cd46 ct46),sl46⟩) (g46:W.codeIn K cd46 "_law_is_bad"=true) (k46:W.keepIn K (.ref f46)=true)
  (a47:W.nsIn K mainGlobals "_law_fit"=some (some (.ref f47))) (l47:K.lookup f47=some ⟨oc47,od47,.func (W.fnOf "_law_fit" "_law_fit" (defArgs s_fit) (defBody s_fit) (defScope s_fit) .none kV47 dc47 pm47 an47 cd47 ct47),sl47⟩) (g47:W.codeIn K cd47 "_law_fit"=true) (k47:W.keepIn K (.ref f47)=true)
  (a48:W.nsIn K mainGlobals "_law_alone"=some (some (.ref f48))) (l48:K.lookup f48=some ⟨oc48,od48,.func (W.fnOf "_law_alone" "_law_alone" (defArgs s_alone) (defBody s_alone) (defScope s_alone) .none kV48 dc48 pm48 an48 cd48 ct48),sl48⟩) (g48:W.codeIn K cd48 "_law_alone"=true) (k48:W.keepIn K (.ref f48)=true)
  (a49:W.nsIn K mainGlobals "_law_told"=some (some (.ref f49))) (l49:K.lookup f49=some ⟨oc49,od49,.func (W.fnOf "_law_told" "_law_told" (defArgs s_told) (defBody s_told) (defScope s_told) .none kV49 dc49 pm49 an49 cd49 ct49),sl49⟩) (g49:W.codeIn K cd49 "_law_told"=true) (k49:W.keepIn K (.ref f49)=true)
  (a50:W.nsIn K mainGlobals "_law_prime"=some (some (.ref f50))) (l50:K.lookup f50=some ⟨oc50,od50,.func (W.fnOf "_law_prime" "_law_prime" (defArgs s_prime) (defBody s_prime) (defScope s_prime) .none kV50 dc50 pm50 an50 cd50 ct50),sl50⟩) (g50:W.codeIn K cd50 "_law_prime"=true) (k50:W.keepIn K (.ref f50)=true)
  (a51:W.nsIn K mainGlobals "_law_no_primes"=some (some (.ref f51))) (l51:K.lookup f51=some ⟨oc51,od51,.func (W.fnOf "_law_no_primes" "_law_no_primes" (defArgs s_no_primes) (defBody s_no_primes) (defScope s_no_primes) .none kV51 dc51 pm51 an51 cd51 ct51),sl51⟩) (g51:W.codeIn K cd51 "_law_no_primes"=true) (k51:W.keepIn K (.ref f51)=true)
  (a52:W.nsIn K mainGlobals "law"=some (some (.ref f52))) (l52:K.lookup f52=some ⟨oc52,od52,.func (W.fnOf "law" "law" (defArgs s_law) (defBody s_law) (defScope s_law) .none kV52 dc52 pm52 an52 cd52 ct52),sl52⟩) (g52:W.codeIn K cd52 "law"=true) (k52:W.keepIn K (.ref f52)=true)
  (xm_CurveError:W.nsIn K mainGlobals "CurveError"=some (some (.ref qce)))
  (xm_BadPlace:W.nsIn K mainGlobals "BadPlace"=some (some (.ref qc0)))
  (xm_Flat:W.nsIn K mainGlobals "Flat"=some (some (.ref qc1)))
  (xm_NoBack:W.nsIn K mainGlobals "NoBack"=some (some (.ref qc2)))
  (xm_NoJoin:W.nsIn K mainGlobals "NoJoin"=some (some (.ref qc3)))
  (xm_NoLine:W.nsIn K mainGlobals "NoLine"=some (some (.ref qc4)))
  (xm_NoName:W.nsIn K mainGlobals "NoName"=some (some (.ref qc5)))
  (xm_NoNumber:W.nsIn K mainGlobals "NoNumber"=some (some (.ref qc6)))
  (xm_NoPair:W.nsIn K mainGlobals "NoPair"=some (some (.ref qc7)))
  (xm_NoPlace:W.nsIn K mainGlobals "NoPlace"=some (some (.ref qc8)))
  (xm_NoRow:W.nsIn K mainGlobals "NoRow"=some (some (.ref qc9)))
  (xm_NoSign:W.nsIn K mainGlobals "NoSign"=some (some (.ref qc10)))
  (xm_NoText:W.nsIn K mainGlobals "NoText"=some (some (.ref qc11)))
  (xm_NoVertex:W.nsIn K mainGlobals "NoVertex"=some (some (.ref qc12)))
  (xm_NotPlain:W.nsIn K mainGlobals "NotPlain"=some (some (.ref qc13)))
  (xm_OffCurve:W.nsIn K mainGlobals "OffCurve"=some (some (.ref qc14)))
  (xi_ce:W.kitOne K (.ref qc0) (.ref qce)=some true)
  (xi_0:W.kitOne K (.ref qc0) (.ref qc0)=some true)
  (xi_1:W.kitOne K (.ref qc0) (.ref qc1)=some false)
  (xi_2:W.kitOne K (.ref qc0) (.ref qc2)=some false)
  (xi_3:W.kitOne K (.ref qc0) (.ref qc3)=some false)
  (xi_4:W.kitOne K (.ref qc0) (.ref qc4)=some false)
  (xi_5:W.kitOne K (.ref qc0) (.ref qc5)=some false)
  (xi_6:W.kitOne K (.ref qc0) (.ref qc6)=some false)
  (xi_7:W.kitOne K (.ref qc0) (.ref qc7)=some false)
  (xi_8:W.kitOne K (.ref qc0) (.ref qc8)=some false)
  (xi_9:W.kitOne K (.ref qc0) (.ref qc9)=some false)
  (xi_10:W.kitOne K (.ref qc0) (.ref qc10)=some false)
  (xi_11:W.kitOne K (.ref qc0) (.ref qc11)=some false)
  (xi_12:W.kitOne K (.ref qc0) (.ref qc12)=some false)
  (xi_13:W.kitOne K (.ref qc0) (.ref qc13)=some false)
  (xi_14:W.kitOne K (.ref qc0) (.ref qc14)=some false)
  (xi_ve:W.kitOne K (.ref qc0) (.type "ValueError")=some true)
  (xe0:(W.clsIn K qc0).isSome=true)
  (xe1:W.findIn K (.ref qc0) "__getattribute__"=some (some (.builtin "BaseException.__getattribute__")))
  (xe2:W.findIn K (.ref qc0) "__getattr__"=some none)
  (xe3:W.findIn K (.ref qc0) "__class__"=some (some (.builtin "object.__class__")))
  (xe4:W.specialIn K (.builtin "object.__class__") "__get__"=some (some (.builtin "getset_descriptor.__get__")))
  (xe5:W.takesIn K (.builtin "object.__class__")=some true)
  (xe6:W.mroIn K qc0 (.type "object")=some true)
  (xe7:W.mroIn K qc0 (.type "BaseException")=some true)
  (xx_BadPlace:excInB K qc0 qiBadPlace=true)
  (xxf_BadPlace:W.isFn K (.ref qiBadPlace)=true)
  (xxn_BadPlace:W.findIn K (.ref qc0) "place"=some none)
  (xxd_BadPlace:(W.clsIn K qc0).map (·.hasDict)=some true)
  (xxs_BadPlace:W.findIn K (.ref qc0) "__setattr__"=some (some (.builtin "object.__setattr__")))
  (xxo_BadPlace:(W.clsIn K qc0).any (fun cd=>onlyVE cd.mro)=true)
  (xi_ce_2:W.kitOne K (.ref qc8) (.ref qce)=some true)
  (xi_0_2:W.kitOne K (.ref qc8) (.ref qc0)=some false)
  (xi_1_2:W.kitOne K (.ref qc8) (.ref qc1)=some false)
  (xi_2_2:W.kitOne K (.ref qc8) (.ref qc2)=some false)
  (xi_3_2:W.kitOne K (.ref qc8) (.ref qc3)=some false)
  (xi_4_2:W.kitOne K (.ref qc8) (.ref qc4)=some false)
  (xi_5_2:W.kitOne K (.ref qc8) (.ref qc5)=some false)
  (xi_6_2:W.kitOne K (.ref qc8) (.ref qc6)=some false)
  (xi_7_2:W.kitOne K (.ref qc8) (.ref qc7)=some false)
  (xi_8_2:W.kitOne K (.ref qc8) (.ref qc8)=some true)
  (xi_9_2:W.kitOne K (.ref qc8) (.ref qc9)=some false)
  (xi_10_2:W.kitOne K (.ref qc8) (.ref qc10)=some false)
  (xi_11_2:W.kitOne K (.ref qc8) (.ref qc11)=some false)
  (xi_12_2:W.kitOne K (.ref qc8) (.ref qc12)=some false)
  (xi_13_2:W.kitOne K (.ref qc8) (.ref qc13)=some false)
  (xi_14_2:W.kitOne K (.ref qc8) (.ref qc14)=some false)
  (xi_ve_2:W.kitOne K (.ref qc8) (.type "ValueError")=some true)
  (xe0_2:(W.clsIn K qc8).isSome=true)
  (xe1_2:W.findIn K (.ref qc8) "__getattribute__"=some (some (.builtin "BaseException.__getattribute__")))
  (xe2_2:W.findIn K (.ref qc8) "__getattr__"=some none)
  (xe3_2:W.findIn K (.ref qc8) "__class__"=some (some (.builtin "object.__class__")))
  (xe4_2:W.specialIn K (.builtin "object.__class__") "__get__"=some (some (.builtin "getset_descriptor.__get__")))
  (xe5_2:W.takesIn K (.builtin "object.__class__")=some true)
  (xe6_2:W.mroIn K qc8 (.type "object")=some true)
  (xe7_2:W.mroIn K qc8 (.type "BaseException")=some true)
  (xx_NoPlace:W.excIn K qc8 bmVE "ValueError.__new__"=true)
  (xi_ce_3:W.kitOne K (.ref qc13) (.ref qce)=some true)
  (xi_0_3:W.kitOne K (.ref qc13) (.ref qc0)=some false)
  (xi_1_3:W.kitOne K (.ref qc13) (.ref qc1)=some false)
  (xi_2_3:W.kitOne K (.ref qc13) (.ref qc2)=some false)
  (xi_3_3:W.kitOne K (.ref qc13) (.ref qc3)=some false)
  (xi_4_3:W.kitOne K (.ref qc13) (.ref qc4)=some false)
  (xi_5_3:W.kitOne K (.ref qc13) (.ref qc5)=some false)
  (xi_6_3:W.kitOne K (.ref qc13) (.ref qc6)=some false)
  (xi_7_3:W.kitOne K (.ref qc13) (.ref qc7)=some false)
  (xi_8_3:W.kitOne K (.ref qc13) (.ref qc8)=some false)
  (xi_9_3:W.kitOne K (.ref qc13) (.ref qc9)=some false)
  (xi_10_3:W.kitOne K (.ref qc13) (.ref qc10)=some false)
  (xi_11_3:W.kitOne K (.ref qc13) (.ref qc11)=some false)
  (xi_12_3:W.kitOne K (.ref qc13) (.ref qc12)=some false)
  (xi_13_3:W.kitOne K (.ref qc13) (.ref qc13)=some true)
  (xi_14_3:W.kitOne K (.ref qc13) (.ref qc14)=some false)
  (xi_ve_3:W.kitOne K (.ref qc13) (.type "ValueError")=some true)
  (xe0_3:(W.clsIn K qc13).isSome=true)
  (xe1_3:W.findIn K (.ref qc13) "__getattribute__"=some (some (.builtin "BaseException.__getattribute__")))
  (xe2_3:W.findIn K (.ref qc13) "__getattr__"=some none)
  (xe3_3:W.findIn K (.ref qc13) "__class__"=some (some (.builtin "object.__class__")))
  (xe4_3:W.specialIn K (.builtin "object.__class__") "__get__"=some (some (.builtin "getset_descriptor.__get__")))
  (xe5_3:W.takesIn K (.builtin "object.__class__")=some true)
  (xe6_3:W.mroIn K qc13 (.type "object")=some true)
  (xe7_3:W.mroIn K qc13 (.type "BaseException")=some true)
  (xx_NotPlain:W.excIn K qc13 bmVE "ValueError.__new__"=true)
  (xy1:W.specialIn K (.ref qce) "__getattribute__"=some (some (.builtin "type.__getattribute__")))
  (xy2:W.readsIn K qce (.type "type")=true)
  (xy3:W.findCls K (.ref qce) (.type "type") "__init__"=some (.val (.builtin "ValueError.__init__")))
  (xx_CurveError:W.excIn K qce bmVE "ValueError.__new__"=true)
  (xu_BadPlace:W.mroIn K qc0 (.ref qce)=some true)
  (xu_NoPlace:W.mroIn K qc8 (.ref qce)=some true)
  (xu_NotPlain:W.mroIn K qc13 (.ref qce)=some true)
  (xi_ib:W.kitOne K (.type "int") (.type "bool")=some false)
  (xz_isinstance:W.nsIn K mainGlobals "isinstance"=some none)
  (xz_int:W.nsIn K mainGlobals "int"=some none)
  (xz_bool:W.nsIn K mainGlobals "bool"=some none)
  (xz_len:W.nsIn K mainGlobals "len"=some none)
  (xz_range:W.nsIn K mainGlobals "range"=some none)
  (xz_all:W.nsIn K mainGlobals "all"=some none)
  (xz_abs:W.nsIn K mainGlobals "abs"=some none)
  (xz_sorted:W.nsIn K mainGlobals "sorted"=some none)
  (xz_list:W.nsIn K mainGlobals "list"=some none)
  (xz_set:W.nsIn K mainGlobals "set"=some none)
  (xz_sum:W.nsIn K mainGlobals "sum"=some none)
  (xz_tuple:W.nsIn K mainGlobals "tuple"=some none)
  (xz_zip:W.nsIn K mainGlobals "zip"=some none)
  (xz_ValueError:W.nsIn K mainGlobals "ValueError"=some none)
 :∃ fd:FuncData,(∀ (s:Shared) (v:Value),BindsTo s fd ⟨[v],[]⟩ [("_law_script",v)])/\∀ base:Heap,K.In base->base.Ns mainGlobals mg->FnOk l.prog w K mg base CX0 14 fa fd ["_law_script"] (spLaw K):=by
 have e:=hfa.symm.trans (W.mg_of X G a52)
 cases e
 have T:Txt K mg ⟨qce,qc0,qc1,qc2,qc3,qc4,qc5,qc6,qc7,qc8,qc9,qc10,qc11,qc12,qc13,qc14,qiBadPlace⟩:=⟨W.mg_of X G xm_CurveError,W.mg_of X G xm_BadPlace,W.mg_of X G xm_Flat,W.mg_of X G xm_NoBack,W.mg_of X G xm_NoJoin,W.mg_of X G xm_NoLine,W.mg_of X G xm_NoName,W.mg_of X G xm_NoNumber,W.mg_of X G xm_NoPair,W.mg_of X G xm_NoPlace,W.mg_of X G xm_NoRow,W.mg_of X G xm_NoSign,W.mg_of X G xm_NoText,W.mg_of X G xm_NoVertex,W.mg_of X G xm_NotPlain,W.mg_of X G xm_OffCurve,xi_ce,xi_0,xi_1,xi_2,xi_3,xi_4,xi_5,xi_6,xi_7,xi_8,xi_9,xi_10,xi_11,xi_12,xi_13,xi_14,xi_ve,xe0,xe1,xe2,xe3,xe4,xe5,xe6,xe7,xx_BadPlace,xxf_BadPlace,xxn_BadPlace,xxd_BadPlace,xxs_BadPlace,xxo_BadPlace,xi_ce_2,xi_0_2,xi_1_2,xi_2_2,xi_3_2,xi_4_2,xi_5_2,xi_6_2,xi_7_2,xi_8_2,xi_9_2,xi_10_2,xi_11_2,xi_12_2,xi_13_2,xi_14_2,xi_ve_2,xe0_2,xe1_2,xe2_2,xe3_2,xe4_2,xe5_2,xe6_2,xe7_2,xx_NoPlace,xi_ce_3,xi_0_3,xi_1_3,xi_2_3,xi_3_3,xi_4_3,xi_5_3,xi_6_3,xi_7_3,xi_8_3,xi_9_3,xi_10_3,xi_11_3,xi_12_3,xi_13_3,xi_14_3,xi_ve_3,xe0_3,xe1_3,xe2_3,xe3_3,xe4_3,xe5_3,xe6_3,xe7_3,xx_NotPlain,xy1,xy2,xy3,xx_CurveError,xu_BadPlace,xu_NoPlace,xu_NotPlain,xi_ib,W.mg_none_of X G xz_isinstance,W.mg_none_of X G xz_int,W.mg_none_of X G xz_bool,W.mg_none_of X G xz_len,W.mg_none_of X G xz_range,W.mg_none_of X G xz_all,W.mg_none_of X G xz_abs,W.mg_none_of X G xz_sorted,W.mg_none_of X G xz_list,W.mg_none_of X G xz_set,W.mg_none_of X G xz_sum,W.mg_none_of X G xz_tuple,W.mg_none_of X G xz_zip,W.mg_none_of X G xz_ValueError⟩
 have F1:=fun_mk (st:=s_taken_out) l1 g1 k1
 have b1:=F1.binds (ps:=["number","prime"]) fun _ _ _ _ _ _=>byL2 fun _ _=>rfl
 have F2:=fun_mk (st:=s_divisor_after) l2 g2 k2
 have b2:=F2.binds (ps:=["divisor"]) fun _ _ _ _ _ _=>byL1 fun _=>rfl
 have F3:=fun_mk (st:=s_prime_parts) l3 g3 k3
 have b3:=F3.binds (ps:=["number"]) fun _ _ _ _ _ _=>byL1 fun _=>rfl
 have F4:=fun_mk (st:=s_core_of) l4 g4 k4
 have b4:=F4.binds (ps:=["number"]) fun _ _ _ _ _ _=>byL1 fun _=>rfl
 have F5:=fun_mk (st:=s_is_without_squares) l5 g5 k5
 have b5:=F5.binds (ps:=["number"]) fun _ _ _ _ _ _=>byL1 fun _=>rfl
 have F6:=fun_mk (st:=s_sign_of_two) l6 g6 k6
 have b6:=F6.binds (ps:=["odd"]) fun _ _ _ _ _ _=>byL1 fun _=>rfl
 have F7:=fun_mk (st:=s_sign_of_turn) l7 g7 k7
 have b7:=F7.binds (ps:=["one","other"]) fun _ _ _ _ _ _=>byL2 fun _ _=>rfl
 have F8:=fun_mk (st:=s_sign_by) l8 g8 k8
 have b8:=F8.binds (ps:=["number","n"]) fun _ _ _ _ _ _=>byL2 fun _ _=>rfl
 have F9:=fun_mk (st:=s_row_less) l9 g9 k9
 have b9:=F9.binds (ps:=["row","taken","times"]) fun _ _ _ _ _ _=>byL3 fun _ _ _=>rfl
 have F10:=fun_mk (st:=s_shares_of) l10 g10 k10
 have b10:=F10.binds (ps:=["one","other"]) fun _ _ _ _ _ _=>byL2 fun _ _=>rfl
 have F11:=fun_mk (st:=s_is_plain) l11 g11 k11
 have b11:=F11.binds (ps:=["a","b","c"]) fun _ _ _ _ _ _=>byL3 fun _ _ _=>rfl
 have F12:=fun_mk (st:=s_sign_at_two) l12 g12 k12
 have b12:=F12.binds (ps:=["one","other"]) fun _ _ _ _ _ _=>byL2 fun _ _=>rfl
 have F13:=fun_mk (st:=s_sign_at_odd) l13 g13 k13
 have b13:=F13.binds (ps:=["one","other","prime"]) fun _ _ _ _ _ _=>byL3 fun _ _ _=>rfl
 have F14:=fun_mk (st:=s_sign_at) l14 g14 k14
 have b14:=F14.binds (ps:=["a","b","place"]) fun _ _ _ _ _ _=>byL3 fun _ _ _=>rfl
 have F15:=fun_mk (st:=s_places_in_question) l15 g15 k15
 have b15:=F15.binds (ps:=["a","b","c"]) fun _ _ _ _ _ _=>byL3 fun _ _ _=>rfl
 have F16:=fun_mk (st:=s_places_without_point) l16 g16 k16
 have b16:=F16.binds (ps:=["a","b","c"]) fun _ _ _ _ _ _=>byL3 fun _ _ _=>rfl
 have F17:=fun_mk (st:=s_bad_places) l17 g17 k17
 have b17:=F17.binds (ps:=["a","b","c"]) fun _ _ _ _ _ _=>byL3 fun _ _ _=>rfl
 have F18:=fun_mk (st:=s_is_prime) l18 g18 k18
 have b18:=F18.binds (ps:=["number"]) fun _ _ _ _ _ _=>byL1 fun _=>rfl
 have F19:=fun_mk (st:=s_cell_at) l19 g19 k19
 have b19:=F19.binds (ps:=["_law_script","_law_k"]) fun _ _ _ _ _ _=>byL2 fun _ _=>rfl
 have F20:=fun_mk (st:=s_churn) l20 g20 k20
 have b20:=F20.binds (ps:=["_law_cell","_law_turn"]) fun _ _ _ _ _ _=>byL2 fun _ _=>rfl
 have F21:=fun_mk (st:=s_primes) l21 g21 k21
 have b21:=F21.binds (ps:=[]) fun _ _ _ _ _ _=>byL0 rfl
 have F22:=fun_mk (st:=s_core) l22 g22 k22
 have b22:=F22.binds (ps:=["_law_number"]) fun _ _ _ _ _ _=>byL1 fun _=>rfl
 have F23:=fun_mk (st:=s_shared) l23 g23 k23
 have b23:=F23.binds (ps:=["_law_one","_law_other"]) fun _ _ _ _ _ _=>byL2 fun _ _=>rfl
 have F24:=fun_mk (st:=s_split) l24 g24 k24
 have b24:=F24.binds (ps:=["_law_number"]) fun _ _ _ _ _ _=>byL1 fun _=>rfl
 have F25:=fun_mk (st:=s_fits_by_8) l25 g25 k25
 have b25:=F25.binds (ps:=["_law_a","_law_b","_law_c"]) fun _ _ _ _ _ _=>byL3 fun _ _ _=>rfl
 have F26:=fun_mk (st:=s_plain) l26 g26 k26
 have b26:=F26.binds (ps:=["_law_script","_law_start","_law_many","_law_most"]) fun _ _ _ _ _ _=>byL4 fun _ _ _ _=>rfl
 have F27:=fun_mk (st:=s_more) l27 g27 k27
 have b27:=F27.binds (ps:=["_law_numbers","_law_primes_here","_law_cell","_law_most"]) fun _ _ _ _ _ _=>byL4 fun _ _ _ _=>rfl
 have F28:=fun_mk (st:=s_by_digits) l28 g28 k28
 have b28:=F28.binds (ps:=["_law_cell","_law_many","_law_most"]) fun _ _ _ _ _ _=>byL3 fun _ _ _=>rfl
 have F29:=fun_mk (st:=s_power_by) l29 g29 k29
 have b29:=F29.binds (ps:=["number","k","n"]) fun _ _ _ _ _ _=>byL3 fun _ _ _=>rfl
 have F30:=fun_mk (st:=s_has_root) l30 g30 k30
 have b30:=F30.binds (ps:=["number","prime"]) fun _ _ _ _ _ _=>byL2 fun _ _=>rfl
 have F31:=fun_mk (st:=s_least_without_root) l31 g31 k31
 have b31:=F31.binds (ps:=["prime"]) fun _ _ _ _ _ _=>byL1 fun _=>rfl
 have F32:=fun_mk (st:=s_root_by_odd_prime) l32 g32 k32
 have b32:=F32.binds (ps:=["number","prime"]) fun _ _ _ _ _ _=>byL2 fun _ _=>rfl
 have F33:=fun_mk (st:=s_root_by_prime) l33 g33 k33
 have b33:=F33.binds (ps:=["number","prime"]) fun _ _ _ _ _ _=>byL2 fun _ _=>rfl
 have F34:=fun_mk (st:=s_back_by) l34 g34 k34
 have b34:=F34.binds (ps:=["number","n"]) fun _ _ _ _ _ _=>byL2 fun _ _=>rfl
 have F35:=fun_mk (st:=s_init_BadPlace) l35 g35 k35
 have b35:=F35.binds (ps:=["self","place"]) fun _ _ _ _ _ _=>byL2 fun _ _=>rfl
 have F36:=fun_mk (st:=s_product_of_alike) l36 g36 k36
 have b36:=F36.binds (ps:=["factor","k"]) fun _ _ _ _ _ _=>byL2 fun _ _=>rfl
 have F37:=fun_mk (st:=s_has_lasting_root) l37 g37 k37
 have b37:=F37.binds (ps:=["number","prime"]) fun _ _ _ _ _ _=>byL2 fun _ _=>rfl
 have F38:=fun_mk (st:=s_root_by_odd_power) l38 g38 k38
 have b38:=F38.binds (ps:=["number","prime","power"]) fun _ _ _ _ _ _=>byL3 fun _ _ _=>rfl
 have F39:=fun_mk (st:=s_root_by_power_of_two) l39 g39 k39
 have b39:=F39.binds (ps:=["number","power"]) fun _ _ _ _ _ _=>byL2 fun _ _=>rfl
 have F40:=fun_mk (st:=s_lasting_root) l40 g40 k40
 have b40:=F40.binds (ps:=["number","prime","power"]) fun _ _ _ _ _ _=>byL3 fun _ _ _=>rfl
 have F41:=fun_mk (st:=s_rests_led) l41 g41 k41
 have b41:=F41.binds (ps:=["numbers","prime","power"]) fun _ _ _ _ _ _=>byL3 fun _ _ _=>rfl
 have F42:=fun_mk (st:=s_rests_found) l42 g42 k42
 have b42:=F42.binds (ps:=["numbers","prime","power"]) fun _ _ _ _ _ _=>byL3 fun _ _ _=>rfl
 have F43:=fun_mk (st:=s_fitting_rests) l43 g43 k43
 have b43:=F43.binds (ps:=["a","b","c","prime","k"]) fun _ _ _ _ _ _=>byL5 fun _ _ _ _ _=>rfl
 have F44:=fun_mk (st:=s_whole) l44 g44 k44
 have b44:=F44.binds (ps:=["_law_found"]) fun _ _ _ _ _ _=>byL1 fun _=>rfl
 have F45:=fun_mk (st:=s_root) l45 g45 k45
 have b45:=F45.binds (ps:=["_law_number","_law_prime_here"]) fun _ _ _ _ _ _=>byL2 fun _ _=>rfl
 have F46:=fun_mk (st:=s_is_bad) l46 g46 k46
 have b46:=F46.binds (ps:=["_law_numbers","_law_primes_here","_law_prime_here"]) fun _ _ _ _ _ _=>byL3 fun _ _ _=>rfl
 have F47:=fun_mk (st:=s_fit) l47 g47 k47
 have b47:=F47.binds (ps:=["_law_found","_law_numbers","_law_prime_here","_law_k"]) fun _ _ _ _ _ _=>byL4 fun _ _ _ _=>rfl
 have F48:=fun_mk (st:=s_alone) l48 g48 k48
 have b48:=F48.binds (ps:=["_law_e","_law_sort"]) fun _ _ _ _ _ _=>byL2 fun _ _=>rfl
 have F49:=fun_mk (st:=s_told) l49 g49 k49
 have b49:=F49.binds (ps:=["_law_numbers","_law_prime_here","_law_k"]) fun _ _ _ _ _ _=>byL3 fun _ _ _=>rfl
 have F50:=fun_mk (st:=s_prime) l50 g50 k50
 have b50:=F50.binds (ps:=["_law_primes_here","_law_cell"]) fun _ _ _ _ _ _=>byL2 fun _ _=>rfl
 have F51:=fun_mk (st:=s_no_primes) l51 g51 k51
 have b51:=F51.binds (ps:=["_law_numbers","_law_cell","_law_k"]) fun _ _ _ _ _ _=>byL3 fun _ _ _=>rfl
 have F52:=fun_mk (st:=s_law) l52 g52 k52
 refine ⟨W.fnOf "law" "law" (defArgs s_law) (defBody s_law) (defScope s_law) .none kV52 dc52 pm52 an52 cd52 ct52,fun s v=>.of_eq rfl,fun base _ _=>?_⟩
 have H_taken_out:Has l.prog w K mg base CX0 1 "taken_out" ["number","prime"] (spTaken):=⟨f1,_,ok_taken_out F1 T ,b1,k1,W.mg_of X G a1⟩
 have H_divisor_after:Has l.prog w K mg base CX0 1 "divisor_after" ["divisor"] (spAfter):=⟨f2,_,ok_divisor_after F2 T ,b2,k2,W.mg_of X G a2⟩
 have H_prime_parts:Has l.prog w K mg base CX0 2 "prime_parts" ["number"] (spParts0):=⟨f3,_,ok_prime_parts F3 T H_divisor_after H_taken_out,b3,k3,W.mg_of X G a3⟩
 have H_core_of:Has l.prog w K mg base CX0 3 "core_of" ["number"] (spCore0):=⟨f4,_,ok_core_of F4 T H_prime_parts,b4,k4,W.mg_of X G a4⟩
 have H_is_without_squares:Has l.prog w K mg base CX0 4 "is_without_squares" ["number"] (spNoSqB):=⟨f5,_,ok_is_without_squares F5 T H_core_of,b5,k5,W.mg_of X G a5⟩
 have H_sign_of_two:Has l.prog w K mg base CX0 1 "sign_of_two" ["odd"] (spTwoI):=⟨f6,_,ok_sign_of_two F6 T ,b6,k6,W.mg_of X G a6⟩
 have H_sign_of_turn:Has l.prog w K mg base CX0 1 "sign_of_turn" ["one","other"] (spTurnI):=⟨f7,_,ok_sign_of_turn F7 T ,b7,k7,W.mg_of X G a7⟩
 have H_sign_by:Has l.prog w K mg base CX0 2 "sign_by" ["number","n"] (spSign):=⟨f8,_,ok_sign_by F8 T H_taken_out H_sign_of_two H_sign_of_turn,b8,k8,W.mg_of X G a8⟩
 have H_row_less:Has l.prog w K mg base CX0 1 "row_less" ["row","taken","times"] (spRow):=⟨f9,_,ok_row_less F9 T ,b9,k9,W.mg_of X G a9⟩
 have H_shares_of:Has l.prog w K mg base CX0 2 "shares_of" ["one","other"] (spShares):=⟨f10,_,ok_shares_of F10 T H_row_less,b10,k10,W.mg_of X G a10⟩
 have H_is_plain:Has l.prog w K mg base CX0 5 "is_plain" ["a","b","c"] (spPlainB):=⟨f11,_,ok_is_plain F11 T H_is_without_squares H_shares_of,b11,k11,W.mg_of X G a11⟩
 have H_sign_at_two:Has l.prog w K mg base CX0 2 "sign_at_two" ["one","other"] (spAtTwo):=⟨f12,_,ok_sign_at_two F12 T H_sign_of_two H_sign_of_turn,b12,k12,W.mg_of X G a12⟩
 have H_sign_at_odd:Has l.prog w K mg base CX0 3 "sign_at_odd" ["one","other","prime"] (spAtOdd):=⟨f13,_,ok_sign_at_odd F13 T H_sign_by,b13,k13,W.mg_of X G a13⟩
 have H_sign_at:Has l.prog w K mg base CX0 4 "sign_at" ["a","b","place"] (spAt):=⟨f14,_,ok_sign_at F14 T H_taken_out H_sign_at_two H_sign_at_odd,b14,k14,W.mg_of X G a14⟩
 have H_places_in_question:Has l.prog w K mg base CX0 3 "places_in_question" ["a","b","c"] (spQuest):=⟨f15,_,ok_places_in_question F15 T H_prime_parts,b15,k15,W.mg_of X G a15⟩
 have H_places_without_point:Has l.prog w K mg base CX0 5 "places_without_point" ["a","b","c"] (spBadH):=⟨f16,_,ok_places_without_point F16 T H_places_in_question H_sign_at,b16,k16,W.mg_of X G a16⟩
 have H_bad_places:Has l.prog w K mg base (XF l.prog w) 6 "bad_places" ["a","b","c"] (spBadX19 qc13):=⟨f17,_,ok_bad_places F17 T H_is_plain H_places_without_point,b17,k17,W.mg_of X G a17⟩
 have H_is_prime:Has l.prog w K mg base CX0 3 "is_prime" ["number"] (spIsPrime):=⟨f18,_,ok_is_prime F18 T H_prime_parts,b18,k18,W.mg_of X G a18⟩
 have H_cell_at:Has l.prog w K mg base CX0 1 "_law_cell_at" ["_law_script","_law_k"] (spCell K):=⟨f19,_,ok_cell_at F19 T ,b19,k19,W.mg_of X G a19⟩
 have H_churn:Has l.prog w K mg base CX0 1 "_law_churn" ["_law_cell","_law_turn"] (spChurn):=⟨f20,_,ok_churn F20 T ,b20,k20,W.mg_of X G a20⟩
 have H_primes:Has l.prog w K mg base CX0 1 "_law_primes" [] (spPrimes):=⟨f21,_,ok_primes F21 T ,b21,k21,W.mg_of X G a21⟩
 have H_core:Has l.prog w K mg base CX0 1 "_law_core" ["_law_number"] (spLCore):=⟨f22,_,ok_core F22 T ,b22,k22,W.mg_of X G a22⟩
 have H_shared:Has l.prog w K mg base CX0 1 "_law_shared" ["_law_one","_law_other"] (spLShared):=⟨f23,_,ok_shared F23 T ,b23,k23,W.mg_of X G a23⟩
 have H_split:Has l.prog w K mg base CX0 1 "_law_split" ["_law_number"] (spLSplit):=⟨f24,_,ok_split F24 T ,b24,k24,W.mg_of X G a24⟩
 have H_fits_by_8:Has l.prog w K mg base CX0 1 "_law_fits_by_8" ["_law_a","_law_b","_law_c"] (spFits):=⟨f25,_,ok_fits_by_8 F25 T ,b25,k25,W.mg_of X G a25⟩
 have H_plain:Has l.prog w K mg base CX0 2 "_law_plain" ["_law_script","_law_start","_law_many","_law_most"] (spLPlain K):=⟨f26,_,ok_plain F26 T H_primes H_churn H_cell_at,b26,k26,W.mg_of X G a26⟩
 have H_more:Has l.prog w K mg base CX0 2 "_law_more" ["_law_numbers","_law_primes_here","_law_cell","_law_most"] (spMore):=⟨f27,_,ok_more F27 T H_churn,b27,k27,W.mg_of X G a27⟩
 have H_by_digits:Has l.prog w K mg base CX0 2 "_law_by_digits" ["_law_cell","_law_many","_law_most"] (spLDig):=⟨f28,_,ok_by_digits F28 T H_core H_shared H_split,b28,k28,W.mg_of X G a28⟩
 have H_power_by:Has l.prog w K mg base CX0 1 "power_by" ["number","k","n"] (spPower):=⟨f29,_,ok_power_by F29 T ,b29,k29,W.mg_of X G a29⟩
 have H_has_root:Has l.prog w K mg base CX0 3 "has_root" ["number","prime"] (spHas):=⟨f30,_,ok_has_root F30 T H_sign_by,b30,k30,W.mg_of X G a30⟩
 have H_least_without_root:Has l.prog w K mg base CX0 4 "least_without_root" ["prime"] (spLeast):=⟨f31,_,ok_least_without_root F31 T H_has_root,b31,k31,W.mg_of X G a31⟩
 have H_root_by_odd_prime:Has l.prog w K mg base CX0 5 "root_by_odd_prime" ["number","prime"] (spRootO):=⟨f32,_,ok_root_by_odd_prime F32 T H_taken_out H_power_by H_least_without_root,b32,k32,W.mg_of X G a32⟩
 have H_root_by_prime:Has l.prog w K mg base CX0 6 "root_by_prime" ["number","prime"] (spRootP):=⟨f33,_,ok_root_by_prime F33 T H_root_by_odd_prime,b33,k33,W.mg_of X G a33⟩
 have H_back_by:Has l.prog w K mg base CX0 3 "back_by" ["number","n"] (spBackC):=⟨f34,_,ok_back_by F34 T H_shares_of,b34,k34,W.mg_of X G a34⟩
 have H_init_BadPlace:HasI l.prog w K mg base 1 qiBadPlace ["self","place"] (spIni qc0 "place"):=⟨_,ok_init_BadPlace F35 T ,b35⟩
 have H_product_of_alike:Has l.prog w K mg base CX0 1 "product_of_alike" ["factor","k"] (spProdA):=⟨f36,_,ok_product_of_alike F36 T ,b36,k36,W.mg_of X G a36⟩
 have H_has_lasting_root:Has l.prog w K mg base CX0 3 "has_lasting_root" ["number","prime"] (spHasL):=⟨f37,_,ok_has_lasting_root F37 T H_sign_by,b37,k37,W.mg_of X G a37⟩
 have H_root_by_odd_power:Has l.prog w K mg base CX0 7 "root_by_odd_power" ["number","prime","power"] (spRootOP):=⟨f38,_,ok_root_by_odd_power F38 T H_root_by_prime H_back_by,b38,k38,W.mg_of X G a38⟩
 have H_root_by_power_of_two:Has l.prog w K mg base CX0 1 "root_by_power_of_two" ["number","power"] (spRoot2P):=⟨f39,_,ok_root_by_power_of_two F39 T ,b39,k39,W.mg_of X G a39⟩
 have H_lasting_root:Has l.prog w K mg base CX0 8 "lasting_root" ["number","prime","power"] (spLasR):=⟨f40,_,ok_lasting_root F40 T H_root_by_power_of_two H_root_by_odd_power,b40,k40,W.mg_of X G a40⟩
 have H_rests_led:Has l.prog w K mg base CX0 9 "rests_led" ["numbers","prime","power"] (spLed):=⟨f41,_,ok_rests_led F41 T H_back_by H_has_lasting_root H_lasting_root,b41,k41,W.mg_of X G a41⟩
 have H_rests_found:Has l.prog w K mg base CX0 10 "rests_found" ["numbers","prime","power"] (spFnd):=⟨f42,_,ok_rests_found F42 T H_rests_led,b42,k42,W.mg_of X G a42⟩
 have H_fitting_rests:Has l.prog w K mg base (XB l.prog w) 11 "fitting_rests" ["a","b","c","prime","k"] (spFit qc0 qc8 qc13):=⟨f43,_,ok_fitting_rests F43 T H_bad_places H_is_prime H_init_BadPlace H_rests_found H_product_of_alike,b43,k43,W.mg_of X G a43⟩
 have H_whole:Has l.prog w K mg base CX0 1 "_law_whole" ["_law_found"] (spWhole):=⟨f44,_,ok_whole F44 T ,b44,k44,W.mg_of X G a44⟩
 have H_root:Has l.prog w K mg base CX0 1 "_law_root" ["_law_number","_law_prime_here"] (spRoot):=⟨f45,_,ok_root F45 T ,b45,k45,W.mg_of X G a45⟩
 have H_is_bad:Has l.prog w K mg base CX0 2 "_law_is_bad" ["_law_numbers","_law_primes_here","_law_prime_here"] (spIsBad):=⟨f46,_,ok_is_bad F46 T H_fits_by_8 H_root,b46,k46,W.mg_of X G a46⟩
 have H_fit:Has l.prog w K mg base CX0 2 "_law_fit" ["_law_found","_law_numbers","_law_prime_here","_law_k"] (spLFit):=⟨f47,_,ok_fit F47 T H_whole,b47,k47,W.mg_of X G a47⟩
 have H_alone:Has l.prog w K mg base CX0 1 "_law_alone" ["_law_e","_law_sort"] (spAl3 qc0 qc8 qc13):=⟨f48,_,ok_alone F48 T ,b48,k48,W.mg_of X G a48⟩
 have H_told:Has l.prog w K mg base CX0 12 "_law_told" ["_law_numbers","_law_prime_here","_law_k"] (spTold19):=⟨f49,_,ok_told F49 T H_fitting_rests H_alone,b49,k49,W.mg_of X G a49⟩
 have H_prime:Has l.prog w K mg base CX0 2 "_law_prime" ["_law_primes_here","_law_cell"] (spLPr):=⟨f50,_,ok_prime F50 T H_churn H_primes,b50,k50,W.mg_of X G a50⟩
 have H_no_primes:Has l.prog w K mg base CX0 13 "_law_no_primes" ["_law_numbers","_law_cell","_law_k"] (spNoPr):=⟨f51,_,ok_no_primes F51 T H_primes H_churn H_told,b51,k51,W.mg_of X G a51⟩
 exact ok_law F52 T H_cell_at H_by_digits H_plain H_more H_prime H_churn H_told H_is_bad H_whole H_fit H_no_primes
theorem walk {l:W.OpenLaw} {q:Program} {loose:List Str} {XP:(Str->Option Value)->Heap->Prop} {YP:World->Heap->Prop} {d:DefRec} {K:Params->W.Frag} (hn:l.most=some 63) (hdf:d.params.defaults=[])
  (hY:∀ (w:World) (h:Heap),YP w h->(K w.params).In h)
  (F:∀ (w:World) (mg:Str->Option Value) (fa:Addr) (h:Heap),(K w.params).In h->h.Ns mainGlobals mg->mg d.name=some (.ref fa) ->
   ∃ fd:FuncData,(∀ (s:Shared) (u:Value),BindsTo s fd ⟨[u],[]⟩ [("_law_script",u)])/\∀ base:Heap,(K w.params).In base->base.Ns mainGlobals mg->FnOk l.prog w (K w.params) mg base CX0 14 fa fd ["_law_script"] (spLaw (K w.params))) :
  W.WalkO q loose XP YP l.row.toRowW d [] (fun f vs=>PySem.call f vs):=
 L2.walk_b (n:=63) (k:=14) (x:="_law_script") (CX:=fun _=>CX0) (sp:=fun w=>spLaw (K w.params)) hn (by decide) hdf ⟨rfl,by decide,by decide⟩ hY F (fun _ _ a ns hl hb hS=>⟨a,ns,rfl,hS,hl,hb,fun _=>rfl⟩) fun _ _ _ _ _ z=>z
end K19
namespace PySem.W.Fast
def tw4514270667682378452:Unit:=()
def tw16128399109324295920:Unit:=()
def tw10026415971756136572:Unit:=()
def tw14725720322718004249:Unit:=()
def tw6502949141748185596:Unit:=()
def tw9844110790222529128:Unit:=()
def tw15815748372395232912:Unit:=()
def tw11814753247861920507:Unit:=()
def tw17789844553912438253:Unit:=()
def tw1875661456643971469:Unit:=()
def tw5114911755801542333:Unit:=()
def tw11883341297168917582:Unit:=()
def tw7968617413462915868:Unit:=()
def tw5931236102582475013:Unit:=()
def tw12429885738107746352:Unit:=()
def tw2169774473310513252:Unit:=()
def tw11189770523960004196:Unit:=()
def tw11138821274079710111:Unit:=()
def tw9341226088134184693:Unit:=()
def tw16288678087006537610:Unit:=()
def tw18351073542455775259:Unit:=()
def tw12234078251686070425:Unit:=()
def tw7747888265249882978:Unit:=()
def tw7821102670937549812:Unit:=()
def tw14505916899936344206:Unit:=()
def tw5974067360890679516:Unit:=()
def tw2118974755292662659:Unit:=()
def tw14470280516675351295:Unit:=()
def tw6917591068629753314:Unit:=()
def tw3666568563132443518:Unit:=()
def tw6822122200490568688:Unit:=()
def tw3943895163751665004:Unit:=()
def tw4723129146918091669:Unit:=()
def tw17040539879591435894:Unit:=()
def tw7888152737786348779:Unit:=()
def tw15139583025179099706:Unit:=()
def tw12970525947190306049:Unit:=()
def tw5092887568773297866:Unit:=()
def tw3998050183955351448:Unit:=()
def tw9871127440333052725:Unit:=()
def tw15502883820446568281:Unit:=()
def tw11933526658441282768:Unit:=()
def tw7948332697775224837:Unit:=()
def tw13518386440132677720:Unit:=()
def tw1274347739929940874:Unit:=()
def tw17213143158955982080:Unit:=()
def tw12210972373192567418:Unit:=()
def tw18430697429228611482:Unit:=()
def tw2390394117729461705:Unit:=()
def tw1080412367651181123:Unit:=()
def tw8802282282963832444:Unit:=()
def tw6453075795268576407:Unit:=()
def tw6918217200372342422:Unit:=()
def tw11955074081819894235:Unit:=()
def tw9203524129758304402:Unit:=()
def tw2880511596770477671:Unit:=()
def tw9829928800156513607:Unit:=()
def tw13473604286463783729:Unit:=()
def tw10747317027731514636:Unit:=()
def tw12198999857892883167:Unit:=()
def tw10258890093807171049:Unit:=()
def tw16925006172341634910:Unit:=()
def tw1375488541774492779:Unit:=()
def tw13209798731834564245:Unit:=()
def tw16834955478639471291:Unit:=()
def tw6560156094151398787:Unit:=()
def tw11305309262523579655:Unit:=()
def tw17272600778437631467:Unit:=()
def tw7055326908691638308:Unit:=()
def tw1028294290257632072:Unit:=()
def tw14932589364268253566:Unit:=()
def tw13395847042156841050:Unit:=()
def tw8538215399004912005:Unit:=()
def tw4284341919546727718:Unit:=()
def tw5865671642535048519:Unit:=()
def tw300698245788623481:Unit:=()
def tw14707152733989559672:Unit:=()
def tw10276663905781336380:Unit:=()
def tw1030451211001328389:Unit:=()
def tw13999651473881401836:Unit:=()
def tw14260194944442799684:Unit:=()
def tw11330752125131082880:Unit:=()
def tw13170346269229580492:Unit:=()
def tw2086463237248784862:Unit:=()
def tw6253054819754513882:Unit:=()
def tw15185562563975406327:Unit:=()
def tw14277806328176302632:Unit:=()
def tw1378313636202913989:Unit:=()
def tw16173981844462455484:Unit:=()
def tw6604610831852369720:Unit:=()
def tw5133835186605193294:Unit:=()
def tw2137703105332133022:Unit:=()
def tw6112398724440565598:Unit:=()
def tw13704161667295193176:Unit:=()
def tw18040922845932740819:Unit:=()
def tw13390114462970736291:Unit:=()
def tw5464469309722210561:Unit:=()
def tw4254480116027174144:Unit:=()
def tw6857004330800487675:Unit:=()
def tw7439861821779460651:Unit:=()
def tw5960198730345456359:Unit:=()
def tw1363206784209352128:Unit:=()
def tw12448584911661823274:Unit:=()
def tw9867224019600021940:Unit:=()
def tw3430317906236515225:Unit:=()
def tw7545758120013290033:Unit:=()
def tw11244263735642301899:Unit:=()
def tw18214090015251208020:Unit:=()
def tw10846391909660424829:Unit:=()
def tw15587964959326788927:Unit:=()
def tw1543848642754233629:Unit:=()
def tw8513519975546966332:Unit:=()
def tw10301698698909973883:Unit:=()
def tw12406275923100621374:Unit:=()
def tw12750924305743305102:Unit:=()
def tw15637219875707622203:Unit:=()
def tw17982644666116188740:Unit:=()
def tw13384531480411721567:Unit:=()
def tw7464158217104226653:Unit:=()
def tw13242983537255382347:Unit:=()
def tw2064758708628092836:Unit:=()
def tw7633050508941843646:Unit:=()
def tw18007848509640368905:Unit:=()
def tw13511434975390778271:Unit:=()
def tw10981035686938046221:Unit:=()
def tw604717416117801698:Unit:=()
def tw5393655171731497904:Unit:=()
def tw10170834492466236377:Unit:=()
def tw15130859310675929434:Unit:=()
def tw11119761618356301326:Unit:=()
def tw18268986381470286358:Unit:=()
def tw2177428367096125680:Unit:=()
def tw9826775124242250920:Unit:=()
def tw13652886528377135960:Unit:=()
def tw7138622125594471502:Unit:=()
def tw2329801983620481748:Unit:=()
def tw16838845918032370788:Unit:=()
def tw1632354365365768991:Unit:=()
def tw1672107753836808717:Unit:=()
def tw15556117104068824202:Unit:=()
def tw5686283036148033744:Unit:=()
def tw10426202443950593854:Unit:=()
def tw1622430113793129732:Unit:=()
def tw6921587296963928329:Unit:=()
def tw16241740973977166517:Unit:=()
def tw16681236183663271270:Unit:=()
def tw12354746395619055402:Unit:=()
def tw2507956550906683516:Unit:=()
def tw17932169624180991118:Unit:=()
def tw13384957875964953845:Unit:=()
def tw16564214085840177135:Unit:=()
def tw4219894394434182190:Unit:=()
def tw17300044919559722732:Unit:=()
def tw3303337737035377247:Unit:=()
def tw8630237712971421101:Unit:=()
def tw11135877559956566916:Unit:=()
def tw6525952292959438878:Unit:=()
def tw13180383389615876971:Unit:=()
def tw2888297261959375496:Unit:=()
def tw7424306115862291686:Unit:=()
def tw9740824098887509736:Unit:=()
def tw2834566573518009836:Unit:=()
def tw2304466805263709375:Unit:=()
def tw11724384934115947637:Unit:=()
def tw15891005632691241263:Unit:=()
def tw16779521469034618309:Unit:=()
def tw7205757568501129562:Unit:=()
def tw2240672934201863399:Unit:=()
def tw16859847153170819602:Unit:=()
def tw12164834309898492740:Unit:=()
def tw1265003194466500973:Unit:=()
def tw15094805581011314246:Unit:=()
def tw5495291539585182766:Unit:=()
def tw17442843119410014651:Unit:=()
def tw12923004264435631399:Unit:=()
def tw7116612302783552649:Unit:=()
def tw15950230127437156827:Unit:=()
def tw2611133912115120778:Unit:=()
def tw12521677328893076473:Unit:=()
def tw9719414099136939994:Unit:=()
def tw7493279819056587091:Unit:=()
def tw15117178085389167100:Unit:=()
def tw17450343931967553977:Unit:=()
def tw2085611202099782651:Unit:=()
def tw8241325162889752180:Unit:=()
def tw2160250051822141316:Unit:=()
def tw276482587455248365:Unit:=()
def tw8788552981021823086:Unit:=()
def tw10162122533930088363:Unit:=()
def tw9218944750711487664:Unit:=()
def tw15137689285881355000:Unit:=()
def tw15684621230731490508:Unit:=()
def tw12087773532979330968:Unit:=()
def tw2174329007561161954:Unit:=()
def tw9741794476626984129:Unit:=()
def tw16938851818658649953:Unit:=()
def tw10939466769128993491:Unit:=()
def tw639640860063683215:Unit:=()
def tw10167731099368797800:Unit:=()
def tw2146078189412617726:Unit:=()
def tw6364146712570415105:Unit:=()
def tw393425011396093052:Unit:=()
def tw10262737960406175978:Unit:=()
def tw10694691031711470958:Unit:=()
def tw2783435599139417371:Unit:=()
def tw5019785891728780229:Unit:=()
def tw17375774082725124340:Unit:=()
def tw3659676882998813984:Unit:=()
def tw3917704165856710148:Unit:=()
def tw14283100128201284288:Unit:=()
def tw11949727215688854251:Unit:=()
def tw5821032535456159213:Unit:=()
def tw17259616065156372135:Unit:=()
def tw10922700313465273477:Unit:=()
def tw17501650375023292275:Unit:=()
def tw15533906667226396566:Unit:=()
def tw3678080872146720391:Unit:=()
def tw17764281595842864526:Unit:=()
def tw17300384638083958513:Unit:=()
def tw15495434232599731488:Unit:=()
def tw13931238066611175820:Unit:=()
def tw18185837780204044621:Unit:=()
def tw2770070771610940768:Unit:=()
def tw14180779873087012411:Unit:=()
def tw3179856090343579155:Unit:=()
def tw2938606794743233078:Unit:=()
def tw11236877661426205549:Unit:=()
def tw9061314505413596759:Unit:=()
def tw1050081721413110547:Unit:=()
def tw4871692287963472147:Unit:=()
def tw2033078134786513475:Unit:=()
def tw7358028820281821279:Unit:=()
def tw18238917477343046383:Unit:=()
def tw17244238219677052735:Unit:=()
def tw3646236490216047844:Unit:=()
def tw4722398237462448437:Unit:=()
def tw14943283118570137446:Unit:=()
def tw15809273932011626818:Unit:=()
def tw2868885177001688602:Unit:=()
def tw17897373181564416042:Unit:=()
def tw2565119389491704590:Unit:=()
def tw4400601725488080659:Unit:=()
def tw3963933478487211762:Unit:=()
def tw8385400783236429150:Unit:=()
def tw11115082138057910330:Unit:=()
def tw395428706112197034:Unit:=()
def tw8991419736417831647:Unit:=()
def tw2252850661081335978:Unit:=()
def tw5831525531637553491:Unit:=()
def tw11733885864931849090:Unit:=()
def tw3116609376632855248:Unit:=()
def tw11108793892027743586:Unit:=()
def tw6031140837683984750:Unit:=()
def tw3109358000130831947:Unit:=()
def tw17857964630855306063:Unit:=()
def tw8406378204108542707:Unit:=()
def tw6174460026383319323:Unit:=()
def tw12956518566594618721:Unit:=()
def tw5738672427064033153:Unit:=()
def tw6522930670388376118:Unit:=()
def tw12528152961876844565:Unit:=()
def tw6491512486901090712:Unit:=()
def tw12111273643539346294:Unit:=()
def tw2880009605186296627:Unit:=()
def tw2922924604162777341:Unit:=()
def tw7901358687089871531:Unit:=()
def tw815760750342656524:Unit:=()
def tw17113374970247981912:Unit:=()
def tw3675405548374938019:Unit:=()
def tw597657901288978789:Unit:=()
def tw8760117924367945282:Unit:=()
def tw5232455453058818935:Unit:=()
def tw6825062030335218948:Unit:=()
def tw16244110710901914999:Unit:=()
def tw13754549611352876926:Unit:=()
def tw10348314052284540015:Unit:=()
def tw1672803322949435090:Unit:=()
def tw6425760658037637882:Unit:=()
def tw1301652351173096362:Unit:=()
def tw7382281852857734081:Unit:=()
def tw5243168722172927739:Unit:=()
def tw14017504414375878554:Unit:=()
def tw4712844202043621336:Unit:=()
def tw15597265758278492250:Unit:=()
def tw6582071747535522301:Unit:=()
def tw11578708542625514355:Unit:=()
def tw9450047471229795089:Unit:=()
def tw9201784662788374509:Unit:=()
def tw16434387870286745976:Unit:=()
def tw6501279516410907013:Unit:=()
def tw1127609996361203495:Unit:=()
def tw8271653098185963169:Unit:=()
def tw15078811709338438185:Unit:=()
def tw11173702037681315464:Unit:=()
def tw4133392138150803162:Unit:=()
def tw1216569618859807852:Unit:=()
def tw8590652245746697695:Unit:=()
def tw10198356753128315644:Unit:=()
def tw7736824885634966768:Unit:=()
def tw6594008161550268912:Unit:=()
def tw4836444526521192735:Unit:=()
def tw1792836346633130922:Unit:=()
def tw13300430628698513083:Unit:=()
def tw4768740877934031733:Unit:=()
def tw10182304950335783600:Unit:=()
def tw18109102093204043338:Unit:=()
def tw8086924467489088356:Unit:=()
def tw17176322668761351197:Unit:=()
def tw407924232707730654:Unit:=()
def tw8259803869123035076:Unit:=()
def tw11153692944187488907:Unit:=()
def tw15419854106577816234:Unit:=()
def tw7823083391647547827:Unit:=()
def tw15919813680640326561:Unit:=()
def tw2227138644671116538:Unit:=()
def tw1256559991043327777:Unit:=()
def tw15936517074880893068:Unit:=()
def tw16898106151116508863:Unit:=()
def tw12094742341313205433:Unit:=()
def tw12388746273198445:Unit:=()
def tw11797513013837254417:Unit:=()
def tw13320456946954600353:Unit:=()
def tw13090698391277171022:Unit:=()
def tw13447749471200953745:Unit:=()
def tw15663770663547643238:Unit:=()
def tw16290608000363376434:Unit:=()
def tw8754762994861540211:Unit:=()
def tw14632594260016955823:Unit:=()
def tw9860901751886605298:Unit:=()
def tw18128793402297217483:Unit:=()
def tw13790472555893676737:Unit:=()
def tw2584061546986810936:Unit:=()
def tw17152869268608402761:Unit:=()
def tw13138842044484995827:Unit:=()
def tw6027879921455724241:Unit:=()
def tw549941897554004551:Unit:=()
end PySem.W.Fast
open PySem PySem.W PyProof.Rows
set_option maxRecDepth 100000 in
set_option maxHeartbeats 0 in
theorem PySem.Challenge.cw_conicplaces_k19_whole_rests_that_fit_holds : PySem.Challenge.rw_conicplaces_k19_whole_rests_that_fit.Holds := by
 w_on; o_law; k_head; (case hw => w_witness2)
 k_fill
 refine K19.walk (l := PySem.Challenge.rw_conicplaces_k19_whole_rests_that_fit) rfl rfl (fun w h Y => W.kIn_of Y) ?F
 case F =>
  intro w mg fa h KX G hmg
  refine' K19.all_mk KX G hmg ?a1 ?l1 ?g1 ?k1 ?a2 ?l2 ?g2 ?k2 ?a3 ?l3 ?g3 ?k3 ?a4 ?l4 ?g4 ?k4 ?a5 ?l5 ?g5 ?k5 ?a6 ?l6 ?g6 ?k6 ?a7 ?l7 ?g7 ?k7 ?a8 ?l8 ?g8 ?k8 ?a9 ?l9 ?g9 ?k9 ?a10 ?l10 ?g10 ?k10 ?a11 ?l11 ?g11 ?k11 ?a12 ?l12 ?g12 ?k12 ?a13 ?l13 ?g13 ?k13 ?a14 ?l14 ?g14 ?k14 ?a15 ?l15 ?g15 ?k15 ?a16 ?l16 ?g16 ?k16 ?a17 ?l17 ?g17 ?k17 ?a18 ?l18 ?g18 ?k18 ?a19 ?l19 ?g19 ?k19 ?a20 ?l20 ?g20 ?k20 ?a21 ?l21 ?g21 ?k21 ?a22 ?l22 ?g22 ?k22 ?a23 ?l23 ?g23 ?k23 ?a24 ?l24 ?g24 ?k24 ?a25 ?l25 ?g25 ?k25 ?a26 ?l26 ?g26 ?k26 ?a27 ?l27 ?g27 ?k27 ?a28 ?l28 ?g28 ?k28 ?a29 ?l29 ?g29 ?k29 ?a30 ?l30 ?g30 ?k30 ?a31 ?l31 ?g31 ?k31 ?a32 ?l32 ?g32 ?k32 ?a33 ?l33 ?g33 ?k33 ?a34 ?l34 ?g34 ?k34 ?o35 ?a35 ?l35 ?g35 ?k35 ?a36 ?l36 ?g36 ?k36 ?a37 ?l37 ?g37 ?k37 ?a38 ?l38 ?g38 ?k38 ?a39 ?l39 ?g39 ?k39 ?a40 ?l40 ?g40 ?k40 ?a41 ?l41 ?g41 ?k41 ?a42 ?l42 ?g42 ?k42 ?a43 ?l43 ?g43 ?k43 ?a44 ?l44 ?g44 ?k44 ?a45 ?l45 ?g45 ?k45 ?a46 ?l46 ?g46 ?k46 ?a47 ?l47 ?g47 ?k47 ?a48 ?l48 ?g48 ?k48 ?a49 ?l49 ?g49 ?k49 ?a50 ?l50 ?g50 ?k50 ?a51 ?l51 ?g51 ?k51 ?a52 ?l52 ?g52 ?k52 ?xm_CurveError ?xm_BadPlace ?xm_Flat ?xm_NoBack ?xm_NoJoin ?xm_NoLine ?xm_NoName ?xm_NoNumber ?xm_NoPair ?xm_NoPlace ?xm_NoRow ?xm_NoSign ?xm_NoText ?xm_NoVertex ?xm_NotPlain ?xm_OffCurve ?xi_ce ?xi_0 ?xi_1 ?xi_2 ?xi_3 ?xi_4 ?xi_5 ?xi_6 ?xi_7 ?xi_8 ?xi_9 ?xi_10 ?xi_11 ?xi_12 ?xi_13 ?xi_14 ?xi_ve ?xe0 ?xe1 ?xe2 ?xe3 ?xe4 ?xe5 ?xe6 ?xe7 ?xx_BadPlace ?xxf_BadPlace ?xxn_BadPlace ?xxd_BadPlace ?xxs_BadPlace ?xxo_BadPlace ?xi_ce_2 ?xi_0_2 ?xi_1_2 ?xi_2_2 ?xi_3_2 ?xi_4_2 ?xi_5_2 ?xi_6_2 ?xi_7_2 ?xi_8_2 ?xi_9_2 ?xi_10_2 ?xi_11_2 ?xi_12_2 ?xi_13_2 ?xi_14_2 ?xi_ve_2 ?xe0_2 ?xe1_2 ?xe2_2 ?xe3_2 ?xe4_2 ?xe5_2 ?xe6_2 ?xe7_2 ?xx_NoPlace ?xi_ce_3 ?xi_0_3 ?xi_1_3 ?xi_2_3 ?xi_3_3 ?xi_4_3 ?xi_5_3 ?xi_6_3 ?xi_7_3 ?xi_8_3 ?xi_9_3 ?xi_10_3 ?xi_11_3 ?xi_12_3 ?xi_13_3 ?xi_14_3 ?xi_ve_3 ?xe0_3 ?xe1_3 ?xe2_3 ?xe3_3 ?xe4_3 ?xe5_3 ?xe6_3 ?xe7_3 ?xx_NotPlain ?xy1 ?xy2 ?xy3 ?xx_CurveError ?xu_BadPlace ?xu_NoPlace ?xu_NotPlain ?xi_ib ?xz_isinstance ?xz_int ?xz_bool ?xz_len ?xz_range ?xz_all ?xz_abs ?xz_sorted ?xz_list ?xz_set ?xz_sum ?xz_tuple ?xz_zip ?xz_ValueError
  (case a1 => k_is)
  (case l1 => k_is)
  (case g1 => k_is)
  (case k1 => k_is)
  (case a2 => k_is)
  (case l2 => k_is)
  (case g2 => k_is)
  (case k2 => k_is)
  (case a3 => k_is)
  (case l3 => k_is)
  (case g3 => k_is)
  (case k3 => k_is)
  (case a4 => k_is)
  (case l4 => k_is)
  (case g4 => k_is)
  (case k4 => k_is)
  (case a5 => k_is)
  (case l5 => k_is)
  (case g5 => k_is)
  (case k5 => k_is)
  (case a6 => k_is)
  (case l6 => k_is)
  (case g6 => k_is)
  (case k6 => k_is)
  (case a7 => k_is)
  (case l7 => k_is)
  (case g7 => k_is)
  (case k7 => k_is)
  (case a8 => k_is)
  (case l8 => k_is)
  (case g8 => k_is)
  (case k8 => k_is)
  (case a9 => k_is)
  (case l9 => k_is)
  (case g9 => k_is)
  (case k9 => k_is)
  (case a10 => k_is)
  (case l10 => k_is)
  (case g10 => k_is)
  (case k10 => k_is)
  (case a11 => k_is)
  (case l11 => k_is)
  (case g11 => k_is)
  (case k11 => k_is)
  (case a12 => k_is)
  (case l12 => k_is)
  (case g12 => k_is)
  (case k12 => k_is)
  (case a13 => k_is)
  (case l13 => k_is)
  (case g13 => k_is)
  (case k13 => k_is)
  (case a14 => k_is)
  (case l14 => k_is)
  (case g14 => k_is)
  (case k14 => k_is)
  (case a15 => k_is)
  (case l15 => k_is)
  (case g15 => k_is)
  (case k15 => k_is)
  (case a16 => k_is)
  (case l16 => k_is)
  (case g16 => k_is)
  (case k16 => k_is)
  (case a17 => k_is)
  (case l17 => k_is)
  (case g17 => k_is)
  (case k17 => k_is)
  (case a18 => k_is)
  (case l18 => k_is)
  (case g18 => k_is)
  (case k18 => k_is)
  (case a19 => k_is)
  (case l19 => k_is)
  (case g19 => k_is)
  (case k19 => k_is)
  (case a20 => k_is)
  (case l20 => k_is)
  (case g20 => k_is)
  (case k20 => k_is)
  (case a21 => k_is)
  (case l21 => k_is)
  (case g21 => k_is)
  (case k21 => k_is)
  (case a22 => k_is)
  (case l22 => k_is)
  (case g22 => k_is)
  (case k22 => k_is)
  (case a23 => k_is)
  (case l23 => k_is)
  (case g23 => k_is)
  (case k23 => k_is)
  (case a24 => k_is)
  (case l24 => k_is)
  (case g24 => k_is)
  (case k24 => k_is)
  (case a25 => k_is)
  (case l25 => k_is)
  (case g25 => k_is)
  (case k25 => k_is)
  (case a26 => k_is)
  (case l26 => k_is)
  (case g26 => k_is)
  (case k26 => k_is)
  (case a27 => k_is)
  (case l27 => k_is)
  (case g27 => k_is)
  (case k27 => k_is)
  (case a28 => k_is)
  (case l28 => k_is)
  (case g28 => k_is)
  (case k28 => k_is)
  (case a29 => k_is)
  (case l29 => k_is)
  (case g29 => k_is)
  (case k29 => k_is)
  (case a30 => k_is)
  (case l30 => k_is)
  (case g30 => k_is)
  (case k30 => k_is)
  (case a31 => k_is)
  (case l31 => k_is)
  (case g31 => k_is)
  (case k31 => k_is)
  (case a32 => k_is)
  (case l32 => k_is)
  (case g32 => k_is)
  (case k32 => k_is)
  (case a33 => k_is)
  (case l33 => k_is)
  (case g33 => k_is)
  (case k33 => k_is)
  (case a34 => k_is)
  (case l34 => k_is)
  (case g34 => k_is)
  (case k34 => k_is)
  (case a36 => k_is)
  (case l36 => k_is)
  (case g36 => k_is)
  (case k36 => k_is)
  (case a37 => k_is)
  (case l37 => k_is)
  (case g37 => k_is)
  (case k37 => k_is)
  (case a38 => k_is)
  (case l38 => k_is)
  (case g38 => k_is)
  (case k38 => k_is)
  (case a39 => k_is)
  (case l39 => k_is)
  (case g39 => k_is)
  (case k39 => k_is)
  (case a40 => k_is)
  (case l40 => k_is)
  (case g40 => k_is)
  (case k40 => k_is)
  (case a41 => k_is)
  (case l41 => k_is)
  (case g41 => k_is)
  (case k41 => k_is)
  (case a42 => k_is)
  (case l42 => k_is)
  (case g42 => k_is)
  (case k42 => k_is)
  (case a43 => k_is)
  (case l43 => k_is)
  (case g43 => k_is)
  (case k43 => k_is)
  (case a44 => k_is)
  (case l44 => k_is)
  (case g44 => k_is)
  (case k44 => k_is)
  (case a45 => k_is)
  (case l45 => k_is)
  (case g45 => k_is)
  (case k45 => k_is)
  (case a46 => k_is)
  (case l46 => k_is)
  (case g46 => k_is)
  (case k46 => k_is)
  (case a47 => k_is)
  (case l47 => k_is)
  (case g47 => k_is)
  (case k47 => k_is)
  (case a48 => k_is)
  (case l48 => k_is)
  (case g48 => k_is)
  (case k48 => k_is)
  (case a49 => k_is)
  (case l49 => k_is)
  (case g49 => k_is)
  (case k49 => k_is)
  (case a50 => k_is)
  (case l50 => k_is)
  (case g50 => k_is)
  (case k50 => k_is)
  (case a51 => k_is)
  (case l51 => k_is)
  (case g51 => k_is)
  (case k51 => k_is)
  (case a52 => k_is)
  (case l52 => k_is)
  (case g52 => k_is)
  (case k52 => k_is)
  (case xm_CurveError => k_is)
  (case xm_BadPlace => k_is)
  (case xm_Flat => k_is)
  (case xm_NoBack => k_is)
  (case xm_NoJoin => k_is)
  (case xm_NoLine => k_is)
  (case xm_NoName => k_is)
  (case xm_NoNumber => k_is)
  (case xm_NoPair => k_is)
  (case xm_NoPlace => k_is)
  (case xm_NoRow => k_is)
  (case xm_NoSign => k_is)
  (case xm_NoText => k_is)
  (case xm_NoVertex => k_is)
  (case xm_NotPlain => k_is)
  (case xm_OffCurve => k_is)
  (case o35 => k_is)
  (case a35 => k_is)
  (case l35 => k_is)
  (case g35 => k_is)
  (case k35 => k_is)
  (case xi_ce => kernel_rfl)
  (case xi_0 => kernel_rfl)
  (case xi_1 => kernel_rfl)
  (case xi_2 => kernel_rfl)
  (case xi_3 => kernel_rfl)
  (case xi_4 => kernel_rfl)
  (case xi_5 => kernel_rfl)
  (case xi_6 => kernel_rfl)
  (case xi_7 => kernel_rfl)
  (case xi_8 => kernel_rfl)
  (case xi_9 => kernel_rfl)
  (case xi_10 => kernel_rfl)
  (case xi_11 => kernel_rfl)
  (case xi_12 => kernel_rfl)
  (case xi_13 => kernel_rfl)
  (case xi_14 => kernel_rfl)
  (case xi_ve => kernel_rfl)
  (case xe0 => kernel_rfl)
  (case xe1 => kernel_rfl)
  (case xe2 => kernel_rfl)
  (case xe3 => kernel_rfl)
  (case xe4 => kernel_rfl)
  (case xe5 => kernel_rfl)
  (case xe6 => kernel_rfl)
  (case xe7 => kernel_rfl)
  (case xx_BadPlace => kernel_rfl)
  (case xxf_BadPlace => kernel_rfl)
  (case xxn_BadPlace => kernel_rfl)
  (case xxd_BadPlace => kernel_rfl)
  (case xxs_BadPlace => kernel_rfl)
  (case xxo_BadPlace => kernel_rfl)
  (case xi_ce_2 => kernel_rfl)
  (case xi_0_2 => kernel_rfl)
  (case xi_1_2 => kernel_rfl)
  (case xi_2_2 => kernel_rfl)
  (case xi_3_2 => kernel_rfl)
  (case xi_4_2 => kernel_rfl)
  (case xi_5_2 => kernel_rfl)
  (case xi_6_2 => kernel_rfl)
  (case xi_7_2 => kernel_rfl)
  (case xi_8_2 => kernel_rfl)
  (case xi_9_2 => kernel_rfl)
  (case xi_10_2 => kernel_rfl)
  (case xi_11_2 => kernel_rfl)
  (case xi_12_2 => kernel_rfl)
  (case xi_13_2 => kernel_rfl)
  (case xi_14_2 => kernel_rfl)
  (case xi_ve_2 => kernel_rfl)
  (case xe0_2 => kernel_rfl)
  (case xe1_2 => kernel_rfl)
  (case xe2_2 => kernel_rfl)
  (case xe3_2 => kernel_rfl)
  (case xe4_2 => kernel_rfl)
  (case xe5_2 => kernel_rfl)
  (case xe6_2 => kernel_rfl)
  (case xe7_2 => kernel_rfl)
  (case xx_NoPlace => kernel_rfl)
  (case xi_ce_3 => kernel_rfl)
  (case xi_0_3 => kernel_rfl)
  (case xi_1_3 => kernel_rfl)
  (case xi_2_3 => kernel_rfl)
  (case xi_3_3 => kernel_rfl)
  (case xi_4_3 => kernel_rfl)
  (case xi_5_3 => kernel_rfl)
  (case xi_6_3 => kernel_rfl)
  (case xi_7_3 => kernel_rfl)
  (case xi_8_3 => kernel_rfl)
  (case xi_9_3 => kernel_rfl)
  (case xi_10_3 => kernel_rfl)
  (case xi_11_3 => kernel_rfl)
  (case xi_12_3 => kernel_rfl)
  (case xi_13_3 => kernel_rfl)
  (case xi_14_3 => kernel_rfl)
  (case xi_ve_3 => kernel_rfl)
  (case xe0_3 => kernel_rfl)
  (case xe1_3 => kernel_rfl)
  (case xe2_3 => kernel_rfl)
  (case xe3_3 => kernel_rfl)
  (case xe4_3 => kernel_rfl)
  (case xe5_3 => kernel_rfl)
  (case xe6_3 => kernel_rfl)
  (case xe7_3 => kernel_rfl)
  (case xx_NotPlain => kernel_rfl)
  (case xy1 => kernel_rfl)
  (case xy2 => kernel_rfl)
  (case xy3 => kernel_rfl)
  (case xx_CurveError => kernel_rfl)
  (case xu_BadPlace => kernel_rfl)
  (case xu_NoPlace => kernel_rfl)
  (case xu_NotPlain => kernel_rfl)
  (case xi_ib => kernel_rfl)
  (case xz_isinstance => k_is)
  (case xz_int => k_is)
  (case xz_bool => k_is)
  (case xz_len => k_is)
  (case xz_range => k_is)
  (case xz_all => k_is)
  (case xz_abs => k_is)
  (case xz_sorted => k_is)
  (case xz_list => k_is)
  (case xz_set => k_is)
  (case xz_sum => k_is)
  (case xz_tuple => k_is)
  (case xz_zip => k_is)
  (case xz_ValueError => k_is)
