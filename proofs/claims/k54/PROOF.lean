import PyProof.Rows.All
import PyProof.TupleKey
import KE.KSortTup
import PyProof.Rows.SetFrom
import PyProof.SetKind
import Wide.All
import OpenK.AllK
import Wide.FinOn
import Lean
import PyProof.EqAt
import PyProof.EqKinds
import PyProof.TupleCall
import PyProof.CompFree
import PyProof.ConsumeWalk
import PyProof.CompMap
import KE.IntBitsLaws
import KE.KDictSum
import PyProof.Rows.EqDataRows
import PyProof.Rows.SortWalk
import KE.KLcPair
import PyProof.Cells
import PyProof.SumAny
import PyProof.ZipIter
import PyProof.EnumIter
import PyProof.Rows.ZipGen
import PyProof.Rows.FactsT2
import PyProof.WalkInts
import PyProof.SeqI3
import KE.KEqSeq
import PyProof.Rows.Range3
import PyProof.Rows.ChunkLeaf
import PyProof.InstStoreFacts
import PyProof.ExcClass3
import PyProof.ExcInit
import PyProof.Rows.InDataRows
import PySem.Challenge.RW_conicplaces_k54_points_refused
set_option Elab.async false
set_option linter.all false
set_option maxRecDepth 100000
set_option maxHeartbeats 4000000
namespace L2
open PySem PySem.Spec PyProof.Rows
def Still (A:Around) (h:Heap):Prop:=A.handled=none\/∃ (e:Addr) (o:Obj) (vs:Array Value),A.handled=some (.ref e)/\h.get? e=some o/\o.data=.fields vs/\vs[2]?=some .none
theorem Still.mono {A:Around} {h h':Heap} (S:Still A h) (k:∀ e o,A.handled=some (.ref e)->h.get? e=some o->h'.get? e=some o):Still A h':=by
 rcases S with z | ⟨e,o,vs,hh,he,r⟩
 ·exact .inl z
 ·exact .inr ⟨e,o,vs,hh,k e o hh he,r⟩
theorem Still.in1 {A:Around} {h:Heap} (S:Still A h):Still A.in1 h:=S
theorem plain_unchain:plainId "proto.unchain"=true:=by decide +kernel
theorem entry_unchain:entryFor table "proto.unchain"=some Builtin.«proto.unchain»:=entryFor_of_tree (by kernel_rfl)
section
variable {P:Program} {w:World} {A:Around} {E:Value->Shared->Prop} {s:Shared}
theorem raiseNew_still {α:Type} {x:Addr} {ox:Obj} {vx:Array Value} {Q:α->Shared->Prop} (S:Still A s.heap) (hx:s.heap.get? x=some ox) (hd:ox.data=.fields vx) (sz:2 < vx.size) (nx:A.handled ≠ some (.ref x))
  (q:∀ h' o',Heap.SameBut x s.heap h'->h'.get? x=some o'->o'.cls=ox.cls->E (.ref x) { s with heap:=h' }):wpAny (model P w) A (raiseNew (.ref x):Sem α) Q E s:=by
 simp only [raiseNew]
 refine wpAny_bind (wpAny_handled ?_)
 rcases S with hn | ⟨e,o,vs,hh,he,hdo,h2⟩
 ·rw [hn]
  exact wpAny_bind (wpAny_pure (wpAny_throw (q s.heap ox (Heap.SameBut.refl _ _) hx rfl)))
 ·rw [hh] at nx ⊢
  have ne:e ≠ x:=fun z=>nx (by rw [z])
  have nb:(Value.ref e != Value.ref x)=true:=by
   simp [ne]
  simp only [nb,if_true]
  refine wpAny_bind (wpAny_holding (wpAny_runValue (codeAny_builtin entry_unchain ?_)))
  rw [Around.under_plainId plain_unchain _]
  show wpAny _ _ (field (.ref e) 2 >>= _) _ _ s
  refine wpAny_bind (wpAny_field he hdo (x:=.none) h2 ?_)
  simp only [beq_self_eq_true,if_true]
  refine wpAny_pure ?_
  show wpAny _ _ (updateField x 2 (.ref e) >>= _) _ _ s
  refine wpAny_bind ?_
  unfold updateField
  refine wpAny_bind (wpAny_load hx ?_)
  rw [hd]
  simp only [sz,if_true]
  refine wpAny_update hx (wpAny_throw (q _ _ (Heap.SameBut.update ..) (Heap.get?_update_self _ hx (Obj.isFreed_of_fields (Obj.data_mapFields hd _))) (Obj.cls_mapFields ..)))
theorem Still.ne_new {A:Around} {h:Heap} (S:Still A h) {x:Addr} (hx:h.objs.size<=x):A.handled ≠ some (.ref x):=by
 rcases S with z | ⟨e,o,vs,hh,he,_⟩
 ·rw [z]
  intro c
  cases c
 ·rw [hh]
  intro c
  cases c
  exact Nat.not_lt.mpr hx (Heap.lt_size he)
theorem stop_still {α:Type} {Q:α->Shared->Prop} (S:Still A s.heap) (q:∀ h' e,(∀ b o,s.heap.get? b=some o->h'.get? b=some o)->(∃ o,h'.get? e=some o/\o.cls=.type "StopIteration")->E (.ref e) { s with heap:=h' }) :
  wpAny (model P w) A (newExc (.type "StopIteration") ([]:List Value) >>= fun e=>(raiseNew e:Sem α)) Q E s:=by
 refine wpAny_bind ?_
 simp only [newExc,newTuple]
 refine wpAny_bind (wpAny_newObj_type ?_ (by size_fits)); refine wpAny_bind (m:=firstArgMember _ _) (wpAny_of_eq (a:=Value.none) (by first | rfl | (simp only [firstArgMember]; rfl)) ?_)
 refine wpAny_newObj_type ?_ (by size_fits)
 have up:∀ (a b:Obj) c o,s.heap.get? c=some o->((s.heap.push a).push b).get? c=some o:=fun a b c o e=>Heap.get?_push_of_some _ (Heap.get?_push_of_some _ e)
 refine raiseNew_still (S.mono fun e o _ h=>up _ _ e o h) (Heap.get?_push_size _ rfl) rfl (by simp <;> omega) (S.ne_new (by simp only [Heap.size_push]; exact Nat.le_succ _)) fun h' o' sb ho hc=>?_
 refine q h' _ (fun b o e=>?_) ⟨o',ho,hc⟩
 have lt:=Heap.lt_size e
 rw [sb.2 b (fun z=>by rw [z] at lt; simp only [Heap.size_push] at lt; exact Nat.not_lt.mpr (Nat.le_succ _) lt)]
 exact up _ _ b o e
theorem list_end_still {it l:Addr} {i:Nat} {items:Array Value} {Q:Option Value->Shared->Prop} (S:Still A s.heap) (ni:A.handled ≠ some (.ref it)) (hit:s.heap.IsListIter it l i) (hl:s.heap.IsList l items) (hx:items[i]?=none)
  (q:∀ h',Heap.ExtBut it s.heap h'->Q none { s with heap:=h' }):wpAny (model P w) A (pyNext (.ref it)) Q E s:=by
 obtain ⟨o,ho,hc,hd⟩:=id hit
 obtain ⟨ol,hol,_,nl,hdl⟩:=hl
 unfold pyNext
 refine wpAny_bind (wpAny_attempt (wpAny_callSpecial?_slot (name:=Str.ofString "__next__") hit.typeIs slot_listiter_next (wpAny_call_entry slot_listiter_next hit.typeIs entry_listiter_next ?_ (args_listiter_next _))))
 show wpAny _ _ (field (.ref it) 0 >>= _) _ _ s
 refine wpAny_bind (wpAny_field ho hd (x:=.ref l) rfl ?_)
 show wpAny _ _ (if (Value.ref l == Value.none)=true then _ else _) _ _ s
 rw [if_neg (show ¬ ((Value.ref l == Value.none)=true) from Bool.false_ne_true)]
 show wpAny _ _ (field (.ref it) 1 >>= _) _ _ s
 refine wpAny_bind (wpAny_field ho hd (x:=.int i 0) rfl (wpAny_bind (wpAny_seqItems hol hdl ?_)))
 simp only [Int.toNat_natCast,hx]
 refine wpAny_bind (wpAny_rule (wpAny_bind (wpAny_setField ho hd (by simp) ?_)))
 refine stop_still (A:=A.in1) (S.in1.mono fun e o' hh h=>?_) fun h' e k he=>?_
 ·exact (Heap.SameBut.update ..).extBut _ _ (fun z=>ni (by rw [<- z]; exact hh)) h
 ·obtain ⟨oe,e1,e2⟩:=he
  refine wpAny_bind (wpAny_isInstance (T:="StopIteration") (b:=true) ⟨oe,e1,e2⟩ isSubtype_stop ?_)
  exact wpAny_pure (q _ fun b o' nb h=>k _ _ ((Heap.SameBut.update ..).extBut _ _ nb h))
theorem tuple_end_still {it l:Addr} {i:Nat} {items:Array Value} {Q:Option Value->Shared->Prop} (S:Still A s.heap) (ni:A.handled ≠ some (.ref it)) (hit:s.heap.IsTupleIter it l i) (hl:s.heap.IsTuple l items) (hx:items[i]?=none)
  (q:∀ h',Heap.ExtBut it s.heap h'->Q none { s with heap:=h' }):wpAny (model P w) A (pyNext (.ref it)) Q E s:=by
 obtain ⟨o,ho,hc,hd⟩:=id hit
 obtain ⟨ol,hol,_,nl,hdl⟩:=hl
 unfold pyNext
 refine wpAny_bind (wpAny_attempt (wpAny_callSpecial?_slot (name:=Str.ofString "__next__") hit.typeIs F.slot_tuple_iterator_next (wpAny_call_entry F.slot_tuple_iterator_next hit.typeIs F.entry_tuple_iterator_next ?_ (F.args_tuple_iterator_next_1 _))))
 show wpAny _ _ (field (.ref it) 0 >>= _) _ _ s
 refine wpAny_bind (wpAny_field ho hd (x:=.ref l) rfl ?_)
 show wpAny _ _ (if (Value.ref l == Value.none)=true then _ else _) _ _ s
 rw [if_neg (show ¬ ((Value.ref l == Value.none)=true) from Bool.false_ne_true)]
 show wpAny _ _ (field (.ref it) 1 >>= _) _ _ s
 refine wpAny_bind (wpAny_field ho hd (x:=.int i 0) rfl (wpAny_bind (wpAny_seqItems hol hdl ?_)))
 simp only [Int.toNat_natCast,hx]
 refine wpAny_bind (wpAny_rule (wpAny_bind (wpAny_setField ho hd (by simp) ?_)))
 refine stop_still (A:=A.in1) (S.in1.mono fun e o' hh h=>?_) fun h' e k he=>?_
 ·exact (Heap.SameBut.update ..).extBut _ _ (fun z=>ni (by rw [<- z]; exact hh)) h
 ·obtain ⟨oe,e1,e2⟩:=he
  refine wpAny_bind (wpAny_isInstance (T:="StopIteration") (b:=true) ⟨oe,e1,e2⟩ isSubtype_stop ?_)
  exact wpAny_pure (q _ fun b o' nb h=>k _ _ ((Heap.SameBut.update ..).extBut _ _ nb h))
theorem range_end_still {it:Addr} {x left step:Int} {Q:Option Value->Shared->Prop} (S:Still A s.heap) (hit:IsRangeIter s.heap it x left step) (hleft:left<=0)
  (q:∀ h',Heap.ExtBut it s.heap h'->Q none { s with heap:=h' }):wpAny (model P w) A (pyNext (.ref it)) Q E s:=by
 have hT:s.TypeIs (.ref it) "range_iterator":=⟨_,hit,rfl⟩
 unfold pyNext
 refine wpAny_bind (wpAny_attempt (wpAny_callSpecial?_slot (name:=Str.ofString "__next__") hT F.slot_range_iterator_next (wpAny_call_entry F.slot_range_iterator_next hT F.entry_range_iterator_next ?_ (F.args_range_iterator_next_1 _))))
 show wpAny _ _ (field (.ref it) 0 >>= _) _ _ s
 refine wpAny_bind (wpAny_field hit rfl (x:=rawInt x) rfl ?_)
 show wpAny _ _ (field (.ref it) 1 >>= _) _ _ s
 refine wpAny_bind (wpAny_field hit rfl (x:=rawInt left) rfl ?_)
 show wpAny _ _ (field (.ref it) 2 >>= _) _ _ s
 refine wpAny_bind (wpAny_field hit rfl (x:=rawInt step) rfl ?_)
 show wpAny _ _ (if left<=0 then _ else _) _ _ s
 rw [if_pos hleft]
 refine wpAny_bind (wpAny_rule ?_)
 refine wpAny_bind ?_
 refine stop_still (A:=A.in1) S.in1 fun h' e k he=>?_
 obtain ⟨oe,e1,e2⟩:=he
 refine wpAny_bind (wpAny_isInstance (T:="StopIteration") (b:=true) ⟨oe,e1,e2⟩ isSubtype_stop ?_)
 exact wpAny_pure (q _ fun b o' _ h=>k _ _ h)
theorem tnext_end_still {j a:Addr} {i:Nat} {us:Array Value} {Q:Value->Shared->Prop} (S:Still A s.heap) (nj:A.handled ≠ some (.ref j)) (g0:s.heap.IsTupleIter j a i) (g1:s.heap.IsTuple a us) (ex:us[i]?=none)
  (q:∀ h' e,Heap.ExtBut j s.heap h'->(∃ o,h'.get? e=some o/\o.cls=.type "StopIteration")->E (.ref e) { s with heap:=h' }):wpAny (model P w) A (Builtin.SmallTypes.nextOf (.ref j)) Q E s:=by
 obtain ⟨o1,k1,k2,k3⟩:=id g0
 obtain ⟨o2,k4,_,n2,k5⟩:=g1
 unfold Builtin.SmallTypes.nextOf
 refine wpAny_bind (wpAny_callSpecial?_slot (name:=Str.ofString "__next__") g0.typeIs F.slot_tuple_iterator_next (wpAny_call_entry F.slot_tuple_iterator_next g0.typeIs F.entry_tuple_iterator_next ?_ (F.args_tuple_iterator_next_1 _)))
 show wpAny _ _ (field (.ref j) 0 >>= _) _ _ s
 refine wpAny_bind (wpAny_field k1 k3 (x:=.ref a) rfl ?_)
 show wpAny _ _ (if (Value.ref a == Value.none)=true then _ else _) _ _ s
 rw [if_neg (show ¬ ((Value.ref a == Value.none)=true) from Bool.false_ne_true)]
 show wpAny _ _ (field (.ref j) 1 >>= _) _ _ s
 refine wpAny_bind (wpAny_field k1 k3 (x:=.int i 0) rfl (wpAny_bind (wpAny_seqItems k4 k5 ?_)))
 simp only [Int.toNat_natCast,ex]
 refine wpAny_bind (wpAny_rule (wpAny_bind (wpAny_setField k1 k3 (by simp) ?_)))
 refine stop_still (A:=A.in1) (S.in1.mono fun e o' hh h=>?_) fun h' e k he=>?_
 ·exact (Heap.SameBut.update ..).extBut _ _ (fun z=>nj (by rw [<- z]; exact hh)) h
 ·exact q h' e (fun b o' nb h=>k _ _ ((Heap.SameBut.update ..).extBut _ _ nb h)) he
theorem unpackItems_still {t:Addr} {items:Array Value} {Q:List Value->Shared->Prop} (S:Still A s.heap) (ht:IsTup s.heap t items)
  (q:∀ h',Heap.ExtBut s.heap.objs.size s.heap h'->Q items.toList { s with heap:=h' }):wpAny (model P w) A (unpackItems (.ref t) items.size none) Q E s:=by
 have hlt:t ≠ s.heap.objs.size:=by obtain ⟨o,ho,_⟩:=ht; exact Nat.ne_of_lt (Heap.lt_size ho)
 unfold unpackItems
 refine wpAny_bind ?_
 unfold notIterableAtAll
 refine wpAny_bind (wpAny_specialOf ht.typeIs slot_tuple_iter.lookup (wpAny_pure ?_))
 simp only [Bool.false_eq_true,if_false]
 refine wpAny_bind (wpAny_holding (iter_tuple ht ?_))
 refine wpAny_bind (wpAny_holding (draw_tuple hlt items.size 0 _ _ ⟨_,Heap.get?_push_size _ rfl,rfl,rfl⟩ (ht.push _) (by omega) fun h₁ hit₁ hs₁=>?_))
 rw [show List.take items.size (List.drop 0 items.toList)=items.toList from by rw [List.drop_zero]; exact List.take_of_length_le (by simp),if_neg (by simp)]
 have ht₁:IsTup h₁ t items:=(ht.push _).extBut hs₁.extBut hlt
 have nn:=S.ne_new (Nat.le_refl _)
 have S1:Still A h₁:=S.mono fun e o hh he=>hs₁.extBut _ _ (fun z=>nn (by rw [<- z]; exact hh)) (Heap.get?_push_of_some _ he)
 refine wpAny_bind (wpAny_holding (tuple_end_still S1 nn hit₁ (show h₁.IsTuple t items from ht₁) (by simp) fun h₂ he₂=>?_))
 simp only [Option.isSome_none,Bool.false_eq_true,if_false]
 exact wpAny_pure (q h₂ fun b o hb e=>he₂ b o hb (hs₁.extBut b o hb (Heap.get?_push_of_some _ e)))
theorem assign_Tuple_still {env:Env} {elts:List Expr} {x1} {pos:Pos} {t:Addr} {items:Array Value} {Q:Unit->Shared->Prop} (S:Still A s.heap) (ht:IsTup s.heap t items)
  (hn:(assignEach elts env).length=items.size) (hstar:(assignEach elts env).findIdx? (·.1)=none)
  (h:∀ h',Heap.ExtBut s.heap.objs.size s.heap h'->wpAny (model P w) A (assignInOrder ((assignEach elts env).map (·.2)) items.toList) Q E { s with heap:=h' }) :
  wpAny (model P w) A (assign (.Tuple elts x1 pos) env (.ref t)) Q E s:=by
 rw [assign_Tuple]
 refine wpAny_bind (wpAny_standAt ?_)
 unfold unpack
 rw [hn,hstar]
 exact wpAny_bind (wpAny_holding (unpackItems_still S ht h))
end
theorem walks_list_still {P:Program} {w:World} {A:Around} {e:Addr} {o:Obj} {vs:Array Value} (hh:A.handled=some (.ref e)) (hd:o.data=.fields vs) (h2:vs[2]?=some .none) (I ax:Addr) (hne:ax ≠ I) (nI:e ≠ I) (items:Array Value) :
  Walks P w A I [I,ax,e] [I] items.size (fun i v=>items[i]?=some v) (fun i h=>h.IsListIter I ax i/\h.IsList ax items/\h.get? e=some o) where
 sub:=fun b hb=>by simp at hb; simp [hb]
 frame:=fun _ _ _ st hk=>⟨st.1.at fun o e=>hk I (by simp) o e,st.2.1.at fun o e=>hk ax (by simp) o e,hk e (by simp) _ st.2.2⟩
 item:=fun i s Q E hi st q=>by
  refine wpAny_pyNext_list_item st.1 st.2.1 (x:=items[i]) (by simp [hi]) fun h' hit' hs'=>?_
  exact q _ h' s.toks (by simp [hi]) ⟨hit',st.2.1.extBut hs'.extBut hne,hs'.extBut _ _ nI st.2.2⟩ fun b o hb e=>hs'.extBut b o (fun h=>hb (by simp [h])) e
 done:=fun s Q E st q=>list_end_still (.inr ⟨e,o,vs,hh,st.2.2,hd,h2⟩) (by rw [hh]; intro c; cases c; exact nI rfl) st.1 st.2.1 (by simp) fun h' he'=>q h' s.toks fun b o hb e=>he' b o (fun h=>hb (by simp [h])) e
 self:=fun _ _ _ _ st q=>wpAny_pyIter_listiter st.1 q
theorem walks_list_any {P:Program} {w:World} {A:Around} {h0:Heap} (S:Still A h0) (I ax:Addr) (hne:ax ≠ I) (nI:A.handled ≠ some (.ref I)) (items:Array Value) :
  ∃ (fp:List Addr) (st:Nat->Heap->Prop),Walks P w A I fp [I] items.size (fun i v=>items[i]?=some v) st/\(∀ h,h.IsListIter I ax 0->h.IsList ax items->(∀ b o,h0.get? b=some o->h.get? b=some o)->st 0 h) /\
   ∀ b ∈ fp,b=I\/b=ax\/∃ o,h0.get? b=some o:=by
 rcases S with z | ⟨e,o,vs,hh,he,hd,h2⟩
 ·exact ⟨_,_,Walks.list z I ax hne items,fun h a b _=>⟨a,b⟩,fun b hb=>by
   have:b=I\/b=ax:=by simpa using hb
   rcases this with r | r
   ·exact .inl r
   ·exact .inr (.inl r)⟩
 ·refine ⟨_,_,walks_list_still hh hd h2 I ax hne (fun z=>nI (by rw [hh,z])) items,fun h a b k=>⟨a,b,k _ _ he⟩,fun b hb=>?_⟩
  have:b=I\/b=ax\/b=e:=by simpa using hb
  rcases this with r | r | r
  ·exact .inl r
  ·exact .inr (.inl r)
  ·exact .inr (.inr ⟨o,by rw [r]; exact he⟩)
theorem range_item_still {P:Program} {w:World} {A:Around} {E:Value->Shared->Prop} {s:Shared} {it:Addr} {a c:Int} {n i:Nat} {Q:Option Value->Shared->Prop} (hi:i < n) (st:IsRangeIter s.heap it (a+(i:Nat)*c) ((n:Int) - (i:Nat)) c)
  (q:∀ v h' tk,(∃ t,v=.int (a+(i:Nat)*c) t)->IsRangeIter h' it (a+((i+1:Nat):Int)*c) ((n:Int) - ((i+1:Nat):Int)) c->(∀ b o,b ∉ [it]->s.heap.get? b=some o->h'.get? b=some o)->Q (some v) { s with heap:=h',toks:=tk }) :
  wpAny (model P w) A (pyNext (.ref it)) Q E s:=by
 refine wpAny_pyNext_range_item st (by omega) fun h1 it1 s1=>?_
 refine q _ h1 _ ⟨_,rfl⟩ ?_ fun b o nb x=>s1.extBut b o (fun z=>nb (by simp [z])) x
 have e1:a+((i+1:Nat):Int)*c=a+(i:Int)*c+c:=by push_cast; rw [Int.add_mul,Int.one_mul,Int.add_assoc]
 have e2:(n:Int) - ((i+1:Nat):Int)=(n:Int) - (i:Int) - 1:=by push_cast; omega
 rw [e1,e2]
 exact it1
end L2
namespace L2
open PySem PySem.Spec PyProof.Rows
abbrev Key:=Sum Int Str
def keyIs:Key->Value->Bool
 | .inl k,v=>Value.isInt k v
 | .inr x,v=>Value.isStrOf x v
def keyH (w:World):Key->Int
 | .inl k=>hashInt k
 | .inr x=>hashStr w x
theorem keyIs_shape:∀ {k:Key} {v:Value},keyIs k v=true->(∃ i t,k=Sum.inl i/\v=Value.int i t)\/(∃ x t,k=Sum.inr x/\v=Value.str x t)
 | .inl i,v,h=>by
  obtain ⟨t,e⟩:=Value.isInt_shape (k:=i) (v:=v) h
  exact .inl ⟨i,t,rfl,e⟩
 | .inr x,v,h=>by
  obtain ⟨t,e⟩:=Value.isStrOf_shape (x:=x) (v:=v) h
  exact .inr ⟨x,t,rfl,e⟩
theorem key_ll (a b:Int):decide ((Sum.inl a:Key)=Sum.inl b)=(a == b):=by
 by_cases e:a=b
 ·subst e; simp
 ·have h:¬ (Sum.inl a:Key)=Sum.inl b:=fun q=>e (Sum.inl.inj q)
  rw [decide_eq_false h]
  exact (beq_eq_false_iff_ne.mpr e).symm
theorem key_rr (a b:Str):decide ((Sum.inr a:Key)=Sum.inr b)=decide (a=b):=by
 by_cases e:a=b
 ·subst e; simp
 ·have h:¬ (Sum.inr a:Key)=Sum.inr b:=fun q=>e (Sum.inr.inj q)
  rw [decide_eq_false h,decide_eq_false e]
theorem key_lr (a:Int) (b:Str):decide ((Sum.inl a:Key)=Sum.inr b)=false:=decide_eq_false (fun q=>nomatch q)
theorem key_rl (a:Str) (b:Int):decide ((Sum.inr a:Key)=Sum.inl b)=false:=decide_eq_false (fun q=>nomatch q)
def mixKind (prog:Program) (w:World):PySem.KeyKind prog w Key where
 is:=keyIs
 hash:=keyH w
 inj:=fun v a b ha hb=>by
  rcases keyIs_shape ha with ⟨i,t,rfl,rfl⟩ | ⟨x,t,rfl,rfl⟩
  ·rcases keyIs_shape hb with ⟨j,u,rfl,e⟩ | ⟨y,u,rfl,e⟩
   ·injection e with e1 _; rw [e1]
   ·exact nomatch e
  ·rcases keyIs_shape hb with ⟨j,u,rfl,e⟩ | ⟨y,u,rfl,e⟩
   ·exact nomatch e
   ·injection e with e1 _; rw [e1]
 byValue:=fun k v h=>by
  rcases keyIs_shape h with ⟨i,t,rfl,rfl⟩ | ⟨x,t,rfl,rfl⟩ <;> rfl
 pyHash:=fun hv h=>by
  rcases keyIs_shape hv with ⟨i,t,rfl,rfl⟩ | ⟨x,t,rfl,rfl⟩
  ·exact wpAny_pyHash_int h
  ·exact wpAny_pyHash_str h
 eqBool:=fun hu hv h=>by
  rcases keyIs_shape hu with ⟨i,t,rfl,rfl⟩ | ⟨x,t,rfl,rfl⟩
  ·rcases keyIs_shape hv with ⟨j,u,rfl,rfl⟩ | ⟨y,u,rfl,rfl⟩
   ·rw [key_ll] at h; exact wpAny_eqBool_int h
   ·rw [key_lr] at h; exact SeqAt.EqAt.int_str i t y u _ _ _ _ h
  ·rcases keyIs_shape hv with ⟨j,u,rfl,rfl⟩ | ⟨y,u,rfl,rfl⟩
   ·rw [key_rl] at h; exact SeqAt.EqAt.str_int x t j u _ _ _ _ h
   ·rw [key_rr] at h; exact wpAny_eqBool_str h
 «strs»:=fun k x t v h=>by
  rcases keyIs_shape h with ⟨i,u,rfl,e⟩ | ⟨y,u,rfl,e⟩
  ·exact nomatch e
  ·injection e with e1 _
   subst e1
   cases v <;> rfl
end L2
namespace L2
open PySem PySem.Spec PyProof.Rows
inductive V where
 | non | bl (b:Bool) | int (i:Int) | str (x:Str) | byt (b:Array UInt8) | flt (b:UInt64) | ref (a:Addr) | ty (n:String)
 deriving DecidableEq
def RelV:V->Value->Prop
 | .non,u=>u=Value.none
 | .bl b,u=>u=Value.bool b
 | .int i,u=>∃ t,u=Value.int i t
 | .str x,u=>∃ t,u=Value.str x t
 | .byt b,u=>∃ t,u=Value.bytes b t
 | .flt b,u=>∃ t,u=Value.float b t
 | .ref a,u=>u=Value.ref a
 | .ty n,u=>u=Value.type n
abbrev Vals:List V->List Value->Prop:=Paired RelV
theorem Vals.length {xs:List V} {us:List Value} (r:Vals xs us):xs.length=us.length:=Paired.length r
theorem Vals.get:∀ {xs:List V} {us:List Value} {i:Nat} {x:V},Vals xs us->xs[i]?=some x->∃ u,us[i]?=some u/\RelV x u
 | _,_,_,_,.nil,e=>by simp at e
 | _,_,0,_,.cons r _,e=>by simp at e; subst e; exact ⟨_,rfl,r⟩
 | _,_,i+1,x,.cons _ t,e=>by
  obtain ⟨u,h1,h2⟩:=Vals.get (i:=i) (x:=x) t (by simpa using e)
  exact ⟨u,by simpa using h1,h2⟩
theorem Vals.append:∀ {xs ys:List V} {us ws:List Value},Vals xs us->Vals ys ws->Vals (xs ++ ys) (us ++ ws)
 | _,_,_,_,.nil,s=>s
 | _,_,_,_,.cons r t,s=>.cons r (Vals.append t s)
theorem Vals.take:∀ {xs:List V} {us:List Value} (n:Nat),Vals xs us->Vals (xs.take n) (us.take n)
 | _,_,0,_=>.nil
 | _,_,_+1,.nil=>.nil
 | _,_,n+1,.cons r t=>.cons r (Vals.take n t)
theorem Vals.drop:∀ {xs:List V} {us:List Value} (n:Nat),Vals xs us->Vals (xs.drop n) (us.drop n)
 | _,_,0,r=>r
 | _,_,_+1,.nil=>.nil
 | _,_,n+1,.cons _ t=>Vals.drop n t
theorem Vals.none_of:∀ {xs:List V} {us:List Value} {i:Nat},Vals xs us->xs[i]?=none->us[i]?=none:=fun {xs us i} r e=>by
 have h1:=r.length
 have h2:xs.length<=i:=List.getElem?_eq_none_iff.mp e
 exact List.getElem?_eq_none_iff.mpr (by omega)
def RelO:Option V->Option Value->Prop
 | some v,some u=>RelV v u
 | none,none=>True
 | _,_=>False
def KV {κ:Type}:List (κ × V)->List (κ × Value)->Prop:=Paired fun (p:κ × V) (q:κ × Value)=>p.1=q.1/\RelV p.2 q.2
def kV:Key->V
 | .inl i=>.int i
 | .inr x=>.str x
inductive HO where
 /-- a list -/
 | lst (xs:List V)
 /-- a tuple (never changes) -/
 | tup (xs:List V)
 /-- a dict whose keys are ints and texts; one whose keys are tuples of ints and texts (the empty one is both) -/
 | dK (kvs:List (Key × V)) | dT (kvs:List (List Key × V))
 /-- a set of ints: its members,its size -/
 | set (S:Int->Bool) (n:Nat)
 /-- an instance of the class at C,its dict at dx,its attributes -/
 | ins (C dx:Addr) (fs:List (Str × V))
 /-- the dict of the instance at x -/
 | own (x:Addr)
 /-- the dict of an exception -/
 | xd (fs:List (Str × V))
 /-- a bound method,f of x -/
 | met (f x:Addr)
 /-- a range object lo,lo+1,.. below hi -/
 | rng (lo hi:Int)
 /-- a thing that is known to the object (the script; a dict while a loop walks it): read,never written while it is so -/
 | frz (o:Obj) (u:HO)
 /-- a code object's table -/
 | tbl (ps:Array Value)
 /-- any other thing,by what is true of its one object (a def of one's own: SetO a S n:=HO.ext fun h=>..) -/
 | ext (φ:Heap->Prop)
abbrev Hp:=Addr->Option HO
def upd (H:Hp) (a:Addr) (o:HO):Hp:=fun b=>if b=a then some o else H b
theorem upd_same {H:Hp} {a:Addr} {o:HO}:upd H a o a=some o:=by unfold upd; rw [if_pos rfl]
theorem upd_ne {H:Hp} {a b:Addr} {o:HO} (h:b ≠ a):upd H a o b=H b:=by unfold upd; rw [if_neg h]
theorem ne_of_none {H:Hp} {a b:Addr} {o:HO} (h:H a=some o) (h':H b=none):a ≠ b:=by
 intro e; subst e; rw [h] at h'; cases h'
section
variable (P:Program) (w:World)
def ObjOk (H:Hp) (h:Heap) (a:Addr):HO->Prop
 | .lst xs=>xs.length<=sizeLine/\∃ (its:List Value) (n:Nat),Vals xs its/\h.get? a=some { cls:=.type "list",data:=.seq its.toArray n }
 | .tup xs=>xs.length<=sizeLine/\∃ its:List Value,Vals xs its/\IsTup h a its.toArray
 | .dK kvs=>kvs.length<=sizeLine/\(a == sysModules)=false/\∃ vs,KV kvs vs/\h.DictOf (mixKind P w) a vs
 | .dT kvs=>kvs.length<=sizeLine/\(a == sysModules)=false/\∃ xs:List (List Key × Addr × Value),
   Paired (fun (p:List Key × V) (q:List Key × Addr × Value)=>p.1=q.1/\H q.2.1=some (.tup (p.1.map kV))/\RelV p.2 q.2.2) kvs xs /\
   ∃ o es ep,h.get? a=some o/\o.ExactDict/\o.data=.dict es ep/\es.toList=xs.map (entryOfKey (tupleKind (mixKind P w)))/\(xs.map (·.1)).Nodup
 | .set S n=>h.SetOf (intKind P w) a S n
 | .ins C dx fs=>H dx=some (.own a)/\fs.length<=1000/\dx ≠ a/\h.get? a=some (W.instObj C dx) /\
   ∃ mA,h.Ns1 dx mA/\(∀ f,RelO (fs.lookup f) (mA f))/\PySem.Within mA (fs.map (·.1))
 | .own _=>∃ o,h.get? a=some o
 | .xd fs=>∃ mA,h.Ns1 a mA/\∀ f,RelO (fs.lookup f) (mA f)
 | .rng lo hi=>∃ t u v,h.get? a=some { cls:=.type "range",data:=.fields #[.int lo t,.int hi u,.int 1 v] }
 | .frz o u=>h.get? a=some o/\ObjOk H h a u
 | .tbl ps=>h.get? a=some { cls:=.none,data:=.fields ps }
 | .met f x=>h.get? a=some (W.methodObj (.ref f) (.ref x))
 | .ext φ=>φ h/\(∃ o,h.get? a=some o)/\∀ h1 h2:Heap,φ h1->(∀ o,h1.get? a=some o->h2.get? a=some o)->φ h2
def HOk (H:Hp) (h:Heap):Prop:=∀ a o,H a=some o->ObjOk P w H h a o
end
section
variable {P:Program} {w:World} {H H':Hp} {h h':Heap} {a:Addr} {o:HO}
theorem ObjOk.lt (x:ObjOk P w H h a o):a < h.objs.size:=by
 cases o with
 | lst xs=>obtain ⟨_,_,_,_,e⟩:=x; exact Heap.lt_size e
 | tup xs=>obtain ⟨_,_,_,p⟩:=x; exact p.lt
 | dK kvs=>obtain ⟨_,_,_,_,o,_,_,e,_⟩:=x; exact Heap.lt_size e
 | dT kvs=>obtain ⟨_,_,_,_,o,_,_,e,_⟩:=x; exact Heap.lt_size e
 | set S n=>obtain ⟨o,_,_,_,e,_⟩:=x; exact Heap.lt_size e
 | ins C dx fs=>obtain ⟨_,_,_,e,_⟩:=x; exact Heap.lt_size e
 | own y=>obtain ⟨_,e⟩:=x; exact Heap.lt_size e
 | xd fs=>obtain ⟨_,⟨_,_,_,e,_⟩,_⟩:=x; exact Heap.lt_size e
 | rng lo hi=>obtain ⟨_,_,_,e⟩:=x; exact Heap.lt_size e
 | frz ob u=>obtain ⟨e,_⟩:=x; exact Heap.lt_size e
 | tbl ps=>exact Heap.lt_size (show h.get? a=some _ from x)
 | met f y=>exact Heap.lt_size (show h.get? a=some _ from x)
 | ext φ=>obtain ⟨_,⟨_,e⟩,_⟩:=x; exact Heap.lt_size e
theorem Paired.mapP {α β:Type} {F G:α->β->Prop}:∀ {l₁:List α} {l₂:List β},Paired F l₁ l₂->(∀ a b,F a b->G a b)->Paired G l₁ l₂
 | _,_,.nil,_=>.nil
 | _,_,.cons r t,f=>.cons (f _ _ r) (Paired.mapP t f)
theorem ObjOk.stay (x:ObjOk P w H h a o) (k:∀ b u,(b=a\/H b=some (.own a))->h.get? b=some u->h'.get? b=some u)
  (ho:∀ b,H b=some (.own a)->H' b=some (.own a)) (ht:∀ b xs,H b=some (.tup xs)->H' b=some (.tup xs)):ObjOk P w H' h' a o:=by
 induction o with
 | lst xs=>obtain ⟨z,its,n,r,e⟩:=x; exact ⟨z,its,n,r,k _ _ (.inl rfl) e⟩
 | tup xs=>obtain ⟨z,its,r,ob,e,c⟩:=x; exact ⟨z,its,r,ob,k _ _ (.inl rfl) e,c⟩
 | dK kvs=>obtain ⟨z,y,vs,r,ob,es,ep,e,c⟩:=x; exact ⟨z,y,vs,r,ob,es,ep,k _ _ (.inl rfl) e,c⟩
 | dT kvs=>
  obtain ⟨z,y,xs,r,ob,es,ep,e,c⟩:=x
  exact ⟨z,y,xs,Paired.mapP r fun p q z=>⟨z.1,ht _ _ z.2.1,z.2.2⟩,ob,es,ep,k _ _ (.inl rfl) e,c⟩
 | set S n=>obtain ⟨ob,es,ep,t,e,c⟩:=x; exact ⟨ob,es,ep,t,k _ _ (.inl rfl) e,c⟩
 | ins C dx fs=>
  obtain ⟨d,z,ne,e,mA,⟨od,es,ep,e2,c⟩,r⟩:=x
  exact ⟨ho _ d,z,ne,k _ _ (.inl rfl) e,mA,⟨od,es,ep,k _ _ (.inr d) e2,c⟩,r⟩
 | own y=>obtain ⟨ob,e⟩:=x; exact ⟨ob,k _ _ (.inl rfl) e⟩
 | xd fs=>obtain ⟨mA,⟨od,es,ep,e,c⟩,r⟩:=x; exact ⟨mA,⟨od,es,ep,k _ _ (.inl rfl) e,c⟩,r⟩
 | rng lo hi=>obtain ⟨t,u,v,e⟩:=x; exact ⟨t,u,v,k _ _ (.inl rfl) e⟩
 | frz ob u ih=>obtain ⟨e,q⟩:=x; exact ⟨k _ _ (.inl rfl) e,ih q⟩
 | tbl ps=>
  have e:h.get? a=some { cls:=.none,data:=.fields ps }:=x
  show h'.get? a=some { cls:=.none,data:=.fields ps }
  exact k a _ (.inl rfl) e
 | met f y=>
  have e:h.get? a=some (W.methodObj (.ref f) (.ref y)):=x
  show h'.get? a=some (W.methodObj (.ref f) (.ref y))
  exact k a _ (.inl rfl) e
 | ext φ=>obtain ⟨p,⟨o,e⟩,st⟩:=x; exact ⟨st _ _ p fun o q=>k _ _ (.inl rfl) q,⟨o,k _ _ (.inl rfl) e⟩,st⟩
theorem HOk.lt (x:HOk P w H h) (e:H a=some o):a < h.objs.size:=(x a o e).lt
theorem HOk.fresh (x:HOk P w H h) (e:h.objs.size<=a):H a=none:=by
 cases q:H a with
 | none=>rfl
 | some u=>exact absurd (Nat.lt_of_lt_of_le (x.lt q) e) (Nat.lt_irrefl _)
theorem HOk.kept (x:HOk P w H h) (k:∀ b u,h.get? b=some u->h'.get? b=some u):HOk P w H h':=fun a o e=>
 (x a o e).stay (fun b u _ q=>k b u q) (fun _ q=>q) fun _ _ q=>q
theorem HOk.laid (x:HOk P w H h) (k:∀ b u,h.get? b=some u->h'.get? b=some u) (hp:h.objs.size<=a) (new:ObjOk P w (upd H a o) h' a o):HOk P w (upd H a o) h':=fun b u e=>by
 have hn:=x.fresh hp
 by_cases hb:b=a
 ·subst hb; rw [upd_same] at e; cases e; exact new
 ·rw [upd_ne hb] at e
  exact (x b u e).stay (fun c v _ q=>k c v q) (fun c q=>by rw [upd_ne (ne_of_none q hn)]; exact q) fun c xs q=>by rw [upd_ne (ne_of_none q hn)]; exact q
end
def Rd (H:Hp) (a:Addr) (u:HO):Prop:=H a=some u\/∃ o,H a=some (.frz o u)
theorem Rd.ok {P:Program} {w:World} {H:Hp} {h:Heap} {a:Addr} {u:HO} (r:Rd H a u) (x:HOk P w H h):ObjOk P w H h a u:=by
 rcases r with r | ⟨o,r⟩
 ·exact x a u r
 ·obtain ⟨_,q⟩:=x a _ r
  exact q
def Mut:Option HO->Prop
 | some (.lst _)=>True
 | some (.dK _)=>True
 | some (.dT _)=>True
 | some (.set _ _)=>True
 | some (.ins _ _ _)=>True
 | some (.ext _)=>True
 | _=>False
section
variable {P:Program} {w:World} {H:Hp} {h h':Heap} {x e:Addr} {o':HO}
theorem HOk.write (ok:HOk P w H h) (mu:Mut (H x)) (he:e=x\/H e=some (.own x)) (k:∀ b u,b ≠ e->h.get? b=some u->h'.get? b=some u) (heo:∃ u,h'.get? e=some u)
  (new:ObjOk P w (upd H x o') h' x o'):HOk P w (upd H x o') h':=fun b u q=>by
 have nown:∀ c y,H c=some (.own y)->c ≠ x:=fun c y r z=>by subst z; rw [r] at mu; exact mu
 have ntup:∀ c xs,H c=some (.tup xs)->c ≠ x:=fun c xs r z=>by subst z; rw [r] at mu; exact mu
 by_cases hb:b=x
 ·subst hb; rw [upd_same] at q; cases q; exact new
 ·rw [upd_ne hb] at q
  by_cases hbe:b=e
  ·have q':H b=some (.own x):=by
    rcases he with z | z
    ·exact absurd (hbe.trans z) hb
    ·rw [hbe]; exact z
   rw [q] at q'; cases q'
   obtain ⟨v,hv⟩:=heo
   exact ⟨v,by rw [hbe]; exact hv⟩
  ·refine (ok b u q).stay (fun c v hc r=>k c v ?_ r) (fun c r=>by rw [upd_ne (nown c b r)]; exact r) fun c xs r=>by rw [upd_ne (ntup c xs r)]; exact r
   rcases hc with rfl | hc
   ·exact hbe
   ·rintro rfl
    rcases he with z | z
    ·exact nown c b hc z
    ·rw [hc] at z; cases z; exact hb rfl
end
structure Un (fs ex:List Addr) (H H':Hp) (h h':Heap):Prop where
 keep:∀ b o,h.get? b=some o->H b=none->b ∉ fs->b ∉ ex->h'.get? b=some o
 slot:∀ b o,h.get? b=some o->H b=none->b ∈ fs->b ∉ ex->∃ sl,h'.get? b=some { o with slots:=sl }
 free:∀ b o,h.get? b=some o->H b=none->b ∉ ex->H' b=none
 there:∀ b o,h.get? b=some o->b ∉ ex->∃ o',h'.get? b=some o'
 tups:∀ b xs,H b=some (.tup xs)->H' b=some (.tup xs)
 frzs:∀ b o u,H b=some (.frz o u)->H' b=some (.frz o u)
 tbls:∀ b ps,H b=some (.tbl ps)->∃ more,H' b=some (.tbl (ps ++ more))
section
variable {fs fs' ex ex':List Addr} {H H1 H2:Hp} {h h1 h2 h':Heap} {a x e:Addr} {o:HO}
theorem Un.any (u:Un fs ex H H1 h h1) {b:Addr} {ob:Obj} (q:h.get? b=some ob) (n:H b=none) (hx:b ∉ ex):∃ sl,h1.get? b=some { ob with slots:=sl }:=by
 by_cases hb:b ∈ fs
 ·exact u.slot b ob q n hb hx
 ·exact ⟨ob.slots,u.keep b ob q n hb hx⟩
theorem Un.kept (k:∀ b u,h.get? b=some u->h'.get? b=some u):Un fs ex H H h h':=
 ⟨fun b ob q _ _ _=>k b ob q,fun b ob q _ _ _=>⟨ob.slots,k b ob q⟩,fun _ _ _ n _=>n,fun b ob q _=>⟨ob,k b ob q⟩,fun _ _ q=>q,fun _ _ _ q=>q,fun _ ps q=>⟨#[],by rw [q]; simp⟩⟩
theorem Un.refl:Un fs ex H H h h:=Un.kept fun _ _ q=>q
theorem Un.laid (k:∀ b u,h.get? b=some u->h'.get? b=some u) (hp:h.objs.size<=a) (hn:H a=none):Un fs ex H (upd H a o) h h' where
 keep:=fun b u q _ _ _=>k b u q
 slot:=fun b u q _ _ _=>⟨u.slots,k b u q⟩
 free:=fun b u q n _=>by rw [upd_ne (Nat.ne_of_lt (Nat.lt_of_lt_of_le (Heap.lt_size q) hp))]; exact n
 there:=fun b u q _=>⟨u,k b u q⟩
 tups:=fun b xs q=>by rw [upd_ne (ne_of_none q hn)]; exact q
 frzs:=fun b u xs q=>by rw [upd_ne (ne_of_none q hn)]; exact q
 tbls:=fun b ps q=>⟨#[],by rw [upd_ne (ne_of_none q hn),q]; simp⟩
theorem Un.write (mu:Mut (H x)) (he:e=x\/H e=some (.own x)) (k:∀ b u,b ≠ e->h.get? b=some u->h'.get? b=some u) (heo:∃ u,h'.get? e=some u):Un fs ex H (upd H x o) h h':=by
 have hx:∀ b,H b=none->b ≠ x:=fun b n z=>by subst z; rw [n] at mu; exact mu
 have hb:∀ b,H b=none->b ≠ e:=fun b n z=>by
  subst z
  rcases he with r | r
  ·exact hx b n r
  ·rw [n] at r; cases r
 have hm:∀ b u,H b=some u->¬ Mut (some u)->b ≠ x:=fun b u q nm z=>by subst z; rw [q] at mu; exact nm mu
 refine ⟨fun b u q n _ _=>k b u (hb b n) q,fun b u q n _ _=>⟨u.slots,k b u (hb b n) q⟩,fun b u q n _=>by rw [upd_ne (hx b n)]; exact n,fun b u q _=>?_,
  fun b xs q=>by rw [upd_ne (hm b _ q fun z=>z)]; exact q,fun b u xs q=>by rw [upd_ne (hm b _ q fun z=>z)]; exact q,fun b ps q=>⟨#[],by rw [upd_ne (hm b _ q fun z=>z),q]; simp⟩⟩
 by_cases hbe:b=e
 ·subst hbe; exact heo
 ·exact ⟨u,k b u hbe q⟩
end
def trk (h:Heap) (H:Hp):List Addr:=(List.range h.objs.size).filter fun a=>(H a).isSome
def hidT (h:Heap) (H:Hp):Heap:=W.hideAll h (trk h H)
theorem hidT_size (h:Heap) (H:Hp):(hidT h H).objs.size=h.objs.size:=W.hideAll_size _ _
theorem hidT_get {h:Heap} {H:Hp} {b:Addr} {o:Obj} (e:h.get? b=some o) (n:H b=none):(hidT h H).get? b=some o:=
 W.hideAll_get _ e fun hm=>by
  have q:(H b).isSome=true:=(List.mem_filter.mp hm).2
  rw [n] at q; simp at q
theorem of_hidT {h:Heap} {H:Hp} {b:Addr} {o:Obj} (e:(hidT h H).get? b=some o):h.get? b=some o/\H b=none:=by
 have e':h.get? b=some o:=W.of_hideAll (trk h H) e
 refine ⟨e',?_⟩
 cases q:H b with
 | none=>rfl
 | some x=>
  have hm:b ∈ trk h H:=List.mem_filter.mpr ⟨List.mem_range.mpr (Heap.lt_size e'),by simp [q]⟩
  have z:(hidT h H).get? b=none:=W.hideAll_none (trk h H) hm
  rw [z] at e; cases e
def allNews (g h:Heap) (L:Addr):List (Addr × Obj):=(List.range h.objs.size).filterMap fun a=>if a=L\/(g.get? a).isSome=true then none else (h.get? a).map fun o=>(a,o)
def rest (g h:Heap) (L d:Addr):List (Addr × Obj):=(allNews g h L).filter fun p=>decide (p.1 ≠ d)
end L2
namespace L2
open PySem PySem.Spec PyProof.Rows
structure Mod (K:W.Frag) (mg:Str->Option Value) (base:Heap):Prop where
 kin:K.In base
 glob:base.Ns mainGlobals mg
 blt:∃ mb,base.Ns builtinsNs mb/\∀ x:Str,x ≠ "__name__"->mb x=bootBuiltins x
 nolimit:base.NoLimit
structure Cx where
 prog:Program
 w:World
 K:W.Frag
 mg:Str->Option Value
 base:Heap
 A:Around
 N:List Str
 s₀:Shared
 H₀:Hp
 env:Env
 outer:List Env
 stack:List Env
 ex:List Addr
 fn:Str->Bool
 calm:Bool
 still:Bool
 fz:List (Addr × Obj × HO)
 pn:List (Addr × Obj)
 xe:Value->Shared->Prop
def frs (l:List Env):List Addr:=l.filterMap (·.frame)
abbrev Cx.fs (X:Cx):List Addr:=frs X.outer
def Vis (sc:Scope) (x:Str):Prop:=sc.names.lookup x=some .local\/sc.names.lookup x=some .cell\/sc.names.lookup x=some .free
def Loc (sc:Scope) (x:Str):Prop:=sc.names.lookup x=some .local\/sc.names.lookup x=some .cell
def Look (env:Env) (h:Heap) (m:Str->Option Value) (x:Str) (u:Value):Prop:=
 (env.kindOf x=some .local/\m x=some u)\/((env.kindOf x=some .cell\/env.kindOf x=some .free)/\∃ c,env.cells.lookup x=some c/\h.IsCell c (some u))
structure Cx.Ok (X:Cx):Prop where
 mod:Mod X.K X.mg X.base
 kind:X.env.scope.kind=.function
 glob:X.env.globals=mainGlobals
 blt:X.env.builtins=builtinsNs
 above:X.s₀.heap.objs.size<=X.env.locals
 inj:∀ x y c,X.env.cells.lookup x=some c->X.env.cells.lookup y=some c->x=y
 has:∀ x,(X.env.kindOf x=some .cell\/X.env.kindOf x=some .free)->∃ c,X.env.cells.lookup x=some c
 cab:∀ x c,X.fn x=true->X.env.cells.lookup x=some c->X.s₀.heap.objs.size<=c
 hd:X.calm=true->X.A.handled=none
 hs:X.still=true->X.A.handled=none\/∃ e o u vs,X.A.handled=some (.ref e)/\(e,o,u) ∈ X.fz/\o.data=.fields vs/\vs[2]?=some .none
 frames:X.A.frames=some X.stack
 stk:X.stack=X.outer\/(X.stack=X.env :: X.outer/\X.env.frame=some X.env.locals)
 exf:∀ b ∈ X.ex,b ≠ X.env.locals/\∀ x c,X.env.cells.lookup x=some c->c ≠ b
 bs:∀ b o,X.base.get? b=some o->X.s₀.heap.get? b=some o/\X.H₀ b=none
 bsz:X.base.objs.size<=X.s₀.heap.objs.size
 noex:∀ b o,X.base.get? b=some o->b ∉ X.ex
 exfs:∀ b ∈ X.ex,b ∉ X.fs
 funs:X.s₀.heap.FunFrames X.base X.outer
 frf:∀ b ∈ X.fs,X.H₀ b=none
structure Inv (X:Cx) (pins:List (Addr × Obj)) (σ:List (Option V)) (H:Hp) (s:Shared):Prop where
 ok:X.Ok
 fzs:∀ p ∈ X.fz,H p.1=some (.frz p.2.1 p.2.2)
 os:s.os=X.s₀.os
 bare:AllBare s.gens
 base:Un X.fs X.ex X.H₀ H X.s₀.heap s.heap
 loc:∃ m,s.heap.Ns X.env.locals m/\∀ (i:Nat) (x:Str) (v:V),X.N[i]?=some x->σ[i]?=some (some v)->Vis X.env.scope x->∃ u,RelV v u/\Look X.env s.heap m x u
 cell:∀ x c,X.env.cells.lookup x=some c->∃ v,s.heap.IsCell c v
 free:H X.env.locals=none
 freeC:∀ x c,X.env.cells.lookup x=some c->H c=none
 pin:∀ p ∈ X.pn ++ pins,s.heap.get? p.1=some p.2/\H p.1=none/\p.1 ≠ X.env.locals/\p.1 ∉ X.fs/\∀ v,p.2.data ≠ .cell v
 hok:HOk X.prog X.w H s.heap
 len:σ.length=X.N.length
section
variable {X:Cx} {pins:List (Addr × Obj)} {σ:List (Option V)} {H H':Hp} {s:Shared} {h':Heap}
theorem Cx.Ok.nofr (ok:X.Ok) {b:Addr} {o:Obj} (e:X.base.get? b=some o):b ∉ X.fs:=fun hb=>by
 have:=(ok.funs.mem hb).1
 rw [e] at this; cases this
theorem Inv.bs (I:Inv X pins σ H s):∀ b o,X.base.get? b=some o->s.heap.get? b=some o/\H b=none:=fun b o e=>
 ⟨I.base.keep b o (I.ok.bs b o e).1 (I.ok.bs b o e).2 (I.ok.nofr e) (I.ok.noex b o e),I.base.free b o (I.ok.bs b o e).1 (I.ok.bs b o e).2 (I.ok.noex b o e)⟩
theorem Inv.bk (I:Inv X pins σ H s):∀ b o,X.base.get? b=some o->s.heap.get? b=some o:=fun b o e=>(I.bs b o e).1
theorem Inv.mod (I:Inv X pins σ H s):Mod X.K X.mg X.base:=I.ok.mod
theorem Inv.kIn (I:Inv X pins σ H s):X.K.In s.heap:=I.ok.mod.kin.keeps I.bk
theorem Inv.lt (I:Inv X pins σ H s):X.env.locals < s.heap.objs.size:=let ⟨_,hn,_⟩:=I.loc; hn.lt
theorem Inv.sz (I:Inv X pins σ H s):X.s₀.heap.objs.size<=s.heap.objs.size:=Nat.le_trans I.ok.above (Nat.le_of_lt I.lt)
theorem Inv.nofs (I:Inv X pins σ H s) {a:Addr} (h:s.heap.objs.size<=a):a ∉ X.fs:=fun hb=>by
 obtain ⟨_,o,ho,_⟩:=I.ok.funs.mem hb
 exact absurd (Nat.lt_of_lt_of_le (Heap.lt_size ho) (Nat.le_trans I.sz h)) (Nat.lt_irrefl _)
theorem Inv.cne (I:Inv X pins σ H s):∀ x c,X.env.cells.lookup x=some c->c ≠ X.env.locals:=fun x c e z=>by
 obtain ⟨v,o,ho,hd⟩:=I.cell x c e
 obtain ⟨m,⟨o',es,ep,ho',hd',_⟩,_⟩:=I.loc
 rw [z,ho'] at ho; cases ho; rw [hd'] at hd; cases hd
theorem Inv.funs (I:Inv X pins σ H s):s.heap.FunFrames X.base X.outer:=by
 have all:∀ (l:List Env),(∀ b ∈ frs l,b ∈ X.fs)->X.s₀.heap.FunFrames X.base l->s.heap.FunFrames X.base l:=by
  intro l
  induction l with
  | nil=>intro _ _; trivial
  | cons env r ih=>
   intro hs hl
   obtain ⟨hk,⟨L,o,hf,hn,ho,hd⟩,hr⟩:=hl
   have hL:L ∈ X.fs:=hs L (by unfold frs; rw [List.filterMap_cons,hf]; exact List.mem_cons_self)
   obtain ⟨sl,e⟩:=I.base.slot L o ho (I.ok.frf L hL) hL fun z=>I.ok.exfs L z hL
   exact ⟨hk,⟨L,_,hf,hn,e,hd⟩,ih (fun b hb=>hs b (by unfold frs; rw [List.filterMap_cons,hf]; exact List.mem_cons_of_mem _ hb)) hr⟩
 exact all X.outer (fun _ hb=>hb) I.ok.funs
theorem Inv.stack (I:Inv X pins σ H s):s.heap.FunFrames X.base X.stack:=by
 rcases I.ok.stk with e | ⟨e,hf⟩
 ·rw [e]; exact I.funs
 ·rw [e]
  obtain ⟨m,hn,_⟩:=I.loc
  refine .cons (by rw [I.ok.kind]; decide) hf hn ?_ I.funs
  exact Heap.get?_none_of_le (Nat.le_trans I.ok.bsz I.ok.above)
theorem Inv.stkSub (I:Inv X pins σ H s):∀ b ∈ frs X.stack,b ∈ X.env.locals :: X.fs:=fun b hb=>by
 rcases I.ok.stk with e | ⟨e,hf⟩
 ·rw [e] at hb; exact List.mem_cons_of_mem _ hb
 ·rw [e] at hb
  unfold frs at hb
  rw [List.filterMap_cons,hf] at hb
  exact hb
theorem Inv.stkFree (I:Inv X pins σ H s):∀ b ∈ frs X.stack,H b=none:=fun b hb=>by
 rcases List.mem_cons.mp (I.stkSub b hb) with e | hb
 ·rw [e]; exact I.free
 ·obtain ⟨_,o,ho,_⟩:=I.ok.funs.mem hb
  exact I.base.free b o ho (I.ok.frf b hb) fun z=>I.ok.exfs b z hb
theorem Inv.step {g':Array GenState} {t':Nat} {d':Drawn} {ch:List Addr} (I:Inv X pins σ H s)
  (hch:∀ b ∈ ch,(b ∈ X.ex\/X.s₀.heap.objs.size<=b)/\b ≠ X.env.locals/\(∀ x c,X.env.cells.lookup x=some c->c ≠ b)/\∀ p ∈ X.pn ++ pins,p.1 ≠ b)
  (keep:∀ b o,b ≠ X.env.locals->b ∉ X.fs->b ∉ ch->s.heap.get? b=some o->H b=none->h'.get? b=some o)
  (slot:∀ b o,b ≠ X.env.locals->b ∈ X.fs->b ∉ ch->s.heap.get? b=some o->H b=none->∃ sl,h'.get? b=some { o with slots:=sl }) (free:∀ b o,b ∉ ch->s.heap.get? b=some o->H b=none->H' b=none)
  (there:∀ b o,b ∉ ch->s.heap.get? b=some o->∃ o',h'.get? b=some o')
  (tups:∀ b xs,H b=some (.tup xs)->H' b=some (.tup xs)) (frzs:∀ b o u,H b=some (.frz o u)->H' b=some (.frz o u)) (tbls:∀ b ps,H b=some (.tbl ps)->∃ more,H' b=some (.tbl (ps ++ more)))
  (ns:∀ m,s.heap.Ns X.env.locals m->h'.Ns X.env.locals m) (hok:HOk X.prog X.w H' h') (hg:AllBare g') :
  Inv X pins σ H' { s with heap:=h',gens:=g',drawn:=d',toks:=t' }:=by
 have neL:∀ b o,X.s₀.heap.get? b=some o->b ≠ X.env.locals:=fun b o e=>Nat.ne_of_lt (Nat.lt_of_lt_of_le (Heap.lt_size e) I.ok.above)
 have neC:∀ b o,X.s₀.heap.get? b=some o->b ∉ X.ex->b ∉ ch:=fun b o e hx hb=>by
  rcases (hch b hb).1 with z | z
  ·exact hx z
  ·exact absurd (Nat.lt_of_lt_of_le (Heap.lt_size e) z) (Nat.lt_irrefl _)
 have cellK:∀ x c,X.env.cells.lookup x=some c->∀ v,s.heap.IsCell c v->h'.IsCell c v:=fun x c e v ⟨o,ho,hd⟩=>by
  have nch:c ∉ ch:=fun z=>(hch c z).2.2.1 x c e rfl
  by_cases hc:c ∈ X.fs
  ·obtain ⟨sl,q⟩:=slot c o (I.cne x c e) hc nch ho (I.freeC x c e)
   exact ⟨_,q,hd⟩
  ·exact ⟨o,keep c o (I.cne x c e) hc nch ho (I.freeC x c e),hd⟩
 refine ⟨I.ok,fun p hp=>frzs _ _ _ (I.fzs p hp),I.os,hg,⟨fun b o e n hb hx=>?_,fun b o e n hb hx=>?_,fun b o e n hx=>?_,fun b o e hx=>?_,fun b xs e=>tups b xs (I.base.tups b xs e),fun b o xs e=>frzs b o xs (I.base.frzs b o xs e),fun b ps e=>?_⟩,?_,fun x c e=>?_,?_,fun x c e=>?_,fun p hp=>?_,hok,I.len⟩
 ·exact keep b o (neL b o e) hb (neC b o e hx) (I.base.keep b o e n hb hx) (I.base.free b o e n hx)
 ·obtain ⟨sl,e1⟩:=I.base.slot b o e n hb hx
  obtain ⟨sl',e2⟩:=slot b _ (neL b o e) hb (neC b o e hx) e1 (I.base.free b o e n hx)
  exact ⟨sl',e2⟩
 ·obtain ⟨o',e1⟩:=I.base.there b o e hx
  exact free b o' (neC b o e hx) e1 (I.base.free b o e n hx)
 ·obtain ⟨o',e1⟩:=I.base.there b o e hx
  exact there b o' (neC b o e hx) e1
 ·obtain ⟨m1,e1⟩:=I.base.tbls b ps e
  obtain ⟨m2,e2⟩:=tbls b _ e1
  exact ⟨m1 ++ m2,by rw [e2,Array.append_assoc]⟩
 ·obtain ⟨m,hn,hl⟩:=I.loc
  refine ⟨m,ns m hn,fun i x v e1 e2 e3=>?_⟩
  obtain ⟨u,r,l⟩:=hl i x v e1 e2 e3
  refine ⟨u,r,?_⟩
  rcases l with l | ⟨k,c,e,z⟩
  ·exact .inl l
  ·exact .inr ⟨k,c,e,cellK x c e _ z⟩
 ·obtain ⟨v,z⟩:=I.cell x c e
  exact ⟨v,cellK x c e v z⟩
 ·obtain ⟨m,⟨o,_,_,ho,_⟩,_⟩:=I.loc
  exact free _ o (fun z=>(hch _ z).2.1 rfl) ho I.free
 ·obtain ⟨v,o,ho,hd⟩:=I.cell x c e
  exact free c o (fun z=>(hch c z).2.2.1 x c e rfl) ho (I.freeC x c e)
 ·obtain ⟨e,n,ne,nf,d⟩:=I.pin p hp
  have nch:p.1 ∉ ch:=fun z=>(hch p.1 z).2.2.2 p hp rfl
  exact ⟨keep p.1 p.2 ne nf nch e n,free p.1 p.2 nch e n,ne,nf,d⟩
theorem Inv.un {t':Nat} (I:Inv X pins σ H s) (u:Un X.fs [] H H' s.heap h') (hok:HOk X.prog X.w H' h'):Inv X pins σ H' { s with heap:=h',toks:=t' }:=by
 obtain ⟨m,⟨o,es,ep,ho,r⟩,_⟩:=id I.loc
 obtain ⟨sl,hL⟩:=u.any ho I.free (by simp)
 exact I.step (g':=s.gens) (d':=s.drawn) (ch:=[]) (fun _ z=>nomatch z) (fun b o _ hb _ e n=>u.keep b o e n hb (by simp)) (fun b o _ hb _ e n=>u.slot b o e n hb (by simp)) (fun b o _ e n=>u.free b o e n (by simp)) (fun b o _ e=>u.there b o e (by simp)) u.tups u.frzs u.tbls (fun m' hm=>by
  obtain ⟨o',es',ep',ho',r'⟩:=hm
  rw [ho] at ho'; cases ho'
  exact ⟨_,es',ep',hL,r'⟩) hok I.bare
theorem Inv.call {g':Array GenState} {t':Nat} {d':Drawn} {ch:List Addr} (I:Inv X pins σ H s) (u:Un (frs X.stack) ch H H' s.heap h') (hok:HOk X.prog X.w H' h') (hg:AllBare g')
  (hch:∀ b ∈ ch,(b ∈ X.ex\/X.s₀.heap.objs.size<=b)/\b ≠ X.env.locals/\(∀ x c,X.env.cells.lookup x=some c->c ≠ b)/\∀ p ∈ X.pn ++ pins,p.1 ≠ b) :
  Inv X pins σ H' { s with heap:=h',gens:=g',drawn:=d',toks:=t' }:=by
 obtain ⟨m,⟨o,es,ep,ho,r⟩,_⟩:=id I.loc
 obtain ⟨sl,hL⟩:=u.any ho I.free fun z=>(hch _ z).2.1 rfl
 exact I.step (ch:=ch) hch (fun b o hL hb hc e n=>u.keep b o e n (fun z=>(List.mem_cons.mp (I.stkSub b z)).elim hL hb) hc) (fun b o _ _ hc e n=>u.any e n hc) (fun b o hc e n=>u.free b o e n hc) (fun b o hc e=>u.there b o e hc) u.tups u.frzs u.tbls (fun m' hm=>by
  obtain ⟨o',es',ep',ho',r'⟩:=hm
  rw [ho] at ho'; cases ho'
  exact ⟨_,es',ep',hL,r'⟩) hok hg
theorem Inv.turned {t':Nat} {it:Addr} (I:Inv X pins σ H s) (k:∀ b o,b ≠ it->s.heap.get? b=some o->h'.get? b=some o) (hn:H it=none) (hL:it ≠ X.env.locals)
  (h1:it ∈ X.ex\/X.s₀.heap.objs.size<=it) (h2:∀ x c,X.env.cells.lookup x=some c->c ≠ it) (h3:∀ p ∈ X.pn ++ pins,p.1 ≠ it):Inv X pins σ H { s with heap:=h',toks:=t' }:=by
 have nit:∀ b u,H b=some u->b ≠ it:=fun b u e z=>by rw [z,hn] at e; cases e
 refine I.step (g':=s.gens) (d':=s.drawn) (ch:=[it]) (fun b hb=>?_) (fun b o _ _ hc e _=>k b o (fun z=>hc (by simp [z])) e) (fun b o _ _ hc e _=>⟨o.slots,k b o (fun z=>hc (by simp [z])) e⟩) (fun _ _ _ _ n=>n)
  (fun b o hc e=>⟨o,k b o (fun z=>hc (by simp [z])) e⟩) (fun _ _ e=>e) (fun _ _ _ e=>e) (fun b ps e=>⟨#[],by rw [e]; simp⟩) (fun m hm=>?_) (fun b u e=>?_) I.bare
 ·have e:b=it:=by simpa using hb
  subst e
  exact ⟨h1,hL,h2,h3⟩
 ·obtain ⟨o,es,ep,ho,r⟩:=hm
  exact ⟨o,es,ep,k _ o (Ne.symm hL) ho,r⟩
 ·refine (I.hok b u e).stay (fun c v hc q=>k c v ?_ q) (fun _ q=>q) fun _ _ q=>q
  rcases hc with z | z
  ·rw [z]; exact nit b u e
  ·exact nit c _ z
theorem Inv.stl (I:Inv X pins σ H s) (hc:X.still=true):Still X.A s.heap:=by
 rcases I.ok.hs hc with z | ⟨e,o,u,vs,hh,hm,r⟩
 ·exact .inl z
 ·exact .inr ⟨e,o,vs,hh,(I.hok e _ (I.fzs _ hm)).1,r⟩
theorem Inv.stn (I:Inv X pins σ H s) (hc:X.still=true) {b:Addr} (n:H b=none):X.A.handled ≠ some (.ref b):=by
 rcases I.ok.hs hc with z | ⟨e,o,u,vs,hh,hm,r⟩
 ·rw [z]; intro c; cases c
 ·rw [hh]; intro c; cases c
  have y:=I.fzs _ hm
  have y':H b=some (.frz o u):=y
  rw [n] at y'; cases y'
theorem Inv.tok (I:Inv X pins σ H s) (t:Nat):Inv X pins σ H { s with toks:=t }:=I.un (h':=s.heap) (t':=t) Un.refl I.hok
theorem Inv.kept {t':Nat} (I:Inv X pins σ H s) (k:∀ b u,s.heap.get? b=some u->h'.get? b=some u):Inv X pins σ H { s with heap:=h',toks:=t' }:=I.un (Un.kept k) (I.hok.kept k)
theorem Inv.laid {a:Addr} {o:HO} {t':Nat} (I:Inv X pins σ H s) (k:∀ b u,s.heap.get? b=some u->h'.get? b=some u) (hp:s.heap.objs.size<=a) (new:ObjOk X.prog X.w (upd H a o) h' a o) :
  Inv X pins σ (upd H a o) { s with heap:=h',toks:=t' }:=I.un (Un.laid k hp (I.hok.fresh hp)) (I.hok.laid k hp new)
theorem Inv.write {x e:Addr} {o:HO} {t':Nat} (I:Inv X pins σ H s) (mu:Mut (H x)) (he:e=x\/H e=some (.own x)) (k:∀ b u,b ≠ e->s.heap.get? b=some u->h'.get? b=some u) (heo:∃ u,h'.get? e=some u)
  (new:ObjOk X.prog X.w (upd H x o) h' x o):Inv X pins σ (upd H x o) { s with heap:=h',toks:=t' }:=I.un (Un.write mu he k heo) (I.hok.write mu he k heo new)
theorem Inv.pins_of {pins':List (Addr × Obj)} (I:Inv X pins σ H s) (h:∀ p ∈ pins',s.heap.get? p.1=some p.2/\H p.1=none/\p.1 ≠ X.env.locals/\p.1 ∉ X.fs/\∀ v,p.2.data ≠ .cell v):Inv X pins' σ H s:=
 ⟨I.ok,I.fzs,I.os,I.bare,I.base,I.loc,I.cell,I.free,I.freeC,fun p hp=>(List.mem_append.mp hp).elim (fun z=>I.pin p (List.mem_append_left _ z)) (h p),I.hok,I.len⟩
theorem nodup_ix {N:List Str} (hN:N.Nodup) {i j:Nat} {x:Str} (a:N[i]?=some x) (b:N[j]?=some x):i=j:=by
 obtain ⟨h1,e1⟩:=List.getElem?_eq_some_iff.mp a
 obtain ⟨h2,e2⟩:=List.getElem?_eq_some_iff.mp b
 exact (List.getElem_inj hN).mp (e1.trans e2.symm)
theorem store_ok2 {M:Model} {A:Around} {E:Value->Shared->Prop} {i:Nat} {x:Str} {v:V} {u:Value} {Q:Unit->Shared->Prop} (I:Inv X pins σ H s) (hN:X.N.Nodup) (hi:X.N[i]?=some x) (hx:Loc X.env.scope x) (r:RelV v u)
  (h:∀ s',Inv X pins (σ.set i (some v)) H s'->(∃ a,Heap.SameBut a s.heap s'.heap/\(a=X.env.locals\/X.env.cells.lookup x=some a))->Q () s') (hf:X.fn x=true\/X.env.scope.names.lookup x=some .local:=by first | exact .inl rfl | exact .inr rfl | assumption):wpAny M A (storeName X.env x u) Q E s:=by
 obtain ⟨m,hn,hl⟩:=id I.loc
 have hcls:(X.env.scope.kind == .class || (X.env.scope.kind == .module && X.env.locals != X.env.globals))=false:=by rw [I.ok.kind]; rfl
 have hiσ:i < σ.length:=by rw [I.len]; exact (List.getElem?_eq_some_iff.mp hi).1
 have cne:=I.cne
 have tracked:∀ {a:Addr} {h':Heap},(∃ o,s.heap.get? a=some o/\H a=none)->Heap.SameBut a s.heap h'->HOk X.prog X.w H h':=fun {a h'} ha hs b ob e=>by
  obtain ⟨_,_,hfree⟩:=ha
  refine (I.hok b ob e).stay (fun c w' hc q=>(hs.2 c ?_).trans q) (fun _ q=>q) fun _ _ q=>q
  rintro rfl
  rcases hc with rfl | hc
  ·rw [hfree] at e; cases e
  ·rw [hfree] at hc; cases hc
 rcases hx with hk | hk
 ·refine wpAny_storeName_local hk hn (fun h' hn' hs=>?_) hcls
  obtain ⟨oL,_,_,hoL,_⟩:=id hn
  refine h _ ⟨I.ok,I.fzs,I.os,I.bare,⟨fun b o e n hb hx=>?_,fun b o e n hb hx=>?_,I.base.free,fun b o e hx=>?_,I.base.tups,I.base.frzs,I.base.tbls⟩,⟨_,hn',fun j y v' e1 e2 e3=>?_⟩,fun y c e=>?_,I.free,I.freeC,fun p hp=>?_,tracked ⟨oL,hoL,I.free⟩ hs,by simpa using I.len⟩ ⟨_,hs,.inl rfl⟩
  ·exact (hs.2 b (Nat.ne_of_lt (Nat.lt_of_lt_of_le (Heap.lt_size e) I.ok.above))).trans (I.base.keep b o e n hb hx)
  ·obtain ⟨sl,e1⟩:=I.base.slot b o e n hb hx
   exact ⟨sl,(hs.2 b (Nat.ne_of_lt (Nat.lt_of_lt_of_le (Heap.lt_size e) I.ok.above))).trans e1⟩
  ·obtain ⟨o',e1⟩:=I.base.there b o e hx
   exact ⟨o',(hs.2 b (Nat.ne_of_lt (Nat.lt_of_lt_of_le (Heap.lt_size e) I.ok.above))).trans e1⟩
  ·by_cases hj:j=i
   ·subst hj
    rw [hi] at e1; cases e1
    rw [List.getElem?_set_self hiσ] at e2
    cases e2
    exact ⟨u,r,.inl ⟨hk,by simp⟩⟩
   ·rw [List.getElem?_set_ne (Ne.symm hj)] at e2
    obtain ⟨u',r',q⟩:=hl j y v' e1 e2 e3
    refine ⟨u',r',?_⟩
    rcases q with ⟨k,e⟩ | ⟨k,c,e,z⟩
    ·refine .inl ⟨k,?_⟩
     have:y ≠ x:=fun e=>hj (nodup_ix hN e1 (e ▸ hi))
     simp [this,e]
    ·exact .inr ⟨k,c,e,z.sameBut hs (cne y c e)⟩
  ·obtain ⟨w',z⟩:=I.cell y c e
   exact ⟨w',z.sameBut hs (cne y c e)⟩
  ·obtain ⟨e,n,ne,nf,d⟩:=I.pin p hp
   exact ⟨(hs.2 p.1 ne).trans e,n,ne,nf,d⟩
 ·have hfn:X.fn x=true:=by
   rcases hf with z | z
   ·exact z
   ·rw [z] at hk; cases hk
  obtain ⟨c,hc⟩:=I.ok.has x (.inl hk)
  obtain ⟨w',z⟩:=I.cell x c hc
  refine wpAny_storeName_cell I.ok.kind hk hc z (fun h' hc' hs=>?_)
  obtain ⟨oc,hoc,hocd⟩:=id z
  refine h { s with heap:=h' } ⟨I.ok,I.fzs,I.os,I.bare,⟨fun b o e n hb hx=>?_,fun b o e n hb hx=>?_,I.base.free,fun b o e hx=>?_,I.base.tups,I.base.frzs,I.base.tbls⟩,⟨m,hn.sameBut hs (Ne.symm (cne x c hc)),fun j y v' e1 e2 e3=>?_⟩,fun y c' e=>?_,I.free,I.freeC,fun p hp=>?_,tracked ⟨oc,hoc,I.freeC x c hc⟩ hs,by simpa using I.len⟩ ⟨c,hs,.inr hc⟩
  ·exact (hs.2 b (Nat.ne_of_lt (Nat.lt_of_lt_of_le (Heap.lt_size e) (I.ok.cab x c hfn hc)))).trans (I.base.keep b o e n hb hx)
  ·obtain ⟨sl,e1⟩:=I.base.slot b o e n hb hx
   exact ⟨sl,(hs.2 b (Nat.ne_of_lt (Nat.lt_of_lt_of_le (Heap.lt_size e) (I.ok.cab x c hfn hc)))).trans e1⟩
  ·obtain ⟨o',e1⟩:=I.base.there b o e hx
   exact ⟨o',(hs.2 b (Nat.ne_of_lt (Nat.lt_of_lt_of_le (Heap.lt_size e) (I.ok.cab x c hfn hc)))).trans e1⟩
  ·by_cases hj:j=i
   ·subst hj
    rw [hi] at e1; cases e1
    rw [List.getElem?_set_self hiσ] at e2
    cases e2
    exact ⟨u,r,.inr ⟨.inl hk,c,hc,hc'⟩⟩
   ·rw [List.getElem?_set_ne (Ne.symm hj)] at e2
    obtain ⟨u',r',q⟩:=hl j y v' e1 e2 e3
    refine ⟨u',r',?_⟩
    rcases q with q | ⟨k,c',e,z'⟩
    ·exact .inl q
    ·refine .inr ⟨k,c',e,z'.sameBut hs ?_⟩
     rintro rfl
     exact hj (nodup_ix hN e1 (I.ok.inj _ _ _ e hc ▸ hi))
  ·by_cases hcc:c'=c
   ·subst hcc; exact ⟨_,hc'⟩
   ·obtain ⟨w2,z2⟩:=I.cell y c' e
    exact ⟨w2,z2.sameBut hs hcc⟩
  ·obtain ⟨e,n,ne,nf,d⟩:=I.pin p hp
   refine ⟨(hs.2 p.1 ?_).trans e,n,ne,nf,d⟩
   intro q
   rw [q,hoc] at e
   have q':oc=p.2:=Option.some.inj e
   exact d w' (by rw [<- q']; exact hocd)
theorem store_ok {M:Model} {A:Around} {E:Value->Shared->Prop} {i:Nat} {x:Str} {v:V} {u:Value} {Q:Unit->Shared->Prop} (I:Inv X pins σ H s) (hN:X.N.Nodup) (hi:X.N[i]?=some x) (hx:Loc X.env.scope x) (r:RelV v u)
  (h:∀ s',Inv X pins (σ.set i (some v)) H s'->Q () s') (hf:X.fn x=true\/X.env.scope.names.lookup x=some .local:=by first | exact .inl rfl | exact .inr rfl | assumption):wpAny M A (storeName X.env x u) Q E s:=
 store_ok2 I hN hi hx r (fun s' I' _=>h s' I') hf
theorem Inv.call' {s':Shared} {ch:List Addr} (I:Inv X pins σ H s) (ho:s'.os=s.os) (u:Un (frs X.stack) ch H H' s.heap s'.heap) (hok:HOk X.prog X.w H' s'.heap) (hg:AllBare s'.gens)
  (hch:∀ b ∈ ch,(b ∈ X.ex\/X.s₀.heap.objs.size<=b)/\b ≠ X.env.locals/\(∀ x c,X.env.cells.lookup x=some c->c ≠ b)/\∀ p ∈ X.pn ++ pins,p.1 ≠ b):Inv X pins σ H' s':=by
 obtain ⟨h',g',d',t',o'⟩:=s'
 have e:o'=s.os:=ho
 subst e
 exact I.call (g':=g') (t':=t') (d':=d') u hok hg hch
end
abbrev XK:=Value->Option Addr->Hp->Prop
abbrev St:=List (Option V)
abbrev VK:=V->Hp->Prop
abbrev TE:=St->Hp->VK->Prop
abbrev TT:=St->Hp->(Bool->Hp->Prop)->Prop
abbrev TA:=St->Hp->(List V->Hp->Prop)->Prop
structure Ends where
 nx:St->Hp->Prop
 rt:VK
 bk:St->Hp->Prop:=fun _ _=>False
 ct:St->Hp->Prop:=fun _ _=>False
abbrev TS:=Ends->St->Hp->Prop
def EP (X:Cx) (pins:List (Addr × Obj)) (σ:St) (Q:VK) (u:Value) (s':Shared):Prop:=∃ v H',Inv X pins σ H' s'/\RelV v u/\Q v H'
def TP (X:Cx) (pins:List (Addr × Obj)) (σ:St) (Q:Bool->Hp->Prop) (b:Bool) (s':Shared):Prop:=∃ H',Inv X pins σ H' s'/\Q b H'
def AP (X:Cx) (pins:List (Addr × Obj)) (σ:St) (Q:List V->Hp->Prop) (us:List Value) (s':Shared):Prop:=∃ vs H',Inv X pins σ H' s'/\Vals vs us/\Q vs H'
def SP (X:Cx) (pins:List (Addr × Obj)) (D:Ends) (f:Flow) (s':Shared):Prop:=
 match f with
 | .next=>∃ σ' H',Inv X pins σ' H' s'/\D.nx σ' H'
 | .brk=>∃ σ' H',Inv X pins σ' H' s'/\D.bk σ' H'
 | .cont=>∃ σ' H',Inv X pins σ' H' s'/\D.ct σ' H'
 | .ret u=>∃ v σ' H',Inv X pins σ' H' s'/\RelV v u/\D.rt v H'
def PE (X:Cx) (e:Expr) (t:TE):Prop:=
 ∀ (pins:List (Addr × Obj)) (s:Shared) (σ:St) (H:Hp) (Q:VK),Inv X pins σ H s->t σ H Q->wpAny (model X.prog X.w) X.A (eval e X.env) (EP X pins σ Q) X.xe s
def PT (X:Cx) (e:Expr) (t:TT):Prop:=
 ∀ (pins:List (Addr × Obj)) (s:Shared) (σ:St) (H:Hp) (Q:Bool->Hp->Prop),Inv X pins σ H s->t σ H Q->wpAny (model X.prog X.w) X.A (isTrue e X.env (eval e X.env)) (TP X pins σ Q) X.xe s
def PW (X:Cx) (e:Expr) (t:TT):Prop:=
 ∀ (whole:Sem Value) (pins:List (Addr × Obj)) (s:Shared) (σ:St) (H:Hp) (Q:Bool->Hp->Prop),Inv X pins σ H s->t σ H Q->wpAny (model X.prog X.w) X.A (isTrue e X.env whole) (TP X pins σ Q) X.xe s
theorem PW.pt {X:Cx} {e:Expr} {t:TT} (h:PW X e t):PT X e t:=h _
def PA (X:Cx) (es:List Expr) (t:TA):Prop:=
 ∀ (pos:Pos) (pins:List (Addr × Obj)) (s:Shared) (σ:St) (H:Hp) (Q:List V->Hp->Prop),Inv X pins σ H s->t σ H Q->wpAny (model X.prog X.w) X.A (spliced (backTo pos (starEach es X.env))) (AP X pins σ Q) X.xe s
def PS (X:Cx) (st:Stmt) (t:TS):Prop:=
 ∀ (pins:List (Addr × Obj)) (s:Shared) (σ:St) (H:Hp) (D:Ends),Inv X pins σ H s->t D σ H->wpAny (model X.prog X.w) X.A (exec st X.env) (SP X pins D) X.xe s
def PSs (X:Cx) (st:List Stmt) (t:TS):Prop:=
 ∀ (pins:List (Addr × Obj)) (s:Shared) (σ:St) (H:Hp) (D:Ends),Inv X pins σ H s->t D σ H->wpAny (model X.prog X.w) X.A (execs st X.env) (SP X pins D) X.xe s
theorem thn {α:Type} {t:Sem α} {Q Q':α->Shared->Prop} {M:Model} {A:Around} {E:Value->Shared->Prop} {s:Shared} (h:wpAny M A t Q E s) (hQ:∀ a s,Q a s->Q' a s):wpAny M A t Q' E s:=wpAny_mono h hQ fun _ _ x=>x
end L2
namespace L2
open PySem PySem.Spec PyProof.Rows
section
variable {X:Cx}
def tVar (i:Nat):TE:=fun σ H Q=>∃ v,σ[i]?=some (some v)/\Q v H
def tC (v:V):TE:=fun _ H Q=>Q v H
theorem pe_var {i:Nat} {x:Str} {pos:Pos} (hN:X.N[i]?=some x) (hv:Vis X.env.scope x) (hd:(x == ("__debug__":Str))=false:=by decide) (hcd:(x == ("__classdict__":Str))=false:=by decide):PE X (.Name x pos) (tVar i):=by
 intro pins s σ H Q I h
 obtain ⟨v,e,h⟩:=h
 obtain ⟨m,hn,hl⟩:=I.loc
 obtain ⟨u,r,l⟩:=hl i x v hN e hv
 have fin:EP X pins σ Q u s:=⟨v,H,I,r,h⟩
 rcases l with ⟨hk,hm⟩ | ⟨hk,c,hc,hcell⟩
 ·exact wpAny_Name (wpAny_loadName_local I.ok.kind hk hn hm fin) hd
 ·rcases hk with hk | hk
  ·exact wpAny_Name (wpAny_loadName_cell I.ok.kind hk hc hcell fin) hd
  ·exact wpAny_Name (wpAny_loadName_free I.ok.kind hk hc hcell fin hcd) hd
theorem pe_int {i j pos}:PE X (.Constant (.int i) j pos) (tC (.int i)):=fun _ _ _ H _ I h=>wpAny_Constant_int ⟨.int i,H,I.tok _,⟨_,rfl⟩,h⟩
theorem pe_bl {b j pos}:PE X (.Constant (.bool b) j pos) (tC (.bl b)):=fun _ _ _ H _ I h=>Constant_bool ⟨.bl b,H,I,rfl,h⟩
theorem pe_str {x j pos}:PE X (.Constant (.str x) j pos) (tC (.str x)):=fun _ _ _ H _ I h=>Calls.Constant_str ⟨.str x,H,I.tok _,⟨_,rfl⟩,h⟩
def Gl (X:Cx) (x:Str):Prop:=X.env.kindOf x=some .globalImplicit
theorem ld_glob {E:Value->Shared->Prop} {pins:List (Addr × Obj)} {s:Shared} {σ:St} {H:Hp} {x:Str} {u:Value} {pos:Pos} {Q:Value->Shared->Prop} (I:Inv X pins σ H s) (hg:Gl X x) (hm:X.mg x=some u) (h:Q u s)
  (hd:(x == ("__debug__":Str))=false:=by decide):wpAny (model X.prog X.w) X.A (eval (.Name x pos) X.env) Q E s:=
 Calls.Name_function_global I.ok.kind hg (Calls.loadGlobal_global (by rw [I.ok.glob]; exact I.mod.glob.keeps I.bk) hm h) hd
theorem ld_blt {E:Value->Shared->Prop} {pins:List (Addr × Obj)} {s:Shared} {σ:St} {H:Hp} {x:Str} {u:Value} {pos:Pos} {Q:Value->Shared->Prop} (I:Inv X pins σ H s) (hg:Gl X x) (hm:X.mg x=none) (hv:bootBuiltins x=some u) (h:Q u s)
  (hn:x ≠ "__name__":=by decide) (hd:(x == ("__debug__":Str))=false:=by decide):wpAny (model X.prog X.w) X.A (eval (.Name x pos) X.env) Q E s:=by
 obtain ⟨mb,h1,h2⟩:=I.mod.blt
 exact Calls.Name_function_global I.ok.kind hg (Calls.loadGlobal_builtin (by rw [I.ok.glob]; exact I.mod.glob.keeps I.bk) hm (by rw [I.ok.blt]; exact h1.keeps I.bk) ((h2 x hn).trans hv) h) hd
theorem pe_glob {x:Str} {v:V} {u:Value} {pos:Pos} (hg:Gl X x) (hm:X.mg x=some u) (r:RelV v u) (hd:(x == ("__debug__":Str))=false:=by decide):PE X (.Name x pos) (tC v):=
 fun _ _ _ H _ I h=>ld_glob I hg hm ⟨v,H,I,r,h⟩ hd
theorem pe_bltn {x:Str} {v:V} {u:Value} {pos:Pos} (hg:Gl X x) (hm:X.mg x=none) (hv:bootBuiltins x=some u) (r:RelV v u) (hn:x ≠ "__name__":=by decide) (hd:(x == ("__debug__":Str))=false:=by decide):PE X (.Name x pos) (tC v):=
 fun _ _ _ H _ I h=>ld_blt I hg hm hv ⟨v,H,I,r,h⟩ hn hd
def t2I (ta tb:TE) (k:Int->Int->Hp->Prop):St->Hp->Prop:=fun σ H=>ta σ H fun x H1=>tb σ H1 fun y H2=>∃ i j,x=.int i/\y=.int j/\k i j H2
def tAdd (ta tb:TE):TE:=fun σ H Q=>t2I ta tb (fun i j H2=>Q (.int (i+j)) H2) σ H
def tSub (ta tb:TE):TE:=fun σ H Q=>t2I ta tb (fun i j H2=>Q (.int (i - j)) H2) σ H
def tMul (ta tb:TE):TE:=fun σ H Q=>t2I ta tb (fun i j H2=>(-(2^64) < i/\i < 2^64)/\Q (.int (i*j)) H2) σ H
variable {a b:Expr} {ta tb:TE} {pos:Pos}
def PC (X:Cx) (op:CmpOp) (a b:Expr) (t:TE):Prop:=
 ∀ (pins:List (Addr × Obj)) (s:Shared) (σ:St) (H:Hp) (Q:VK),Inv X pins σ H s->t σ H Q ->
  wpAny (model X.prog X.w) X.A (eval a X.env) (fun v s₁=>wpAny (model X.prog X.w) X.A (eval b X.env) (fun u s₂=>wpAny (model X.prog X.w) X.A (compareOp op v u) (EP X pins σ Q) X.xe s₂) X.xe s₁) X.xe s
def tCmp (p:Int->Int->Bool) (ta tb:TE):TE:=fun σ H Q=>t2I ta tb (fun i j H2=>Q (.bl (p i j)) H2) σ H
abbrev tLt:TE->TE->TE:=tCmp fun i j=>decide (i < j)
abbrev tLe:TE->TE->TE:=tCmp fun i j=>decide (i<=j)
abbrev tGt:TE->TE->TE:=tCmp fun i j=>decide (j < i)
abbrev tGe:TE->TE->TE:=tCmp fun i j=>decide (j<=i)
abbrev tEqI:TE->TE->TE:=tCmp fun i j=>decide (i=j)
abbrev tNeI:TE->TE->TE:=tCmp fun i j=>!decide (i=j)
def tIsN (ta:TE):TE:=fun σ H Q=>ta σ H fun x H1=>Q (.bl (decide (x=.non))) H1
def tNotN (ta:TE):TE:=fun σ H Q=>ta σ H fun x H1=>Q (.bl (!decide (x=.non))) H1
def tB (t:TE):TT:=fun σ H Q=>t σ H fun x H1=>∃ c,x=.bl c/\Q c H1
theorem pt_val {e:Expr} {t:TE} (h:PE X e t) (he:∀ whole,isTrue e X.env whole=(do let v <- whole; standAt e.pos; holding [v] (truthy v)):=by intro _; rfl):PT X e (tB t):=by
 intro pins s σ H Q I hw
 refine isTrue_plain (thn (h pins s σ H _ I hw) fun v s1 ⟨x,H1,I1,r1,q1⟩=>?_) (he _)
 obtain ⟨d,rfl,q⟩:=q1
 cases r1
 exact wpAny_truthy_bool ⟨H1,I1,q⟩
variable {tA tB':TT} {rest:List Expr}
def tAnd (t u:TT):TT:=fun σ H Q=>t σ H fun c H1=>if c=true then u σ H1 Q else Q false H1
def tOr (t u:TT):TT:=fun σ H Q=>t σ H fun c H1=>if c=true then Q true H1 else u σ H1 Q
def tNot (t:TT):TT:=fun σ H Q=>t σ H fun c H1=>Q (!c) H1
theorem pw_and1 (ha:PT X a tA):PW X (.BoolOp .And [a] pos) tA:=by
 intro wh pins s σ H Q I h
 refine isTrue_and (thn (ha pins s σ H Q I h) fun c s1 e=>?_)
 cases c with
 | true=>exact isTrue_and_nil e
 | false=>exact e
theorem pw_or1 (ha:PT X a tA):PW X (.BoolOp .Or [a] pos) tA:=by
 intro wh pins s σ H Q I h
 refine isTrue_or (thn (ha pins s σ H Q I h) fun c s1 e=>?_)
 cases c with
 | false=>exact isTrue_or_nil e
 | true=>exact e
theorem pw_and (ha:PT X a tA) (hb:PW X (.BoolOp .And (b :: rest) pos) tB'):PW X (.BoolOp .And (a :: b :: rest) pos) (tAnd tA tB'):=by
 intro wh pins s σ H Q I h
 refine isTrue_and (thn (ha pins s σ H _ I h) fun c s1 ⟨H1,I1,q1⟩=>?_)
 cases c with
 | true=>exact hb wh pins s1 σ H1 Q I1 q1
 | false=>exact ⟨H1,I1,q1⟩
theorem pw_or (ha:PT X a tA) (hb:PW X (.BoolOp .Or (b :: rest) pos) tB'):PW X (.BoolOp .Or (a :: b :: rest) pos) (tOr tA tB'):=by
 intro wh pins s σ H Q I h
 refine isTrue_or (thn (ha pins s σ H _ I h) fun c s1 ⟨H1,I1,q1⟩=>?_)
 cases c with
 | true=>exact ⟨H1,I1,q1⟩
 | false=>exact hb wh pins s1 σ H1 Q I1 q1
theorem pt_not (ha:PT X a tA):PT X (.UnaryOp .Not a pos) (tNot tA):=by
 intro pins s σ H Q I h
 exact isTrue_not (ha pins s σ H (fun c H1=>Q (!c) H1) I h)
def tAndV (ta tb:TE):TE:=fun σ H Q=>ta σ H fun x H1=>∃ c,x=.bl c/\if c=true then tb σ H1 Q else Q (.bl false) H1
def tOrV (ta tb:TE):TE:=fun σ H Q=>ta σ H fun x H1=>∃ c,x=.bl c/\if c=true then Q (.bl true) H1 else tb σ H1 Q
def tNotV (ta:TE):TE:=fun σ H Q=>ta σ H fun x H1=>∃ c,x=.bl c/\Q (.bl (!c)) H1
theorem pe_one {op} {t:TE} (h:PE X a t):PE X (.BoolOp op [a] pos) t:=fun pins s σ H Q I hw=>BoolOp_one (h pins s σ H Q I hw)
theorem pe_and (ha:PE X a ta) (hb:PE X (.BoolOp .And (b :: rest) pos) tb):PE X (.BoolOp .And (a :: b :: rest) pos) (tAndV ta tb):=by
 intro pins s σ H Q I h
 refine BoolOp_and (thn (ha pins s σ H _ I h) fun v s1 ⟨x,H1,I1,r1,q1⟩=>?_)
 obtain ⟨c,rfl,q1⟩:=q1
 cases r1
 refine wpAny_truthy_bool ?_
 cases c with
 | true=>exact hb pins s1 σ H1 Q I1 q1
 | false=>exact ⟨.bl false,H1,I1,rfl,q1⟩
theorem pe_or (ha:PE X a ta) (hb:PE X (.BoolOp .Or (b :: rest) pos) tb):PE X (.BoolOp .Or (a :: b :: rest) pos) (tOrV ta tb):=by
 intro pins s σ H Q I h
 refine BoolOp_or (thn (ha pins s σ H _ I h) fun v s1 ⟨x,H1,I1,r1,q1⟩=>?_)
 obtain ⟨c,rfl,q1⟩:=q1
 cases r1
 refine wpAny_truthy_bool ?_
 cases c with
 | false=>exact hb pins s1 σ H1 Q I1 q1
 | true=>exact ⟨.bl true,H1,I1,rfl,q1⟩
theorem pe_not (ha:PE X a ta):PE X (.UnaryOp .Not a pos) (tNotV ta):=by
 intro pins s σ H Q I h
 refine UnaryOp_ (thn (ha pins s σ H _ I h) fun v s1 ⟨x,H1,I1,r1,q1⟩=>?_)
 obtain ⟨c,rfl,q1⟩:=q1
 cases r1
 exact not_of (wpAny_truthy_bool ⟨.bl (!c),H1,I1,rfl,q1⟩)
def tIf (t:TT) (ta tb:TE):TE:=fun σ H Q=>t σ H fun c H1=>if c=true then ta σ H1 Q else tb σ H1 Q
theorem pe_ifExp {c:Expr} (hc:PT X c tA) (ha:PE X a ta) (hb:PE X b tb):PE X (.IfExp c a b pos) (tIf tA ta tb):=by
 intro pins s σ H Q I h
 refine wpAny_IfExp (thn (hc pins s σ H _ I h) fun d s1 ⟨H1,I1,q1⟩=>?_)
 cases d with
 | true=>exact ha pins s1 σ H1 Q I1 q1
 | false=>exact hb pins s1 σ H1 Q I1 q1
end
end L2
namespace L2
open PySem PySem.Spec PyProof.Rows
def SqL (K:W.Frag) (H:Hp) (a:Addr) (xs:List V):Prop:=
 Rd H a (.lst xs) \/
  ∃ (o:Obj) (its:Array Value) (n:Nat),K.lookup a=some o/\o.cls=.type "list"/\o.dict=none/\o.data=.seq its n/\its.size<=sizeLine/\Vals xs its.toList
def SqT (K:W.Frag) (H:Hp) (a:Addr) (xs:List V):Prop:=
 Rd H a (.tup xs) \/
  ∃ (o:Obj) (its:Array Value) (n:Nat),K.lookup a=some o/\o.cls=.type "tuple"/\o.data=.seq its n/\its.size<=sizeLine/\Vals xs its.toList
def absV:Value->Option V
 | .none=>some .non
 | .bool b=>some (.bl b)
 | .int i _=>some (.int i)
 | .str x _=>some (.str x)
 | .bytes b _=>some (.byt b)
 | .float b _=>some (.flt b)
 | .ref a=>some (.ref a)
 | .type n=>some (.ty n)
 | _=>none
theorem RelV.abs {x:V} {u:Value} (r:RelV x u):absV u=some x:=by
 cases x with
 | non=>cases r; rfl
 | bl _=>cases r; rfl
 | int _=>obtain ⟨t,rfl⟩:=r; rfl
 | str _=>obtain ⟨t,rfl⟩:=r; rfl
 | byt _=>obtain ⟨t,rfl⟩:=r; rfl
 | flt _=>obtain ⟨t,rfl⟩:=r; rfl
 | ref _=>cases r; rfl
 | ty _=>cases r; rfl
theorem RelV.inj {x y:V} {u:Value} (r:RelV x u) (q:RelV y u):x=y:=Option.some.inj (r.abs.symm.trans q.abs)
theorem Vals.inj:∀ {xs ys:List V} {us:List Value},Vals xs us->Vals ys us->xs=ys
 | _,_,_,.nil,.nil=>rfl
 | _,_,_,.cons r t,.cons r' t'=>by rw [r.inj r',Vals.inj t t']
section
variable {X:Cx} {pins:List (Addr × Obj)} {σ:St} {H:Hp} {s:Shared} {a:Addr} {xs ys:List V}
theorem SqL.of {K:W.Frag} (h:H a=some (.lst xs)):SqL K H a xs:=.inl (.inl h)
theorem SqT.of {K:W.Frag} (h:H a=some (.tup xs)):SqT K H a xs:=.inl (.inl h)
theorem Inv.list (I:Inv X pins σ H s) (h:SqL X.K H a xs):∃ its:List Value,Vals xs its/\PlainL s.heap a its.toArray/\xs.length<=sizeLine:=by
 rcases h with h | ⟨o,its,n,hk,hc,hd,hs,hz,r⟩
 ·obtain ⟨z,its,n,r,e⟩:=h.ok I.hok
  exact ⟨its,r,⟨_,n,e,rfl,rfl,rfl⟩,z⟩
 ·refine ⟨its.toList,r,⟨o,n,I.kIn a o hk,hc,hd,by simpa using hs⟩,?_⟩
  have e:=r.length
  simp only [Array.length_toList] at e
  omega
theorem Inv.tuple (I:Inv X pins σ H s) (h:SqT X.K H a xs):∃ its:List Value,Vals xs its/\IsTup s.heap a its.toArray/\xs.length<=sizeLine:=by
 rcases h with h | ⟨o,its,n,hk,hc,hs,hz,r⟩
 ·obtain ⟨z,its,r,p⟩:=h.ok I.hok
  exact ⟨its,r,p,z⟩
 ·refine ⟨its.toList,r,⟨o,I.kIn a o hk,hc,n,by simpa using hs⟩,?_⟩
  have e:=r.length
  simp only [Array.length_toList] at e
  omega
theorem Inv.list_inj (I:Inv X pins σ H s) (h:SqL X.K H a xs) (h':SqL X.K H a ys):xs=ys:=by
 obtain ⟨its,r,⟨o,n,e,_,_,d⟩,_⟩:=I.list h
 obtain ⟨its',r',⟨o',n',e',_,_,d'⟩,_⟩:=I.list h'
 rw [e] at e'; cases e'
 rw [d] at d'
 injection d' with d1 _
 have:its=its':=by simpa using congrArg Array.toList d1
 subst this
 exact r.inj r'
theorem Inv.tuple_inj (I:Inv X pins σ H s) (h:SqT X.K H a xs) (h':SqT X.K H a ys):xs=ys:=by
 obtain ⟨its,r,⟨o,e,_,n,d⟩,_⟩:=I.tuple h
 obtain ⟨its',r',⟨o',e',_,n',d'⟩,_⟩:=I.tuple h'
 rw [e] at e'; cases e'
 rw [d] at d'
 injection d' with d1 _
 have:its=its':=by simpa using congrArg Array.toList d1
 subst this
 exact r.inj r'
end
abbrev Cx.wish (X:Cx) (E:Value->Shared->Prop):Cx:={ X with xe:=E }
abbrev Cx.nox (X:Cx):Cx:=X.wish fun _ _=>False
theorem Cx.Ok.wish {X:Cx} (ok:X.Ok) (E:Value->Shared->Prop):(X.wish E).Ok:=
 ⟨ok.mod,ok.kind,ok.glob,ok.blt,ok.above,ok.inj,ok.has,ok.cab,ok.hd,ok.hs,ok.frames,ok.stk,ok.exf,ok.bs,ok.bsz,ok.noex,ok.exfs,ok.funs,ok.frf⟩
theorem Cx.Ok.unwish {X:Cx} {E:Value->Shared->Prop} (ok:(X.wish E).Ok):X.Ok:=
 ⟨ok.mod,ok.kind,ok.glob,ok.blt,ok.above,ok.inj,ok.has,ok.cab,ok.hd,ok.hs,ok.frames,ok.stk,ok.exf,ok.bs,ok.bsz,ok.noex,ok.exfs,ok.funs,ok.frf⟩
section
variable {X:Cx} {pins:List (Addr × Obj)} {σ:St} {H:Hp} {s:Shared} {E:Value->Shared->Prop}
theorem Inv.wish (I:Inv X pins σ H s) (E:Value->Shared->Prop):Inv (X.wish E) pins σ H s:=⟨I.ok.wish E,I.fzs,I.os,I.bare,I.base,I.loc,I.cell,I.free,I.freeC,I.pin,I.hok,I.len⟩
theorem Inv.unwish (I:Inv (X.wish E) pins σ H s):Inv X pins σ H s:=⟨I.ok.unwish,I.fzs,I.os,I.bare,I.base,I.loc,I.cell,I.free,I.freeC,I.pin,I.hok,I.len⟩
theorem SP.unwish {D:Ends} {f:Flow} {s':Shared} (h:SP (X.wish E) pins D f s'):SP X pins D f s':=by
 cases f with
 | next=>obtain ⟨σ',H',I,q⟩:=h; exact ⟨σ',H',I.unwish,q⟩
 | brk=>obtain ⟨σ',H',I,q⟩:=h; exact ⟨σ',H',I.unwish,q⟩
 | cont=>obtain ⟨σ',H',I,q⟩:=h; exact ⟨σ',H',I.unwish,q⟩
 | ret u=>obtain ⟨v,σ',H',I,r,q⟩:=h; exact ⟨v,σ',H',I.unwish,r,q⟩
theorem PSs.nox {st:List Stmt} {t:TS} (h:PSs X.nox st t):PSs X st t:=fun pins s σ H D I hw=>
 wpAny_mono (h pins s σ H D (I.wish _) hw) (fun _ _ q=>q.unwish) fun _ _ z=>False.elim z
end
section
variable {X:Cx} {st:Stmt} {rest:List Stmt} {t u:TS} {e:Expr} {te:TE} {pos:Pos}
def tNext:TS:=fun D σ H=>D.nx σ H
def tSeq (t u:TS):TS:=fun D σ H=>t { D with nx:=u D } σ H
theorem pss_nil:PSs X [] tNext:=fun _ _ σ H _ I h=>wpAny_execs_nil ⟨σ,H,I,h⟩
theorem pss_cons (h1:PS X st t) (h2:PSs X rest u):PSs X (st :: rest) (tSeq t u):=by
 intro pins s σ H D I h
 refine wpAny_execs_cons (thn (h1 pins s σ H { D with nx:=u D } I h) fun f s1 q=>?_)
 cases f with
 | next=>
  obtain ⟨σ',H',I',q⟩:=q
  exact h2 pins s1 σ' H' D I' q
 | ret v=>exact q
 | brk=>exact q
 | cont=>exact q
theorem pss_one (h1:PS X st t):PSs X [st] t:=by
 intro pins s σ H D I h
 refine wpAny_execs_cons (thn (h1 pins s σ H D I h) fun f s1 q=>?_)
 cases f with
 | next=>exact wpAny_execs_nil q
 | ret v=>exact q
 | brk=>exact q
 | cont=>exact q
def tBreak:TS:=fun D σ H=>D.bk σ H
def tCont:TS:=fun D σ H=>D.ct σ H
theorem Inv.quiet {pins:List (Addr × Obj)} {σ:St} {H:Hp} {s:Shared} (I:Inv X pins σ H s):interactive X.env=false:=by simp [interactive,I.ok.kind]
def tDrop (te:TE):TS:=fun D σ H=>te σ H fun _ H1=>D.nx σ H1
theorem ps_expr (he:PE X e te) (hs:swapsWith e none pos.line X.env=pure false:=by rfl):PS X (.Expr e pos) (tDrop te):=by
 intro pins s σ H D I h
 exact wpAny_Expr_any (thn (he pins s σ H _ I h) fun v s1 ⟨x,H1,I1,r1,q1⟩=>⟨σ,H1,I1,q1⟩) I.quiet hs
def tRet (te:TE):TS:=fun D σ H=>te σ H D.rt
theorem ps_ret (he:PE X e te):PS X (.Return (some e) pos) (tRet te):=by
 intro pins s σ H D I h
 exact wpAny_Return_some (thn (he pins s σ H _ I h) fun v s1 ⟨x,H1,I1,r1,q1⟩=>⟨x,σ,H1,I1,r1,q1⟩)
def tRetN:TS:=fun D _ H=>D.rt .non H
def tIfS (c:TT) (t u:TS):TS:=fun D σ H=>c σ H fun b H1=>if b=true then t D σ H1 else u D σ H1
theorem ps_if {c:Expr} {a b:List Stmt} {tc:TT} (hc:PT X c tc) (ha:PSs X a t) (hb:PSs X b u):PS X (.If c a b pos) (tIfS tc t u):=by
 intro pins s σ H D I h
 refine wpAny_If (thn (hc pins s σ H _ I h) fun d s1 ⟨H1,I1,q1⟩=>?_)
 cases d with
 | true=>exact ha pins s1 σ H1 D I1 q1
 | false=>exact hb pins s1 σ H1 D I1 q1
def tNever:TS:=fun _ _ _=>False
theorem pss_never {sts:List Stmt}:PSs X sts tNever:=fun _ _ _ _ _ _ h=>h.elim
end
abbrev TG:=V->St->Hp->(St->Hp->Prop)->Prop
abbrev TGs:=List V->St->Hp->(St->Hp->Prop)->Prop
def PG (X:Cx) (target:Expr) (t:TG):Prop:=
 ∀ (pins:List (Addr × Obj)) (s:Shared) (σ:St) (H:Hp) (v:V) (u:Value) (Q:St->Hp->Prop),Inv X pins σ H s->RelV v u->t v σ H Q ->
  wpAny (model X.prog X.w) X.A (assign target X.env u) (fun _ s'=>∃ σ' H',Inv X pins σ' H' s'/\Q σ' H') X.xe s
def PGs (X:Cx) (ts:List Expr) (t:TGs):Prop:=
 ∀ (pins:List (Addr × Obj)) (s:Shared) (σ:St) (H:Hp) (vs:List V) (us:List Value) (Q:St->Hp->Prop),Inv X pins σ H s->Vals vs us->t vs σ H Q ->
  wpAny (model X.prog X.w) X.A (assignInOrder ((assignEach ts X.env).map (·.2)) us) (fun _ s'=>∃ σ' H',Inv X pins σ' H' s'/\Q σ' H') X.xe s
abbrev TSet:=V->V->V->Hp->(Hp->Prop)->Prop
def PSet (X:Cx) (t:TSet):Prop:=
 ∀ (pins:List (Addr × Obj)) (s:Shared) (σ:St) (H:Hp) (o i v:V) (ov iv u:Value) (Q:Hp->Prop),Inv X pins σ H s->RelV o ov->RelV i iv->RelV v u->t o i v H Q ->
  wpAny (model X.prog X.w) X.A (setItem ov iv u) (fun _ s'=>∃ H',Inv X pins σ H' s'/\Q H') X.xe s
abbrev TIp:=V->V->Hp->VK->Prop
def PIp (X:Cx) (op:Operator) (t:TIp):Prop:=
 ∀ (pins:List (Addr × Obj)) (s:Shared) (σ:St) (H:Hp) (x y:V) (v u:Value) (Q:VK),Inv X pins σ H s->RelV x v->RelV y u->t x y H Q ->
  wpAny (model X.prog X.w) X.A (inplaceOp op v u) (EP X pins σ Q) X.xe s
section
variable {X:Cx} {pos:Pos}
def gName (i:Nat):TG:=fun v σ H Q=>Q (σ.set i (some v)) H
theorem pg_name {i:Nat} {x:Str} (hN:X.N.Nodup) (hi:X.N[i]?=some x) (hx:Loc X.env.scope x) (hf:X.fn x=true\/X.env.scope.names.lookup x=some .local:=by first | exact .inl rfl | exact .inr rfl | assumption):PG X (.Name x pos) (gName i):=by
 intro pins s σ H v u Q I r h
 exact wpAny_assign_Name (store_ok I hN hi hx r (fun s' I'=>⟨_,H,I',h⟩) hf)
def gNil:TGs:=fun vs σ H Q=>vs=[]/\Q σ H
def gCons (t:TG) (u:TGs):TGs:=fun vs σ H Q=>∃ v r,vs=v :: r/\t v σ H fun σ' H'=>u r σ' H' Q
theorem pgs_nil:PGs X [] gNil:=by
 intro pins s σ H vs us Q I r h
 obtain ⟨e,h⟩:=h
 subst e
 cases r
 exact assignInOrder_nil ⟨σ,H,I,h⟩
theorem pgs_cons {e:Expr} {es:List Expr} {t:TG} {u:TGs} (h1:PG X e t) (h2:PGs X es u)
  (hs:(assignEach (e :: es) X.env).map (·.2)=assign e X.env :: (assignEach es X.env).map (·.2):=by rfl):PGs X (e :: es) (gCons t u):=by
 intro pins s σ H vs us Q I r h
 obtain ⟨v,vr,e1,h⟩:=h
 subst e1
 cases r with
 | cons r rr=>
  rw [hs]
  refine assignInOrder_cons (thn (h1 pins s σ H _ _ _ I r h) fun _ s1 ⟨σ1,H1,I1,q1⟩=>?_)
  exact h2 pins s1 σ1 H1 _ _ Q I1 rr q1
def gTup (K:W.Frag) (n:Nat) (t:TGs):TG:=fun v σ H Q=>∃ a xs,v=.ref a/\SqT K H a xs/\xs.length=n/\t xs σ H Q
theorem pg_tup {es:List Expr} {k:Nat} {t:TGs} {n:Nat} (hc:X.still=true) (h:PGs X es t)
  (hn:(assignEach es X.env).length=n:=by rfl) (hst:(assignEach es X.env).findIdx? (·.1)=none:=by rfl):PG X (.Tuple es k pos) (gTup X.K n t):=by
 intro pins s σ H v u Q I r hw
 obtain ⟨a,xs,e1,hq,hl,hw⟩:=hw
 subst e1
 cases r
 obtain ⟨its,rv,ht,hz⟩:=I.tuple hq
 refine assign_Tuple_still (I.stl hc) ht (by simp [hn,<- hl,rv.length]) hst fun h' hx=>?_
 have I1:Inv X pins σ H { s with heap:=h' }:=I.kept (t':=s.toks) fun b o e=>hx b o (Nat.ne_of_lt (Heap.lt_size e)) e
 exact h pins _ σ H xs _ Q I1 (by simpa using rv) hw
def gSub (to ti:TE) (t:TSet):TG:=fun v σ H Q=>to σ H fun o H1=>ti σ H1 fun i H2=>t o i v H2 fun H3=>Q σ H3
def tAsg (te:TE) (g:TG):TS:=fun D σ H=>te σ H fun x H1=>g x σ H1 D.nx
theorem ps_asg {tg e:Expr} {te:TE} {g:TG} (he:PE X e te) (hg:PG X tg g) (hs:swapsWithSole [tg] e pos.line X.env=pure false:=by rfl) (hw:swappedStores [tg] e X.env=pure none:=by rfl)
  (h1:(assignEach [tg] X.env).map (·.2)=[assign tg X.env]:=by rfl):PS X (.Assign [tg] e pos) (tAsg te g):=by
 intro pins s σ H D I h
 refine wpAny_Assign_stores (thn (he pins s σ H _ I h) fun v s1 ⟨x,H1,I1,r1,q1⟩=>?_) hs hw
 rw [h1]
 exact thn (hg pins s1 σ H1 x v _ I1 r1 q1) fun _ s2 q=>q
theorem ps_set {i:Nat} {x:Str} {e:Expr} {te:TE} {pos':Pos} (hN:X.N.Nodup) (hi:X.N[i]?=some x) (hx:Loc X.env.scope x) (he:PE X e te) (hs:swapsWith e (some (.Name x pos')) pos.line X.env=pure false:=by rfl) (hf:X.fn x=true\/X.env.scope.names.lookup x=some .local:=by first | exact .inl rfl | exact .inr rfl | assumption) :
  PS X (.Assign [.Name x pos'] e pos) (tAsg te (gName i)):=by
 intro pins s σ H D I h
 refine wpAny_Assign_Name (thn (he pins s σ H _ I h) fun v s1 ⟨y,H1,I1,r1,q1⟩=>?_) hs
 exact store_ok I1 hN hi hx r1 (fun s2 I2=>⟨_,H1,I2,q1⟩) hf
def tPar (i j:Nat) (ta:TA):TS:=fun D σ H=>ta σ H fun vs H1=>∃ v w,vs=[v,w]/\D.nx ((σ.set i (some v)).set j (some w)) H1
theorem ps_par {i j:Nat} {x y:Str} {a b:Expr} {ta:TA} {px py pt:Pos} {kt k2 pt2} (hc:X.still=true) (hN:X.N.Nodup) (hi:X.N[i]?=some x) (hj:X.N[j]?=some y) (hij:i ≠ j)
  (hx:X.env.scope.names.lookup x=some .local) (hy:X.env.scope.names.lookup y=some .local) (ha:PA X [a,b] ta)
  (hw:swappedStores [.Tuple [.Name x px,.Name y py] kt pt] (.Tuple [a,b] k2 pt2) X.env=pure (some [x,y]))
  (hs:swapsWithSole [.Tuple [.Name x px,.Name y py] kt pt] (.Tuple [a,b] k2 pt2) pos.line X.env=pure false:=by rfl) :
  PS X (.Assign [.Tuple [.Name x px,.Name y py] kt pt] (.Tuple [a,b] k2 pt2) pos) (tPar i j ta):=by
 intro pins s σ H D I h
 rw [exec_Assign_arm]
 refine wpAny_bind (wpAny_standAt ?_)
 rw [hs]
 refine wpAny_bind (wpAny_pure ?_)
 rw [if_neg (by decide)]
 refine wpAny_bind (Tuple_ (thn (ha _ pins s σ H _ I h) fun us s1 ⟨vs,H1,I1,r1,q1⟩=>?_))
 obtain ⟨v,w,e1,q1⟩:=q1
 subst e1
 obtain ⟨u1,u2,rfl,rv,rw'⟩:∃ u1 u2,us=[u1,u2]/\RelV v u1/\RelV w u2:=by
  cases r1 with
  | cons p q=>
   cases q with
   | cons p' q'=>
    cases q'
    exact ⟨_,_,rfl,p,p'⟩
 refine wpAny_newObj_type ?_ (by show 2<=sizeLine; decide)
 have I2:Inv X pins σ H1 { s1 with heap:=s1.heap.push { cls:=.type "tuple",data:=.seq [u1,u2].toArray } }:=I1.kept (t':=s1.toks) fun b o e=>Heap.get?_push_of_some _ e
 rw [hw]
 refine wpAny_bind (wpAny_pure ?_)
 show wpAny (model X.prog X.w) X.A (do rule "assign.swapped-stores"; let items <- unpackItems (.ref s1.heap.objs.size) 2 none; assignInOrder [fun v=>bindName X.env y v,fun v=>bindName X.env x v] items.reverse; pure Flow.next) _ _ _
 refine wpAny_bind (wpAny_rule (wpAny_bind (unpackItems_still (items:=#[u1,u2]) (I2.stl hc) (IsTup.new s1.heap _) fun h' hx'=>?_)))
 have I3:=I2.kept (h':=h') (t':=s1.toks) fun b o e=>hx' b o (Nat.ne_of_lt (Heap.lt_size e)) e
 show wpAny _ _ (assignInOrder [fun v=>bindName X.env y v,fun v=>bindName X.env x v] [u2,u1] >>= fun _=>pure Flow.next) _ _ _
 refine wpAny_bind (assignInOrder_cons (wpAny_bindName (store_ok I3 hN hj (.inl hy) rw' (fun s2 I4=>?_) (.inr hy))))
 refine assignInOrder_cons (wpAny_bindName (store_ok I4 hN hi (.inl hx) rv (fun s3 I5=>assignInOrder_nil (wpAny_pure ?_)) (.inr hx)))
 rw [List.set_comm _ _ (Ne.symm hij)] at I5
 exact ⟨_,H1,I5,q1⟩
def tAug (i:Nat) (te:TE) (ti:TIp):TS:=fun D σ H=>∃ x,σ[i]?=some (some x)/\te σ H fun y H1=>ti x y H1 fun z H2=>D.nx (σ.set i (some z)) H2
def tAugS (to ti te:TE) (tget:V->V->Hp->VK->Prop) (tip:TIp) (tset:TSet):TS:=fun D σ H=>to σ H fun o H1=>ti σ H1 fun i H2=>tget o i H2 fun x H3=>te σ H3 fun y H4=>tip x y H4 fun z H5=>tset o i z H5 fun H6=>D.nx σ H6
def PGet (X:Cx) (t:V->V->Hp->VK->Prop):Prop:=
 ∀ (pins:List (Addr × Obj)) (s:Shared) (σ:St) (H:Hp) (o i:V) (ov iv:Value) (Q:VK),Inv X pins σ H s->RelV o ov->RelV i iv->t o i H Q ->
  wpAny (model X.prog X.w) X.A (getItem ov iv) (EP X pins σ Q) X.xe s
def ipI (f:Int->Int->Int):TIp:=fun x y H Q=>∃ i j,x=.int i/\y=.int j/\Q (.int (f i j)) H
end
section
variable {X:Cx} {pos:Pos}
def tWhile (c:TT) (tb:TS):TS:=fun D σ H=>∃ W:Nat->St->Hp->Prop,(∃ m,W m σ H)/\∀ m σ H,W m σ H ->
 c σ H fun b H1=>if b=true then ∃ N:St->Hp->Prop,(∀ σ' H',N σ' H'->∃ m',m' < m/\W m' σ' H')/\tb { D with nx:=N,ct:=N,bk:=D.nx } σ H1 else D.nx σ H1
theorem ps_while {c:Expr} {body:List Stmt} {tc:TT} {tb:TS} (hp:PassesOwn (model X.prog X.w) X.A X.env X.xe) (hc:PT X c tc) (hb:PSs X body tb):PS X (.While c body [] pos) (tWhile tc tb):=by
 intro pins s σ H D I h
 obtain ⟨W,⟨m0,w0⟩,turn⟩:=h
 refine wpAny_While (codeAny_whileLoop (fun n s'=>∃ σ' H',Inv X pins σ' H' s'/\W n σ' H') ?_ m0 ⟨σ,H,I,w0⟩)
 rintro n s1 ⟨σ1,H1,I1,w1⟩
 refine wpAny_passesOwn hp (thn (hc pins s1 σ1 H1 _ I1 (turn n σ1 H1 w1)) fun b s2 ⟨H2,I2,q2⟩=>?_)
 cases b with
 | true=>
  obtain ⟨N,hN,q2⟩:=q2
  rw [if_pos rfl]
  refine wpAny_passesOwn hp (thn (hb pins s2 σ1 H2 _ I2 q2) fun f s3 q3=>?_)
  cases f with
  | next=>
   obtain ⟨σ3,H3,I3,n3⟩:=q3
   obtain ⟨m',hm,w3⟩:=hN σ3 H3 n3
   exact ⟨m',hm,σ3,H3,I3,w3⟩
  | cont=>
   obtain ⟨σ3,H3,I3,n3⟩:=q3
   obtain ⟨m',hm,w3⟩:=hN σ3 H3 n3
   exact ⟨m',hm,σ3,H3,I3,w3⟩
  | brk=>exact q3
  | ret v=>exact q3
 | false=>
  rw [if_neg Bool.false_ne_true]
  exact wpAny_execs_nil ⟨σ1,H2,I2,q2⟩
end
structure It where
 go:Nat->Hp->Prop
 yld:Nat->Hp->V->Hp->Prop
 stop:Nat->Hp->Prop
def FpOk (X:Cx) (pins:List (Addr × Obj)) (H:Hp) (b:Addr):Prop:=
 H b=none/\b ≠ X.env.locals/\b ∉ X.fs/\(b ∈ X.ex\/X.s₀.heap.objs.size<=b)/\(∀ x c,X.env.cells.lookup x=some c->c ≠ b)/\∀ p ∈ X.pn ++ pins,p.1 ≠ b
theorem Inv.fpOk {X:Cx} {pins:List (Addr × Obj)} {σ:St} {H H':Hp} {s:Shared} {b:Addr} (I:Inv X pins σ H s) (hb:s.heap.objs.size<=b) (hn:H' b=none):FpOk X pins H' b:=by
 refine ⟨hn,Nat.ne_of_gt (Nat.lt_of_lt_of_le I.lt hb),I.nofs hb,.inr (Nat.le_trans I.sz hb),fun x c e z=>?_,fun p hp z=>?_⟩
 ·obtain ⟨v,q⟩:=I.cell x c e
  exact absurd (Nat.lt_of_lt_of_le q.lt (by rw [z]; exact hb)) (Nat.lt_irrefl _)
 ·exact absurd (Nat.lt_of_lt_of_le (Heap.lt_size (I.pin p hp).1) (by rw [z]; exact hb)) (Nat.lt_irrefl _)
structure Turn (P:Program) (w:World) (K:W.Frag) (tg:Expr) (J:It) (fp:List Addr) (it:Addr) (tn:Nat->Heap->Prop):Prop where
 mem:it ∈ fp
 obj:∀ i h,tn i h->∀ b ∈ fp,∃ o,h.get? b=some o/\∀ v,o.data ≠ .cell v
 keep:∀ i h h',tn i h->(∀ b ∈ fp,∀ o,h.get? b=some o->h'.get? b=some o)->tn i h'
 item:∀ (X:Cx),X.prog=P->X.w=w->X.K=K->X.still=true->∀ (i:Nat) (pins:List (Addr × Obj)) (s:Shared) (σ:St) (H:Hp) (E:Value->Shared->Prop),Inv X pins σ H s->(∀ b ∈ fp,FpOk X pins H b)->tn i s.heap->J.go i H ->
  wpAny (model P w) X.A (pyNext (.ref it)) (fun r s1=>∃ u,r=some u /\
   wpAny (model P w) X.A (letOwnedTupleGo tg (.ref it) u) (fun _ s2=>∃ x H',Inv X pins σ H' s2/\RelV x u/\J.yld i H x H'/\tn (i+1) s2.heap/\∀ b ∈ fp,H' b=none) E s1) E s
 done:∀ (X:Cx),X.prog=P->X.w=w->X.K=K->X.still=true->∀ (i:Nat) (pins:List (Addr × Obj)) (s:Shared) (σ:St) (H:Hp) (E:Value->Shared->Prop),Inv X pins σ H s->(∀ b ∈ fp,FpOk X pins H b)->tn i s.heap->J.stop i H ->
  wpAny (model P w) X.A (pyNext (.ref it)) (fun r s1=>r=none/\Inv X pins σ H s1) E s
 self:∀ (A:Around) (i:Nat) (s:Shared) (Q:Value->Shared->Prop) (E:Value->Shared->Prop),tn i s.heap->Q (.ref it) s->wpAny (model P w) A (pyIter (.ref it)) Q E s
abbrev TI:=St->Hp->(It->Hp->Prop)->Prop
def PIE (X:Cx) (pins:List (Addr × Obj)) (σ:St) (tg:Expr) (R:It->Hp->Prop) (itv:Value) (s2:Shared):Prop:=
 ∃ (it:Addr) (fp:List Addr) (tn:Nat->Heap->Prop) (J:It) (H':Hp),itv=.ref it/\Inv X pins σ H' s2/\Turn X.prog X.w X.K tg J fp it tn/\tn 0 s2.heap/\(∀ b ∈ fp,FpOk X pins H' b)/\R J H'
def PI (X:Cx) (tg iter:Expr) (wi:TI):Prop:=
 ∀ (pins:List (Addr × Obj)) (s:Shared) (σ:St) (H:Hp) (R:It->Hp->Prop),Inv X pins σ H s->wi σ H R ->
  wpAny (model X.prog X.w) X.A (eval iter X.env) (fun v s1=>wpAny (model X.prog X.w) X.A (pyIter v) (PIE X pins σ tg R) X.xe s1) X.xe s
theorem go_of {M : Model} {A : Around} {E : Value -> Shared -> Prop} {s : Shared} {tg : Expr} {it : Addr} {u : Value} {o : Obj} {n : String} {vs : Array Value} {Q : Unit -> Shared -> Prop} (ho : s.heap.get? it = some o) (hc : o.cls = .type n) (hd : o.data = .fields vs)
    (hn : ["enumerate", "zip", "dict_itemiterator", "dict_reverseitemiterator", "odict_iterator", "itertools.zip_longest", "itertools.pairwise"].contains n = false) (hQ : Q () s) : wpAny M A (letOwnedTupleGo tg (.ref it) u) Q E s := by
  unfold letOwnedTupleGo
  cases tg <;> first
    | exact wpAny_pure hQ
    | (cases u <;> first
        | exact wpAny_pure hQ
        | (refine wpAny_bind (wpAny_load ho ?_)
           rw [hc, hd]
           show wpAny M A (if (["enumerate", "zip", "dict_itemiterator", "dict_reverseitemiterator", "odict_iterator", "itertools.zip_longest", "itertools.pairwise"].contains n && vs[0]? == some (rawInt _)) = true then _ else _) Q E s
           rw [if_neg (by intro h; rw [hn, Bool.false_and] at h; cases h)]
           exact wpAny_pure hQ))
def Itl (K:W.Frag) (a:Addr):It:=
 ⟨fun i H=>∃ xs x,SqL K H a xs/\xs[i]?=some x,fun i H x H'=>H'=H/\∀ xs,SqL K H a xs->xs[i]?=some x,fun i H=>∃ xs,SqL K H a xs/\xs.length<=i⟩
def Itt (K:W.Frag) (a:Addr):It:=
 ⟨fun i H=>∃ xs x,SqT K H a xs/\xs[i]?=some x,fun i H x H'=>H'=H/\∀ xs,SqT K H a xs->xs[i]?=some x,fun i H=>∃ xs,SqT K H a xs/\xs.length<=i⟩
def Itr (lo:Int) (n:Nat):It:=⟨fun i _=>i < n,fun i H x H'=>H'=H/\x=.int (lo+i),fun i _=>n<=i⟩
theorem turn_list {P:Program} {w:World} {K:W.Frag} {tg:Expr} (a it:Addr):Turn P w K tg (Itl K a) [it] it (fun i h=>h.IsListIter it a i) where
 mem:=by simp
 obj:=fun i h st b hb=>by
  have e:b=it:=by simpa using hb
  subst e
  obtain ⟨o,e,c,d⟩:=st
  exact ⟨o,e,fun v z=>by rw [d] at z; cases z⟩
 keep:=fun i h h' st k=>st.at fun o e=>k it (by simp) o e
 item:=by
  intro X hP hw hK hc i pins s σ H E I hf st hg
  subst hP hw hK
  obtain ⟨xs,x,hq,hx⟩:=hg
  obtain ⟨its,rv,p,hz⟩:=I.list hq
  obtain ⟨u,hu,ru⟩:=rv.get hx
  obtain ⟨f0,f1,f2,f3,f4,f5⟩:=hf it (by simp)
  refine wpAny_pyNext_list_item st p.isList (x:=u) (by simpa using hu) fun h' st' sb=>?_
  have I1:Inv X pins σ H { s with heap:=h' }:=I.turned (t':=s.toks) (fun b o hb e=>(sb.2 b hb).trans e) f0 f1 f3 f4 f5
  obtain ⟨o,e,c,d⟩:=id st'
  exact ⟨u,rfl,go_of (s:={ s with heap:=h' }) e c d (by decide) ⟨x,H,I1,ru,⟨rfl,fun ys hy=>by rw [I.list_inj hy hq]; exact hx⟩,st',fun b hb=>(hf b hb).1⟩⟩
 done:=by
  intro X hP hw hK hc i pins s σ H E I hf st hg
  subst hP hw hK
  obtain ⟨xs,hq,hx⟩:=hg
  obtain ⟨its,rv,p,hz⟩:=I.list hq
  obtain ⟨f0,f1,f2,f3,f4,f5⟩:=hf it (by simp)
  have hl:=rv.length
  exact list_end_still (I.stl hc) (I.stn hc f0) st p.isList (by simp; omega) fun h' eb=>⟨rfl,I.turned (t':=s.toks) (fun b o hb e=>eb b o hb e) f0 f1 f3 f4 f5⟩
 self:=fun _ _ _ _ _ st h=>wpAny_pyIter_listiter st h
theorem turn_tuple {P:Program} {w:World} {K:W.Frag} {tg:Expr} (a it:Addr):Turn P w K tg (Itt K a) [it] it (fun i h=>h.IsTupleIter it a i) where
 mem:=by simp
 obj:=fun i h st b hb=>by
  have e:b=it:=by simpa using hb
  subst e
  obtain ⟨o,e,c,d⟩:=st
  exact ⟨o,e,fun v z=>by rw [d] at z; cases z⟩
 keep:=fun i h h' st k=>st.at fun o e=>k it (by simp) o e
 item:=by
  intro X hP hw hK hc i pins s σ H E I hf st hg
  subst hP hw hK
  obtain ⟨xs,x,hq,hx⟩:=hg
  obtain ⟨its,rv,p,hz⟩:=I.tuple hq
  obtain ⟨u,hu,ru⟩:=rv.get hx
  obtain ⟨f0,f1,f2,f3,f4,f5⟩:=hf it (by simp)
  refine wpAny_pyNext_tuple_item st (show s.heap.IsTuple a its.toArray from p) (x:=u) (by simpa using hu) fun h' st' sb=>?_
  have I1:Inv X pins σ H { s with heap:=h' }:=I.turned (t':=s.toks) (fun b o hb e=>(sb.2 b hb).trans e) f0 f1 f3 f4 f5
  obtain ⟨o,e,c,d⟩:=id st'
  exact ⟨u,rfl,go_of (s:={ s with heap:=h' }) e c d (by decide) ⟨x,H,I1,ru,⟨rfl,fun ys hy=>by rw [I.tuple_inj hy hq]; exact hx⟩,st',fun b hb=>(hf b hb).1⟩⟩
 done:=by
  intro X hP hw hK hc i pins s σ H E I hf st hg
  subst hP hw hK
  obtain ⟨xs,hq,hx⟩:=hg
  obtain ⟨its,rv,p,hz⟩:=I.tuple hq
  obtain ⟨f0,f1,f2,f3,f4,f5⟩:=hf it (by simp)
  have hl:=rv.length
  exact tuple_end_still (I.stl hc) (I.stn hc f0) st (show s.heap.IsTuple a its.toArray from p) (by simp; omega) fun h' eb=>⟨rfl,I.turned (t':=s.toks) (fun b o hb e=>eb b o hb e) f0 f1 f3 f4 f5⟩
 self:=fun _ _ _ _ _ st h=>wpAny_pyIter_tupleiter st h
theorem turn_range {P:Program} {w:World} {K:W.Frag} {tg:Expr} (it:Addr) (lo:Int) (n:Nat):Turn P w K tg (Itr lo n) [it] it (fun i h=>IsRangeIter h it (lo+(i:Nat)*1) ((n:Int) - (i:Nat)) 1) where
 mem:=by simp
 obj:=fun i h st b hb=>by
  have e:b=it:=by simpa using hb
  subst e
  exact ⟨_,st,fun v z=>by
   have z':Data.fields _=Data.cell v:=z
   cases z'⟩
 keep:=fun i h h' st k=>k it (by simp) _ st
 item:=by
  intro X hP hw hK hc i pins s σ H E I hf st hg
  subst hP hw hK
  obtain ⟨f0,f1,f2,f3,f4,f5⟩:=hf it (by simp)
  refine range_item_still (c:=1) hg st fun v h' tk hv st' kk=>?_
  obtain ⟨t,rfl⟩:=hv
  have I1:Inv X pins σ H { s with heap:=h',toks:=tk }:=I.turned (fun b o hb e=>kk b o (by simpa using hb) e) f0 f1 f3 f4 f5
  refine ⟨_,rfl,go_of (s:={ s with heap:=h',toks:=tk }) (n:="range_iterator") st' rfl rfl (by decide) ⟨.int (lo+i),H,I1,⟨t,?_⟩,⟨rfl,rfl⟩,st',fun b hb=>(hf b hb).1⟩⟩
  rw [Int.mul_one]
 done:=by
  intro X hP hw hK hc i pins s σ H E I hf st hg
  subst hP hw hK
  obtain ⟨f0,f1,f2,f3,f4,f5⟩:=hf it (by simp)
  exact range_end_still (I.stl hc) st (by have:n<=i:=hg; omega) fun h' eb=>⟨rfl,I.turned (t':=s.toks) (fun b o hb e=>eb b o hb e) f0 f1 f3 f4 f5⟩
 self:=fun _ _ _ _ _ st h=>wpAny_pyIter_rangeiter st h
end L2
namespace L2
open PySem PySem.Spec PyProof.Rows
section
variable {X:Cx} {tg:Expr}
def iList (K:W.Frag) (tl:TE):TI:=fun σ H R=>tl σ H fun x H1=>∃ a,x=.ref a/\(∃ xs,SqL K H1 a xs)/\R (Itl K a) H1
def iTup (K:W.Frag) (tl:TE):TI:=fun σ H R=>tl σ H fun x H1=>∃ a,x=.ref a/\(∃ xs,SqT K H1 a xs)/\R (Itt K a) H1
theorem pi_list {l:Expr} {tl:TE} (hl:PE X l tl):PI X tg l (iList X.K tl):=by
 intro pins s σ H R I h
 refine thn (hl pins s σ H _ I h) fun v s1 ⟨x,H1,I1,r1,q1⟩=>?_
 obtain ⟨a,e,⟨xs,hq⟩,q⟩:=q1
 subst e
 cases r1
 obtain ⟨its,rv,p,hz⟩:=I1.list hq
 refine wpAny_pyIter_list p.isList ?_
 refine ⟨s1.heap.objs.size,[s1.heap.objs.size],_,_,H1,rfl,I1.kept (t':=s1.toks) fun b o e=>Heap.get?_push_of_some _ e,turn_list a _,⟨_,Heap.get?_push_size _ rfl,rfl,rfl⟩,fun b hb=>?_,q⟩
 have e:b=s1.heap.objs.size:=by simpa using hb
 subst e
 exact I1.fpOk (Nat.le_refl _) (I1.hok.fresh (Nat.le_refl _))
theorem pi_tup {l:Expr} {tl:TE} (hl:PE X l tl):PI X tg l (iTup X.K tl):=by
 intro pins s σ H R I h
 refine thn (hl pins s σ H _ I h) fun v s1 ⟨x,H1,I1,r1,q1⟩=>?_
 obtain ⟨a,e,⟨xs,hq⟩,q⟩:=q1
 subst e
 cases r1
 obtain ⟨its,rv,p,hz⟩:=I1.tuple hq
 refine wpAny_pyIter_tuple (show s1.heap.IsTuple a its.toArray from p) ?_
 refine ⟨s1.heap.objs.size,[s1.heap.objs.size],_,_,H1,rfl,I1.kept (t':=s1.toks) fun b o e=>Heap.get?_push_of_some _ e,turn_tuple a _,⟨_,Heap.get?_push_size _ rfl,rfl,rfl⟩,fun b hb=>?_,q⟩
 have e:b=s1.heap.objs.size:=by simpa using hb
 subst e
 exact I1.fpOk (Nat.le_refl _) (I1.hok.fresh (Nat.le_refl _))
theorem range_it {pins:List (Addr × Obj)} {σ:St} {H:Hp} {s:Shared} {R:It->Hp->Prop} {E:Value->Shared->Prop} {lo hi:Int} {t u v:Tok} {tk:Nat} (I:Inv X pins σ H s) (h1:-(2^62)<=lo) (h2:lo < 2^62) (h3:-(2^62)<=hi) (h4:hi < 2^62)
  (q:R (Itr lo (hi - lo).toNat) H):wpAny (model X.prog X.w) X.A (pyIter (.ref s.heap.objs.size)) (PIE X pins σ tg R) E { s with heap:=s.heap.push { cls:=.type "range",data:=.fields #[.int lo t,.int hi u,.int 1 v] },toks:=tk }:=by
 refine wpAny_pyIter_range (IsRange.new ..) (small_one h1 h2 h3 h4) ?_
 have I1:Inv X pins σ H { s with heap:=s.heap.push { cls:=.type "range",data:=.fields #[.int lo t,.int hi u,.int 1 v] },toks:=tk }:=I.kept fun b o e=>Heap.get?_push_of_some _ e
 refine ⟨(s.heap.push { cls:=.type "range",data:=.fields #[.int lo t,.int hi u,.int 1 v] }).objs.size,[(s.heap.push { cls:=.type "range",data:=.fields #[.int lo t,.int hi u,.int 1 v] }).objs.size],_,_,H,rfl,
  I1.kept (t':=tk) fun b o e=>Heap.get?_push_of_some _ e,turn_range _ lo (hi - lo).toNat,?_,fun b hb=>?_,q⟩
 ·have e1:lo+((0:Nat):Int)*1=lo:=by simp
  have e2:(((hi - lo).toNat:Nat):Int) - ((0:Nat):Int)=Builtin.Range.rangeSize lo hi 1:=by rw [rangeSize_one]; split <;> omega
  show IsRangeIter _ _ (lo+((0:Nat):Int)*1) ((((hi - lo).toNat:Nat):Int) - ((0:Nat):Int)) 1
  rw [e1,e2]
  exact Heap.get?_push_size _ rfl
 ·have e:b=(s.heap.push { cls:=.type "range",data:=.fields #[.int lo t,.int hi u,.int 1 v] }).objs.size:=by simpa using hb
  subst e
  exact I1.fpOk (Nat.le_refl _) (I1.hok.fresh (Nat.le_refl _))
def iRng1 (ta:TA):TI:=fun σ H R=>ta σ H fun vs H1=>∃ j:Int,vs=[.int j]/\-(2^62)<=j/\j < 2^62/\R (Itr 0 j.toNat) H1
def iRng2 (ta:TA):TI:=fun σ H R=>ta σ H fun vs H1=>∃ i j:Int,vs=[.int i,.int j]/\(-(2^62)<=i/\i < 2^62/\-(2^62)<=j/\j < 2^62)/\R (Itr i (j - i).toNat) H1
theorem pi_range1 {a:Expr} {ta:TA} {p pos:Pos} (hg:Gl X "range") (hm:X.mg "range"=none) (ha:PA X [a] ta) (hs:starEach [a] X.env=[(false,eval a X.env)]:=by rfl):PI X tg (.Call (.Name "range" p) [a] [] pos) (iRng1 ta):=by
 intro pins s σ H R I h
 refine Call_ (ld_blt I hg hm boot_range (PyProof.Rows.callWith_type1 (thn (ha pos pins s σ H _ I h) fun us s1 ⟨vs,H1,I1,r1,q1⟩=>?_) hs rfl))
 obtain ⟨j,e,q1,q2,q⟩:=q1
 subst e
 cases r1 with
 | cons r rr=>
  cases rr
  obtain ⟨t,rfl⟩:=r
  exact call_range_1 (range_it I1 (by omega) (by omega) q1 q2 (by simpa using q))
def tFor (wi:TI) (g:TG) (tb:TS):TS:=fun D σ H=>wi σ H fun J H1=>∃ W:Nat->Nat->St->Hp->Prop,(∃ m,W 0 m σ H1)/\∀ i m σ H,W i m σ H ->
 (J.stop i H/\D.nx σ H)\/(J.go i H/\∃ N:St->Hp->Prop,(∀ σ' H',N σ' H'->∃ m',m' < m/\W (i+1) m' σ' H')/\∀ x H',J.yld i H x H'->g x σ H' fun σ2 H2=>tb { D with nx:=N,ct:=N,bk:=D.nx } σ2 H2)
def pinsAt (fp:List Addr) (h:Heap):List (Addr × Obj):=fp.filterMap fun b=>(h.get? b).map fun o=>(b,o)
theorem mem_pinsAt {fp:List Addr} {h:Heap} {b:Addr} {o:Obj} (hb:b ∈ fp) (e:h.get? b=some o):(b,o) ∈ pinsAt fp h:=List.mem_filterMap.mpr ⟨b,hb,by rw [e]; rfl⟩
theorem of_pinsAt {fp:List Addr} {h:Heap} {p:Addr × Obj} (hp:p ∈ pinsAt fp h):p.1 ∈ fp/\h.get? p.1=some p.2:=by
 obtain ⟨b,hb,e⟩:=List.mem_filterMap.mp hp
 cases q:h.get? b with
 | none=>rw [q] at e; cases e
 | some o=>
  rw [q] at e
  have e':(b,o)=p:=Option.some.inj e
  subst e'
  exact ⟨hb,q⟩
theorem Inv.pinned {pins:List (Addr × Obj)} {σ:St} {H:Hp} {s:Shared} {fp:List Addr} (I:Inv X pins σ H s) (hf:∀ b ∈ fp,FpOk X pins H b) (ho:∀ b ∈ fp,∃ o,s.heap.get? b=some o/\∀ v,o.data ≠ .cell v):Inv X (pins ++ pinsAt fp s.heap) σ H s:=
 I.pins_of fun p hp=>(List.mem_append.mp hp).elim (fun z=>I.pin p (List.mem_append_right _ z)) fun z=>by
  obtain ⟨hb,e⟩:=of_pinsAt z
  obtain ⟨f0,f1,f2,_⟩:=hf p.1 hb
  obtain ⟨o,e',d⟩:=ho p.1 hb
  rw [e] at e'; cases e'
  exact ⟨e,f0,f1,f2,d⟩
theorem Inv.unpinned {pins pl:List (Addr × Obj)} {σ:St} {H:Hp} {s:Shared} (I:Inv X (pins ++ pl) σ H s):Inv X pins σ H s:=I.pins_of fun p hp=>I.pin p (List.mem_append_right _ (List.mem_append_left _ hp))
theorem ps_for {iter:Expr} {body:List Stmt} {wi:TI} {g:TG} {tb:TS} {pos:Pos} (hp:PassesOwn (model X.prog X.w) X.A X.env X.xe) (hc:X.still=true) (hi:PI X tg iter wi) (hg:PG X tg g) (hb:PSs X body tb)
  (hs:∀ x,foldedSetIterable iter X.env x=pure x:=by intro _; rfl):PS X (.For tg iter body [] pos) (tFor wi g tb):=by
 intro pins s σ H D I h
 refine wpAny_For (thn (hi pins s σ H _ I h) fun v s1 h1=>thn h1 fun itv s2 h2=>?_) hs
 obtain ⟨it,fp,tn,J,H2,e,I2,T,st2,f2,W,⟨m0,w0⟩,turn⟩:=h2
 subst e
 -- what stays true of the iterator's objects through the loop
 have stat:∀ {H':Hp},(∀ b ∈ fp,H' b=none)->∀ b ∈ fp,FpOk X pins H' b:=fun hn b hb=>⟨hn b hb,(f2 b hb).2⟩
 refine codeAny_forLoop_any (fun n s'=>∃ i σ' H',Inv X pins σ' H' s'/\tn i s'.heap/\(∀ b ∈ fp,H' b=none)/\W i n σ' H') ?_ m0 ⟨0,σ,H2,I2,st2,fun b hb=>(f2 b hb).1,w0⟩
 rintro n s3 ⟨i,σ3,H3,I3,st3,fr3,w3⟩
 rcases turn i n σ3 H3 w3 with ⟨stop,qn⟩ | ⟨go,N,hN,step⟩
 ·refine wpAny_passesOwn hp (thn (T.done X rfl rfl rfl hc i pins s3 σ3 H3 X.xe I3 (stat fr3) st3 stop) fun r s4 ⟨hr,I4⟩=>?_)
  subst hr
  exact wpAny_execs_nil ⟨σ3,H3,I4,qn⟩
 ·refine wpAny_passesOwn hp (thn (T.item X rfl rfl rfl hc i pins s3 σ3 H3 X.xe I3 (stat fr3) st3 go) fun r s4 ⟨u,hr,h4⟩=>?_)
  subst hr
  refine wpAny_passesOwn hp (thn h4 fun _ s5 ⟨x,H5,I5,r5,y5,st5,fr5⟩=>?_)
  have I5':=I5.pinned (stat fr5) (T.obj _ _ st5)
  refine wpAny_passesOwn hp (thn (hg _ s5 σ3 H5 x u _ I5' r5 (step x H5 y5)) fun _ s6 ⟨σ6,H6,I6,q6⟩=>?_)
  refine wpAny_passesOwn hp (thn (hb _ s6 σ6 H6 _ I6 q6) fun f s7 q7=>?_)
  have again:∀ {σ7:St} {H7:Hp},Inv X (pins ++ pinsAt fp s5.heap) σ7 H7 s7->N σ7 H7->∃ m,m < n/\∃ i σ' H',Inv X pins σ' H' s7/\tn i s7.heap/\(∀ b ∈ fp,H' b=none)/\W i m σ' H':=fun {σ7 H7} I7 n7=>by
   obtain ⟨m',hm,w7⟩:=hN σ7 H7 n7
   refine ⟨m',hm,i+1,σ7,H7,I7.unpinned,T.keep _ _ _ st5 fun b hb o e=>(I7.pin (b,o) (List.mem_append_right _ (List.mem_append_right _ (mem_pinsAt hb e)))).1,fun b hb=>?_,w7⟩
   obtain ⟨o,e,d⟩:=T.obj _ _ st5 b hb
   exact (I7.pin (b,o) (List.mem_append_right _ (List.mem_append_right _ (mem_pinsAt hb e)))).2.1
  cases f with
  | next=>obtain ⟨σ7,H7,I7,n7⟩:=q7; exact again I7 n7
  | cont=>obtain ⟨σ7,H7,I7,n7⟩:=q7; exact again I7 n7
  | brk=>obtain ⟨σ7,H7,I7,q7⟩:=q7; exact ⟨σ7,H7,I7.unpinned,q7⟩
  | ret v=>obtain ⟨x7,σ7,H7,I7,r7,q7⟩:=q7; exact ⟨x7,σ7,H7,I7.unpinned,r7,q7⟩
end
theorem for_list {K:W.Frag} {a:Addr} {xs:List V} {g:TG} {tb:TS} {D:Ends} {σ:St} {H:Hp} (Pv:Nat->St->Hp->Prop) (h0:Pv 0 σ H) (hl:∀ i σ H,i<=xs.length->Pv i σ H->SqL K H a xs)
  (hs:∀ i x σ H,xs[i]?=some x->Pv i σ H->g x σ H fun σ2 H2=>tb { D with nx:=Pv (i+1),ct:=Pv (i+1),bk:=D.nx } σ2 H2) (hd:∀ σ H,Pv xs.length σ H->D.nx σ H) :
  ∃ W:Nat->Nat->St->Hp->Prop,(∃ m,W 0 m σ H)/\∀ i m σ H,W i m σ H ->
   ((Itl K a).stop i H/\D.nx σ H)\/((Itl K a).go i H/\∃ N:St->Hp->Prop,(∀ σ' H',N σ' H'->∃ m',m' < m/\W (i+1) m' σ' H')/\∀ x H',(Itl K a).yld i H x H'->g x σ H' fun σ2 H2=>tb { D with nx:=N,ct:=N,bk:=D.nx } σ2 H2):=by
 refine ⟨fun i m σ H=>m=xs.length - i/\i<=xs.length/\Pv i σ H,⟨xs.length,by simp,Nat.zero_le _,h0⟩,?_⟩
 rintro i m σ H ⟨rfl,hi,p⟩
 have q:=hl i σ H hi p
 by_cases hlt:i < xs.length
 ·refine .inr ⟨⟨xs,xs[i],q,by simp [hlt]⟩,Pv (i+1),fun σ' H' p'=>⟨xs.length - (i+1),by omega,rfl,hlt,p'⟩,fun x H' y=>?_⟩
  obtain ⟨e,y⟩:=y
  subst e
  exact hs i x σ _ (y xs q) p
 ·have e:i=xs.length:=by omega
  subst e
  exact .inl ⟨⟨xs,q,Nat.le_refl _⟩,hd σ H p⟩
theorem for_tup {K:W.Frag} {a:Addr} {xs:List V} {g:TG} {tb:TS} {D:Ends} {σ:St} {H:Hp} (Pv:Nat->St->Hp->Prop) (h0:Pv 0 σ H) (hl:∀ i σ H,i<=xs.length->Pv i σ H->SqT K H a xs)
  (hs:∀ i x σ H,xs[i]?=some x->Pv i σ H->g x σ H fun σ2 H2=>tb { D with nx:=Pv (i+1),ct:=Pv (i+1),bk:=D.nx } σ2 H2) (hd:∀ σ H,Pv xs.length σ H->D.nx σ H) :
  ∃ W:Nat->Nat->St->Hp->Prop,(∃ m,W 0 m σ H)/\∀ i m σ H,W i m σ H ->
   ((Itt K a).stop i H/\D.nx σ H)\/((Itt K a).go i H/\∃ N:St->Hp->Prop,(∀ σ' H',N σ' H'->∃ m',m' < m/\W (i+1) m' σ' H')/\∀ x H',(Itt K a).yld i H x H'->g x σ H' fun σ2 H2=>tb { D with nx:=N,ct:=N,bk:=D.nx } σ2 H2):=by
 refine ⟨fun i m σ H=>m=xs.length - i/\i<=xs.length/\Pv i σ H,⟨xs.length,by simp,Nat.zero_le _,h0⟩,?_⟩
 rintro i m σ H ⟨rfl,hi,p⟩
 have q:=hl i σ H hi p
 by_cases hlt:i < xs.length
 ·refine .inr ⟨⟨xs,xs[i],q,by simp [hlt]⟩,Pv (i+1),fun σ' H' p'=>⟨xs.length - (i+1),by omega,rfl,hlt,p'⟩,fun x H' y=>?_⟩
  obtain ⟨e,y⟩:=y
  subst e
  exact hs i x σ _ (y xs q) p
 ·have e:i=xs.length:=by omega
  subst e
  exact .inl ⟨⟨xs,q,Nat.le_refl _⟩,hd σ H p⟩
theorem for_range {lo:Int} {n:Nat} {g:TG} {tb:TS} {D:Ends} {σ:St} {H:Hp} (Pv:Nat->St->Hp->Prop) (h0:Pv 0 σ H)
  (hs:∀ i σ H,i < n->Pv i σ H->g (.int (lo+i)) σ H fun σ2 H2=>tb { D with nx:=Pv (i+1),ct:=Pv (i+1),bk:=D.nx } σ2 H2) (hd:∀ σ H,Pv n σ H->D.nx σ H) :
  ∃ W:Nat->Nat->St->Hp->Prop,(∃ m,W 0 m σ H)/\∀ i m σ H,W i m σ H ->
   ((Itr lo n).stop i H/\D.nx σ H)\/((Itr lo n).go i H/\∃ N:St->Hp->Prop,(∀ σ' H',N σ' H'->∃ m',m' < m/\W (i+1) m' σ' H')/\∀ x H',(Itr lo n).yld i H x H'->g x σ H' fun σ2 H2=>tb { D with nx:=N,ct:=N,bk:=D.nx } σ2 H2):=by
 refine ⟨fun i m σ H=>m=n - i/\i<=n/\Pv i σ H,⟨n,by simp,Nat.zero_le _,h0⟩,?_⟩
 rintro i m σ H ⟨rfl,hi,p⟩
 by_cases hlt:i < n
 ·refine .inr ⟨hlt,Pv (i+1),fun σ' H' p'=>⟨n - (i+1),by omega,rfl,hlt,p'⟩,fun x H' y=>?_⟩
  obtain ⟨e,y⟩:=y
  subst e y
  exact hs i σ _ hlt p
 ·have e:i=n:=by omega
  subst e
  exact .inl ⟨Nat.le_refl _,hd σ H p⟩
end L2
namespace L2
open PySem PySem.Spec PyProof.Rows
abbrev R2:=V->V->Hp->VK->Prop
def OpR (X:Cx) (f:Value->Value->Sem Value) (r:R2):Prop:=
 ∀ (pins:List (Addr × Obj)) (s:Shared) (σ:St) (H:Hp) (x y:V) (v u:Value) (Q:VK),Inv X pins σ H s->RelV x v->RelV y u->r x y H Q ->
  wpAny (model X.prog X.w) X.A (f v u) (EP X pins σ Q) X.xe s
def UnR (X:Cx) (f:Value->Sem Value) (r:V->Hp->VK->Prop):Prop:=
 ∀ (pins:List (Addr × Obj)) (s:Shared) (σ:St) (H:Hp) (x:V) (v:Value) (Q:VK),Inv X pins σ H s->RelV x v->r x H Q ->
  wpAny (model X.prog X.w) X.A (f v) (EP X pins σ Q) X.xe s
def CallR (X:Cx) (f:Value) (r:List V->Hp->VK->Prop):Prop:=
 ∀ (pins:List (Addr × Obj)) (s:Shared) (σ:St) (H:Hp) (xs:List V) (us:List Value) (Q:VK),Inv X pins σ H s->Vals xs us->r xs H Q ->
  wpAny (model X.prog X.w) X.A (call f us) (EP X pins σ Q) X.xe s
def TruR (X:Cx) (r:V->Hp->(Bool->Hp->Prop)->Prop):Prop:=
 ∀ (pins:List (Addr × Obj)) (s:Shared) (σ:St) (H:Hp) (x:V) (v:Value) (Q:Bool->Hp->Prop),Inv X pins σ H s->RelV x v->r x H Q ->
  wpAny (model X.prog X.w) X.A (truthy v) (TP X pins σ Q) X.xe s
def tOp (r:R2) (ta tb:TE):TE:=fun σ H Q=>ta σ H fun x H1=>tb σ H1 fun y H2=>r x y H2 Q
def tUn (r:V->Hp->VK->Prop) (ta:TE):TE:=fun σ H Q=>ta σ H fun x H1=>r x H1 Q
def rI (C:Int->Int->Prop) (g:Int->Int->V):R2:=fun x y H Q=>∃ i j,x=.int i/\y=.int j/\C i j/\Q (g i j) H
def rI0 (g:Int->Int->V):R2:=fun x y H Q=>∃ i j,x=.int i/\y=.int j/\Q (g i j) H
def rU (g:Int->V):V->Hp->VK->Prop:=fun x H Q=>∃ i,x=.int i/\Q (g i) H
section
variable {X:Cx} {a b c:Expr} {ta tb tc:TE} {pos:Pos}
theorem binT (ha:PE X a ta) (hb:PE X b tb) {pins:List (Addr × Obj)} {s:Shared} {σ:St} {H:Hp} {R:V->V->Hp->Prop} (I:Inv X pins σ H s)
  (h:ta σ H fun x H1=>tb σ H1 fun y H2=>R x y H2) {Q:Value->Shared->Prop} {f:Value->Value->Sem Value}
  (hf:∀ v u s2 x y H2,Inv X pins σ H2 s2->RelV x v->RelV y u->R x y H2->wpAny (model X.prog X.w) X.A (f v u) Q X.xe s2) :
  wpAny (model X.prog X.w) X.A (eval a X.env) (fun v s₁=>wpAny (model X.prog X.w) X.A (eval b X.env) (fun u s₂=>wpAny (model X.prog X.w) X.A (f v u) Q X.xe s₂) X.xe s₁) X.xe s:=by
 refine thn (ha pins s σ H _ I h) fun v s1 ⟨x,H1,I1,r1,q1⟩=>?_
 refine thn (hb pins s1 σ H1 _ I1 q1) fun u s2 ⟨y,H2,I2,r2,q2⟩=>?_
 exact hf v u s2 x y H2 I2 r1 r2 q2
theorem pe_op {op:Operator} {r:R2} (ho:OpR X (binaryOp op) r) (ha:PE X a ta) (hb:PE X b tb):PE X (.BinOp a op b pos) (tOp r ta tb):=by
 intro pins s σ H Q I h
 exact wpAny_BinOp (binT ha hb I h fun v u s2 x y H2 I2 rx ry q=>ho pins s2 σ H2 x y v u Q I2 rx ry q)
theorem pe_un {op:UnaryOp} {r:V->Hp->VK->Prop} (ho:UnR X (unaryOp op) r) (ha:PE X a ta):PE X (.UnaryOp op a pos) (tUn r ta):=by
 intro pins s σ H Q I h
 exact UnaryOp_ (thn (ha pins s σ H _ I h) fun v s1 ⟨x,H1,I1,r1,q1⟩=>ho pins s1 σ H1 x v Q I1 r1 q1)
theorem opI {f:Value->Value->Sem Value} {C:Int->Int->Prop} {g:Int->Int->Int}
  (rule:∀ (i j:Int) (t u:Tok) (s:Shared) (Q:Value->Shared->Prop) (E:Value->Shared->Prop),C i j->Q (.int (g i j) s.toks) { s with toks:=s.toks+1 }->wpAny (model X.prog X.w) X.A (f (.int i t) (.int j u)) Q E s) :
  OpR X f (rI C fun i j=>.int (g i j)):=by
 intro pins s σ H x y v u Q I rx ry h
 obtain ⟨i,j,rfl,rfl,hc,q⟩:=h
 obtain ⟨t,rfl⟩:=rx
 obtain ⟨t',rfl⟩:=ry
 exact rule i j t t' s _ _ hc ⟨.int (g i j),H,I.tok _,⟨_,rfl⟩,q⟩
theorem opI0 {f:Value->Value->Sem Value} {g:Int->Int->Int}
  (rule:∀ (i j:Int) (t u:Tok) (s:Shared) (Q:Value->Shared->Prop) (E:Value->Shared->Prop),Q (.int (g i j) s.toks) { s with toks:=s.toks+1 }->wpAny (model X.prog X.w) X.A (f (.int i t) (.int j u)) Q E s) :
  OpR X f (rI0 fun i j=>.int (g i j)):=by
 intro pins s σ H x y v u Q I rx ry h
 obtain ⟨i,j,rfl,rfl,q⟩:=h
 obtain ⟨t,rfl⟩:=rx
 obtain ⟨t',rfl⟩:=ry
 exact rule i j t t' s _ _ ⟨.int (g i j),H,I.tok _,⟨_,rfl⟩,q⟩
theorem opB0 {f:Value->Value->Sem Value} {g:Int->Int->Bool}
  (rule:∀ (i j:Int) (t u:Tok) (s:Shared) (Q:Value->Shared->Prop) (E:Value->Shared->Prop),Q (.bool (g i j)) s->wpAny (model X.prog X.w) X.A (f (.int i t) (.int j u)) Q E s) :
  OpR X f (rI0 fun i j=>.bl (g i j)):=by
 intro pins s σ H x y v u Q I rx ry h
 obtain ⟨i,j,rfl,rfl,q⟩:=h
 obtain ⟨t,rfl⟩:=rx
 obtain ⟨t',rfl⟩:=ry
 exact rule i j t t' s _ _ ⟨.bl (g i j),H,I,rfl,q⟩
def CDiv (i j:Int):Prop:=0 < j/\j < 1073741824
def CDivN (i j:Int):Prop:=j ≠ 0/\j.natAbs < 1073741824
def CPow (i j:Int):Prop:=0<=j/\j<=1000000/\i.natAbs < 2^64
def CMul (i j:Int):Prop:=(-(2^64) < i/\i < 2^64)\/(-(2^64) < j/\j < 2^64)
theorem op_add:OpR X (binaryOp .Add) (rI0 fun i j=>.int (i+j)):=opI0 fun _ _ _ _ _ _ _ q=>add_int q
theorem op_sub:OpR X (binaryOp .Sub) (rI0 fun i j=>.int (i - j)):=opI0 fun _ _ _ _ _ _ _ q=>sub_int q
theorem op_fdiv:OpR X (binaryOp .FloorDiv) (rI CDiv fun i j=>.int (i / j)):=opI fun i j _ _ _ _ _ hc q=>by
 have h1:(0:Int) < j:=hc.1
 have h2:j < 1073741824:=hc.2
 exact floordiv_int (by omega) (by rw [Int.fdiv_eq_ediv_of_nonneg i (by omega)]; exact q) (.inl (PyProof.noPylong_small (by omega)))
theorem op_mod:OpR X (binaryOp .Mod) (rI (fun _ j=>0 < j) fun i j=>.int (i % j)):=opI fun i j _ _ _ _ _ hc q=>by
 have h1:(0:Int) < j:=hc
 exact mod_int' (by omega) (by rw [Int.fmod_eq_emod_of_nonneg i (by omega)]; exact q)
theorem op_pow:OpR X (binaryOp .Pow) (rI CPow fun i j=>.int (i^j.toNat)):=opI fun _ _ _ _ _ _ _ hc q=>pow_int_small hc.1 hc.2.1 hc.2.2 q
theorem unI {f:Value->Sem Value} {g:Int->Int}
  (rule:∀ (i:Int) (t:Tok) (s:Shared) (Q:Value->Shared->Prop) (E:Value->Shared->Prop),Q (.int (g i) s.toks) { s with toks:=s.toks+1 }->wpAny (model X.prog X.w) X.A (f (.int i t)) Q E s) :
  UnR X f (rU fun i=>.int (g i)):=by
 intro pins s σ H x v Q I rx h
 obtain ⟨i,rfl,q⟩:=h
 obtain ⟨t,rfl⟩:=rx
 exact rule i t s _ _ ⟨.int (g i),H,I.tok _,⟨_,rfl⟩,q⟩
theorem un_neg:UnR X (unaryOp .USub) (rU fun i=>.int (-i)):=unI fun _ _ _ _ _ q=>neg_int q
end
def scal:V->V->Bool
 | .non,.non=>true | .non,.int _=>true | .int _,.non=>true | .non,.bl _=>true | .bl _,.non=>true | .non,.str _=>true | .str _,.non=>true
 | .int _,.int _=>true | .bl _,.bl _=>true | .str _,.str _=>true | .byt _,.byt _=>true
 | .int _,.str _=>true | .str _,.int _=>true | .bl _,.str _=>true | .str _,.bl _=>true
 | _,_=>false
def rEq:R2:=fun x y H Q=>scal x y=true/\Q (.bl (decide (x=y))) H
def rNe:R2:=fun x y H Q=>scal x y=true/\Q (.bl (!decide (x=y))) H
theorem dec_int {i j:Int}:decide (V.int i=V.int j)=(i == j):=by
 rw [Bool.eq_iff_iff]
 simp
theorem dec_bl {i j:Bool}:decide (V.bl i=V.bl j)=(i == j):=by
 rw [Bool.eq_iff_iff]
 simp
theorem dec_str {i j:Str}:decide (V.str i=V.str j)=(i == j):=by
 rw [Bool.eq_iff_iff]
 simp
theorem dec_byt {i j:Array UInt8}:decide (V.byt i=V.byt j)=(i.toList == j.toList):=by
 rw [Bool.eq_iff_iff]
 cases i
 cases j
 simp
section
variable {X:Cx} {a b c:Expr} {ta tb tc:TE} {pos:Pos}
theorem fin_bl {pins:List (Addr × Obj)} {σ:St} {H:Hp} {s:Shared} {Q:VK} {k k':Bool} (I:Inv X pins σ H s) (q:Q (.bl k) H) (e:k=k'):EP X pins σ Q (.bool k') s:=by
 subst e
 exact ⟨.bl k,H,I,rfl,q⟩
theorem op_eq:OpR X (compareOp .Eq) rEq:=by
 intro pins s σ H x y v u Q I rx ry h
 obtain ⟨hs,q⟩:=h
 cases x with
 | non=>
  cases rx
  cases y with
  | non=>cases ry; exact PySem.EqNone.eq_none_none (fin_bl I q (by simp))
  | bl j=>cases ry; exact PySem.EqNone.eq_none_bool (fin_bl I q (by simp))
  | int j=>obtain ⟨t',rfl⟩:=ry; exact PySem.EqNone.eq_none_int (fin_bl I q (by simp))
  | str j=>obtain ⟨t',rfl⟩:=ry; exact PySem.EqNone.eq_none_str (fin_bl I q (by simp))
  | _=>exact absurd (show false=true from hs) Bool.false_ne_true
 | bl i=>
  cases rx
  cases y with
  | non=>cases ry; exact PySem.EqNone.eq_bool_none (fin_bl I q (by simp))
  | bl j=>cases ry; exact eq_bool (fin_bl I q dec_bl)
  | str j=>obtain ⟨t',rfl⟩:=ry; exact PySem.EqMixed.eq_bool_str (fin_bl I q (by simp))
  | _=>exact absurd (show false=true from hs) Bool.false_ne_true
 | int i=>
  obtain ⟨t,rfl⟩:=rx
  cases y with
  | non=>cases ry; exact PySem.EqNone.eq_int_none (fin_bl I q (by simp))
  | int j=>obtain ⟨t',rfl⟩:=ry; exact eq_int (fin_bl I q dec_int)
  | str j=>obtain ⟨t',rfl⟩:=ry; exact PySem.EqMixed.eq_int_str (fin_bl I q (by simp))
  | _=>exact absurd (show false=true from hs) Bool.false_ne_true
 | str i=>
  obtain ⟨t,rfl⟩:=rx
  cases y with
  | non=>cases ry; exact PySem.EqNone.eq_str_none (fin_bl I q (by simp))
  | bl j=>cases ry; exact PySem.EqMixed.eq_str_bool (fin_bl I q (by simp))
  | int j=>obtain ⟨t',rfl⟩:=ry; exact PySem.EqMixed.eq_str_int (fin_bl I q (by simp))
  | str j=>obtain ⟨t',rfl⟩:=ry; exact eq_str (fin_bl I q dec_str)
  | _=>exact absurd (show false=true from hs) Bool.false_ne_true
 | byt i=>
  obtain ⟨t,rfl⟩:=rx
  cases y with
  | byt j=>obtain ⟨t',rfl⟩:=ry; exact W.eq_bytes (fin_bl I q dec_byt)
  | _=>exact absurd (show false=true from hs) Bool.false_ne_true
 | _=>cases y <;> exact absurd (show false=true from hs) Bool.false_ne_true
theorem op_ne:OpR X (compareOp .NotEq) rNe:=by
 intro pins s σ H x y v u Q I rx ry h
 obtain ⟨hs,q⟩:=h
 cases x with
 | non=>
  cases rx
  cases y with
  | non=>cases ry; exact PySem.EqNone.ne_none_none (fin_bl I q (by simp))
  | bl j=>cases ry; exact PySem.EqNone.ne_none_bool (fin_bl I q (by simp))
  | int j=>obtain ⟨t',rfl⟩:=ry; exact PySem.EqNone.ne_none_int (fin_bl I q (by simp))
  | str j=>obtain ⟨t',rfl⟩:=ry; exact PySem.EqNone.ne_none_str (fin_bl I q (by simp))
  | _=>exact absurd (show false=true from hs) Bool.false_ne_true
 | bl i=>
  cases rx
  cases y with
  | non=>cases ry; exact PySem.EqNone.ne_bool_none (fin_bl I q (by simp))
  | bl j=>cases ry; exact ne_bool (fin_bl I q (congrArg not dec_bl))
  | str j=>obtain ⟨t',rfl⟩:=ry; exact PySem.EqMixed.ne_bool_str (fin_bl I q (by simp))
  | _=>exact absurd (show false=true from hs) Bool.false_ne_true
 | int i=>
  obtain ⟨t,rfl⟩:=rx
  cases y with
  | non=>cases ry; exact PySem.EqNone.ne_int_none (fin_bl I q (by simp))
  | int j=>obtain ⟨t',rfl⟩:=ry; exact ne_int (fin_bl I q (congrArg not dec_int))
  | str j=>obtain ⟨t',rfl⟩:=ry; exact PySem.EqMixed.ne_int_str (fin_bl I q (by simp))
  | _=>exact absurd (show false=true from hs) Bool.false_ne_true
 | str i=>
  obtain ⟨t,rfl⟩:=rx
  cases y with
  | non=>cases ry; exact PySem.EqNone.ne_str_none (fin_bl I q (by simp))
  | bl j=>cases ry; exact PySem.EqMixed.ne_str_bool (fin_bl I q (by simp))
  | int j=>obtain ⟨t',rfl⟩:=ry; exact PySem.EqMixed.ne_str_int (fin_bl I q (by simp))
  | str j=>obtain ⟨t',rfl⟩:=ry; exact ne_str (fin_bl I q (congrArg not dec_str))
  | _=>exact absurd (show false=true from hs) Bool.false_ne_true
 | byt i=>
  obtain ⟨t,rfl⟩:=rx
  cases y with
  | byt j=>obtain ⟨t',rfl⟩:=ry; exact W.ne_bytes (fin_bl I q (congrArg not dec_byt))
  | _=>exact absurd (show false=true from hs) Bool.false_ne_true
 | _=>cases y <;> exact absurd (show false=true from hs) Bool.false_ne_true
theorem op_lt:OpR X (compareOp .Lt) (rI0 fun i j=>.bl (decide (i < j))):=opB0 fun _ _ _ _ _ _ _ q=>lt_int q
theorem op_le:OpR X (compareOp .LtE) (rI0 fun i j=>.bl (decide (i<=j))):=opB0 fun _ _ _ _ _ _ _ q=>le_int q
theorem op_gt:OpR X (compareOp .Gt) (rI0 fun i j=>.bl (decide (j < i))):=opB0 fun _ _ _ _ _ _ _ q=>gt_int q
def isObj:HO->Bool
 | .lst _=>true
 | .ins _ _ _=>true
 | _=>false
theorem nomark (b:Expr) {op:CmpOp} (h:op ≠ .In:=by decide) (h2:op ≠ .NotIn:=by decide):behindInMarks op b=false:=by
 have e1:(op == CmpOp.In)=false:=by cases op <;> first | rfl | exact absurd rfl h
 have e2:(op == CmpOp.NotIn)=false:=by cases op <;> first | rfl | exact absurd rfl h2
 cases b <;> simp [behindInMarks,e1,e2]
theorem pe_cmpR {op:CmpOp} {r:R2} (ho:OpR X (compareOp op) r) (ha:PE X a ta) (hb:PE X b tb) (hm:behindInMarks op b=false):PE X (.Compare a [op] [b] pos) (tOp r ta tb):=by
 intro pins s σ H Q I h
 exact wpAny_Compare1 (binT ha hb I h fun v u s2 x y H2 I2 rx ry q=>ho pins s2 σ H2 x y v u Q I2 rx ry q) hm
def tTest (t:TE):TT:=fun σ H Q=>t σ H fun x H'=>∃ k,x=.bl k/\Q k H'
theorem pt_cmpR {op:CmpOp} {r:R2} (ho:OpR X (compareOp op) r) (ha:PE X a ta) (hb:PE X b tb) (hm:behindInMarks op b=false):PT X (.Compare a [op] [b] pos) (tTest (tOp r ta tb)):=by
 intro pins s σ H Q I h
 refine wpAny_isTrue_Compare1 (thn (ha pins s σ H _ I h) fun v s1 ⟨x,H1,I1,r1,q1⟩=>thn (hb pins s1 σ H1 _ I1 q1) fun u s2 ⟨y,H2,I2,r2,q2⟩=>
  thn (ho pins s2 σ H2 x y v u _ I2 r1 r2 q2) fun c s3 ⟨z,H3,I3,r3,k,e,q3⟩=>?_) hm
 subst e
 cases r3
 exact wpAny_truthy_bool ⟨H3,I3,q3⟩
def tChain (r r':R2) (ta tb tc:TE):TE:=fun σ H Q=>ta σ H fun x H1=>tb σ H1 fun y H2=>r x y H2 fun z H3=>∃ k,z=.bl k /\
 (if k=true then tc σ H3 fun w' H4=>r' y w' H4 Q else Q (.bl false) H3)
def TruV (K:W.Frag) (x:V) (H:Hp) (k:Bool):Prop:=
 match x with
 | .non=>k=false
 | .bl b=>k=b
 | .int i=>k=(i != 0)
 | .str y=>y.length<=sizeLine/\k=((y.length:Int) != 0)
 | .byt y=>y.size<=sizeLine/\k=((y.size:Int) != 0)
 | .ref p=>(∃ xs,SqL K H p xs/\k=!xs.isEmpty)\/(∃ xs,SqT K H p xs/\k=!xs.isEmpty)\/∃ kvs,H p=some (.dK kvs)/\k=!kvs.isEmpty
 | _=>False
theorem line63:(sizeLine:Nat) < 2^63:=by rw [sizeLine_eq]; decide
def PlainIxT (b:Expr):Prop:=∀ o i,subscripted b false o i=operate [o,i] (getItem o i)
theorem vals1 {x:V} {us:List Value} (r:Vals [x] us):∃ u,us=[u]/\RelV x u:=by
 cases r with
 | cons r1 r2=>cases r2; exact ⟨_,rfl,r1⟩
theorem call_abs:CallR X (.builtin "abs") (fun xs H Q=>∃ i,xs=[.int i]/\Q (.int (if i < 0 then -i else i)) H):=by
 intro pins s σ H xs us Q I r h
 obtain ⟨i,rfl,q⟩:=h
 obtain ⟨u,rfl,t,rfl⟩:=vals1 r
 exact call_abs_int fun u tk=>⟨.int (if i < 0 then -i else i),H,I.tok _,⟨_,rfl⟩,q⟩
theorem call_int1:CallR X (.type "int") (fun xs H Q=>(∃ i,xs=[.int i]/\Q (.int i) H)\/∃ k,xs=[.bl k]/\Q (.int (if k then 1 else 0)) H):=by
 intro pins s σ H xs us Q I r h
 rcases h with ⟨i,rfl,q⟩ | ⟨k,rfl,q⟩
 ·obtain ⟨u,rfl,t,rfl⟩:=vals1 r
  exact call_int_int ⟨.int i,H,I,⟨_,rfl⟩,q⟩
 ·obtain ⟨u,rfl,r1⟩:=vals1 r
  cases r1
  exact call_int_bool ⟨.int (if k then 1 else 0),H,I.tok _,⟨_,rfl⟩,q⟩
def LenV (K:W.Frag) (x:V) (H:Hp) (n:Nat):Prop:=
 match x with
 | .str y=>y.length<=sizeLine/\n=y.length
 | .byt y=>y.size<=sizeLine/\n=y.size
 | .ref p=>(∃ xs,SqL K H p xs/\n=xs.length)\/∃ xs,SqT K H p xs/\n=xs.length
 | _=>False
end
end L2
namespace L2
open PySem PySem.Spec PyProof.Rows
structure ObjM (h:Heap) (x dx C:Addr) (mA:Str->Option Value):Prop where
 obj:h.get? x=some (W.instObj C dx)
 ns:h.Ns1 dx mA
 ne:dx ≠ x
theorem lookIn_ns {h:Heap} {dx:Addr} {mA:Str->Option Value} (n:h.Ns1 dx mA):∃ od,h.get? dx=some od/\∀ name,W.lookIn name od=some (mA name):=by
 obtain ⟨o,es,ep,ho,hd,hk,_,hm⟩:=n
 refine ⟨o,ho,fun name=>?_⟩
 have e:=hm name
 unfold nsFind findBy at e
 rw [<- Array.find?_toList] at e
 unfold W.lookIn
 rw [hd]
 dsimp only
 split
 ·rename_i y q
  rw [q] at e
  exact congrArg some e
 ·rename_i q
  rw [q] at e
  have a:es.toList.any (·.refKey)=false:=by
   rw [List.any_eq_false]
   intro y hy
   obtain ⟨z,t,hkey⟩:=hk y (Array.mem_toList_iff.mp hy)
   simp [DictEntry.refKey,hkey]
  have a':¬ es.toList.any (·.refKey)=true:=by rw [a]; exact Bool.false_ne_true
  rw [if_neg a']
  exact congrArg some e
theorem ObjM.look {h:Heap} {x dx C:Addr} {mA:Str->Option Value} (I:ObjM h x dx C mA):∃ od,W.InstAt h x (W.instObj C dx) C (some od)/\∀ name,W.lookIn name od=some (mA name):=
 let ⟨od,ho,hl⟩:=lookIn_ns I.ns
 ⟨od,⟨I.obj,rfl,rfl,ho⟩,hl⟩
section
variable {prog:Program} {w:World} {A:Around} {E:Value->Shared->Prop} {s:Shared} {K:W.Frag} {x dx C f:Addr} {mA:Str->Option Value} {name:Str} {v:Value}
end
def putF (f:Str) (v:V):List (Str × V)->List (Str × V)
 | []=>[(f,v)]
 | (g,x) :: r=>if g=f then (g,v) :: r else (g,x) :: putF f v r
theorem RelO.some_of {v:V} {o:Option Value} (r:RelO (some v) o):∃ u,o=some u/\RelV v u:=by
 cases o with
 | none=>exact (show False from r).elim
 | some u=>exact ⟨u,rfl,r⟩
theorem handed_of {v:V} {u:Value} (r:RelV v u):W.handedIn u=true:=by
 cases v with
 | non=>cases (show u=Value.none from r); rfl
 | bl b=>cases (show u=Value.bool b from r); rfl
 | int i=>obtain ⟨t,e⟩:=(show ∃ t,u=Value.int i t from r); cases e; rfl
 | str x=>obtain ⟨t,e⟩:=(show ∃ t,u=Value.str x t from r); cases e; rfl
 | byt b=>obtain ⟨t,e⟩:=(show ∃ t,u=Value.bytes b t from r); cases e; rfl
 | flt b=>obtain ⟨t,e⟩:=(show ∃ t,u=Value.float b t from r); cases e; rfl
 | ref a=>cases (show u=Value.ref a from r); rfl
 | ty n=>cases (show u=Value.type n from r); rfl
section
variable {P:Program} {w:World} {H H':Hp} {h h':Heap} {a C dx:Addr} {fs fs':List (Str × V)}
theorem ins_get (hok:HOk P w H h) (e:H a=some (.ins C dx fs)):∃ mA,ObjM h a dx C mA/\(∀ f,RelO (fs.lookup f) (mA f))/\PySem.Within mA (fs.map (·.1))/\fs.length<=1000/\H dx=some (.own a):=by
 obtain ⟨d,z,ne,ob,mA,n,r,q⟩:=(show ObjOk P w H h a (.ins C dx fs) from hok a _ e)
 exact ⟨mA,⟨ob,n,ne⟩,r,q,z,d⟩
end
structure Cls (K:W.Frag) (C:Addr):Prop where
 pg:W.plainGet K C Str.empty=true
 hd:W.hasDictIn K C=true
 po:W.plainOver K C=true
 sa:W.findIn K (.ref C) "__setattr__"=some (some (.builtin "object.__setattr__"))
theorem Cls.get {K:W.Frag} {C:Addr} (c:Cls K C) (f:Str):W.plainGet K C f=true:=c.pg
def NoAttr (K:W.Frag) (C:Addr) (f:Str):Prop:=W.findIn K (.ref C) f=some none
structure Con (K:W.Frag) (C:Addr) (f:Str) (v:V) (u:Value):Prop where
 at_:W.findIn K (.ref C) f=some (some u)
 rel:RelV v u
 get:W.specialIn K u "__get__"=some none
 cp:W.copiedNames.contains f=false
structure Meth (K:W.Frag) (C:Addr) (m:Str) (f:Addr):Prop where
 at_:W.findIn K (.ref C) m=some (some (.ref f))
 fn:W.isFn K (.ref f)=true
 kp:W.keepIn K (.ref f)=true
section
variable {X:Cx} {pins:List (Addr × Obj)} {σ:St} {H:Hp} {s:Shared} {a C dx:Addr} {fs:List (Str × V)} {f:Str} {v:V} {A:Around} {E:Value->Shared->Prop}
theorem attr_of {prog:Program} {w:World} {env:Env} {e:Expr} {f:Str} {pos:Pos} {s:Shared} {Q:Value->Shared->Prop} (hb:attributeBase e f env (eval e env)=eval e env)
  (h:wpAny (model prog w) A (eval e env) (fun o s₁=>wpAny (model prog w) A (getAttr o f true) Q E s₁) E s):wpAny (model prog w) A (eval (.Attribute e f pos) env) Q E s:=
 Attribute_any_ h (by rw [arm_eval_Attribute,hb])
end
def tFld (K:W.Frag) (ta:TE) (f:Str):TE:=fun σ H Q=>ta σ H fun x H1=>∃ a C dx fs v,x=.ref a/\H1 a=some (.ins C dx fs)/\Cls K C/\NoAttr K C f/\fs.lookup f=some v/\Q v H1
def tCon (K:W.Frag) (ta:TE) (f:Str):TE:=fun σ H Q=>ta σ H fun x H1=>∃ a C dx fs v u,x=.ref a/\H1 a=some (.ins C dx fs)/\Cls K C/\Con K C f v u/\fs.lookup f=none/\Q v H1
def sFld (K:W.Frag) (ta tv:TE) (f:Str):TS:=fun D σ H=>tv σ H fun y H1=>ta σ H1 fun x H2=>∃ a C dx fs,x=.ref a/\H2 a=some (.ins C dx fs)/\Cls K C/\NoAttr K C f/\fs.length < 1000 /\
 D.nx σ (upd H2 a (.ins C dx (putF f y fs)))
def InOp (X:Cx) (op:Operator) (rd:V->V->Hp->VK->Prop):Prop:=
 ∀ (pins:List (Addr × Obj)) (s:Shared) (σ:St) (H:Hp) (x y:V) (u v:Value) (Q:VK),Inv X pins σ H s->RelV x u->RelV y v->rd x y H Q->wpAny (model X.prog X.w) X.A (inplaceOp op u v) (EP X pins σ Q) X.xe s
def sFldAug (K:W.Frag) (ta tv:TE) (rd:V->V->Hp->VK->Prop) (f:Str):TS:=fun D σ H=>ta σ H fun x H1=>∃ a C dx fs v,x=.ref a/\H1 a=some (.ins C dx fs)/\Cls K C/\NoAttr K C f/\fs.lookup f=some v /\
 tv σ H1 fun y H2=>rd v y H2 fun z H3=>∃ dx' fs',H3 a=some (.ins C dx' fs')/\fs'.length < 1000/\D.nx σ (upd H3 a (.ins C dx' (putF f z fs')))
section
variable {X:Cx} {o e value:Expr} {f:Str} {pos pos' tpos:Pos} {ta tv:TE}
def rAdd:V->V->Hp->VK->Prop:=fun x y H Q=>∃ i j,x=.int i/\y=.int j/\Q (.int (i+j)) H
def rSub:V->V->Hp->VK->Prop:=fun x y H Q=>∃ i j,x=.int i/\y=.int j/\Q (.int (i - j)) H
end
section
variable {X:Cx} {pins:List (Addr × Obj)} {σ:St} {H:Hp} {s:Shared} {A:Around} {E:Value->Shared->Prop} {Q:Value->Shared->Prop} {c:Value} {b:Bool}
inductive TyOf (K:W.Frag) (H:Hp):V->Value->Prop where
 | non:TyOf K H .non (.type "NoneType")
 | bl (x:Bool):TyOf K H (.bl x) (.type "bool")
 | int (i:Int):TyOf K H (.int i) (.type "int")
 | str (x:Str):TyOf K H (.str x) (.type "str")
 | flt (x:UInt64):TyOf K H (.flt x) (.type "float")
 | lst {a:Addr} {xs:List V} (e:H a=some (.lst xs)):TyOf K H (.ref a) (.type "list")
 | frz {a:Addr} {o:Obj} {xs:List V} (e:H a=some (.frz o (.lst xs))):TyOf K H (.ref a) (.type "list")
 | tup {a:Addr} {xs:List V} (e:H a=some (.tup xs)):TyOf K H (.ref a) (.type "tuple")
 | dK {a:Addr} {kvs:List (Key × V)} (e:H a=some (.dK kvs)):TyOf K H (.ref a) (.type "dict")
 | dT {a:Addr} {kvs:List (List Key × V)} (e:H a=some (.dT kvs)):TyOf K H (.ref a) (.type "dict")
 | ins {a C dx:Addr} {fs:List (Str × V)} (e:H a=some (.ins C dx fs)) (cl:Cls K C) (ha:W.findIn K (.ref C) "__class__"=some (some (.builtin "object.__class__")))
   (hn:W.specialIn K (.builtin "object.__class__") "__get__"=some (some (.builtin "getset_descriptor.__get__"))) (htk:W.takesIn K (.builtin "object.__class__")=some true)
   (hm:W.mroIn K C (.type "object")=some true):TyOf K H (.ref a) (.ref C)
theorem isinst_ok {x:V} {u t:Value} (I:Inv X pins σ H s) (rx:RelV x u) (ty:TyOf X.K H x t) (e:W.kitOne X.K t c=some b) (h:∀ tk,Q (.bool b) { s with toks:=tk }) :
  wpAny (model X.prog X.w) A (call (.builtin "isinstance") [u,c]) Q E s:=by
 cases ty with
 | non=>cases (show u=Value.none from rx); exact W.kia_one W.kitx_none I.kIn True.intro e (fun z=>nomatch z) h
 | bl y=>cases (show u=Value.bool y from rx); exact W.kia_one W.kitx_bool I.kIn True.intro e (fun z=>nomatch z) h
 | int i=>obtain ⟨t,q⟩:=(show ∃ t,u=Value.int i t from rx); cases q; exact W.kia_one W.kitx_int I.kIn True.intro e (fun z=>nomatch z) h
 | str y=>obtain ⟨t,q⟩:=(show ∃ t,u=Value.str y t from rx); cases q; exact W.kia_one W.kitx_str I.kIn True.intro e (fun z=>nomatch z) h
 | flt y=>obtain ⟨t,q⟩:=(show ∃ t,u=Value.float y t from rx); cases q; exact W.kia_one W.kitx_float I.kIn True.intro e (fun z=>nomatch z) h
 | @lst a xs ea=>
  cases (show u=Value.ref a from rx)
  obtain ⟨_,_,n,_,h1⟩:=(show ObjOk X.prog X.w H s.heap a (.lst xs) from I.hok a _ ea)
  exact W.kia_one W.kitx_list I.kIn ⟨_,h1,rfl⟩ e (fun z=>nomatch z) h
 | @frz a ob xs ea=>
  cases (show u=Value.ref a from rx)
  obtain ⟨_,_,_,n,_,h1⟩:=(show ObjOk X.prog X.w H s.heap a (.frz ob (.lst xs)) from I.hok a _ ea)
  exact W.kia_one W.kitx_list I.kIn ⟨_,h1,rfl⟩ e (fun z=>nomatch z) h
 | @tup a xs ea=>
  cases (show u=Value.ref a from rx)
  obtain ⟨_,_,_,p⟩:=(show ObjOk X.prog X.w H s.heap a (.tup xs) from I.hok a _ ea)
  obtain ⟨o,h1,h2,_⟩:=p
  exact W.kia_one W.kitx_tuple I.kIn ⟨o,h1,h2⟩ e (fun z=>nomatch z) h
 | @dK a kvs ea=>
  cases (show u=Value.ref a from rx)
  obtain ⟨_,_,vs,_,p⟩:=(show ObjOk X.prog X.w H s.heap a (.dK kvs) from I.hok a _ ea)
  obtain ⟨o,es,ep,h1,h2,_⟩:=p
  exact W.kia_one W.kitx_dict I.kIn ⟨o,h1,h2.1⟩ e (fun z=>nomatch z) h
 | @dT a kvs ea=>
  cases (show u=Value.ref a from rx)
  obtain ⟨_,_,xs,_,o,es,ep,h1,h2,_⟩:=(show ObjOk X.prog X.w H s.heap a (.dT kvs) from I.hok a _ ea)
  exact W.kia_one W.kitx_dict I.kIn ⟨o,h1,h2.1⟩ e (fun z=>nomatch z) h
 | @ins a C dx fs ea cl ha hn htk hm=>
  cases (show u=Value.ref a from rx)
  obtain ⟨mA,O,_⟩:=ins_get I.hok ea
  obtain ⟨od,J,_⟩:=O.look
  exact W.kia_one (W.kitx_own (cl.get _) cl.hd ha hn htk hm) I.kIn J e (fun z=>nomatch z) h
end
end L2
namespace L2
open PySem PySem.Spec PyProof.Rows
structure Room (k:Nat) (A:Around):Prop where
 hd:A.handled=none
 dp:A.depth+3*k+5 < recursionLimit
 un:A.units+16*k+200 < cLine
theorem Room.mono {j k:Nat} {A:Around} (r:Room k A) (h:j<=k):Room j A:=⟨r.hd,by have:=r.dp; omega,by have:=r.un; omega⟩
theorem Room.deeper {k:Nat} {A:Around} (r:Room (k+1) A) (env:Env):Room k (A.deeper env):=
 ⟨r.hd,by have:=r.dp; show A.depth+1+3*k+5 < _; omega,by have:=r.un; show A.units+3+16*k+200 < _; omega⟩
theorem make_depth {A:Around} {C:Addr} {us:List Value} {kw:List (Str × Value)}:(A.under (.builtin "type.__call__" ⟨.ref C :: us,kw⟩)).depth=A.depth+1:=by
 first | rfl | simp [Around.under,Code.weight,Code.isCreation,Code.isGuard,Code.isCaller,Code.frames,Code.isFrame,guardIds]
theorem make_units {A:Around} {C:Addr} {us:List Value} {kw:List (Str × Value)}:(A.under (.builtin "type.__call__" ⟨.ref C :: us,kw⟩)).units=A.units+1:=by
 first | rfl | simp [Around.under,Code.cUnits,Code.frames,Code.isFrame]
theorem Room.make {k:Nat} {A:Around} (r:Room (k+1) A) (C:Addr) (us:List Value) (kw:List (Str × Value)):Room k (A.under (.builtin "type.__call__" ⟨.ref C :: us,kw⟩)):=
 ⟨r.hd,by have:=r.dp; rw [make_depth]; omega,by have:=r.un; rw [make_units]; omega⟩
theorem Room.depth {k:Nat} {A:Around} (r:Room k A):A.depth < recursionLimit:=by have:=r.dp; omega
def tNil:TA:=fun _ H Q=>Q [] H
def tCons (ta:TE) (tr:TA):TA:=fun σ H Q=>ta σ H fun x H1=>tr σ H1 fun xs H2=>Q (x :: xs) H2
section
variable {X:Cx} {e:Expr} {es:List Expr} {te:TE} {t:TA} {pos:Pos}
theorem pa_nil:PA X [] tNil:=fun _ _ _ _ H Q I h=>Calls.spliced_nil ⟨[],H,I,.nil,h⟩
theorem pa_cons (ha:PE X e te) (hr:PA X es t) (hs:starEach (e :: es) X.env=(false,eval e X.env) :: starEach es X.env:=by rfl):PA X (e :: es) (tCons te t):=by
 intro pos pins s σ H Q I h
 rw [hs]
 show wpAny _ _ (spliced ((false,eval e X.env) :: backTo pos (starEach es X.env))) _ _ s
 refine Calls.spliced_cons (thn (ha pins s σ H _ I h) fun u s1 ⟨x,H1,I1,r1,q1⟩=>?_)
 exact thn (hr pos pins s1 σ H1 _ I1 q1) fun us s2 ⟨xs,H2,I2,r2,q2⟩=>⟨x :: xs,H2,I2,.cons r1 r2,q2⟩
def tTup (t:TA):TE:=fun σ H Q=>t σ H fun xs H1=>xs.length<=sizeLine/\∀ p,H1 p=none->Q (.ref p) (upd H1 p (.tup xs))
def tLst (t:TA):TE:=fun σ H Q=>t σ H fun xs H1=>xs.length<=sizeLine/\∀ p,H1 p=none->Q (.ref p) (upd H1 p (.lst xs))
theorem pe_tup {x1} (h:PA X es t):PE X (.Tuple es x1 pos) (tTup t):=by
 intro pins s σ H Q I hq
 refine wpAny_Tuple_spliced (thn (h pos pins s σ H _ I hq) fun us s1 ⟨xs,H1,I1,r,z,q⟩=>⟨by rw [<- r.length]; exact z,?_⟩)
 have hf:H1 s1.heap.objs.size=none:=I1.hok.fresh (Nat.le_refl _)
 refine ⟨.ref s1.heap.objs.size,upd H1 s1.heap.objs.size (.tup xs),I1.laid (t':=s1.toks) (fun b u e=>Heap.get?_push_of_some _ e) (Nat.le_refl _) ?_,rfl,q _ hf⟩
 exact ⟨z,us,r,⟨_,Heap.get?_push_size _ rfl,rfl,_,rfl⟩⟩
theorem pe_lst (h:PA X es t):PE X (.List es pos) (tLst t):=by
 intro pins s σ H Q I hq
 refine wpAny_List_spliced (thn (h pos pins s σ H _ I hq) fun us s1 ⟨xs,H1,I1,r,z,q⟩=>⟨by rw [<- r.length]; exact z,?_⟩)
 have hf:H1 s1.heap.objs.size=none:=I1.hok.fresh (Nat.le_refl _)
 refine ⟨.ref s1.heap.objs.size,upd H1 s1.heap.objs.size (.lst xs),I1.laid (t':=s1.toks) (fun b u e=>Heap.get?_push_of_some _ e) (Nat.le_refl _) ?_,rfl,q _ hf⟩
 exact ⟨z,us,0,r,Heap.get?_push_size _ rfl⟩
end
abbrev Sp:=List V->Hp->VK->XK->Prop
abbrev CXT:=List Env->Hp->Shared->XK->Value->Shared->Prop
structure Env0 (P:Program) (w:World) (K:W.Frag) (mg:Str->Option Value) (base:Heap) (A:Around) (outer:List Env) (s:Shared) (H:Hp):Prop where
 frames:A.frames=some outer
 mod:Mod K mg base
 bs:∀ b o,base.get? b=some o->s.heap.get? b=some o/\H b=none
 bsz:base.objs.size<=s.heap.objs.size
 funs:s.heap.FunFrames base outer
 frf:∀ b ∈ frs outer,H b=none
 hok:HOk P w H s.heap
 bare:AllBare s.gens
def CE (outer:List Env) (P:Program) (w:World) (H:Hp) (s:Shared) (Q:VK) (u:Value) (s':Shared):Prop:=
 ∃ v H',s'.os=s.os/\AllBare s'.gens/\Un (frs outer) [] H H' s.heap s'.heap/\HOk P w H' s'.heap/\RelV v u/\Q v H'
def CR (CX:CXT) (outer:List Env) (P:Program) (w:World) (H:Hp) (s:Shared) (Q:VK) (E:XK) (r:Result) (s':Shared):Prop:=
 match r with
 | .ok (.ret u)=>CE outer P w H s Q u s'
 | .ok _=>False
 | .error e=>CX outer H s E e s'
structure FnOk (P:Program) (w:World) (K:W.Frag) (mg:Str->Option Value) (base:Heap) (CX:CXT) (k:Nat) (f:Addr) (fd:FuncData) (ps:List Str) (sp:Sp):Prop where
 len:∀ vs H Q E,sp vs H Q E->vs.length=ps.length
 run:∀ (A:Around) (outer:List Env) (s:Shared) (H:Hp) (args:Args) (us:List Value) (vs:List V) (Q:VK) (E:XK),Room k A->Env0 P w K mg base A outer s H->BindsTo s fd args (ps.zip us)->Vals vs us->sp vs H Q E ->
  codeAny (model P w) A (.call (.ref f) args) (CR CX outer P w H s Q E) s
theorem Env0.make {P:Program} {w:World} {K:W.Frag} {mg:Str->Option Value} {base:Heap} {A:Around} {outer:List Env} {s:Shared} {H:Hp} (e:Env0 P w K mg base A outer s H) (C:Addr) (us:List Value) (kw:List (Str × Value)) :
  Env0 P w K mg base (A.under (.builtin "type.__call__" ⟨.ref C :: us,kw⟩)) outer s H:=⟨by first | exact e.frames | (simpa [Around.under,Code.envs,Code.isFrame,pushEnvs] using e.frames),e.mod,e.bs,e.bsz,e.funs,e.frf,e.hok,e.bare⟩
section
variable {X:Cx} {pins:List (Addr × Obj)} {σ:St} {H:Hp} {s s':Shared}
theorem Inv.env0 (I:Inv X pins σ H s):Env0 X.prog X.w X.K X.mg X.base X.A X.stack s H:=
 ⟨I.ok.frames,I.ok.mod,I.bs,Nat.le_trans I.ok.bsz I.sz,I.stack,I.stkFree,I.hok,I.bare⟩
theorem Inv.after {Q:VK} {u:Value} (I:Inv X pins σ H s) (h:CE X.stack X.prog X.w H s Q u s'):EP X pins σ Q u s':=by
 obtain ⟨v,H',os,bare,un,hok,r,q⟩:=h
 obtain ⟨hh,g,d,t,os'⟩:=s'
 obtain rfl:os'=s.os:=os
 exact ⟨v,H',I.call (h':=hh) (g':=g) (d':=d) (t':=t) (ch:=[]) un hok bare (fun b z=>absurd z (by simp)),r,q⟩
end
def tCall (sp:Sp) (dvs:List V) (E:XK) (t:TA):TE:=fun σ H Q=>t σ H fun vs H1=>sp (vs ++ dvs) H1 Q E
def tMeth (C:Addr) (m:Str) (sp:Sp) (dvs:List V) (E:XK) (ta:TE) (t:TA):TE:=fun σ H Q=>ta σ H fun x H1=>∃ a dx fs,x=.ref a/\H1 a=some (.ins C dx fs)/\fs.lookup m=none /\
 t σ H1 fun vs H2=>sp (x :: (vs ++ dvs)) H2 Q E
def tMake (C:Addr) (sp:Sp) (dvs:List V) (E:XK) (t:TA):TE:=fun σ H Q=>t σ H fun vs H1=>∀ x dx,H1 x=none->H1 dx=none->dx ≠ x ->
 sp (.ref x :: (vs ++ dvs)) (upd (upd H1 dx (.own x)) x (.ins C dx [])) (fun v H2=>v=.non/\Q (.ref x) H2) E
def Binds (K:W.Frag) (fd:FuncData) (ps:List Str) (ds:List Value):Prop:=
 ∀ (s:Shared) (us:List Value),K.In s.heap->(us ++ ds).length=ps.length->BindsTo s fd ⟨us,[]⟩ (ps.zip (us ++ ds))
theorem Binds.all {K:W.Frag} {fd:FuncData} {ps:List Str} (h:∀ us:List Value,us.length=ps.length->bindArgs fd ⟨us,[]⟩=pure (ps.zip us)):Binds K fd ps []:=fun s us _ hl=>by
 rw [List.append_nil] at hl ⊢
 exact .of_eq (h us hl)
def Passes (CX:CXT) (X:Cx) (E:XK):Prop:=∀ (pins:List (Addr × Obj)) (σ:St) (H:Hp) (s:Shared) (e:Value) (s':Shared),Inv X pins σ H s->CX X.stack H s E e s'->X.xe e s'
section
variable {X:Cx} {CX:CXT} {k:Nat} {f C:Addr} {fd:FuncData} {ps:List Str} {sp:Sp} {dvs:List V} {ds:List Value} {E:XK} {x m:Str} {p pos apos:Pos} {e o:Expr} {es:List Expr} {ta:TE} {t:TA}
theorem run_fn {pins:List (Addr × Obj)} {σ:St} {H:Hp} {s:Shared} {Q:VK} {us:List Value} {vs:List V} (F:FnOk X.prog X.w X.K X.mg X.base CX k f fd ps sp) (hr:Room k X.A) (hb:Binds X.K fd ps ds) (hd:Vals dvs ds) (hx:Passes CX X E)
  (I:Inv X pins σ H s) (r:Vals vs us) (h:sp (vs ++ dvs) H Q E):wpAny (model X.prog X.w) X.A (call (.ref f) us) (EP X pins σ Q) X.xe s:=by
 have r2:Vals (vs ++ dvs) (us ++ ds):=r.append hd
 have hl:(us ++ ds).length=ps.length:=by rw [<- r2.length]; exact F.len _ _ _ _ h
 refine wpAny_call (codeAny_mono (F.run X.A X.stack s H ⟨us,[]⟩ (us ++ ds) (vs ++ dvs) Q E hr I.env0 (hb s us I.kIn hl) r2 h) fun r s' hq=>?_)
 cases r with
 | error e=>exact hx pins σ H s e s' I hq
 | ok fl=>
  cases fl with
  | ret u=>exact I.after hq
  | next=>exact False.elim hq
  | brk=>exact False.elim hq
  | cont=>exact False.elim hq
theorem pe_call (F:FnOk X.prog X.w X.K X.mg X.base CX k f fd ps sp) (hr:Room k X.A) (hg:Gl X x) (hm:X.mg x=some (.ref f)) (hk:W.keepIn X.K (.ref f)=true) (hb:Binds X.K fd ps ds) (hd:Vals dvs ds) (hx:Passes CX X E)
  (ha:PA X (e :: es) t) (hdb:(x == ("__debug__":Str))=false:=by decide) (he:starEach (e :: es) X.env=(false,eval e X.env) :: starEach es X.env:=by rfl) (hpl:(backTo pos (starEach es X.env)).any (·.1)=false:=by rfl) :
  PE X (.Call (.Name x p) (e :: es) [] pos) (tCall sp dvs E t):=by
 intro pins s σ H Q I h
 refine wpAny_Call_Name_kw (ld_glob I hg hm ?_ hdb)
 refine W.callWith_K (h₀:=X.base) I.ok.mod.kin hk (thn (ha pos pins s σ H _ I h) fun us s1 ⟨vs,H1,I1,r,q⟩=>⟨I1.kIn,?_⟩) he hpl
 exact run_fn F hr hb hd hx I1 r q
structure Mk (K:W.Frag) (C f:Addr):Prop where
 makes:W.makesIn K C=true
 init:W.findIn K (.ref C) "__init__"=some (some (.ref f))
 fn:W.isFn K (.ref f)=true
 kp:W.keepIn K (.ref C)=true
end
def PK (X:Cx) (kws:List Keyword) (t:TA):Prop:=
 ∀ (pos:Pos) (pins:List (Addr × Obj)) (s:Shared) (σ:St) (H:Hp) (Q:List V->Hp->Prop),Inv X pins σ H s->t σ H Q->wpAny (model X.prog X.w) X.A (evalAll ((backToKw pos (keywordEach kws X.env)).map (·.2))) (AP X pins σ Q) X.xe s
section
variable {X:Cx} {CX:CXT} {k:Nat} {f C:Addr} {fd:FuncData} {ps ks:List Str} {sp:Sp} {E:XK} {x m:Str} {p pos apos kpos:Pos} {e o:Expr} {es:List Expr} {kws:List Keyword} {te ta:TE} {t tk:TA} {nm:Option Str}
structure KBinds (K:W.Frag) (fd:FuncData) (ps ks:List Str) (g:List Value->List Value->List Value) (gV:List V->List V->List V):Prop where
 to:∀ (s:Shared) (us ws:List Value),K.In s.heap->(g us ws).length=ps.length->BindsTo s fd ⟨us,ks.zip ws⟩ (ps.zip (g us ws))
 rel:∀ {vs:List V} {us:List Value} {zs:List V} {ws:List Value},Vals vs us->Vals zs ws->Vals (gV vs zs) (g us ws)
def tCallK (sp:Sp) (gV:List V->List V->List V) (E:XK) (t tk:TA):TE:=fun σ H Q=>t σ H fun vs H1=>tk σ H1 fun zs H2=>sp (gV vs zs) H2 Q E
variable {g:List Value->List Value->List Value} {gV:List V->List V->List V}
end
structure FnScope (N P:List Str) (sc:Scope):Prop where
 kind:sc.kind=.function
 co:sc.isCoroutine=false
 gen:sc.isGenerator=false
 nd:N.Nodup
 pre:N.take P.length=P
 par:∀ x ∈ P,sc.names.lookup x=some .local\/sc.names.lookup x=some .cell
 nofree:∀ y ∈ sc.names,y.2 ≠ .free
theorem bindL_out {kindOf:Str->Option NameKind} {x:Str}:∀ {binds:List (Str × Value)} {m:Str->Option Value},(∀ v,(x,v) ∉ binds)->bindL kindOf binds m x=m x
 | [],_,_=>rfl
 | (n,v) :: r,m,h=>by
  unfold bindL
  rw [bindL_out fun w hw=>h w (List.mem_cons_of_mem _ hw)]
  split
  ·have:x ≠ n:=by rintro rfl; exact h v List.mem_cons_self
   simp [this]
  ·rfl
theorem bindC_out {kindOf:Str->Option NameKind} {x:Str}:∀ {binds:List (Str × Value)} {m:Str->Option Value},(∀ v,(x,v) ∉ binds)->bindC kindOf binds m x=m x
 | [],_,_=>rfl
 | (n,v) :: r,m,h=>by
  unfold bindC
  rw [bindC_out fun w hw=>h w (List.mem_cons_of_mem _ hw)]
  split
  ·rfl
  ·have:x ≠ n:=by rintro rfl; exact h v List.mem_cons_self
   simp [this]
theorem bindL_get {kindOf:Str->Option NameKind} {x:Str} {v:Value}:∀ {P:List Str} {vs:List Value} {i:Nat} {m:Str->Option Value},P.Nodup->P[i]?=some x->vs[i]?=some v->kindOf x=some .local ->
  bindL kindOf (P.zip vs) m x=some v
 | [],_,_,_,_,h,_,_=>by simp at h
 | _ :: _,[],_,_,_,_,h,_=>by simp at h
 | p :: P,w :: vs,0,m,nd,h1,h2,hk=>by
  simp at h1 h2; subst h1; subst h2
  show bindL kindOf ((p,w) :: P.zip vs) m p=_
  unfold bindL
  rw [bindL_out fun v hv=>(List.nodup_cons.mp nd).1 (List.of_mem_zip hv).1,if_pos hk]
  simp
 | p :: P,w :: vs,i+1,m,nd,h1,h2,hk=>by
  show bindL kindOf ((p,w) :: P.zip vs) m x=_
  unfold bindL
  exact bindL_get (i:=i) (List.nodup_cons.mp nd).2 (by simpa using h1) (by simpa using h2) hk
theorem bindC_get {kindOf:Str->Option NameKind} {x:Str} {v:Value}:∀ {P:List Str} {vs:List Value} {i:Nat} {m:Str->Option Value},P.Nodup->P[i]?=some x->vs[i]?=some v->kindOf x ≠ some .local ->
  bindC kindOf (P.zip vs) m x=some v
 | [],_,_,_,_,h,_,_=>by simp at h
 | _ :: _,[],_,_,_,_,h,_=>by simp at h
 | p :: P,w :: vs,0,m,nd,h1,h2,hk=>by
  simp at h1 h2; subst h1; subst h2
  show bindC kindOf ((p,w) :: P.zip vs) m p=_
  unfold bindC
  rw [bindC_out fun v hv=>(List.nodup_cons.mp nd).1 (List.of_mem_zip hv).1,if_neg hk]
  simp
 | p :: P,w :: vs,i+1,m,nd,h1,h2,hk=>by
  show bindC kindOf ((p,w) :: P.zip vs) m x=_
  unfold bindC
  exact bindC_get (i:=i) (List.nodup_cons.mp nd).2 (by simpa using h1) (by simpa using h2) hk
def start (N:List Str) (vs:List V):St:=vs.map some ++ List.replicate (N.length - vs.length) none
def cxOf (CX:CXT) (P:Program) (w:World) (K:W.Frag) (mg:Str->Option Value) (base:Heap) (N:List Str) (qual:Str) (scope:Scope) (f:Addr) (cd:Value) (A:Around) (outer:List Env) (s:Shared) (H:Hp) (E:XK):Cx where
 prog:=P
 w:=w
 K:=K
 mg:=mg
 base:=base
 A:=A.deeper (envOfC qual scope s.heap.objs.size f cd)
 N:=N
 s₀:=s
 H₀:=H
 env:=envOfC qual scope s.heap.objs.size f cd
 outer:=outer
 stack:=envOfC qual scope s.heap.objs.size f cd :: outer
 ex:=[]
 calm:=true
 still:=true
 fz:=[]
 fn:=fun _=>true
 pn:=[]
 xe:=fun e s'=>wpAny (model P w) (A.deeper (envOfC qual scope s.heap.objs.size f cd)) (leaving (envOfC qual scope s.heap.objs.size f cd) e) (fun _ s''=>CX outer H s E e s'') (fun e' s''=>CX outer H s E e' s'') s'
theorem cell_has {sc:Scope} {n:Nat} {x:Str} (h:sc.names.lookup x=some .cell):∃ c,(cellsFrom n sc.names []).lookup x=some c:=by
 have q:=W.cellsFrom_some sc.names n [] (.inl h)
 exact Option.isSome_iff_exists.mp q
theorem inv_start {CX:CXT} {P:Program} {w:World} {K:W.Frag} {mg:Str->Option Value} {base:Heap} {N ps:List Str} {qual:Str} {scope:Scope} {f:Addr} {cd:Value} {A:Around} {outer:List Env} {s s1:Shared} {H:Hp} {E:XK} {us:List Value} {vs:List V}
  (S:FnScope N ps scope) (hd:A.handled=none) (e0:Env0 P w K mg base A outer s H) (hl:vs.length=ps.length) (r:Vals vs us)
  (x:InCallC s s.heap.objs.size (bindL (envOfC qual scope s.heap.objs.size f cd).kindOf (ps.zip us) fun _=>none) (cellsFrom (s.heap.objs.size+1) scope.names []) (bindC (envOfC qual scope s.heap.objs.size f cd).kindOf (ps.zip us) fun _=>none) s1) :
  Inv (cxOf CX P w K mg base N qual scope f cd A outer s H E) [] (start N vs) H s1:=by
 have hpl:ps.length<=N.length:=by have:=congrArg List.length S.pre; rw [List.length_take] at this; omega
 obtain ⟨h1,tk,rfl,hk⟩:=x.done
 have noA:∀ b:Addr,b ∉ (cxOf CX P w K mg base N qual scope f cd A outer s H E).ex:=fun b z=>absurd (show b ∈ ([]:List Addr) from z) (by simp)
 refine ⟨⟨e0.mod,S.kind,rfl,rfl,Nat.le_refl _,fun y z c h1 h2=>?_,fun y hy=>?_,fun y c _ h=>?_,fun _=>hd,fun _=>.inl hd,Around.frames_deeper e0.frames,.inr ⟨rfl,rfl⟩,fun b z=>absurd z (noA b),e0.bs,e0.bsz,fun b _ _=>noA b,fun b z=>absurd z (noA b),e0.funs,e0.frf⟩,
  (fun p hp=>nomatch hp),rfl,e0.bare,Un.kept hk,⟨_,x.toInCall.ns,fun i y v h1 h2 h3=>?_⟩,fun y c h=>⟨_,x.cell y c h⟩,e0.hok.fresh (Nat.le_refl _),fun y c h=>?_,fun p hp=>absurd (show p ∈ ([]:List (Addr × Obj)) from hp) (by simp),e0.hok.kept hk,?_⟩
 ·exact name_of_addr x.apart (PySem.mem_of_lookup h1) (PySem.mem_of_lookup h2)
 ·have hy:scope.names.lookup y=some .cell\/scope.names.lookup y=some .free:=hy
  rcases hy with hy | hy
  ·exact cell_has hy
  ·exact absurd rfl (S.nofree _ (PySem.mem_of_lookup hy))
 ·exact Nat.le_of_lt (x.above y c (PySem.mem_of_lookup h))
 ·have hi:i < vs.length:=by
   unfold start at h2
   by_cases hi:i < vs.length
   ·exact hi
   ·rw [List.getElem?_append_right (by simpa using hi)] at h2
    rw [List.getElem?_replicate] at h2
    split at h2 <;> cases h2
  have ha:vs[i]?=some v:=by
   unfold start at h2
   rw [List.getElem?_append_left (by simpa using hi),List.getElem?_map] at h2
   cases e:vs[i]? with
   | none=>rw [e] at h2; cases h2
   | some a=>rw [e] at h2; cases h2; rfl
  obtain ⟨u,hu,rv⟩:=r.get ha
  have hp:ps[i]?=some y:=by
   rw [<- S.pre,List.getElem?_take_of_lt (by omega)]; exact h1
  have ndP:ps.Nodup:=by rw [<- S.pre]; exact S.nd.sublist (List.take_sublist _ _)
  refine ⟨u,rv,?_⟩
  rcases S.par y (List.mem_of_getElem? hp) with k | k
  ·exact .inl ⟨k,bindL_get ndP hp hu k⟩
  ·obtain ⟨c,e⟩:=cell_has (n:=s.heap.objs.size+1) k
   refine .inr ⟨.inl k,c,e,?_⟩
   have q:=x.cell y c e
   rw [bindC_get ndP hp hu (by show scope.names.lookup y ≠ _; rw [k]; decide)] at q
   exact q
 ·exact e0.hok.fresh (Nat.le_of_lt (x.above y c (PySem.mem_of_lookup h)))
 ·unfold start
  show _=N.length
  rw [List.length_append,List.length_map,List.length_replicate]
  omega
theorem fn_of {CX:CXT} {P:Program} {w:World} {K:W.Frag} {mg:Str->Option Value} {base:Heap} {k:Nat} {f:Addr} {name qual:Str} {params:Arguments} {body:List Stmt} {scope:Scope} {dV kV doc pm cdv ct oc:Value} {an od:Option Addr}
  {osl:Array (Option Value)} {N ps:List Str} {sp:Sp} (lk:K.lookup f=some ⟨oc,od,.func (W.fnOf name qual params body scope dV kV doc pm an cdv ct),osl⟩) (hcd:W.codeIn K cdv qual=true) (S:FnScope N ps scope)
  (len:∀ vs H Q E,sp vs H Q E->vs.length=ps.length)
  (hbody:∀ (A:Around) (outer:List Env) (s:Shared) (H:Hp) (vs:List V) (Q:VK) (E:XK),Room k (A.deeper (envOfC qual scope s.heap.objs.size f cdv))->sp vs H Q E ->
   ∃ t,PSs (cxOf CX P w K mg base N qual scope f cdv A outer s H E) body t/\t { nx:=fun _ H'=>Q .non H',rt:=Q } (start N vs) H) :
  FnOk P w K mg base CX (k+1) f (W.fnOf name qual params body scope dV kV doc pm an cdv ct) ps sp:=by
 refine ⟨len,fun A outer s H args us vs Q E hr e0 hb r hsp=>?_⟩
 have hl:=len _ _ _ _ hsp
 have KX:K.In s.heap:=e0.mod.kin.keeps fun b o e=>(e0.bs b o e).1
 have lim:s.heap.NoLimit:=e0.mod.nolimit.keeps fun b o e=>(e0.bs b o e).1
 have hkind:∀ y ∈ ps.zip us,scope.names.lookup y.1=some .local\/(scope.names.lookup y.1=some .cell/\((cellsFrom (s.heap.objs.size+1) scope.names []).lookup y.1).isSome=true):=fun ⟨n,v⟩ hy=>by
  rcases S.par n (List.of_mem_zip hy).1 with q | q
  ·exact .inl q
  ·exact .inr ⟨q,W.cellsFrom_some _ _ _ (.inl q)⟩
 refine codeAny_call_function hr.depth (KX _ _ lk) rfl S.co S.gen rfl (W.codeRec_of KX hcd) (hb _ _ _ _ ?_)
 refine wpAny_newFunctionEnv_cells S.kind hkind fun env he s1 x=>?_
 subst he
 refine ⟨lim.keeps x.toInCall.keep,codeAny_func ?_⟩
 obtain ⟨t,ht,hq⟩:=hbody A outer s H vs Q E (hr.deeper _) hsp
 have I:Inv (cxOf CX P w K mg base N qual scope f cdv A outer s H E) [] (start N vs) H s1:=inv_start S hr.hd e0 hl r x
 refine wpAny_mono (ht [] s1 (start N vs) H _ I hq) (fun fl s' hs=>?_) fun e s' hs=>hs
 have fin:∀ {σ':St} {H':Hp} {v:V} {u:Value},Inv (cxOf CX P w K mg base N qual scope f cdv A outer s H E) [] σ' H' s'->RelV v u->Q v H'->CE outer P w H s Q u s':=
  fun {σ' H' v u} J rv q=>⟨v,H',J.os,J.bare,J.base,J.hok,rv,q⟩
 cases fl with
 | ret u=>
  obtain ⟨v,σ',H',J,rv,q⟩:=hs
  exact fin J rv q
 | next=>
  obtain ⟨σ',H',J,q⟩:=hs
  exact fin (v:=V.non) (u:=Value.none) J rfl q
 | brk=>
  obtain ⟨_,_,_,q⟩:=hs
  exact False.elim q
 | cont=>
  obtain ⟨_,_,_,q⟩:=hs
  exact False.elim q
end L2
namespace L2
open PySem PySem.Spec PyProof.Rows
section
variable {X:Cx} {x:Str} {p pos:Pos} {e:Expr} {es:List Expr} {t:TA} {id T:String} {r:List V->Hp->VK->Prop}
def tCB (r:List V->Hp->VK->Prop) (t:TA):TE:=fun σ H Q=>t σ H fun vs H1=>r vs H1 Q
theorem pe_callB (hc:CallR X (.builtin id) r) (hg:Gl X x) (hm:X.mg x=none) (hv:bootBuiltins x=some (.builtin id)) (ha:PA X (e :: es) t) (hn:x ≠ "__name__":=by decide) (hdb:(x == ("__debug__":Str))=false:=by decide)
  (he:starEach (e :: es) X.env=(false,eval e X.env) :: starEach es X.env:=by rfl) (hpl:(backTo pos (starEach es X.env)).any (·.1)=false:=by rfl):PE X (.Call (.Name x p) (e :: es) [] pos) (tCB r t):=by
 intro pins s σ H Q I h
 refine wpAny_Call_Name_kw (ld_blt I hg hm hv ?_ hn hdb)
 exact PyProof.Rows.callWith_builtin1 (thn (ha pos pins s σ H _ I h) fun us s1 ⟨vs,H1,I1,r1,q1⟩=>hc pins s1 σ H1 vs us Q I1 r1 q1) he hpl
theorem pe_callTy (hc:CallR X (.type T) r) (hg:Gl X x) (hm:X.mg x=none) (hv:bootBuiltins x=some (.type T)) (ha:PA X (e :: es) t) (hn:x ≠ "__name__":=by decide) (hdb:(x == ("__debug__":Str))=false:=by decide)
  (he:starEach (e :: es) X.env=(false,eval e X.env) :: starEach es X.env:=by rfl) (hpl:(backTo pos (starEach es X.env)).any (·.1)=false:=by rfl):PE X (.Call (.Name x p) (e :: es) [] pos) (tCB r t):=by
 intro pins s σ H Q I h
 refine wpAny_Call_Name_kw (ld_blt I hg hm hv ?_ hn hdb)
 exact PyProof.Rows.callWith_type1 (thn (ha pos pins s σ H _ I h) fun us s1 ⟨vs,H1,I1,r1,q1⟩=>hc pins s1 σ H1 vs us Q I1 r1 q1) he hpl
end
end L2
namespace HT
open PySem PyProof.Rows
def lexLt:List Int->List Int->Bool
 | [],[]=>false
 | [],_ :: _=>true
 | _ :: _,[]=>false
 | x :: xs,y :: ys=>if x=y then lexLt xs ys else decide (x < y)
theorem lexLt_cons (x y:Int) (xs ys:List Int):lexLt (x :: xs) (y :: ys)=if x=y then lexLt xs ys else decide (x < y):=rfl
section
open PySem.SeqAt
open PySem.AutoSeq1 (wpAny_loadPart')
open PySem.MeetsSeq PySem.MeetsSeq2 PySem.MeetsSeq3
end
section
variable {prog:Program} {w:World} {A:Around} {E:Value->Shared->Prop} {s:Shared}
def sIx (n d:Nat):Option Int->Nat
 | none=>d
 | some v=>if v < 0 then (v+(n:Int)).toNat else min v.toNat n
end
end HT
namespace L2
open PySem PySem.Spec PyProof.Rows
abbrev TO:=St->Hp->(Option Int->Hp->Prop)->Prop
def PO (X:Cx) (e:Option Expr) (t:TO):Prop:=
 ∀ (pins:List (Addr × Obj)) (s:Shared) (σ:St) (H:Hp) (Q:Option Int->Hp->Prop),Inv X pins σ H s->t σ H Q ->
  wpAny (model X.prog X.w) X.A (evalPart e X.env) (fun u s'=>∃ o H',Inv X pins σ H' s'/\IsPart u o/\Q o H') X.xe s
def tNoPart:TO:=fun _ H Q=>Q none H
def tPart (t:TE):TO:=fun σ H Q=>t σ H fun x H1=>∃ i,x=.int i/\Q (some i) H1
section
variable {X:Cx} {e:Expr} {te:TE} {lo hi:Option Expr} {tl th:TO} {pos p2:Pos}
theorem po_none:PO X none tNoPart:=by
 intro pins s σ H Q I h
 rw [evalPart_none]
 exact wpAny_pure ⟨none,H,I,.none,h⟩
theorem po_some (h:PE X e te):PO X (some e) (tPart te):=by
 intro pins s σ H Q I hw
 rw [evalPart_some]
 refine thn (h pins s σ H _ I hw) fun u s1 ⟨x,H1,I1,r1,q1⟩=>?_
 obtain ⟨i,rfl,q⟩:=q1
 obtain ⟨t,rfl⟩:=r1
 exact ⟨some i,H1,I1,.int i t,q⟩
def SlR (X:Cx) (r:V->Option Int->Option Int->Hp->VK->Prop):Prop:=
 ∀ (pins:List (Addr × Obj)) (s:Shared) (σ:St) (H:Hp) (x:V) (v vl vu:Value) (lo hi:Option Int) (sl:Addr) (Q:VK),Inv X pins σ H s->RelV x v->s.heap.IsSliceOf sl vl vu .none->IsPart vl lo->IsPart vu hi->r x lo hi H Q ->
  ∃ T id,typeLookup (.type T) "__getitem__"=pure (some (.builtin id))/\s.TypeIs v T/\wpAny (model X.prog X.w) X.A (getItem v (.ref sl)) (EP X pins σ Q) X.xe s
def tSl (r:V->Option Int->Option Int->Hp->VK->Prop) (te:TE) (tl th:TO):TE:=fun σ H Q=>te σ H fun x H1=>tl σ H1 fun l H2=>th σ H2 fun u H3=>r x l u H3 Q
theorem pe_slice {r:V->Option Int->Option Int->Hp->VK->Prop} (hr:SlR X r) (he:PE X e te) (hl:PO X lo tl) (hu:PO X hi th):PE X (.Subscript e (.Slice lo hi none p2) pos) (tSl r te tl th):=by
 intro pins s σ H Q I h
 refine Subscript_ (thn (he pins s σ H _ I h) fun v s1 ⟨x,H1,I1,r1,q1⟩=>?_)
 refine wpAny_Slice (thn (hl pins s1 σ H1 _ I1 q1) fun vl s2 ⟨l,H2,I2,pl,q2⟩=>thn (hu pins s2 σ H2 _ I2 q2) fun vu s3 ⟨u,H3,I3,pu,q3⟩=>?_)
 rw [evalPart_none]
 refine wpAny_pure ?_
 have I4:Inv X pins σ H3 { s3 with heap:=s3.heap.push { cls:=.type "slice",data:=.fields #[vl,vu,.none] } }:=I3.kept (t':=s3.toks) fun b ob q=>Heap.get?_push_of_some _ q
 obtain ⟨T,id,hT,ht,hg⟩:=hr pins { s3 with heap:=s3.heap.push { cls:=.type "slice",data:=.fields #[vl,vu,.none] } } σ H3 x v vl vu l u s3.heap.objs.size Q I4 r1 (Heap.IsSliceOf.new ..) pl pu q3
 show wpAny (model X.prog X.w) X.A (subscriptTail e (.Slice lo hi none p2) v (.ref s3.heap.objs.size)) (EP X pins σ Q) X.xe { s3 with heap:=s3.heap.push { cls:=.type "slice",data:=.fields #[vl,vu,.none] } }
 exact tail_any (ops:=[.ref s3.heap.objs.size,v]) ht hT hg (by with_unfolding_all rfl)
def cutV (xs:List V) (lo hi:Option Int):List V:=(xs.drop (HT.sIx xs.length 0 lo)).take (HT.sIx xs.length xs.length hi - HT.sIx xs.length 0 lo)
theorem cutV_length (xs:List V) (lo hi:Option Int):(cutV xs lo hi).length<=xs.length:=by
 unfold cutV
 rw [List.length_take,List.length_drop]
 omega
def rSlT (K:W.Frag):V->Option Int->Option Int->Hp->VK->Prop:=fun x lo hi H Q=>∃ a xs,x=.ref a/\SqT K H a xs /\
 ¬ (HT.sIx xs.length 0 lo=0/\HT.sIx xs.length xs.length hi=xs.length)/\∀ p,H p=none->Q (.ref p) (upd H p (.tup (cutV xs lo hi)))
def rLtT (K:W.Frag):R2:=fun x y H Q=>∃ a b ns ms,x=.ref a/\y=.ref b/\SqT K H a (ns.map V.int)/\SqT K H b (ms.map V.int)/\Q (.bl (HT.lexLt ns ms)) H
def rCatT (K:W.Frag):R2:=fun x y H Q=>∃ a b xs ys,x=.ref a/\y=.ref b/\SqT K H a xs/\SqT K H b ys/\xs ≠ []/\xs.length+ys.length<=sizeLine /\
 (ys=[]->Q (.ref a) H)/\(ys ≠ []->∀ p,H p=none->Q (.ref p) (upd H p (.tup (xs ++ ys))))
end
end L2
namespace L2
open PySem PySem.Spec PyProof.Rows
def ixN (n:Nat) (i:Int):Option Nat:=if 0<=i then (if i < n then some i.toNat else none) else if -(n:Int)<=i then some (i+n).toNat else none
def atI {α:Type} (xs:List α) (i:Int):Option α:=(ixN xs.length i).bind fun j=>xs[j]?
theorem ixN_seq {n:Nat} {i:Int} {j:Nat} (h:ixN n i=some j):seqIndex? i n=some j/\j < n/\-(n:Int)<=i/\i < n:=by
 unfold ixN at h
 by_cases h0:0<=i
 ·rw [if_pos h0] at h
  by_cases h1:i < n
  ·rw [if_pos h1] at h
   have e:i.toNat=j:=Option.some.inj h
   exact ⟨by rw [seqIndex_of h0 h1,e],by omega,by omega,h1⟩
  ·rw [if_neg h1] at h; cases h
 ·rw [if_neg h0] at h
  by_cases h1:-(n:Int)<=i
  ·rw [if_pos h1] at h
   have e:(i+n).toNat=j:=Option.some.inj h
   exact ⟨by rw [seqIndex_neg (by omega) h1,e],by omega,h1,by omega⟩
  ·rw [if_neg h1] at h; cases h
theorem atI_get {α:Type} {xs:List α} {i:Int} {v:α} (h:atI xs i=some v):∃ j,seqIndex? i xs.length=some j/\xs[j]?=some v/\j < xs.length/\-(xs.length:Int)<=i/\i < xs.length:=by
 unfold atI at h
 cases e:ixN xs.length i with
 | none=>rw [e] at h; cases h
 | some j=>
  rw [e] at h
  obtain ⟨h1,h2,h3,h4⟩:=ixN_seq e
  exact ⟨j,h1,h,h2,h3,h4⟩
theorem atI_nat {α:Type} {xs:List α} {j:Nat} {v:α} (h:xs[j]?=some v):atI xs (j:Int)=some v:=by
 have hj:j < xs.length:=(List.getElem?_eq_some_iff.mp h).1
 have e:ixN xs.length (j:Int)=some j:=by
  unfold ixN
  rw [if_pos (by omega),if_pos (by omega)]; simp
 unfold atI; rw [e]; exact h
def PlainIx (b:Expr):Prop:=∀ o i,subscripted b false o i=operate [o,i] (getItem o i)
def IxR (X:Cx) (r:R2):Prop:=
 ∀ (value slice:Expr) (pins:List (Addr × Obj)) (s:Shared) (σ:St) (H:Hp) (x y:V) (v u:Value) (Q:VK),Inv X pins σ H s->RelV x v->RelV y u->r x y H Q ->
  subscripted slice false v u=operate [v,u] (getItem v u)->wpAny (model X.prog X.w) X.A (subscriptTail value slice v u) (EP X pins σ Q) X.xe s
def MtR (X:Cx) (id:String) (r:V->List V->Hp->VK->Prop):Prop:=
 ∀ (pins:List (Addr × Obj)) (s:Shared) (σ:St) (H:Hp) (x:V) (xs:List V) (v:Value) (us:List Value) (Q:VK),Inv X pins σ H s->RelV x v->Vals xs us->r x xs H Q ->
  wpAny (model X.prog X.w) X.A (call (.builtin id) (v :: us)) (EP X pins σ Q) X.xe s
section
variable {X:Cx} {a b:Expr} {ta tb:TE} {pos:Pos}
theorem IxR.or {r r':R2} (h:IxR X r) (h':IxR X r'):IxR X (fun x y H Q=>r x y H Q\/r' x y H Q):=by
 intro value slice pins s σ H x y v u Q I rx ry q hs
 rcases q with q | q
 ·exact h value slice pins s σ H x y v u Q I rx ry q hs
 ·exact h' value slice pins s σ H x y v u Q I rx ry q hs
theorem pe_ix {r:R2} (hr:IxR X r) (ha:PE X a ta) (hb:PE X b tb) (hs:PlainIx b):PE X (.Subscript a b pos) (tOp r ta tb):=by
 intro pins s σ H Q I h
 exact Subscript_ (binT ha hb I h fun v u s2 x y H2 I2 rx ry q=>hr a b pins s2 σ H2 x y v u Q I2 rx ry q (hs _ _))
def rIxL (K:W.Frag):R2:=fun x y H Q=>∃ p xs i v,x=.ref p/\y=.int i/\SqL K H p xs/\atI xs i=some v/\Q v H
def rIxT (K:W.Frag):R2:=fun x y H Q=>∃ p xs i v,x=.ref p/\y=.int i/\SqT K H p xs/\atI xs i=some v/\Q v H
def rIxS:R2:=fun x y H Q=>∃ z i c,x=.str z/\y=.int i/\z.length<=sizeLine/\atI z.cps.toList i=some c/\Q (.str ⟨#[c]⟩) H
theorem ix_list:IxR X (rIxL X.K):=by
 intro value slice pins s σ H x y v u Q I rx ry h hs
 obtain ⟨p,xs,i,z,rfl,rfl,hq,he,q⟩:=h
 cases rx
 obtain ⟨t,rfl⟩:=ry
 obtain ⟨its,r,pl,hz⟩:=I.list hq
 obtain ⟨j,h1,h2,h3,h4,h5⟩:=atI_get he
 obtain ⟨w,ew,rw'⟩:=r.get h2
 have hl:=r.length
 have hn:=line63
 have fin:EP X pins σ Q w s:=⟨z,H,I,rw',q⟩
 by_cases h0:0<=i
 ·have hj:i.toNat=j:=by
   rw [seqIndex_of h0 h5] at h1
   exact Option.some.inj h1
  exact item_listR pl.isList h0 (by omega) (by rw [hj]; simpa using ew) fin hs
 ·have hj:(i+(its.toArray.size:Int)).toNat=j:=by
   rw [seqIndex_neg (by omega) h4] at h1
   rw [List.size_toArray,<- hl]
   exact Option.some.inj h1
  exact subscriptTail_builtinR (x:=w) pl.isList.typeIs slot_list_getitem.lookup
   (wpAny_getItem_list_neg (Q:=fun r s'=>r=w/\EP X pins σ Q r s') pl.isList (by omega) (by rw [List.size_toArray] <;> omega) (by omega) (by rw [hj]; simpa using ew) ⟨rfl,fin⟩) hs
theorem ix_tup:IxR X (rIxT X.K):=by
 intro value slice pins s σ H x y v u Q I rx ry h hs
 obtain ⟨p,xs,i,z,rfl,rfl,hq,he,q⟩:=h
 cases rx
 obtain ⟨t,rfl⟩:=ry
 obtain ⟨its,r,pl,hz⟩:=I.tuple hq
 obtain ⟨j,h1,h2,h3,h4,h5⟩:=atI_get he
 obtain ⟨w,ew,rw'⟩:=r.get h2
 have hl:=r.length
 have hn:=line63
 have fin:EP X pins σ Q w s:=⟨z,H,I,rw',q⟩
 exact subscriptTail_builtinR (x:=w) pl.typeIs slot_tuple_getitem.lookup
  (getItem_tuple (j:=j) (Q:=fun r s'=>r=w/\EP X pins σ Q r s') pl (by omega) (by omega) (by rw [List.size_toArray,<- hl]; exact h1) (by simpa using ew) ⟨rfl,fin⟩) hs
theorem ix_str:IxR X rIxS:=by
 intro value slice pins s σ H x y v u Q I rx ry h hs
 obtain ⟨z,i,c,rfl,rfl,hz,he,q⟩:=h
 obtain ⟨t,rfl⟩:=rx
 obtain ⟨t',rfl⟩:=ry
 obtain ⟨j,h1,h2,h3,h4,h5⟩:=atI_get he
 have hl:z.cps.toList.length=z.length:=by simp [Str.length]
 rw [hl] at h1 h4 h5
 have hn:=line63
 exact tail_any (typeIs_str s z t) slot_str_getitem.lookup (getItem_str (c:=c) (by
  have e1:decide (i < -(2^63:Int))=false:=decide_eq_false (by omega)
  have e2:decide (i >= 2^63)=false:=decide_eq_false (by omega)
  rw [e1,e2,Bool.or_false]) (by rw [h1]; simpa using h2) ⟨.str ⟨#[c]⟩,H,I.tok _,⟨_,rfl⟩,q⟩) hs
def rIx (K:W.Frag):R2:=fun x y H Q=>rIxL K x y H Q\/rIxT K x y H Q\/rIxS x y H Q
theorem ix_seq:IxR X (rIx X.K):=ix_list.or (ix_tup.or ix_str)
def rSetL:V->V->V->Hp->(Hp->Prop)->Prop:=fun o i v H Q=>∃ p xs k j,o=.ref p/\i=.int k/\H p=some (.lst xs)/\ixN xs.length k=some j/\Q (upd H p (.lst (xs.set j v)))
theorem slice_bounds (lo hi:Option Int) (n:Nat):(sliceBounds lo hi none n).1=((HT.sIx n 0 lo:Nat):Int)/\(sliceBounds lo hi none n).2.1=((HT.sIx n n hi:Nat):Int)/\(sliceBounds lo hi none n).2.2=1:=by
 refine ⟨?_,?_,rfl⟩
 ·cases lo with
  | none=>simp [sliceBounds,HT.sIx]
  | some i=>
   simp only [sliceBounds,HT.sIx,Option.getD_none,show (1:Int) > 0 by decide,if_true]
   by_cases h:i < 0
   ·simp only [h,if_true] <;> omega
   ·simp only [h,if_false] <;> omega
 ·cases hi with
  | none=>simp [sliceBounds,HT.sIx]
  | some i=>
   simp only [sliceBounds,HT.sIx,Option.getD_none,show (1:Int) > 0 by decide,if_true]
   by_cases h:i < 0
   ·simp only [h,if_true] <;> omega
   ·simp only [h,if_false] <;> omega
theorem slicePick_cut (its:List Value) (lo hi:Option Int):slicePick its.toArray lo hi none=((its.drop (HT.sIx its.length 0 lo)).take (HT.sIx its.length its.length hi - HT.sIx its.length 0 lo)).toArray:=by
 obtain ⟨h1,h2,h3⟩:=slice_bounds lo hi its.toArray.size
 unfold slicePick
 rw [h1,h2,h3]
 simp only [sliceRange_one,pick_run,List.size_toArray] <;> rfl
def rSlL (K:W.Frag):V->Option Int->Option Int->Hp->VK->Prop:=fun x lo hi H Q=>∃ a xs,x=.ref a/\SqL K H a xs/\∀ p,H p=none->Q (.ref p) (upd H p (.lst (cutV xs lo hi)))
theorem sl_list:SlR X (rSlL X.K):=by
 intro pins s σ H x v vl vu lo hi sl Q I rx hs pl pu h
 obtain ⟨a,xs,rfl,hx,q⟩:=h
 cases rx
 obtain ⟨its,r,ht,hz⟩:=I.list hx
 have hlen:=r.length
 refine ⟨"list",_,slot_list_getitem.lookup,ht.isList.typeIs,?_⟩
 refine wpAny_getItem_list_slice ht.isList hs pl pu .none (by simp) ?_ (by rw [List.size_toArray] <;> omega)
 rw [slicePick_cut,<- hlen]
 refine ⟨.ref s.heap.objs.size,_,I.laid (t':=s.toks) (o:=.lst (cutV xs lo hi)) (fun b ob q=>Heap.get?_push_of_some _ q) (Nat.le_refl _) ?_,rfl,q _ (I.hok.fresh (Nat.le_refl _))⟩
 exact ⟨Nat.le_trans (cutV_length xs lo hi) hz,_,0,(r.drop (HT.sIx xs.length 0 lo)).take (HT.sIx xs.length xs.length hi - HT.sIx xs.length 0 lo),Heap.get?_push_size _ rfl⟩
def flatV:V->Bool
 | .non=>true
 | .bl _=>true
 | .int _=>true
 | .str _=>true
 | _=>false
def eqV:V->V->Bool
 | .non,.non=>true
 | .bl a,.bl b=>a == b
 | .bl a,.int b=>(if a then 1 else 0) == b
 | .int a,.bl b=>a == (if b then 1 else 0)
 | .int a,.int b=>a == b
 | .str a,.str b=>a == b
 | _,_=>false
def eqU (x:V) (u:Value):Bool:=match u with
 | .none=>eqV .non x
 | .bool b=>eqV (.bl b) x
 | .int i _=>eqV (.int i) x
 | .str z _=>eqV (.str z) x
 | _=>false
def inV (x:V) (xs:List V):Bool:=xs.any fun y=>eqV y x
def rIn (K:W.Frag) (neg:Bool):R2:=fun x y H Q=>∃ p xs,y=.ref p/\(SqL K H p xs\/SqT K H p xs)/\flatV x=true/\xs.all flatV=true/\Q (.bl (if neg then !inV x xs else inV x xs)) H
theorem call_len_seq:CallR X (.builtin "len") (fun xs H Q=>∃ p ys,xs=[.ref p]/\(SqL X.K H p ys\/SqT X.K H p ys)/\Q (.int ys.length) H):=by
 intro pins s σ H xs us Q I r h
 obtain ⟨p,ys,rfl,hq,q⟩:=h
 obtain ⟨u,rfl,rx⟩:=vals1 r
 cases rx
 have hn:=line63
 rcases hq with hq | hq
 ·obtain ⟨its,r',pl,hz⟩:=I.list hq
  have hlen:=r'.length
  exact Calls.call_len_list pl.isList (by simp only [List.size_toArray] <;> omega) ⟨.int ys.length,H,I.tok _,⟨s.toks+1,by rw [List.size_toArray,hlen]⟩,q⟩
 ·obtain ⟨its,r',pl,hz⟩:=I.tuple hq
  have hlen:=r'.length
  exact len_tuple pl (by simp only [List.size_toArray] <;> omega) ⟨.int ys.length,H,I.tok _,⟨s.toks+1,by rw [List.size_toArray,hlen]⟩,q⟩
theorem call_list_of:CallR X (.type "list") (fun xs H Q=>∃ p ys,xs=[.ref p]/\(SqL X.K H p ys\/SqT X.K H p ys)/\∀ l,H l=none->Q (.ref l) (upd H l (.lst ys))):=by
 intro pins s σ H xs us Q I r h
 obtain ⟨p,ys,rfl,hq,q⟩:=h
 obtain ⟨u,rfl,rx⟩:=vals1 r
 cases rx
 have fin:∀ (its:List Value),Vals ys its->ys.length<=sizeLine->∀ (h':Heap) (c':Nat),(∀ b o',s.heap.get? b=some o'->h'.get? b=some o') ->
   h'.get? s.heap.objs.size=some { cls:=.type "list",dict:=none,data:=.seq its.toArray c',slots:=#[] }->EP X pins σ Q (.ref s.heap.objs.size) { s with heap:=h' }:=fun its r' hz h' c' kp e=>
  ⟨.ref s.heap.objs.size,_,I.laid (t':=s.toks) kp (Nat.le_refl _) (show ObjOk X.prog X.w _ h' _ (.lst ys) from ⟨hz,its,c',r',e⟩),rfl,q _ (I.hok.fresh (Nat.le_refl _))⟩
 rcases hq with hq | hq
 ·obtain ⟨its,r',pl,hz⟩:=I.list hq
  have hlen:=r'.length
  obtain ⟨o,ho,hc,n,hd⟩:=pl.isList
  exact call_list_seq p (.inl rfl) ho hc hd (fun h' c' kp e=>fin its r' hz h' c' kp e) (by simp only [List.size_toArray] <;> omega)
 ·obtain ⟨its,r',pl,hz⟩:=I.tuple hq
  have hlen:=r'.length
  obtain ⟨o,ho,hc,n,hd⟩:=pl
  exact call_list_seq p (.inr rfl) ho hc hd (fun h' c' kp e=>fin its r' hz h' c' kp e) (by simp only [List.size_toArray] <;> omega)
theorem call_tuple_of:CallR X (.type "tuple") (fun xs H Q=>∃ p ys,xs=[.ref p]/\((SqL X.K H p ys/\∀ l,H l=none->Q (.ref l) (upd H l (.tup ys)))\/(SqT X.K H p ys/\Q (.ref p) H))):=by
 intro pins s σ H xs us Q I r h
 obtain ⟨p,ys,rfl,h⟩:=h
 obtain ⟨u,rfl,rx⟩:=vals1 r
 cases rx
 rcases h with ⟨hq,q⟩ | ⟨hq,q⟩
 ·obtain ⟨its,r',pl,hz⟩:=I.list hq
  have hlen:=r'.length
  refine call_tuple_list pl.isList (fun h' kp=>?_) (by simp only [List.size_toArray] <;> omega)
  have I1:Inv X pins σ H { s with heap:=h' }:=I.kept (t':=s.toks) kp
  have I2:Inv X pins σ (upd H h'.objs.size (.tup ys)) { s with heap:=h'.push { cls:=.type "tuple",data:=.seq its.toArray } }:=
   I1.laid (t':=s.toks) (fun b o e=>Heap.get?_push_of_some _ e) (Nat.le_refl _) (show ObjOk X.prog X.w _ _ _ (.tup ys) from ⟨hz,its,r',IsTup.new _ _⟩)
  exact ⟨.ref h'.objs.size,_,I2,rfl,q _ (I1.hok.fresh (Nat.le_refl _))⟩
 ·obtain ⟨its,r',pl,hz⟩:=I.tuple hq
  exact call_tuple_same pl ⟨.ref p,H,I,rfl,q⟩
def tyV (K:W.Frag) (T:String) (x:V) (H:Hp):Prop:=match x with
 | .str _=>T="str"
 | .int _=>T="int"
 | .ref p=>(T="list"/\∃ xs,SqL K H p xs)\/(T="tuple"/\∃ o,K.lookup p=some o/\o.cls=.type "tuple"/\o.dict=none) \/
   (T="dict"/\((∃ kvs,H p=some (.dK kvs))\/∃ kvs,H p=some (.dT kvs)))\/(T="set"/\∃ S n,H p=some (.set S n))
 | _=>False
theorem tyV_is {pins:List (Addr × Obj)} {σ:St} {H:Hp} {s:Shared} {T:String} {x:V} {v:Value} (I:Inv X pins σ H s) (r:RelV x v) (ty:tyV X.K T x H) :
  s.TypeIs v T/\∀ a,v=.ref a->∃ ob,s.heap.get? a=some ob/\ob.dict=none:=by
 cases x with
 | str z=>
  obtain ⟨t,rfl⟩:=r
  cases (show T="str" from ty)
  exact ⟨typeIs_str s z t,fun _ e=>nomatch e⟩
 | int i=>
  obtain ⟨t,rfl⟩:=r
  cases (show T="int" from ty)
  exact ⟨typeIs_int s i t,fun _ e=>nomatch e⟩
 | ref p=>
  cases r
  rcases ty with ⟨rfl,xs,hq⟩ | ⟨rfl,o,hk,hc,hd⟩ | ⟨rfl,hk⟩ | ⟨rfl,S,n,hk⟩
  ·obtain ⟨its,_,pl,_⟩:=I.list hq
   refine ⟨pl.isList.typeIs,fun a e=>?_⟩
   cases e
   obtain ⟨o,n,e,c,hd,_⟩:=pl
   exact ⟨o,e,hd⟩
  ·refine ⟨⟨o,I.kIn p o hk,hc⟩,fun a e=>?_⟩
   cases e
   exact ⟨o,I.kIn _ o hk,hd⟩
  ·have z:∃ o,s.heap.get? p=some o/\o.ExactDict:=by
    rcases hk with ⟨kvs,hk⟩ | ⟨kvs,hk⟩
    ·obtain ⟨_,_,_,_,o,_,_,e,ex,_⟩:=I.hok p _ hk
     exact ⟨o,e,ex⟩
    ·obtain ⟨_,_,_,_,o,_,_,e,ex,_⟩:=I.hok p _ hk
     exact ⟨o,e,ex⟩
   obtain ⟨o,e,ex⟩:=z
   refine ⟨⟨o,e,ex.1⟩,fun a e2=>?_⟩
   cases e2
   exact ⟨o,e,ex.2.1⟩
  ·obtain ⟨o,_,_,_,e,ex,_⟩:=I.hok p _ hk
   refine ⟨⟨o,e,ex.1⟩,fun a e2=>?_⟩
   cases e2
   exact ⟨o,e,ex.2.1⟩
 | _=>exact False.elim ty
def tBM0 (K:W.Frag) (T:String) (r:V->List V->Hp->VK->Prop) (to:TE):TE:=fun σ H Q=>to σ H fun x H1=>tyV K T x H1/\r x [] H1 Q
def tBM (K:W.Frag) (T:String) (r:V->List V->Hp->VK->Prop) (to:TE) (t:TA):TE:=fun σ H Q=>to σ H fun x H1=>tyV K T x H1/\t σ H1 fun xs H2=>r x xs H2 Q
variable {o e:Expr} {es:List Expr} {to:TE} {t:TA} {name:Str} {apos cpos:Pos} {T id:String} {r:V->List V->Hp->VK->Prop}
theorem pe_bm (pa:PlainAttrs T) (slot:Slot T name id) (hty:typeOf (.builtin id)=pure (.type "method_descriptor")) (hm:MtR X id r) (ho:PE X o to) (ha:PA X (e :: es) t)
  (hbase:attributeBase o name X.env (eval o X.env)=eval o X.env:=by rfl)
  (hfew:((backTo cpos (starEach (e :: es) X.env)).all (fun x=>!x.1) && (backToKw cpos (keywordEach [] X.env)).all (fun x=>x.1.isSome)
   && decide ((e :: es).length+([]:List Keyword).length+(if ([]:List Keyword).isEmpty then 0 else 1) < 30))=true:=by rfl)
  (hline:(apos.endLine == cpos.line)=true:=by rfl) (hs:starEach (e :: es) X.env=(false,eval e X.env) :: starEach es X.env:=by rfl) (hplain:(backTo cpos (starEach es X.env)).any (·.1)=false:=by rfl) :
  PE X (.Call (.Attribute o name apos) (e :: es) [] cpos) (tBM X.K T r to t):=by
 intro pins s σ H Q I h
 refine wpAny_Call_method_late hbase hfew hline rfl (thn (ho pins s σ H _ I h) fun v s1 ⟨x,H1,I1,r1,ty,q1⟩=>?_)
 obtain ⟨h1,h2⟩:=tyV_is I1 r1 ty
 refine ⟨T,id,pa,slot,hty,h1,h2,?_⟩
 have hA:=ha cpos pins s1 σ H1 _ I1 q1
 rw [hs] at hA ⊢
 refine Calls.callWith_builtin (by show (false || (backTo cpos (starEach es X.env)).any (·.1))=false; rw [hplain] <;> rfl) (Calls.evalArgs_plain ?_)
 exact thn hA fun us s2 ⟨vs,H2,I2,r2,q2⟩=>hm pins s2 σ H2 x vs v us Q I2 r1 r2 q2
/- xs.append(e),list.index on a module's tuple .. are MtR facts of 06m -/
end
end L2
namespace L2
open PySem PySem.Spec PyProof.Rows
def MtM (X:Cx) (id:String) (r:V->List V->Hp->VK->Prop):Prop:=
 ∀ (pins:List (Addr × Obj)) (s:Shared) (σ:St) (H:Hp) (x:V) (xs:List V) (v:Value) (us:List Value) (Q:VK),Inv X pins σ H s->RelV x v->Vals xs us->r x xs H Q ->
  wpAny (model X.prog X.w) X.A (call (.builtin id) (v :: us)) (EP X pins σ Q) X.xe s
theorem Vals.one:∀ {x:V} {us:List Value},Vals [x] us->∃ u,us=[u]/\RelV x u
 | _,_,.cons r .nil=>⟨_,rfl,r⟩
theorem Vals.two:∀ {x y:V} {us:List Value},Vals [x,y] us->∃ u v,us=[u,v]/\RelV x u/\RelV y v
 | _,_,_,.cons r (.cons q .nil)=>⟨_,_,rfl,r,q⟩
section
variable {X:Cx} {pins:List (Addr × Obj)} {σ:St} {H:Hp} {s:Shared} {l b:Addr} {xs ys zs:List V}
theorem Inv.lset {its its':List Value} {n:Nat} {f:Array Value->Array Value} {t':Nat} (I:Inv X pins σ H s) (hH:H l=some (.lst xs))
  (e:s.heap.get? l=some { cls:=.type "list",data:=.seq its.toArray n }) (hf:f its.toArray=its'.toArray) (hv:Vals ys its') (hz:ys.length<=sizeLine) :
  Inv X pins σ (upd H l (.lst ys)) { s with heap:=s.heap.update l (Obj.mapSeq f),toks:=t' }:=by
 have q:=PySem.IsL.update e f
 rw [hf] at q
 refine I.write (x:=l) (e:=l) (by rw [hH]; exact trivial) (.inl rfl) (fun b' u hb hu=>(Heap.get?_update_other s.heap (Obj.mapSeq f) (Ne.symm hb)).trans hu) ⟨_,q⟩ ?_
 exact ⟨hz,its',_,hv,q⟩
theorem Inv.lnew {its:List Value} {t':Nat} (I:Inv X pins σ H s) (hv:Vals ys its) (hz:ys.length<=sizeLine) :
  Inv X pins σ (upd H s.heap.objs.size (.lst ys)) { s with heap:=s.heap.push { cls:=.type "list",data:=.seq its.toArray },toks:=t' }:=
 I.laid (fun _ _ q=>Heap.get?_push_of_some _ q) (Nat.le_refl _) ⟨hz,its,0,hv,Heap.get?_push_size _ rfl⟩
theorem Inv.fresh (I:Inv X pins σ H s):H s.heap.objs.size=none:=I.hok.fresh (Nat.le_refl _)
theorem Inv.lstM (I:Inv X pins σ H s) (hH:H l=some (.lst xs)):xs.length<=sizeLine/\∃ (its:List Value) (n:Nat),Vals xs its/\xs.length=its.length/\s.heap.get? l=some { cls:=.type "list",data:=.seq its.toArray n }:=by
 obtain ⟨z,its,n,r,e⟩:=I.hok l _ hH
 exact ⟨z,its,n,r,r.length,e⟩
theorem notLongL {n:Nat} (h:n<=sizeLine):Builtin.List.listTooLong n=false:=by
 unfold Builtin.List.listTooLong
 exact decide_eq_false (by omega)
end
section
variable {X:Cx}
def rAppend:V->List V->Hp->VK->Prop:=fun x vs H Q=>∃ l xs y,x=.ref l/\vs=[y]/\H l=some (.lst xs)/\xs.length < sizeLine/\Q .non (upd H l (.lst (xs ++ [y])))
theorem mt_append:MtM X "list.append" rAppend:=by
 intro pins s σ H x vs v us Q I rx rv h
 obtain ⟨l,xs,y,rfl,rfl,hH,hz,q⟩:=h
 cases rx
 obtain ⟨u,rfl,ru⟩:=rv.one
 obtain ⟨z,its,n,r,hl,e⟩:=I.lstM hH
 refine call_meets F.slot_list_append ⟨_,e,rfl⟩ F.entry_list_append (F.args_list_append_2 _ _) (PySem.list_append l its.toArray n u (by rw [List.size_toArray]; omega)) ⟨e,?_⟩
 refine ⟨.non,_,I.lset (its':=its ++ [u]) hH e (by simp) (r.append (.cons ru .nil)) ?_,rfl,q⟩
 rw [List.length_append,List.length_singleton]
 omega
def rExtend:V->List V->Hp->VK->Prop:=fun x vs H Q=>∃ l b xs zs,x=.ref l/\vs=[.ref b]/\H l=some (.lst xs)/\H b=some (.lst zs)/\xs.length+zs.length<=sizeLine/\Q .non (upd H l (.lst (xs ++ zs)))
theorem mt_extend:MtM X "list.extend" rExtend:=by
 intro pins s σ H x vs v us Q I rx rv h
 obtain ⟨l,b,xs,zs,rfl,rfl,hH,hB,hz,q⟩:=h
 cases rx
 obtain ⟨u,rfl,ru⟩:=rv.one
 cases ru
 obtain ⟨z,its,n,r,hl,e⟩:=I.lstM hH
 obtain ⟨z2,its2,n2,r2,hl2,e2⟩:=I.lstM hB
 have hsz:its.toArray.size+its2.toArray.size<=sizeLine:=by rw [List.size_toArray,List.size_toArray]; omega
 have hlong:¬ (!its.toArray.isEmpty && Builtin.List.listTooLong (its.toArray.size+its2.toArray.size))=true:=by
  rw [notLongL hsz,Bool.and_false]
  exact Bool.false_ne_true
 refine call_meets F.slot_list_extend ⟨_,e,rfl⟩ F.entry_list_extend (F.args_list_extend_2 _ _)
  (AutoSeq1.list_extend_list_list_0 l its.toArray n b its2.toArray n2 hlong (by rw [List.size_toArray]; omega) (by omega)) ⟨e,e2,?_⟩
 refine ⟨.non,_,I.lset (its':=its ++ its2) hH e (by simp) (r.append r2) ?_,rfl,q⟩
 rw [List.length_append]
 omega
def rPop:V->List V->Hp->VK->Prop:=fun x vs H Q=>∃ l xs y,x=.ref l/\vs=[]/\H l=some (.lst xs)/\xs[xs.length - 1]?=some y/\Q y (upd H l (.lst xs.dropLast))
def rPopAt:V->List V->Hp->VK->Prop:=fun x vs H Q=>∃ l xs i k y,x=.ref l/\vs=[.int i]/\H l=some (.lst xs)/\-(2^63)<=i/\i < 2^63/\seqIndex? i xs.length=some k/\xs[k]?=some y/\Q y (upd H l (.lst (xs.eraseIdx k)))
def rReverse:V->List V->Hp->VK->Prop:=fun x vs H Q=>∃ l xs,x=.ref l/\vs=[]/\H l=some (.lst xs)/\Q .non (upd H l (.lst xs.reverse))
def rClear:V->List V->Hp->VK->Prop:=fun x vs H Q=>∃ l xs,x=.ref l/\vs=[]/\H l=some (.lst xs)/\Q .non (upd H l (.lst []))
def rCat:R2:=fun x y H Q=>∃ l b xs zs,x=.ref l/\y=.ref b/\H l=some (.lst xs)/\H b=some (.lst zs)/\xs.length+zs.length<=sizeLine/\∀ p,H p=none->Q (.ref p) (upd H p (.lst (xs ++ zs)))
theorem op_cat:OpR X (binaryOp .Add) rCat:=by
 intro pins s σ H x y v u Q I rx ry h
 obtain ⟨l,b,xs,zs,rfl,rfl,hH,hB,hz,q⟩:=h
 cases rx
 cases ry
 obtain ⟨z,its,n,r,hl,e⟩:=I.lstM hH
 obtain ⟨z2,its2,n2,r2,hl2,e2⟩:=I.lstM hB
 refine PySem.P.add_list e e2 ?_ (by rw [List.size_toArray,List.size_toArray]; omega)
 have ea:its.toArray ++ its2.toArray=(its ++ its2).toArray:=by simp
 rw [ea]
 exact ⟨.ref _,_,I.lnew (t':=s.toks) (r.append r2) (by rw [List.length_append]; omega),rfl,q _ I.fresh⟩
def rRep:R2:=fun x y H Q=>∃ l k xs,x=.ref l/\y=.int k/\H l=some (.lst xs)/\-(2^63)<=k/\k < 2^63/\xs.length*k.toNat<=sizeLine /\
 ∀ p,H p=none->Q (.ref p) (upd H p (.lst (List.replicate k.toNat xs).flatten))
end
section
variable {prog:Program} {w:World} {A:Around} {E:Value->Shared->Prop} {s:Shared}
end
section
variable {X:Cx}
end
end L2
namespace Att
open PySem PySem.W PySem.Calls PyProof.Rows
theorem ints_of_wellAll {P:Params} {h:Heap}:∀ (ns:List Int) (vs:List Value),WellAll P h vs (ns.map WData.int)->IntsAre vs ns:=by
 intro ns
 induction ns with
 | nil=>
  intro vs w
  rw [List.map_nil] at w
  cases w
  exact .nil
 | cons n ns ih=>
  intro vs w
  rw [List.map_cons] at w
  cases w with
  | cons a b=>
   cases a
   exact .cons _ _ (ih _ b)
theorem script_of {l:OpenLaw} {n:Nat} (hn:l.most=some n) {P:Params} {h:Heap} {args:List WData} {vals:List Value}
  (hpre:l.row.toRowW.claim.pre args=true) (hwl:WellAll P h vals args) :
  ∃ a vs ns,vals=[Value.ref a]/\args=[WData.list (ns.map WData.int)]/\h.get? a=some { cls:=.type "list",data:=.seq vs.toArray }/\IntsAre vs ns/\ns.length<=n:=by
 have hsh:WShape.hasAll [] args [.list .int]=true:=(pre_splitW hpre).1
 have hc:l.pre.holds [] { args:=args }=true:=(pre_splitW hpre).2
 obtain ⟨d,r,rfl,h1,h2⟩:=hasAllW_cons hsh
 obtain rfl:=hasAllW_nil h2
 obtain ⟨xs,rfl,h3⟩:=hasW_list h1
 obtain ⟨ns,rfl⟩:=items_int h3
 have hlen:ns.length<=n:=by
  unfold OpenLaw.pre at hc
  have h4:(WTm.not (.lt (.lit (.int (n:Int))) (.len (.arg 0)))).holds [] { args:=[.list (ns.map .int)] }=true:=by
   have h4:=(holds_andW hc).1
   rw [hn] at h4
   exact h4
  have h5:=condW_of h4 (w_not (w_lt w_lit (w_len_list (w_arg rfl))))
  rw [List.length_map] at h5
  refine Nat.le_of_not_lt fun q=>?_
  have q':(n:Int) < ((ns.length:Nat):Int):=by omega
  first
   | (rw [decide_eq_true q'] at h5; exact absurd h5 (by decide))
   | (simp at h5; omega)
 cases hwl with
 | cons w1 w2=>
  cases w2
  cases w1 with
  | list ho hall=>exact ⟨_,_,ns,rfl,rfl,ho,ints_of_wellAll ns _ hall,hlen⟩
theorem post_true (l:OpenLaw) (args:List WData):l.row.toRowW.claim.post args (.bool true) args=true:=
 postW_of (r:=l.row.toRowW) (X:=(true == true))
  (show WShape.has [] (.bool true) .bool=true by first | rfl | decide | simp [WShape.has,WShape.arms,WShape.armsAll])
  (show (WTm.eq .res (.lit (.bool true))).value [] { args:=args,res:=some (.bool true),after:=args }=some (.bool (true == true)) from w_eq_bool (w_res rfl) w_lit) rfl
section
variable {prog:Program} {w:World} {A:Around} {E:Value->Shared->Prop} {s:Shared} {K:Frag}
def noObjs (h:Heap):Heap:={ h with objs:=#[] }
def ledger (h:Heap) (L d:Addr):List (Addr × Obj):=(List.range h.objs.size).filterMap fun a=>if a=L\/a=d then none else (h.get? a).map fun o=>(a,o)
end
end Att
namespace L2
open PySem PySem.Spec PyProof.Rows
theorem vals_ints:∀ {vs:List Value} {ns:List Int},IntsAre vs ns->Vals (ns.map V.int) vs
 | _,_,.nil=>.nil
 | _,_,.cons n t h=>.cons ⟨t,rfl⟩ (vals_ints h)
def Only (H:Hp):Prop:=∀ b,H b=none\/∃ o xs,H b=some (.frz o (.lst xs))
theorem law_call {P:Program} {w:World} {K:W.Frag} {mg mb:Str->Option Value} {CX:CXT} {k:Nat} {fa a:Addr} {fd:FuncData} {x:Str} {sp:Sp} {s₁:Shared} {vs:List Value} {ns:List Int}
  (KX:K.In s₁.heap) (hns:s₁.heap.Ns mainGlobals mg) (hb:s₁.heap.Ns builtinsNs mb) (hbb:∀ x:Str,x ≠ "__name__"->mb x=bootBuiltins x) (hlim:s₁.heap.NoLimit) (hg:s₁.gens=#[])
  (ha:s₁.heap.get? a=some { cls:=.type "list",data:=.seq vs.toArray }) (hi:IntsAre vs ns) (hl:ns.length<=sizeLine) (hr:Room k callerA)
  (F:∀ base:Heap,K.In base->base.Ns mainGlobals mg->FnOk P w K mg base CX k fa fd [x] sp) (hbind:∀ (s:Shared) (u:Value),BindsTo s fd ⟨[u],[]⟩ [(x,u)])
  (hsp:∀ H:Hp,Only H->SqL K H a (ns.map V.int)->sp [.ref a] H (fun v _=>v=.bl true) fun _ _ _=>False)
  (hCX:∀ H e s',CX [] H s₁ (fun _ _ _=>False) e s'->False) :
  codeAny (model P w) callerA (.call (.ref fa) ⟨[.ref a],[]⟩) (fun r s'=>r=.ok (.ret (.bool true))/\OldK s₁.heap s'.heap/\s'.os=s₁.os/\AllBare s'.gens) s₁:=by
 have rv:=vals_ints hi
 have lenV:=hi.length
 -- from an abstract heap in which nothing but the script may be tracked
 have core:∀ H:Hp,Only H->SqL K H a (ns.map V.int)->HOk P w H s₁.heap->(∀ b,H b ≠ none->b=a)->(H a ≠ none->K.lookup a=none) ->
   codeAny (model P w) callerA (.call (.ref fa) ⟨[.ref a],[]⟩) (fun r s'=>r=.ok (.ret (.bool true))/\OldK s₁.heap s'.heap/\s'.os=s₁.os/\AllBare s'.gens) s₁:=by
  intro H hO hS hok hA hK
  have base_of:∀ {b:Addr} {o:Obj},s₁.heap.get? b=some o->H b=none->(hidT s₁.heap H).get? b=some o:=fun e n=>hidT_get e n
  have noA:∀ {b:Addr} {o:Obj} {es:Array DictEntry} {ep:Nat},s₁.heap.get? b=some o->o.data=.dict es ep->H b=none:=fun {b o es ep} e d=>by
   cases q:H b with
   | none=>rfl
   | some u=>
    have e':b=a:=hA b (by rw [q]; simp)
    subst e'
    rw [ha] at e; cases e
    have d':Data.seq vs.toArray _=Data.dict es ep:=d
    cases d'
  have nsK:∀ {b:Addr} {m:Str->Option Value},s₁.heap.Ns b m->(hidT s₁.heap H).Ns b m:=fun {b m} ⟨o,es,ep,e,d,r⟩=>⟨o,es,ep,base_of e (noA e d),d,r⟩
  have hKb:K.In (hidT s₁.heap H):=fun b o e=>base_of (KX b o e) (by
   cases q:H b with
   | none=>rfl
   | some u=>
    have e':b=a:=hA b (by rw [q]; simp)
    subst e'
    rw [hK (by rw [q]; simp)] at e; cases e)
  have hM:Mod K mg (hidT s₁.heap H):=⟨hKb,nsK hns,⟨mb,nsK hb,hbb⟩,let ⟨mc,h1,h2⟩:=hlim; ⟨mc,nsK h1,h2⟩⟩
  have e0:Env0 P w K mg (hidT s₁.heap H) callerA [] s₁ H:=⟨rfl,hM,fun b o e=>of_hidT e,Nat.le_of_eq (hidT_size _ _),trivial,fun b hb=>absurd (show b ∈ ([]:List Addr) from hb) (by simp),hok,.of_eq hg⟩
  refine codeAny_mono ((F _ hKb (nsK hns)).run callerA [] s₁ H ⟨[.ref a],[]⟩ [.ref a] [.ref a] _ _ hr e0 (hbind s₁ (.ref a)) (.cons rfl .nil) (hsp H hO hS)) fun r s' h=>?_
  cases r with
  | error e=>exact (hCX H e s' h).elim
  | ok fl=>
   cases fl with
   | next=>exact False.elim h
   | brk=>exact False.elim h
   | cont=>exact False.elim h
   | ret u=>
    obtain ⟨v,H',os,bare,un,hok',r',q⟩:=h
    have q':v=.bl true:=q
    subst q'
    obtain rfl:u=Value.bool true:=r'
    refine ⟨rfl,OldK.of_keep fun b o e=>?_,os,bare⟩
    cases q:H b with
    | none=>exact un.keep b o e q (by intro z; exact absurd (show b ∈ ([]:List Addr) from z) (by simp)) (by simp)
    | some u=>
     rcases hO b with z | ⟨ob,xs,z⟩
     ·rw [q] at z; cases z
     ·have z2:=un.frzs b ob _ z
      obtain ⟨e1,_⟩:=hok b _ z
      obtain ⟨e2,_⟩:=hok' b _ z2
      rw [e] at e1; cases e1
      exact e2
 cases hk:K.lookup a with
 | some o=>
  -- the script is one of the module's own objects
  have e:=KX a o hk
  rw [ha] at e
  cases e
  refine core (fun _=>none) (fun _=>.inl rfl) (.inr ⟨_,vs.toArray,_,hk,rfl,rfl,rfl,by rw [List.size_toArray,lenV]; exact hl,by simpa using rv⟩) (fun b u z=>by have z':(none:Option HO)=some u:=z; cases z') (fun b z=>absurd rfl z) fun z=>absurd rfl z
 | none=>
  refine core (fun b=>if b=a then some (.frz { cls:=.type "list",data:=.seq vs.toArray } (.lst (ns.map V.int))) else none) (fun b=>?_) (.inl (.inr ⟨{ cls:=.type "list",data:=.seq vs.toArray },if_pos rfl⟩)) (fun b u z=>?_) (fun b z=>?_) fun _=>hk
  ·by_cases hb:b=a
   ·exact .inr ⟨_,_,if_pos hb⟩
   ·exact .inl (if_neg hb)
  ·by_cases hb:b=a
   ·have z':=(if_pos hb).symm.trans z
    cases z'
    subst hb
    exact ⟨ha,by rw [List.length_map]; exact hl,vs,_,rv,ha⟩
   ·have z':=(if_neg hb).symm.trans z
    cases z'
  ·by_cases hb:b=a
   ·exact hb
   ·exact absurd (if_neg hb) z
end L2
namespace L2
open PySem PySem.Spec PyProof.Rows
abbrev KOf {K:W.Frag} {h:Heap} (_:K.In h):W.Frag:=K
end L2
namespace L2
open PySem PySem.Spec PyProof.Rows
def inClass (s:Stmt) (j:Nat):Stmt:=match s with
 | .ClassDef _ _ _ body _ _ _ _ _ _ _=>body.getD j (.Pass ⟨0,0,0,0⟩)
 | _=>.Pass ⟨0,0,0,0⟩
def defArgs (s:Stmt):Arguments:=match s with
 | .FunctionDef _ a _ _ _ _ _ _ _ _=>a
 | _=>{ posonlyargs:=[],args:=[],vararg:=none,kwonlyargs:=[],kw_defaults:=[],kwarg:=none,defaults:=[] }
def defBody (s:Stmt):List Stmt:=match s with
 | .FunctionDef _ _ b _ _ _ _ _ _ _=>b
 | _=>[]
def defScope (s:Stmt):Scope:=match s with
 | .FunctionDef _ _ _ _ _ _ sc _ _ _=>sc
 | _=>{ kind:=.function,names:=[],isGenerator:=false,isCoroutine:=false }
abbrev CX0:CXT:=fun _ _ _ _ _ _=>False
abbrev E0:XK:=fun _ _ _=>False
theorem pass0 {X:Cx}:Passes CX0 X E0:=fun _ _ _ _ _ _ _ h=>h.elim
structure Fun (K:W.Frag) (x qual:Str) (st:Stmt) (f:Addr) (fd:FuncData):Prop where
 ex:∃ (oc:Value) (od:Option Addr) (kV doc pm:Value) (an:Option Addr) (cdv ct:Value) (osl:Array (Option Value)),
  fd=W.fnOf x qual (defArgs st) (defBody st) (defScope st) .none kV doc pm an cdv ct/\K.lookup f=some ⟨oc,od,.func fd,osl⟩/\W.codeIn K cdv qual=true
 kp:W.keepIn K (.ref f)=true
section
variable {P:Program} {w:World} {K:W.Frag} {mg:Str->Option Value} {base:Heap}
theorem Fun.ok {x qual:Str} {st:Stmt} {f:Addr} {fd:FuncData} {N ps:List Str} {k:Nat} {sp:Sp} (F:Fun K x qual st f fd) (S:FnScope N ps (defScope st)) (len:∀ vs H Q E,sp vs H Q E->vs.length=ps.length)
  (hbody:∀ (cdv:Value) (A:Around) (outer:List Env) (s:Shared) (H:Hp) (vs:List V) (Q:VK) (E:XK),Room k (A.deeper (envOfC qual (defScope st) s.heap.objs.size f cdv))->sp vs H Q E ->
   ∃ t,PSs (cxOf CX0 P w K mg base N qual (defScope st) f cdv A outer s H E).nox (defBody st) t/\t { nx:=fun _ H'=>Q .non H',rt:=Q } (start N vs) H):FnOk P w K mg base CX0 (k+1) f fd ps sp:=by
 obtain ⟨oc,od,kV,doc,pm,an,cdv,ct,osl,rfl,lk,hcd⟩:=F.ex
 refine fn_of lk hcd S len fun A outer s H vs Q E hr hsp=>?_
 obtain ⟨t,h,q⟩:=hbody cdv A outer s H vs Q E hr hsp
 exact ⟨t,h.nox,q⟩
theorem Fun.binds {x qual:Str} {st:Stmt} {f:Addr} {fd:FuncData} {ps:List Str} (F:Fun K x qual st f fd)
  (h:∀ (kV doc pm:Value) (an:Option Addr) (cdv ct:Value) (us:List Value),us.length=ps.length->bindArgs (W.fnOf x qual (defArgs st) (defBody st) (defScope st) .none kV doc pm an cdv ct) ⟨us,[]⟩=pure (ps.zip us)):Binds K fd ps []:=by
 obtain ⟨oc,od,kV,doc,pm,an,cdv,ct,osl,rfl,lk,hcd⟩:=F.ex
 exact .all (h kV doc pm an cdv ct)
theorem fun_mk {x qual:Str} {st:Stmt} {f:Addr} {oc:Value} {od an:Option Addr} {osl:Array (Option Value)} {kV doc pm cdv ct:Value} (l:K.lookup f=some ⟨oc,od,.func (W.fnOf x qual (defArgs st) (defBody st) (defScope st) .none kV doc pm an cdv ct),osl⟩)
  (c:W.codeIn K cdv qual=true) (k:W.keepIn K (.ref f)=true):Fun K x qual st f (W.fnOf x qual (defArgs st) (defBody st) (defScope st) .none kV doc pm an cdv ct):=⟨⟨oc,od,kV,doc,pm,an,cdv,ct,osl,rfl,l,c⟩,k⟩
end
section
variable {X:Cx}
theorem pv (i:Nat) {x:Str} {pos:Pos} (hN:X.N[i]?=some x:=by rfl) (hv:Vis X.env.scope x:=by first | exact Or.inl rfl | exact Or.inr (Or.inl rfl) | exact Or.inr (Or.inr rfl)) (hd:(x == ("__debug__":Str))=false:=by decide)
  (hcd:(x == ("__classdict__":Str))=false:=by decide):PE X (.Name x pos) (tVar i):=pe_var hN hv hd hcd
end
theorem iteF {A B:Prop} (h:B):if false=true then A else B:=by
 rw [if_neg Bool.false_ne_true]
 exact h
theorem iteT {A B:Prop} (h:A):if true=true then A else B:=by
 rw [if_pos rfl]
 exact h
theorem ite2 {c A B:Prop} [Decidable c] (h1:c->A) (h2:¬ c->B):if c then A else B:=by
 by_cases h:c
 ·rw [if_pos h]
  exact h1 h
 ·rw [if_neg h]
  exact h2 h
theorem iteNS {c A B:Prop} [Decidable c] (hc:c) (h:B):if (!decide c)=true then A else B:=by
 rw [decide_eq_true hc]
 exact iteF h
def Same (H H':Hp):Prop:=∀ b o,H b=some o->H' b=some o
theorem Same.refl (H:Hp):Same H H:=fun _ _ h=>h
theorem Same.trans {H H1 H2:Hp} (a:Same H H1) (b:Same H1 H2):Same H H2:=fun c o h=>b c o (a c o h)
theorem Same.free {H H':Hp} (e:Same H H') {l:Addr} (h:H' l=Option.none):H l=Option.none:=by
 cases q:H l with
 | none=>rfl
 | some o=>
  rw [e l o q] at h
  cases h
theorem Same.seq {K:W.Frag} {H H':Hp} {a:Addr} {xs:List V} (e:Same H H') (h:SqL K H a xs):SqL K H' a xs:=by
 rcases h with (h | ⟨o,h⟩) | h
 ·exact .inl (.inl (e _ _ h))
 ·exact .inl (.inr ⟨o,e _ _ h⟩)
 ·exact .inr h
end L2
namespace L2
open PySem PySem.Spec PyProof.Rows
section
variable {X:Cx}
theorem op_mulG:OpR X (binaryOp .Mult) (rI IntMulOk fun i j=>.int (i*j)):=opI fun _ _ _ _ _ _ _ hc q=>mul_int q hc
def CDivL (_ j:Int):Prop:=j ≠ 0/\j.natAbs.log2 < 9000
theorem op_fdivL:OpR X (binaryOp .FloorDiv) (rI CDivL fun i j=>.int (i.fdiv j)):=
 opI fun _ _ _ _ _ _ _ hc q=>floordiv_int hc.1 q (.inl (PyProof.noPylong_of_log2 hc.2))
end
section
variable {P:Program} {w:World} {H H1 H2:Hp} {h h1 h2:Heap} {a:Addr} {o:HO}
theorem ObjOk.there (x:ObjOk P w H h a o):∃ ob,h.get? a=some ob:=by
 cases o with
 | lst xs=>obtain ⟨_,_,_,_,e⟩:=x; exact ⟨_,e⟩
 | tup xs=>obtain ⟨_,_,_,ob,e,_⟩:=x; exact ⟨_,e⟩
 | dK kvs=>obtain ⟨_,_,_,_,ob,_,_,e,_⟩:=x; exact ⟨_,e⟩
 | dT kvs=>obtain ⟨_,_,_,_,ob,_,_,e,_⟩:=x; exact ⟨_,e⟩
 | set S n=>obtain ⟨ob,_,_,_,e,_⟩:=x; exact ⟨_,e⟩
 | ins C dx fs=>obtain ⟨_,_,_,e,_⟩:=x; exact ⟨_,e⟩
 | own y=>exact x
 | xd fs=>obtain ⟨_,⟨ob,_,_,e,_⟩,_⟩:=x; exact ⟨_,e⟩
 | rng lo hi=>obtain ⟨_,_,_,e⟩:=x; exact ⟨_,e⟩
 | frz ob u=>obtain ⟨e,_⟩:=x; exact ⟨_,e⟩
 | tbl ps=>exact ⟨_,(show h.get? a=some _ from x)⟩
 | met f y=>exact ⟨_,(show h.get? a=some _ from x)⟩
 | ext φ=>obtain ⟨_,⟨ob,e⟩,_⟩:=x; exact ⟨_,e⟩
theorem HOk.onward (x : HOk P w H h1) (k : ∀ b ob, H b ≠ none -> h1.get? b = some ob -> h2.get? b = some ob) : HOk P w H h2 := fun c u e =>
  (x c u e).stay (fun b v hb q => k b v (by rcases hb with rfl | hb
                                            · rw [e]; simp
                                            · rw [hb]; simp) q) (fun _ q => q) fun _ _ q => q
theorem Un.onward {fs:List Addr} (u:Un fs [] H H1 h h1) (keep:∀ b ob,h1.get? b=some ob->b ∉ fs->(∃ o',h.get? b=some o')->h2.get? b=some ob)
  (slot:∀ b ob,h1.get? b=some ob->b ∈ fs->(∃ o',h.get? b=some o')->∃ sl,h2.get? b=some { ob with slots:=sl }):Un fs [] H H1 h h2 where
 keep:=fun b ob e n hb hx=>keep b ob (u.keep b ob e n hb hx) hb ⟨ob,e⟩
 slot:=fun b ob e n hb hx=>by
  obtain ⟨sl,e1⟩:=u.slot b ob e n hb hx
  obtain ⟨sl2,e2⟩:=slot b _ e1 hb ⟨ob,e⟩
  exact ⟨sl2,e2⟩
 free:=u.free
 there:=fun b ob e hx=>by
  obtain ⟨o1,e1⟩:=u.there b ob e hx
  by_cases hb:b ∈ fs
  ·obtain ⟨sl,e2⟩:=slot b o1 e1 hb ⟨ob,e⟩
   exact ⟨_,e2⟩
  ·exact ⟨_,keep b o1 e1 hb ⟨ob,e⟩⟩
 tups:=u.tups
 frzs:=u.frzs
 tbls:=u.tbls
theorem Un.andThen {fs fs2:List Addr} (a:Un fs [] H H1 h h1) (b:Un fs2 [] H1 H2 h1 h2) (hs:∀ c ob,h.get? c=some ob->c ∈ fs2->c ∈ fs):Un fs [] H H2 h h2 where
 keep:=fun c ob q n hc hx=>b.keep c ob (a.keep c ob q n hc hx) (a.free c ob q n hx) (fun z=>hc (hs c ob q z)) hx
 slot:=fun c ob q n hc hx=>by
  obtain ⟨sl,e1⟩:=a.slot c ob q n hc hx
  obtain ⟨sl2,e2⟩:=b.any e1 (a.free c ob q n hx) hx
  exact ⟨sl2,e2⟩
 free:=fun c ob q n hx=>by
  obtain ⟨o1,e1⟩:=a.there c ob q hx
  exact b.free c o1 e1 (a.free c ob q n hx) hx
 there:=fun c ob q hx=>by
  obtain ⟨o1,e1⟩:=a.there c ob q hx
  exact b.there c o1 e1 hx
 tups:=fun c xs q=>b.tups c xs (a.tups c xs q)
 frzs:=fun c ob u q=>b.frzs c ob u (a.frzs c ob u q)
 tbls:=fun c ps q=>by
  obtain ⟨m1,e1⟩:=a.tbls c ps q
  obtain ⟨m2,e2⟩:=b.tbls c _ e1
  exact ⟨m1 ++ m2,by rw [e2,Array.append_assoc]⟩
end
structure Fly (P:Program) (w:World) (outer:List Env) (H:Hp) (s:Shared) (cls a0:Value) (ea:Addr) (B:Heap) (H':Hp) (s':Shared):Prop where
 os:s'.os=s.os
 bare:AllBare s'.gens
 un:Un (frs outer) [] H H' s.heap s'.heap
 hok:HOk P w H' s'.heap
 fly:Heap.FlyingW B outer ea cls a0 s'.heap
 frf:∀ b ∈ frs outer,H' b=none
 cov:∀ b o,s'.heap.get? b=some o->b ∉ frs outer->(H' b ≠ none\/∃ o',s.heap.get? b=some o')->B.get? b=some o
def XF (P:Program) (w:World):CXT:=fun outer H s E e s'=>∃ (ea:Addr) (cls a0:Value) (B:Heap) (H':Hp),e=.ref ea/\Fly P w outer H s cls a0 ea B H' s'/\E cls none H'
section
variable {P:Program} {w:World} {K:W.Frag} {mg:Str->Option Value} {base:Heap} {N:List Str} {qual:Str} {scope:Scope} {f:Addr} {cd:Value} {A:Around} {outer:List Env} {s0 s1:Shared} {H0 H1:Hp} {E:XK}
 {pins:List (Addr × Obj)} {σ:St}
theorem frs_tail {env:Env} {l:List Env} {b:Addr} (h:b ∈ frs l):b ∈ frs (env :: l):=by
 unfold frs at h ⊢
 rw [List.filterMap_cons]
 split
 ·exact h
 ·exact List.mem_cons_of_mem _ h
theorem raise_xe {h':Heap} {e:Addr} {cls:Value} {args:List Value} (I:Inv (cxOf (XF P w) P w K mg base N qual scope f cd A outer s0 H0 E) pins σ H1 s1) (hx:Heap.MadeExcOf s1.heap h' e cls args) (hE:E cls none H1) :
  (cxOf (XF P w) P w K mg base N qual scope f cd A outer s0 H0 E).xe (.ref e) { s1 with heap:=h' }:=by
 have st:s1.heap.FunFrames base (envOfC qual scope s0.heap.objs.size f cd :: outer):=I.stack
 have fz:∀ b ∈ frs (envOfC qual scope s0.heap.objs.size f cd :: outer),H1 b=none:=I.stkFree
 have sub:∀ b ∈ frs (envOfC qual scope s0.heap.objs.size f cd :: outer),b=(envOfC qual scope s0.heap.objs.size f cd).locals\/b ∈ frs outer:=fun b hb=>List.mem_cons.mp (I.stkSub b hb)
 have above:s0.heap.objs.size<=(envOfC qual scope s0.heap.objs.size f cd).locals:=I.ok.above
 have old:∀ b o,s0.heap.get? b=some o->b ∉ frs outer->b ∉ frs (envOfC qual scope s0.heap.objs.size f cd :: outer):=fun b o q nb z=>by
  rcases sub b z with z | z
  ·subst z
   exact absurd (Nat.lt_of_lt_of_le (Heap.lt_size q) above) (Nat.lt_irrefl _)
  ·exact nb z
 show wpAny (model P w) (A.deeper (envOfC qual scope s0.heap.objs.size f cd)) (leaving (envOfC qual scope s0.heap.objs.size f cd) (.ref e)) _ _ _
 refine wpAny_leaves_madeW (base:=W.hideAll s1.heap (frs (envOfC qual scope s0.heap.objs.size f cd :: outer))) (h:=s1.heap) I.ok.frames rfl (fun b o q=>W.of_hideAll _ q)
  (W.funFrames_hide st fun env' he a ha=>List.mem_filterMap.mpr ⟨env',he,ha⟩) hx fun h'' t fl tup bt ups=>?_
 have kept:∀ b o,s1.heap.get? b=some o->b ∉ frs (envOfC qual scope s0.heap.objs.size f cd :: outer)->h''.get? b=some o:=fun b o q nb=>fl.1 b o (W.hideAll_get _ q nb)
 have u:Un (frs outer) [] H0 H1 s0.heap s1.heap:=I.base
 refine ⟨e,cls,.ref t,_,H1,rfl,⟨I.os,I.bare,u.onward (fun b o q nb old'=>?_) (fun b o q hb old'=>?_),I.hok.onward fun b o hb q=>kept b o q fun z=>hb (fz b z),fl,fun b hb=>fz b (frs_tail hb),fun b o q nb hc=>?_⟩,hE⟩
 ·obtain ⟨o',q'⟩:=old'
  exact kept b o q (old b o' q' nb)
 ·obtain ⟨_,o',ho',nf⟩:=st.mem (frs_tail hb)
  rw [q] at ho'; cases ho'
  exact ups b o (hx.keeps b o q) nf
 ·have key:∃ o1,s1.heap.get? b=some o1/\b ∉ frs (envOfC qual scope s0.heap.objs.size f cd :: outer):=by
   rcases hc with hc | ⟨o',q'⟩
   ·cases e1:H1 b with
    | none=>exact absurd e1 hc
    | some u1=>
     obtain ⟨o1,q1⟩:=(I.hok b u1 e1).there
     exact ⟨o1,q1,fun z=>hc (fz b z)⟩
   ·obtain ⟨o1,q1⟩:=u.there b o' q' (by simp)
    exact ⟨o1,q1,old b o' q' nb⟩
  obtain ⟨o1,q1,n1⟩:=key
  have z:=kept b o1 q1 n1
  have q2:h''.get? b=some o:=q
  rw [q2] at z; cases z
  exact W.hideAll_get _ q1 n1
theorem passX:Passes (XF P w) (cxOf (XF P w) P w K mg base N qual scope f cd A outer s0 H0 E) E:=by
 rintro pins σ H s e s' I ⟨ea,cls,a0,B,H',rfl,x,hE⟩
 have sub:∀ b ∈ frs (envOfC qual scope s0.heap.objs.size f cd :: outer),b=(envOfC qual scope s0.heap.objs.size f cd).locals\/b ∈ frs outer:=fun b hb=>List.mem_cons.mp (I.stkSub b hb)
 have above:s0.heap.objs.size<=(envOfC qual scope s0.heap.objs.size f cd).locals:=I.ok.above
 have oldT:∀ b o,s0.heap.get? b=some o->b ∈ frs (envOfC qual scope s0.heap.objs.size f cd :: outer)->b ∈ frs outer:=fun b o q z=>by
  rcases sub b z with z | z
  ·subst z
   exact absurd (Nat.lt_of_lt_of_le (Heap.lt_size q) above) (Nat.lt_irrefl _)
  ·exact z
 have x':Fly P w (envOfC qual scope s0.heap.objs.size f cd :: outer) H s cls a0 ea B H' s':=x
 have u0:Un (frs outer) [] H0 H s0.heap s.heap:=I.base
 have u:Un (frs outer) [] H0 H' s0.heap s'.heap:=u0.andThen x'.un oldT
 show wpAny (model P w) (A.deeper (envOfC qual scope s0.heap.objs.size f cd)) (leaving (envOfC qual scope s0.heap.objs.size f cd) (.ref ea)) _ _ _
 refine wpAny_leaves_onW I.ok.frames rfl x'.fly fun h' fl ups=>?_
 have kept:∀ b o,s'.heap.get? b=some o->b ∉ frs (envOfC qual scope s0.heap.objs.size f cd :: outer)->(H' b ≠ none\/∃ o',s.heap.get? b=some o')->h'.get? b=some o:=fun b o q nb hc=>fl.1 b o (x'.cov b o q nb hc)
 refine ⟨ea,cls,a0,B,H',rfl,⟨x'.os.trans I.os,x'.bare,u.onward (fun b o q nb old'=>?_) (fun b o q hb old'=>?_),x'.hok.onward fun b o hb q=>kept b o q (fun z=>hb (x'.frf b z)) (.inl hb),fl,fun b hb=>x'.frf b (frs_tail hb),fun b o q nb hc=>?_⟩,hE⟩
 ·obtain ⟨o',q'⟩:=old'
  obtain ⟨o1,q1⟩:=u0.there b o' q' (by simp)
  exact kept b o q (fun z=>nb (oldT b o' q' z)) (.inr ⟨o1,q1⟩)
 ·obtain ⟨_,o',ho',nf⟩:=x'.fly.2.2.1.mem (frs_tail hb)
  rw [q] at ho'; cases ho'
  exact ups b o q nf
 ·have key:∃ o1,s'.heap.get? b=some o1/\b ∉ frs (envOfC qual scope s0.heap.objs.size f cd :: outer)/\(H' b ≠ none\/∃ o',s.heap.get? b=some o'):=by
   rcases hc with hc | ⟨o',q'⟩
   ·cases e1:H' b with
    | none=>exact absurd e1 hc
    | some u1=>
     obtain ⟨o1,q1⟩:=(x'.hok b u1 e1).there
     exact ⟨o1,q1,fun z=>hc (x'.frf b z),.inl (by rw [e1] at hc; exact hc)⟩
   ·obtain ⟨o1,q1⟩:=u.there b o' q' (by simp)
    obtain ⟨o2,q2⟩:=u0.there b o' q' (by simp)
    exact ⟨o1,q1,fun z=>nb (oldT b o' q' z),.inr ⟨o2,q2⟩⟩
  obtain ⟨o1,q1,n1,c1⟩:=key
  have z:=kept b o1 q1 n1 c1
  have q2:h'.get? b=some o:=q
  rw [q2] at z; cases z
  exact x'.cov b _ q1 n1 c1
end
end L2
namespace L2
open PySem PySem.Spec PyProof.Rows PySem.W PySem.Calls Builtin Builtin.ObjectAttr Builtin.Getset_descriptor
def ExcAt (C e:Addr) (h:Heap):Prop:=∃ o,h.get? e=some o/\o.cls=.ref C/\notCls o=true
theorem ExcAt.stays {C e:Addr} {h1 h2:Heap} (x:ExcAt C e h1) (k:∀ o,h1.get? e=some o->h2.get? e=some o):ExcAt C e h2:=
 let ⟨o,a,b⟩:=x
 ⟨o,k o a,b⟩
theorem ExcAt.type {C e:Addr} {h:Heap} {M:Model} (x:ExcAt C e h):Looks M h (typeOf (.ref e)) (.ref C):=by
 obtain ⟨o,a,b,_⟩:=x
 exact b ▸ (Looks.ld a).andThen .now
structure ExcCls (K:Frag) (C:Addr):Prop where
 cls:(clsIn K C).isSome=true
 ga:findIn K (.ref C) "__getattribute__"=some (some (.builtin "BaseException.__getattribute__"))
 gt:findIn K (.ref C) "__getattr__"=some none
 cl:findIn K (.ref C) "__class__"=some (some (.builtin "object.__class__"))
 get:specialIn K (.builtin "object.__class__") "__get__"=some (some (.builtin "getset_descriptor.__get__"))
 tk:takesIn K (.builtin "object.__class__")=some true
 ob:mroIn K C (.type "object")=some true
 be:mroIn K C (.type "BaseException")=some true
section
variable {prog:Program} {w:World} {A:Around} {E:Value->Shared->Prop} {s:Shared} {K:Frag} {e C:Addr}
theorem exc_find {M:Model} {h:Heap} (X:K.In h) (T:ExcCls K C):Looks M h (Builtin.ObjectAttr.find (.ref e) (.ref C) "__class__") (.bind (.builtin "getset_descriptor.__get__") (.builtin "object.__class__")):=by
 have d:Looks M h (Builtin.ObjectAttr.dataDescriptor? (some (.builtin "object.__class__")) (some (.builtin "getset_descriptor.__get__"))) (some (.builtin "getset_descriptor.__get__",.builtin "object.__class__")):=(looks_takesIn X T.tk).andThen .now
 exact (looks_findIn X T.cl).andThen ((looks_specialIn X T.get).andThen (d.andThen (Looks.tag .now)))
theorem exc_class_get {R:Result->Shared->Prop} {tp:Value} (X:K.In s.heap) (I:ExcAt C e s.heap) (hm:mroIn K C (.type "object")=some true)
  (h:R (.ok (.ret (.ref C))) s):codeAny (model prog w) A (.call (.builtin "getset_descriptor.__get__") ⟨[.builtin "object.__class__",.ref e,tp],[]⟩) R s:=by
 obtain ⟨hp,gs,dr,tk,os⟩:=s
 have l0:=I.type (M:=model prog w)
 have l1:=looks_mroIn (M:=model prog w) X hm
 refine codeAny_call_builtin KF.slot_gs.plain KF.entry_gs ?_
 refine KF.slot_gs.check _ _ _ _ _ _ _ _ KF.type_class (KF.args_gs _ _ _) ?_
 unfold Builtin.«getset_descriptor.__get__» descrGet
 rw [dga_obj]
 refine wpAny_bind (wpAny_pure ?_)
 unfold descrGetter descrCheckInstance descrNameAndClass isInstance
 simp only [KF.owner_class]
 repeat lk
 refine ⟨Code.quiet_builtin _ (by decide +kernel),codeAny_builtin KF.entry_class ?_⟩
 unfold Builtin.«object.__class__» shownTypeOf
 repeat lk
 exact h
theorem exc_entry {tk:Tok} {Q:PySem.Fin->Shared->Prop} (X:K.In s.heap) (T:ExcCls K C) (I:ExcAt C e s.heap) (h:Q (.done (.ret (.ref C))) s) :
  wpAny (model prog w) A (Builtin.«object.__getattribute__» ⟨[.ref e,.str "__class__" tk],[]⟩) Q E s:=by
 obtain ⟨hp,gs,dr,t,os⟩:=s
 have l0:=I.type (M:=model prog w)
 have l1:=exc_find (e:=e) (M:=model prog w) X T
 unfold Builtin.«object.__getattribute__»
 repeat (first | with_reducible refine wpAny_call ?_ | lk)
 refine exc_class_get X I T.ob ?_
 repeat lk
 exact h
theorem exc_class {Q:Option Value->Shared->Prop} (X:K.In s.heap) (T:ExcCls K C) (I:ExcAt C e s.heap) (h:Q (some (.ref C)) { s with toks:=s.toks+1 }):wpAny (model prog w) A (getAttr? (.ref e) "__class__") Q E s:=by
 obtain ⟨hp,gs,dr,t,os⟩:=s
 have l0:=I.type (M:=model prog w)
 have l1:=looks_findIn (M:=model prog w) X T.ga
 have l2:=looks_findIn (M:=model prog w) X T.gt
 have l3:=looks_mroIn (M:=model prog w) X T.be
 unfold getAttr? getAttrBy? getAttrBy
 refine wpAny_bind (wpAny_mkText (wpAny_bind (wpAny_attempt (wpAny_holding (wpAny_bind (l0.at (wpAny_bind (l1.at ?_))))))))
 dsimp only
 have ne:(Value.builtin "BaseException.__getattribute__" == Value.builtin "object.__getattribute__")=false:=by decide +kernel
 rw [if_neg (by rw [ne,Bool.and_false]; exact Bool.false_ne_true)]
 unfold getAttrByItsOwn hookBefore
 repeat (first | with_reducible refine wpAny_call ?_ | with_reducible refine wpAny_attempt ?_ | lk)
 have hk:builtinKind "BaseException.__getattribute__"=some .slot:=by decide +kernel
 have hsplit:splitId "BaseException.__getattribute__"=some ("BaseException","__getattribute__"):=by decide +kernel
 refine codeAny_call_builtin (by decide +kernel) F.entry_bexc_ga ?_
 have ha:=F.args_bexc_ga (.ref e) (.str (Str.ofString "__class__") t)
 show wpAny _ _ (checkBuiltinCall "BaseException.__getattribute__" ⟨[.ref e,.str (Str.ofString "__class__") t],[]⟩) _ _ _
 simp only [checkBuiltinCall,hk,hsplit]
 unfold isInstance
 refine wpAny_bind (wpAny_bind (l0.at (l3.at ?_)))
 simp only [Bool.not_true,Bool.false_eq_true,if_false]
 refine wpAny_of_eq (show _=pure () from ha) ?_
 refine wpAny_mono (exc_entry (E:=fun _ _=>False) (Q:=fun fin s'=>fin=.done (.ret (.ref C))/\s'=⟨hp,gs,dr,t+1,os⟩) X T I ⟨rfl,rfl⟩) (fun fin s' z=>?_) fun _ _ z=>z.elim
 obtain ⟨rfl,rfl⟩:=z
 exact wpAny_pure (wpAny_pure h)
end
theorem kitx_exc {K:Frag} {e C:Addr} (T:ExcCls K C):KitX K (.ref e) (.ref C) (ExcAt C e) where
 ty:=fun _ _ _ I=>I.type
 it:=fun M h X _=>by
  obtain ⟨cd,hc⟩:=Option.isSome_iff_exists.mp T.cls
  unfold clsIn at hc
  split at hc
  ·rename_i c' d' cd' sl' ho
   intro A' Q' E' s' k q
   unfold isType loadHead
   exact wpAny_bind (wpAny_loadPart (k _ _ (X _ _ ho)) (wpAny_pure q))
  ·cases hc
 ne:=fun h tp dd its n sl X htp=>by
  obtain ⟨cd,hc⟩:=Option.isSome_iff_exists.mp T.cls
  refine Bool.eq_false_iff.mpr fun q=>?_
  have ee:C=tp:=Value.ref.inj (beq_iff_eq.mp q)
  subst ee
  unfold clsIn at hc
  split at hc
  ·rename_i c' d' cd' sl' ho
   have z:=(X _ _ ho).symm.trans htp
   cases z
  ·cases hc
 ca:=fun X I k=>exc_class X T I k
end L2
namespace L2
open PySem PySem.Spec PyProof.Rows
structure RoomQ (k:Nat) (A:Around):Prop where
 dp:A.depth+3*k+5 < recursionLimit
 un:A.units+16*k+200 < cLine
theorem Room.q {k:Nat} {A:Around} (r:Room k A):RoomQ k A:=⟨r.dp,r.un⟩
theorem RoomQ.mark {k:Nat} {A:Around} (r:RoomQ k A) (h:Option Value):RoomQ k (A.mark h):=⟨r.dp,r.un⟩
theorem RoomQ.mono {j k:Nat} {A:Around} (r:RoomQ k A) (h:j<=k):RoomQ j A:=⟨by have:=r.dp; omega,by have:=r.un; omega⟩
theorem RoomQ.deeper {k:Nat} {A:Around} (r:RoomQ (k+1) A) (env:Env):RoomQ k (A.deeper env):=
 ⟨by have:=r.dp; show A.depth+1+3*k+5 < _; omega,by have:=r.un; show A.units+3+16*k+200 < _; omega⟩
structure FnOkQ (P:Program) (w:World) (K:W.Frag) (mg:Str->Option Value) (base:Heap) (k:Nat) (f:Addr) (fd:FuncData) (ps:List Str) (sp:Sp):Prop where
 len:∀ vs H Q E,sp vs H Q E->vs.length=ps.length
 run:∀ (A:Around) (outer:List Env) (s:Shared) (H:Hp) (args:Args) (us:List Value) (vs:List V) (Q:VK) (E:XK),RoomQ k A->Env0 P w K mg base A outer s H->BindsTo s fd args (ps.zip us)->Vals vs us->sp vs H Q E ->
  codeAny (model P w) A (.call (.ref f) args) (CR CX0 outer P w H s Q E) s
def cxQ (P:Program) (w:World) (K:W.Frag) (mg:Str->Option Value) (base:Heap) (N:List Str) (qual:Str) (scope:Scope) (f:Addr) (cd:Value) (A:Around) (outer:List Env) (s:Shared) (H:Hp):Cx:=
 { cxOf CX0 P w K mg base N qual scope f cd A outer s H E0 with calm:=false,still:=false,xe:=fun _ _=>False }
theorem inv_startQ {P:Program} {w:World} {K:W.Frag} {mg:Str->Option Value} {base:Heap} {N ps:List Str} {qual:Str} {scope:Scope} {f:Addr} {cd:Value} {A:Around} {outer:List Env} {s s1:Shared} {H:Hp} {us:List Value} {vs:List V}
  (S:FnScope N ps scope) (e0:Env0 P w K mg base A outer s H) (hl:vs.length=ps.length) (r:Vals vs us)
  (x:InCallC s s.heap.objs.size (bindL (envOfC qual scope s.heap.objs.size f cd).kindOf (ps.zip us) fun _=>none) (cellsFrom (s.heap.objs.size+1) scope.names []) (bindC (envOfC qual scope s.heap.objs.size f cd).kindOf (ps.zip us) fun _=>none) s1) :
  Inv (cxQ P w K mg base N qual scope f cd A outer s H) [] (start N vs) H s1:=by
 -- the same state,read under an Around that handles nothing
 have e1:Env0 P w K mg base { A with handled:=none } outer s H:=⟨e0.frames,e0.mod,e0.bs,e0.bsz,e0.funs,e0.frf,e0.hok,e0.bare⟩
 have J:=inv_start (CX:=CX0) (E:=E0) (A:={ A with handled:=none }) S rfl e1 hl r x
 have ok:=J.ok
 exact ⟨⟨ok.mod,ok.kind,ok.glob,ok.blt,ok.above,ok.inj,ok.has,ok.cab,(fun h=>by cases h),(fun h=>by cases h),(show (A.deeper _).frames=some (_ :: outer) from Around.frames_deeper e0.frames),ok.stk,ok.exf,ok.bs,ok.bsz,ok.noex,ok.exfs,ok.funs,ok.frf⟩,
  J.fzs,J.os,J.bare,J.base,J.loc,J.cell,J.free,J.freeC,J.pin,J.hok,J.len⟩
theorem fn_ofQ {P:Program} {w:World} {K:W.Frag} {mg:Str->Option Value} {base:Heap} {k:Nat} {f:Addr} {name qual:Str} {params:Arguments} {body:List Stmt} {scope:Scope} {dV kV doc pm cdv ct oc:Value} {an od:Option Addr}
  {osl:Array (Option Value)} {N ps:List Str} {sp:Sp} (lk:K.lookup f=some ⟨oc,od,.func (W.fnOf name qual params body scope dV kV doc pm an cdv ct),osl⟩) (hcd:W.codeIn K cdv qual=true) (S:FnScope N ps scope)
  (len:∀ vs H Q E,sp vs H Q E->vs.length=ps.length)
  (hbody:∀ (A:Around) (outer:List Env) (s:Shared) (H:Hp) (vs:List V) (Q:VK) (E:XK),RoomQ k (A.deeper (envOfC qual scope s.heap.objs.size f cdv))->sp vs H Q E ->
   ∃ t,PSs (cxQ P w K mg base N qual scope f cdv A outer s H) body t/\t { nx:=fun _ H'=>Q .non H',rt:=Q } (start N vs) H) :
  FnOkQ P w K mg base (k+1) f (W.fnOf name qual params body scope dV kV doc pm an cdv ct) ps sp:=by
 refine ⟨len,fun A outer s H args us vs Q E hr e0 hb r hsp=>?_⟩
 have hl:=len _ _ _ _ hsp
 have KX:K.In s.heap:=e0.mod.kin.keeps fun b o e=>(e0.bs b o e).1
 have lim:s.heap.NoLimit:=e0.mod.nolimit.keeps fun b o e=>(e0.bs b o e).1
 have hkind:∀ y ∈ ps.zip us,scope.names.lookup y.1=some .local\/(scope.names.lookup y.1=some .cell/\((cellsFrom (s.heap.objs.size+1) scope.names []).lookup y.1).isSome=true):=fun ⟨n,v⟩ hy=>by
  rcases S.par n (List.of_mem_zip hy).1 with q | q
  ·exact .inl q
  ·exact .inr ⟨q,W.cellsFrom_some _ _ _ (.inl q)⟩
 have hdep:A.depth < recursionLimit:=by have:=hr.dp; omega
 refine codeAny_call_function hdep (KX _ _ lk) rfl S.co S.gen rfl (W.codeRec_of KX hcd) (hb _ _ _ _ ?_)
 refine wpAny_newFunctionEnv_cells S.kind hkind fun env he s1 x=>?_
 subst he
 refine ⟨lim.keeps x.toInCall.keep,codeAny_func ?_⟩
 obtain ⟨t,ht,hq⟩:=hbody A outer s H vs Q E (hr.deeper _) hsp
 have I:Inv (cxQ P w K mg base N qual scope f cdv A outer s H) [] (start N vs) H s1:=inv_startQ S e0 hl r x
 refine wpAny_mono (ht [] s1 (start N vs) H _ I hq) (fun fl s' hs=>?_) fun e s' hs=>False.elim hs
 have fin:∀ {σ':St} {H':Hp} {v:V} {u:Value},Inv (cxQ P w K mg base N qual scope f cdv A outer s H) [] σ' H' s'->RelV v u->Q v H'->CE outer P w H s Q u s':=
  fun {σ' H' v u} J rv q=>⟨v,H',J.os,J.bare,J.base,J.hok,rv,q⟩
 cases fl with
 | ret u=>
  obtain ⟨v,σ',H',J,rv,q⟩:=hs
  exact fin J rv q
 | next=>
  obtain ⟨σ',H',J,q⟩:=hs
  exact fin (v:=V.non) (u:=Value.none) J rfl q
 | brk=>
  obtain ⟨_,_,_,q⟩:=hs
  exact False.elim q
 | cont=>
  obtain ⟨_,_,_,q⟩:=hs
  exact False.elim q
section
variable {P:Program} {w:World} {K:W.Frag} {mg:Str->Option Value} {base:Heap}
theorem Fun.okQ {x qual:Str} {st:Stmt} {f:Addr} {fd:FuncData} {N ps:List Str} {k:Nat} {sp:Sp} (F:Fun K x qual st f fd) (S:FnScope N ps (defScope st)) (len:∀ vs H Q E,sp vs H Q E->vs.length=ps.length)
  (hbody:∀ (cdv:Value) (A:Around) (outer:List Env) (s:Shared) (H:Hp) (vs:List V) (Q:VK) (E:XK),RoomQ k (A.deeper (envOfC qual (defScope st) s.heap.objs.size f cdv))->sp vs H Q E ->
   ∃ t,PSs (cxQ P w K mg base N qual (defScope st) f cdv A outer s H) (defBody st) t/\t { nx:=fun _ H'=>Q .non H',rt:=Q } (start N vs) H):FnOkQ P w K mg base (k+1) f fd ps sp:=by
 obtain ⟨oc,od,kV,doc,pm,an,cdv,ct,osl,rfl,lk,hcd⟩:=F.ex
 exact fn_ofQ lk hcd S len fun A outer s H vs Q E hr hsp=>hbody cdv A outer s H vs Q E hr hsp
theorem Fun.okX {x qual:Str} {st:Stmt} {f:Addr} {fd:FuncData} {N ps:List Str} {k:Nat} {sp:Sp} (F:Fun K x qual st f fd) (S:FnScope N ps (defScope st)) (len:∀ vs H Q E,sp vs H Q E->vs.length=ps.length)
  (hbody:∀ (cdv:Value) (A:Around) (outer:List Env) (s:Shared) (H:Hp) (vs:List V) (Q:VK) (E:XK),Room k (A.deeper (envOfC qual (defScope st) s.heap.objs.size f cdv))->sp vs H Q E ->
   ∃ t,PSs (cxOf (XF P w) P w K mg base N qual (defScope st) f cdv A outer s H E) (defBody st) t/\t { nx:=fun _ H'=>Q .non H',rt:=Q } (start N vs) H):FnOk P w K mg base (XF P w) (k+1) f fd ps sp:=by
 obtain ⟨oc,od,kV,doc,pm,an,cdv,ct,osl,rfl,lk,hcd⟩:=F.ex
 exact fn_of lk hcd S len fun A outer s H vs Q E hr hsp=>hbody cdv A outer s H vs Q E hr hsp
end
section
variable {X:Cx} {k:Nat} {f:Addr} {fd:FuncData} {ps:List Str} {sp:Sp} {dvs:List V} {ds:List Value} {x:Str} {p pos:Pos} {e:Expr} {es:List Expr} {t:TA}
theorem pe_callQ (F:FnOkQ X.prog X.w X.K X.mg X.base k f fd ps sp) (hr:RoomQ k X.A) (hg:Gl X x) (hm:X.mg x=some (.ref f)) (hk:W.keepIn X.K (.ref f)=true) (hb:Binds X.K fd ps ds) (hd:Vals dvs ds)
  (ha:PA X (e :: es) t) (hdb:(x == ("__debug__":Str))=false:=by decide) (he:starEach (e :: es) X.env=(false,eval e X.env) :: starEach es X.env:=by rfl) (hpl:(backTo pos (starEach es X.env)).any (·.1)=false:=by rfl) :
  PE X (.Call (.Name x p) (e :: es) [] pos) (tCall sp dvs E0 t):=by
 intro pins s σ H Q I h
 refine wpAny_Call_Name_kw (ld_glob I hg hm ?_ hdb)
 refine W.callWith_K (h₀:=X.base) I.ok.mod.kin hk (thn (ha pos pins s σ H _ I h) fun us s1 ⟨vs,H1,I1,r,q⟩=>⟨I1.kIn,?_⟩) he hpl
 have r2:Vals (vs ++ dvs) (us ++ ds):=r.append hd
 have hl:(us ++ ds).length=ps.length:=by rw [<- r2.length]; exact F.len _ _ _ _ q
 refine wpAny_call (codeAny_mono (F.run X.A X.stack s1 H1 ⟨us,[]⟩ (us ++ ds) (vs ++ dvs) Q E0 hr I1.env0 (hb s1 us I1.kIn hl) r2 q) fun r s' hq=>?_)
 cases r with
 | error e=>exact False.elim hq
 | ok fl=>
  cases fl with
  | ret u=>exact I1.after hq
  | next=>exact False.elim hq
  | brk=>exact False.elim hq
  | cont=>exact False.elim hq
end
theorem PS.nox {X:Cx} {st:Stmt} {t:TS} (h:PS X.nox st t):PS X st t:=fun pins s σ H D I hw=>
 wpAny_mono (h pins s σ H D (I.wish _) hw) (fun _ _ q=>q.unwish) fun _ _ z=>z.elim
theorem exc_obj {K:W.Frag} {h:Heap} {C:Addr} {bmB:List Value} {newId:String} (X:K.In h) (q:W.excIn K C bmB newId=true) :
  ∃ bm N nm qn bs hdct sn sub ab col dd k0 k1 k2 k3 k5 mN,h.get? C=some (excClassObj nm qn C N bs bm hdct sn sub ab col dd k0 k1 k2 k3 k5 newId)/\h.Ns N mN/\mN "__init__"=none/\OwnTail h bmB bm:=by
 unfold W.excIn at q
 split at q
 ·rename_i dd cd sl ho
  split at q
  ·rename_i C' bm k0 k1 k2 k3 n k5 hm hs
   simp only [Bool.and_eq_true,beq_iff_eq,Bool.not_eq_true'] at q
   obtain ⟨⟨⟨⟨⟨c1,c2⟩,c3⟩,c4⟩,c5⟩,c6⟩:=q
   subst c1 c2
   obtain ⟨nm,bs,mro,ns,qn,hd,sn,sub,ab,col,del⟩:=cd
   dsimp only at hm c3 c5 c6
   subst hm c3
   obtain ⟨l⟩:=sl
   have hs':l=[k0,k1,k2,k3,some (.builtin n),k5]:=hs
   subst hs'
   exact ⟨bm,ns,nm,qn,bs,hd,sn,sub,ab,col,dd,k0,k1,k2,k3,k5,_,X _ _ ho,.of_isNs (W.isNs_of_in X c5),W.nsMap_none_of_in X c5 c6,W.tail_of_in X c4⟩
  ·cases q
 ·cases q
abbrev bmVE:List Value:=[.type "ValueError",.type "Exception",.type "BaseException",.type "object"]
def tRaise (C:Addr) (E:XK) (ta:TA):TS:=fun _ σ H=>ta σ H fun vs H1=>vs.length<=sizeLine/\E (.ref C) none H1
section
variable {P:Program} {w:World} {K:W.Frag} {mg:Str->Option Value} {base:Heap} {N:List Str} {qual:Str} {scope:Scope} {f:Addr} {cd:Value} {A:Around} {outer:List Env} {s0:Shared} {H0:Hp} {E:XK}
 {x:Str} {C:Addr} {np cpos pos:Pos} {e:Expr} {es:List Expr} {t:TA}
theorem ps_raise (hm:mg x=some (.ref C)) (hq:W.excIn K C bmVE "ValueError.__new__"=true) (hg:Gl (cxOf (XF P w) P w K mg base N qual scope f cd A outer s0 H0 E) x)
  (ha:PA (cxOf (XF P w) P w K mg base N qual scope f cd A outer s0 H0 E) (e :: es) t) (hdb:(x == ("__debug__":Str))=false:=by decide)
  (he:starEach (e :: es) (cxOf (XF P w) P w K mg base N qual scope f cd A outer s0 H0 E).env=(false,eval e (cxOf (XF P w) P w K mg base N qual scope f cd A outer s0 H0 E).env) :: starEach es (cxOf (XF P w) P w K mg base N qual scope f cd A outer s0 H0 E).env:=by rfl)
  (hpl:(backTo cpos (starEach es (cxOf (XF P w) P w K mg base N qual scope f cd A outer s0 H0 E).env)).any (·.1)=false:=by rfl) :
  PS (cxOf (XF P w) P w K mg base N qual scope f cd A outer s0 H0 E) (.Raise (some (.Call (.Name x np) (e :: es) [] cpos)) none pos) (tRaise C E t):=by
 intro pins s σ H D I h
 obtain ⟨bm,Nn,nm,qn,bs,hdct,sn,sub,ab,col,dd,k0,k1,k2,k3,k5,mN,hC,hN,hni,TL⟩:=exc_obj I.mod.kin hq
 have hpl':(backTo cpos (starEach (e :: es) (cxOf (XF P w) P w K mg base N qual scope f cd A outer s0 H0 E).env)).any (·.1)=false:=by
  rw [he]
  show (false || (backTo cpos (starEach es _)).any (·.1))=false
  rw [hpl]
  rfl
 refine wpAny_Raise_call_subT (C:=C) (nm:=nm) (q:=qn) (N:=Nn) (bs:=bs) (bm:=bm) (hdct:=hdct) (sn:=sn) (sub:=sub) (ab:=ab) (col:=col) (dd:=dd) (k0:=k0) (k1:=k1) (k2:=k2) (k3:=k3) (k5:=k5)
  PySem.F.excBase_ValueError (mN:=mN) (TL.hasType PySem.F.excBase_ValueError.hasBase) (I.ok.hd rfl) hpl' hni (ld_glob I hg hm ⟨rfl,?_⟩ hdb)
 have h2:=ha cpos pins s σ H _ I h
 rw [he] at h2 ⊢
 exact Calls.evalArgs_plain (wpAny_mono h2 (fun us s1 ⟨vs,H1,I1,r,z,q⟩=>⟨rfl,by show us.length<=_; rw [<- r.length]; exact z,I1.bk _ _ hC,hN.keeps I1.bk,TL.keeps I1.bk,fun h' ea hm'=>raise_xe I1 hm' q⟩) fun _ _ y=>y)
end
end L2
namespace L2
open PySem PySem.Spec PyProof.Rows
abbrev Cx.marked (X:Cx) (e:Addr):Cx:={ X with A:=X.A.mark (some (.ref e)),calm:=false,still:=false,xe:=fun _ _=>False }
theorem Cx.Ok.marked {X:Cx} (ok:X.Ok) (e:Addr):(X.marked e).Ok:=
 ⟨ok.mod,ok.kind,ok.glob,ok.blt,ok.above,ok.inj,ok.has,ok.cab,(fun h=>by cases h),(fun h=>by cases h),ok.frames,ok.stk,ok.exf,ok.bs,ok.bsz,ok.noex,ok.exfs,ok.funs,ok.frf⟩
section
variable {X:Cx} {pins:List (Addr × Obj)} {σ:St} {H H':Hp} {s s':Shared} {e:Addr}
theorem Inv.marked (I:Inv X pins σ H s) (e:Addr):Inv (X.marked e) pins σ H s:=⟨I.ok.marked e,I.fzs,I.os,I.bare,I.base,I.loc,I.cell,I.free,I.freeC,I.pin,I.hok,I.len⟩
theorem Inv.unmarked (ok:X.Ok) (I:Inv (X.marked e) pins σ H s):Inv X pins σ H s:=⟨ok,I.fzs,I.os,I.bare,I.base,I.loc,I.cell,I.free,I.freeC,I.pin,I.hok,I.len⟩
theorem Un.more {fs:List Addr} {H H1:Hp} {h h1:Heap} {a:Addr} {o:HO} (u:Un fs [] H H1 h h1) (n:h.get? a=none) (n1:H1 a=none):Un fs [] H (upd H1 a o) h h1 where
 keep:=u.keep
 slot:=u.slot
 free:=fun b ob q m hx=>by
  have ne:b ≠ a:=fun z=>by subst z; rw [n] at q; cases q
  rw [upd_ne ne]
  exact u.free b ob q m hx
 there:=u.there
 tups:=fun b xs q=>by
  have z:=u.tups b xs q
  rw [upd_ne (ne_of_none z n1)]
  exact z
 frzs:=fun b ob v q=>by
  have z:=u.frzs b ob v q
  rw [upd_ne (ne_of_none z n1)]
  exact z
 tbls:=fun b ps q=>by
  obtain ⟨m,z⟩:=u.tbls b ps q
  exact ⟨m,by rw [upd_ne (ne_of_none z n1)]; exact z⟩
theorem HOk.more {P:Program} {w:World} {H1:Hp} {h1:Heap} {a:Addr} {o:HO} (x:HOk P w H1 h1) (n1:H1 a=none) (new:ObjOk P w (upd H1 a o) h1 a o):HOk P w (upd H1 a o) h1:=fun b u e=>by
 by_cases hb:b=a
 ·subst hb; rw [upd_same] at e; cases e; exact new
 ·rw [upd_ne hb] at e
  exact (x b u e).stay (fun _ _ _ q=>q) (fun c q=>by rw [upd_ne (ne_of_none q n1)]; exact q) fun c xs q=>by rw [upd_ne (ne_of_none q n1)]; exact q
variable {cls a0:Value} {ea C:Addr} {B h':Heap} {t':Nat}
theorem Fly.unF (x:Fly X.prog X.w X.stack H s cls a0 ea B H' s') (k:B.StaysIn h') (ups:s'.heap.UpToSlots h'):Un (frs X.stack) [] H H' s.heap h':=
 x.un.onward (fun b o q nb old=>k b o (x.cov b o q nb (.inr old))) fun b o q hb old=>by
  obtain ⟨_,o',ho',nf⟩:=x.fly.2.2.1.mem hb
  rw [q] at ho'; cases ho'
  exact ups b o q nf
theorem Fly.hokF (x:Fly X.prog X.w X.stack H s cls a0 ea B H' s') (k:B.StaysIn h'):HOk X.prog X.w H' h':=
 x.hok.onward fun b o hb q=>k b o (x.cov b o q (fun z=>hb (x.frf b z)) (.inl hb))
theorem Fly.notFrame (x:Fly X.prog X.w X.stack H s cls a0 ea B H' s'):ea ∉ frs X.stack:=fun z=>by
 obtain ⟨_,o',ho',nf⟩:=x.fly.2.2.1.mem z
 obtain ⟨oe,vs,he,_,hd,_⟩:=x.fly.first
 rw [he] at ho'; cases ho'
 exact nf vs hd
theorem Fly.new (x:Fly X.prog X.w X.stack H s cls a0 ea B H' s'):s.heap.get? ea=none/\H' ea=none:=by
 obtain ⟨oe,vs,he,_,hd,_⟩:=x.fly.first
 constructor
 ·cases q:s.heap.get? ea with
  | none=>rfl
  | some o'=>
   have z:=x.cov ea oe he x.notFrame (.inr ⟨o',q⟩)
   rw [x.fly.2.1] at z; cases z
 ·cases q:H' ea with
  | none=>rfl
  | some u=>
   have z:=x.cov ea oe he x.notFrame (.inl (by rw [q]; simp))
   rw [x.fly.2.1] at z; cases z
theorem Inv.landed (I:Inv X pins σ H s) (x:Fly X.prog X.w X.stack H s cls a0 ea B H' s') (k:B.StaysIn h') (ups:s'.heap.UpToSlots h'):Inv X pins σ H' { s' with heap:=h',toks:=t' }:=
 I.call' (s':={ s' with heap:=h',toks:=t' }) (ch:=[]) x.os (x.unF k ups) (x.hokF k) x.bare fun b z=>absurd z (by simp)
theorem Inv.landedE (I:Inv X pins σ H s) (x:Fly X.prog X.w X.stack H s (.ref C) a0 ea B H' s') {l:List Env} (fl:Heap.FlyingW B l ea (.ref C) a0 h') (ups:s'.heap.UpToSlots h') :
  Inv X pins σ (upd H' ea (.ext (ExcAt C ea))) { s' with heap:=h',toks:=t' }:=by
 obtain ⟨oe,vs,he,hc,hd,_⟩:=fl.first
 have at_:ExcAt C ea h':=⟨oe,he,hc,by unfold W.notCls; rw [hd]⟩
 exact I.call' (s':={ s' with heap:=h',toks:=t' }) (ch:=[]) x.os ((x.unF fl.1 ups).more x.new.1 x.new.2) ((x.hokF fl.1).more x.new.2 ⟨at_,⟨oe,he⟩,fun h1 h2 p q=>p.stays q⟩) x.bare fun b z=>absurd z (by simp)
theorem unbind_ok {M:Model} {A:Around} {E:Value->Shared->Prop} {i:Nat} {n:Str} {pos:Pos} {Q:Unit->Shared->Prop} (I:Inv X pins σ H s) (hN:X.N.Nodup) (hi:X.N[i]?=some n) (hk:X.env.scope.names.lookup n=some .local)
  (h:∀ s',Inv X pins (σ.set i none) H s'->Q () s'):wpAny M A (do bindName X.env n .none; unbindBehindTheSuite X.env n pos) Q E s:=by
 obtain ⟨m,hn,hl⟩:=id I.loc
 have hcls:(X.env.scope.kind == .class || (X.env.scope.kind == .module && X.env.locals != X.env.globals))=false:=by rw [I.ok.kind]; rfl
 have cne:=I.cne
 obtain ⟨oL,_,_,hoL,_⟩:=id hn
 refine wpAny_nameGoes_keeps hk hn hcls fun h' v hn' hs=>?_
 have old:∀ b o,X.s₀.heap.get? b=some o->h'.get? b=s.heap.get? b:=fun b o e=>hs.2 b (Nat.ne_of_lt (Nat.lt_of_lt_of_le (Heap.lt_size e) I.ok.above))
 refine h _ ⟨I.ok,I.fzs,I.os,I.bare,⟨fun b o e k hb hx=>(old b o e).trans (I.base.keep b o e k hb hx),fun b o e k hb hx=>?_,I.base.free,fun b o e hx=>?_,I.base.tups,I.base.frzs,I.base.tbls⟩,⟨_,hn',fun j y v' e1 e2 e3=>?_⟩,fun y c e=>?_,I.free,I.freeC,fun p hp=>?_,fun b ob e=>?_,by simpa using I.len⟩
 ·obtain ⟨sl,e1⟩:=I.base.slot b o e k hb hx
  exact ⟨sl,(old b o e).trans e1⟩
 ·obtain ⟨o',e1⟩:=I.base.there b o e hx
  exact ⟨o',(old b o e).trans e1⟩
 ·by_cases hj:j=i
  ·subst hj
   exfalso
   have hlt:j < σ.length:=by rw [I.len]; exact (List.getElem?_eq_some_iff.mp hi).1
   rw [List.getElem?_set_self hlt] at e2
   cases e2
  ·rw [List.getElem?_set_ne (Ne.symm hj)] at e2
   obtain ⟨u',r',q⟩:=hl j y v' e1 e2 e3
   refine ⟨u',r',?_⟩
   rcases q with ⟨k,e⟩ | ⟨k,c,e,z⟩
   ·refine .inl ⟨k,?_⟩
    have ne:y ≠ n:=fun z=>hj (nodup_ix hN e1 (z ▸ hi))
    show (if y=n then v else m y)=some u'
    rw [if_neg ne]
    exact e
   ·exact .inr ⟨k,c,e,z.sameBut hs (cne y c e)⟩
 ·obtain ⟨w',z⟩:=I.cell y c e
  exact ⟨w',z.sameBut hs (cne y c e)⟩
 ·obtain ⟨e,k,ne,nf,d⟩:=I.pin p hp
  exact ⟨(hs.2 p.1 ne).trans e,k,ne,nf,d⟩
 ·refine (I.hok b ob e).stay (fun c w' hc q=>(hs.2 c ?_).trans q) (fun _ q=>q) fun _ _ q=>q
  rintro rfl
  rcases hc with rfl | hc
  ·rw [I.free] at e; cases e
  ·rw [I.free] at hc; cases hc
def asEnds (D:Ends) (i:Nat):Ends:={ nx:=fun σ H=>D.nx (σ.set i none) H,rt:=D.rt,bk:=fun σ H=>D.bk (σ.set i none) H,ct:=fun σ H=>D.ct (σ.set i none) H }
end
def tTryAs (sp:Sp) (C:Addr) (i:Nat) (ta:TA) (ts:TS):TS:=fun D σ H=>ta σ H fun vs H1=>sp vs H1 (fun _ H2=>D.nx σ H2) fun cls _ H2=>cls=.ref C/\∀ e,H2 e=none->ts (asEnds D i) (σ.set i (some (.ref e))) (upd H2 e (.ext (ExcAt C e)))
section
variable {X:Cx} {k:Nat} {f C:Addr} {fd:FuncData} {ps:List Str} {sp:Sp} {g x n:Str} {p pos pos2 pos3 np hpos:Pos} {e:Expr} {es:List Expr} {t:TA} {ts:TS} {b₀:Stmt} {suite:List Stmt} {i:Nat}
end
end L2
namespace L2
open PySem PySem.Spec PyProof.Rows
theorem reads_bools (h:Heap):∀ {bs:List Bool} {us:List Value},Vals (bs.map V.bl) us->ReadsAll h us (bs.map PyData.bool) []
 | [],_,.nil=>.nil
 | b :: r,_,.cons q t=>by
  have q':_=Value.bool b:=q
  subst q'
  exact ReadsAll.cons (as:=[]) (bs:=[]) (.bool b) (reads_bools h t)
def rCount:V->List V->Hp->VK->Prop:=fun x vs H Q=>∃ (l:Addr) (bs:List Bool) (k:Bool),x=.ref l/\vs=[.bl k]/\H l=some (.lst (bs.map V.bl))/\Q (.int (countIn (.bool k) (bs.map PyData.bool))) H
theorem mt_count {X:Cx}:MtR X "list.count" rCount:=by
 intro pins s σ H x vs v us Q I rx rv h
 obtain ⟨l,bs,k,rfl,rfl,hH,q⟩:=h
 cases rx
 obtain ⟨u,rfl,ru⟩:=rv.one
 have ru':u=Value.bool k:=ru
 subst ru'
 obtain ⟨z,its,n,r,hl,e⟩:=I.lstM hH
 exact count_list_bools (hp:=s.heap) ⟨_,e,rfl,n,rfl⟩ (reads_bools _ r) (by rw [List.all_map]; simp [Shape.has]) ⟨.int (countIn (.bool k) (bs.map PyData.bool)),H,I.tok _,⟨_,rfl⟩,q⟩
inductive TyX (K:W.Frag) (H:Hp):V->Value->Prop where
 | of {x:V} {t:Value} (h:TyOf K H x t):TyX K H x t
 | exc {e C:Addr} (T:ExcCls K C) (h:H e=some (.ext (ExcAt C e))):TyX K H (.ref e) (.ref C)
def valOf:V->Value
 | .ref a=>.ref a
 | .ty n=>.type n
 | _=>.none
def rIsi (K:W.Frag):List V->Hp->VK->Prop:=fun xs H Q=>∃ x c t b,xs=[x,c]/\((∃ a,c=.ref a)\/∃ n,c=.ty n)/\TyX K H x t/\W.kitOne K t (valOf c)=some b/\Q (.bl b) H
theorem call_isi {X:Cx}:CallR X (.builtin "isinstance") (rIsi X.K):=by
 intro pins s σ H xs us Q I rv h
 obtain ⟨x,c,t,b,rfl,hc,ty,e,q⟩:=h
 obtain ⟨u,uc,rfl,ru,rc⟩:=rv.two
 have huc:uc=valOf c:=by
  rcases hc with ⟨a,rfl⟩ | ⟨n,rfl⟩
  ·exact rc
  ·exact rc
 subst huc
 have fin:∀ tk,EP X pins σ Q (.bool b) { s with toks:=tk }:=fun tk=>⟨.bl b,H,I.tok tk,rfl,q⟩
 cases ty with
 | of ty=>exact isinst_ok I ru ty e fin
 | @exc ea C T he=>
  have ru':u=Value.ref ea:=ru
  subst ru'
  obtain ⟨p,_,_⟩:=(show ObjOk X.prog X.w H s.heap ea (.ext (ExcAt C ea)) from I.hok ea _ he)
  exact W.kia_one (kitx_exc T) I.kIn p e (fun z=>nomatch z) fin
theorem bits_of_lay {ns:List Int} (h:W.WData.layableAll [W.WData.list (ns.map W.WData.int)]=true):∀ n ∈ ns,Builtin.Int.intBits n<=1048576:=fun n hn=>by
 have h1:=(W.layW_cons h).1
 have h2:=W.layableW_item h1 (.int n) (List.mem_map.mpr ⟨n,hn,rfl⟩)
 have h3:PyData.layable0 (.int n)=true:=h2
 exact PyData.bits_of_layable h3
theorem walk_b {l:W.OpenLaw} {n k:Nat} {q:Program} {loose:List Str} {XP:(Str->Option Value)->Heap->Prop} {YP:World->Heap->Prop} {d:DefRec} {K:Params->W.Frag} {CX:World->CXT} {sp:World->Sp} {x:Str}
  (hn:l.most=some n) (hn2:n<=sizeLine) (hdf:d.params.defaults=[]) (hr:Room k callerA)
  (hY:∀ (w:World) (h:Heap),YP w h->(K w.params).In h)
  (F:∀ (w:World) (mg:Str->Option Value) (fa:Addr) (h:Heap),(K w.params).In h->h.Ns mainGlobals mg->mg d.name=some (.ref fa) ->
   ∃ fd:FuncData,(∀ (s:Shared) (u:Value),BindsTo s fd ⟨[u],[]⟩ [(x,u)]) /\
    ∀ base:Heap,(K w.params).In base->base.Ns mainGlobals mg->FnOk l.prog w (K w.params) mg base (CX w) k fa fd [x] (sp w))
  (hsp:∀ (w:World) (H:Hp) (a:Addr) (ns:List Int),ns.length<=n->(∀ m ∈ ns,Builtin.Int.intBits m<=1048576)->SqL (K w.params) H a (ns.map V.int)->sp w [.ref a] H (fun v _=>v=.bl true) fun _ _ _=>False)
  (hCX:∀ (w:World) (H:Hp) (s:Shared) (e:Value) (s':Shared),CX w [] H s (fun _ _ _=>False) e s'->False) :
  W.WalkO q loose XP YP l.row.toRowW d [] (fun f vs=>PySem.call f vs):=by
 intro w s₀ s₁ mg mb G Y fa o pm cd doc dV kV ho hd hcd hD hmg hg args vals as hpre hlay hrd hwl hlo
 obtain ⟨a,vs,ns,rfl,rfl,hobj,hints,hlen⟩:=Att.script_of hn hpre hwl
 have KX:=hY w _ Y
 obtain ⟨fd,hb,hF⟩:=F w mg fa _ KX G.T.g hmg
 have call:=law_call KX G.T.g G.T.b G.T.builtins G.T.nolimit hg hobj hints (Nat.le_trans hlen hn2) hr hF hb (fun H hO hS=>hsp w H a ns hlen (bits_of_lay hlay) hS) fun H e s'=>hCX w H s₁ e s'
 refine W.enter_call (codeAny_mono call fun r s' hq=>?_)
 obtain ⟨rfl,h2,h3,h4⟩:=hq
 exact ⟨.inl ⟨.bool true,.bool true,[],rfl,fun _=>rfl,.bool true,Att.post_true l _,fun _=>⟨List.Pairwise.nil,fun _ hm=>(nomatch hm)⟩⟩,h2,h3,h4⟩
def spLaw (K:W.Frag):Sp:=fun vs H Q _=>∃ (a:Addr) (ns:List Int),vs=[.ref a]/\SqL K H a (ns.map V.int)/\ns.length<=63/\(∀ m ∈ ns,Builtin.Int.intBits m<=1048576)/\∀ H',Q (.bl true) H'
end L2
namespace L2
open PySem PySem.Spec PyProof.Rows
def tCut (t u:TS):TS:=fun D σ H=>∃ R:St->Hp->Prop,t { D with nx:=R } σ H/\∀ σ' H',R σ' H'->u D σ' H'
theorem pss_cut {X:Cx} {st:Stmt} {rest:List Stmt} {t u:TS} (h1:PS X st t) (h2:PSs X rest u):PSs X (st :: rest) (tCut t u):=by
 intro pins s σ H D I h
 obtain ⟨R,h,k⟩:=h
 refine wpAny_execs_cons (thn (h1 pins s σ H { D with nx:=R } I h) fun f s1 q=>?_)
 cases f with
 | next=>
  obtain ⟨σ',H',I',q⟩:=q
  exact h2 pins s1 σ' H' D I' (k _ _ q)
 | ret v=>exact q
 | brk=>exact q
 | cont=>exact q
theorem bits_lit {i:Int} {k:Nat} (h:i.natAbs < 2^k) (hk:k<=1048576):Builtin.Int.intBits i<=1048576:=Nat.le_trans (intBits_le h) hk
theorem mulOk {a b:Int} (ha:Builtin.Int.intBits a<=1048576) (hb:Builtin.Int.intBits b<=1048576):IntMulOk a b:=IntMulOk.of_bits ha hb
theorem log2_lt_of {i:Int} {k:Nat} (h:i.natAbs < 2^k) (hk:0 < k):i.natAbs.log2 < k:=by
 by_cases h0:i.natAbs=0
 ·rw [h0]; exact hk
 ·exact (Nat.log2_lt h0).mpr h
def spCell (K:W.Frag):Sp:=fun vs H Q _=>∃ (a:Addr) (ns:List Int) (k:Int),vs=[.ref a,.int k]/\SqL K H a (ns.map V.int)/\0<=k/\Q (.int (ns.getD k.toNat 0)) H
theorem cell_in {ns:List Int} {k:Int} (h0:0<=k) (h:k < ((ns.map V.int).length:Nat)):atI (ns.map V.int) k=some (.int (ns.getD k.toNat 0)):=by
 rw [List.length_map] at h
 have hk:k.toNat < ns.length:=by omega
 have ek:k=((k.toNat:Nat):Int):=by omega
 have q:atI (ns.map V.int) ((k.toNat:Nat):Int)=some (.int (ns.getD k.toNat 0)):=atI_nat (by
  rw [List.getElem?_map,List.getElem?_eq_getElem hk,List.getD_eq_getElem?_getD,List.getElem?_eq_getElem hk]
  rfl)
 rw [<- ek] at q
 exact q
theorem cell_out {ns:List Int} {k:Int} (h:¬ k < ((ns.map V.int).length:Nat)) (h0:0<=k):ns.getD k.toNat 0=0:=by
 rw [List.length_map] at h
 rw [List.getD_eq_getElem?_getD,List.getElem?_eq_none (by omega)]
 rfl
def spWhole:Sp:=fun vs H Q _=>∃ n,vs=[.int n]/\Q (.bl true) H
def spAlone (C:Addr):Sp:=fun vs H Q _=>∃ e,vs=[.ref e]/\H e=some (.ext (ExcAt C e))/\∀ H',Same H H'->Q (.bl true) H'
theorem same_new {H:Hp} {p:Addr} (h:H p=none) (o:HO):Same H (upd H p o):=fun b u q=>by rw [upd_ne (ne_of_none q h)]; exact q
end L2
namespace L2
open PySem PySem.Spec PyProof.Rows
def Has (P:Program) (w:World) (K:W.Frag) (mg:Str->Option Value) (base:Heap) (CX:CXT) (k:Nat) (x:Str) (ps:List Str) (sp:Sp):Prop:=
 ∃ (f:Addr) (fd:FuncData),FnOk P w K mg base CX k f fd ps sp/\Binds K fd ps []/\W.keepIn K (.ref f)=true/\mg x=some (.ref f)
def HasQ (P:Program) (w:World) (K:W.Frag) (mg:Str->Option Value) (base:Heap) (k:Nat) (x:Str) (ps:List Str) (sp:Sp):Prop:=
 ∃ (f:Addr) (fd:FuncData),FnOkQ P w K mg base k f fd ps sp/\Binds K fd ps []/\W.keepIn K (.ref f)=true/\mg x=some (.ref f)
theorem decT {p:Prop} [Decidable p] (h:decide p=true):p:=of_decide_eq_true h
theorem decF {p:Prop} [Decidable p] (h:¬ decide p=true):¬ p:=of_decide_eq_false (Bool.eq_false_iff.mpr h)
theorem int_inj {a b:Int} (h:V.int a=V.int b):a=b:=V.int.inj h
end L2
namespace L2
open PySem PySem.Spec PyProof.Rows
inductive IntsE:List Expr->List Int->Prop where
 | nil:IntsE [] []
 | cons {i:Int} {j:Nat} {pos:Pos} {es:List Expr} {ns:List Int} (h:IntsE es ns):IntsE (.Constant (.int i) j pos :: es) (i :: ns)
end L2
namespace L2
open PySem PySem.Spec PyProof.Rows
end L2
namespace Sh
theorem quot (x y:Int):x=y*Int.fdiv x y+Int.fmod x y:=by rw [Int.fmod_def]; omega
structure Rows (x y a s t b u v:Int):Prop where
 up:a=s*x+t*y
 lo:b=u*x+v*y
 one:∃ p q,x=p*a+q*b
 two:∃ p q,y=p*a+q*b
theorem rows_start (x y:Int):Rows x y x 1 0 y 0 1:=⟨by omega,by omega,⟨1,0,by omega⟩,⟨0,1,by omega⟩⟩
theorem rows_turn {x y a s t b u v:Int} (h:Rows x y a s t b u v) (q:Int):Rows x y b u v (a - q*b) (s - q*u) (t - q*v):=by
 obtain ⟨h1,h2,⟨p1,q1,h3⟩,⟨p2,q2,h4⟩⟩:=h
 refine ⟨h2,by grind,⟨p1*q+q1,p1,?_⟩,⟨p2*q+q2,p2,?_⟩⟩ <;> grind
theorem rows_end {x y a s t b u v:Int} (h:Rows x y a s t b u v) (hb:b=0):a=s*x+t*y/\(∃ p,x=p*a)/\(∃ p,y=p*a):=by
 obtain ⟨h1,h2,⟨p1,q1,h3⟩,⟨p2,q2,h4⟩⟩:=h
 subst hb
 exact ⟨h1,⟨p1,by grind⟩,⟨p2,by grind⟩⟩
structure Sz (B a s t b u v:Int):Prop where
 a0:a.natAbs<=B.natAbs
 b0:b.natAbs<=B.natAbs
 s0:s.natAbs<=B.natAbs
 t0:t.natAbs<=B.natAbs
 u0:u.natAbs<=B.natAbs
 v0:v.natAbs<=B.natAbs
 way:(s=1/\t=0/\u=0/\v=1/\a.natAbs+2*b.natAbs<=B.natAbs) \/
  ((0<=a/\0<=b\/a<=0/\b<=0)/\s.natAbs*b.natAbs+u.natAbs*a.natAbs<=B.natAbs/\t.natAbs*b.natAbs+v.natAbs*a.natAbs<=B.natAbs)
theorem le_of_mul {m n B:Nat} (h:m*n<=B) (hn:n ≠ 0):m<=B:=Nat.le_trans (Nat.le_mul_of_pos_right m (Nat.pos_of_ne_zero hn)) h
theorem fmod_abs {a b:Int} (hb:b ≠ 0):(Int.fmod a b).natAbs < b.natAbs:=by
 rcases Int.lt_or_gt_of_ne hb with h | h
 ·have h1:=Int.fmod_lt_of_pos (-a) (show 0 < -b by omega)
  have h2:=Int.fmod_nonneg_of_pos (-a) (show 0 < -b by omega)
  rw [Int.neg_fmod_neg] at h1 h2
  omega
 ·have h1:=Int.fmod_lt_of_pos a h
  have h2:=Int.fmod_nonneg_of_pos a h
  omega
theorem fmod_sign {a b:Int} (hb:b ≠ 0):0<=b/\0<=Int.fmod a b\/b<=0/\Int.fmod a b<=0:=by
 rcases Int.lt_or_gt_of_ne hb with h | h
 ·have h2:=Int.fmod_nonneg_of_pos (-a) (show 0 < -b by omega)
  rw [Int.neg_fmod_neg] at h2
  omega
 ·have h2:=Int.fmod_nonneg_of_pos a h
  omega
theorem abs_sub_mul (s q u:Int):(s - q*u).natAbs<=s.natAbs+q.natAbs*u.natAbs:=by
 have:=Int.natAbs_sub_le s (q*u)
 rw [Int.natAbs_mul] at this
 exact this
theorem sum_turn {s u a b q r:Int} (hq:(q*b).natAbs+r.natAbs<=a.natAbs):u.natAbs*r.natAbs+(s - q*u).natAbs*b.natAbs<=s.natAbs*b.natAbs+u.natAbs*a.natAbs:=by
 have h1:=Nat.mul_le_mul_right b.natAbs (abs_sub_mul s q u)
 have h2:=Nat.mul_le_mul_left u.natAbs hq
 rw [Int.natAbs_mul] at h2
 rw [Nat.add_mul] at h1
 rw [Nat.mul_add] at h2
 have e:q.natAbs*u.natAbs*b.natAbs=u.natAbs*(q.natAbs*b.natAbs):=by
  rw [Nat.mul_comm q.natAbs,Nat.mul_assoc]
 omega
theorem sz_start {x y:Int}:Sz ((x.natAbs:Int)+2*y.natAbs+1) x 1 0 y 0 1:=by
 refine ⟨by omega,by omega,by omega,by omega,by omega,by omega,.inl ⟨rfl,rfl,rfl,rfl,by omega⟩⟩
theorem sz_turn {B a s t b u v:Int} (h:Sz B a s t b u v) (hb:b ≠ 0) (q r:Int) (hq:a=b*q+r) (hr:r=Int.fmod a b) :
  Sz B b u v r (s - q*u) (t - q*v):=by
 have ra:r.natAbs < b.natAbs:=hr ▸ fmod_abs hb
 have rs:0<=b/\0<=r\/b<=0/\r<=0:=hr ▸ fmod_sign hb
 have eq:q*b=a - r:=by rw [Int.mul_comm]; omega
 rcases h.way with ⟨rfl,rfl,rfl,rfl,h1⟩ | ⟨hs,h1,h2⟩
 ·have hq':(q*b).natAbs<=a.natAbs+r.natAbs:=by rw [eq]; omega
  have hqb:q.natAbs<=(q*b).natAbs:=by
   rw [Int.natAbs_mul]
   exact Nat.le_mul_of_pos_right _ (by omega)
  have e1:(1 - q*0).natAbs=1:=by rw [Int.mul_zero]; rfl
  have e2:(0 - q*1).natAbs=q.natAbs:=by rw [Int.mul_one]; omega
  have b0:=h.b0
  refine ⟨h.b0,by omega,h.u0,h.v0,by rw [e1]; omega,by rw [e2]; omega,.inr ⟨rs,?_,?_⟩⟩
  ·rw [e1]; simp; omega
  ·have e3:q.natAbs*b.natAbs=(q*b).natAbs:=(Int.natAbs_mul q b).symm
   have e4:(1:Int).natAbs*r.natAbs=r.natAbs:=by rw [show (1:Int).natAbs=1 from rfl,Nat.one_mul]
   rw [e2,e3,e4]
   omega
 ·have hq':(q*b).natAbs+r.natAbs<=a.natAbs:=by
   have q0:0<=q:=by
    rcases (show 0<=q\/q<=-1 by omega) with h0 | h0
    ·exact h0
    ·exfalso
     rcases (show 0 < b\/b < 0 by omega) with hb' | hb'
     ·have:=Int.mul_le_mul_of_nonneg_left h0 (Int.le_of_lt hb')
      omega
     ·have:=Int.mul_le_mul_of_nonneg_left h0 (show 0<=-b by omega)
      rw [Int.neg_mul,Int.neg_mul] at this
      omega
   rcases (show 0 < b\/b < 0 by omega) with hb' | hb'
   ·have:=Int.mul_nonneg q0 (Int.le_of_lt hb')
    omega
   ·have:=Int.mul_nonneg q0 (show 0<=-b by omega)
    rw [Int.mul_neg] at this
    omega
  have k1:=sum_turn (s:=s) (u:=u) hq'
  have k2:=sum_turn (s:=t) (u:=v) hq'
  refine ⟨h.b0,by have:=h.b0; omega,h.u0,h.v0,?_,?_,.inr ⟨rs,by omega,by omega⟩⟩
  ·exact le_of_mul (n:=b.natAbs) (by omega) (by omega)
  ·exact le_of_mul (n:=b.natAbs) (by omega) (by omega)
end Sh
namespace Sm
structure P3 where
 (x y z:Int)
structure F6 where
 (a b c d e f:Int)
structure T3 where
 (r0 r1 r2:P3)
def rp (r s:P3):Int:=r.x*s.x+r.y*s.y+r.z*s.z
def wo (Q:F6) (P:P3):Int:=Q.a*(P.x*P.x)+Q.b*(P.y*P.y)+Q.c*(P.z*P.z)+Q.d*(P.y*P.z)+Q.e*(P.x*P.z)+Q.f*(P.x*P.y)
def sl (Q:F6):T3:=⟨⟨2*Q.a,Q.f,Q.e⟩,⟨Q.f,2*Q.b,Q.d⟩,⟨Q.e,Q.d,2*Q.c⟩⟩
def tb (t:T3) (P:P3):P3:=⟨rp t.r0 P,rp t.r1 P,rp t.r2 P⟩
def tr (t:T3):T3:=⟨⟨t.r0.x,t.r1.x,t.r2.x⟩,⟨t.r0.y,t.r1.y,t.r2.y⟩,⟨t.r0.z,t.r1.z,t.r2.z⟩⟩
def bl (Q:F6) (x y:P3):Int:=rp (tb (sl Q) x) y
def ch (Q:F6) (t:T3):F6:=⟨wo Q (tr t).r0,wo Q (tr t).r1,wo Q (tr t).r2,bl Q (tr t).r1 (tr t).r2,bl Q (tr t).r0 (tr t).r2,bl Q (tr t).r0 (tr t).r1⟩
def pt (t u:T3):T3:=⟨tb (tr u) t.r0,tb (tr u) t.r1,tb (tr u) t.r2⟩
def cr (r s:P3):P3:=⟨r.y*s.z - r.z*s.y,r.z*s.x - r.x*s.z,r.x*s.y - r.y*s.x⟩
def me (t:T3):Int:=rp t.r0 (cr t.r1 t.r2)
def lw (Q:F6) (P:P3):Int:=Q.a*P.x*P.x+Q.b*P.y*P.y+Q.c*P.z*P.z+Q.d*P.y*P.z+Q.e*P.x*P.z+Q.f*P.x*P.y
theorem lw_eq (Q:F6) (P:P3):lw Q P=wo Q P:=by
 unfold lw wo
 grind
def lm (t:T3):Int:=t.r0.x*t.r1.y*t.r2.z+t.r0.y*t.r1.z*t.r2.x+t.r0.z*t.r1.x*t.r2.y - t.r0.z*t.r1.y*t.r2.x - t.r0.y*t.r1.x*t.r2.z - t.r0.x*t.r1.z*t.r2.y
def rt (r:P3) (t:T3):P3:=⟨r.x*t.r0.x+r.y*t.r1.x+r.z*t.r2.x,r.x*t.r0.y+r.y*t.r1.y+r.z*t.r2.y,r.x*t.r0.z+r.y*t.r1.z+r.z*t.r2.z⟩
theorem wo_two (Q:F6) (x:P3):bl Q x x=2*wo Q x:=by
 simp only [bl,tb,sl,rp,wo]
 grind
def Bd (k:Nat) (x:Int):Prop:=x.natAbs<=2^k
theorem Bd.mul {j k:Nat} {x y:Int} (h:Bd j x) (h2:Bd k y):Bd (j+k) (x*y):=by
 unfold Bd at *
 rw [Int.natAbs_mul,Nat.pow_add]
 exact Nat.mul_le_mul h h2
theorem Bd.add {j:Nat} {x y:Int} (h:Bd j x) (h2:Bd j y):Bd (j+1) (x+y):=by
 unfold Bd at *
 rw [Nat.pow_succ]
 omega
theorem Bd.sub {j:Nat} {x y:Int} (h:Bd j x) (h2:Bd j y):Bd (j+1) (x - y):=by
 unfold Bd at *
 rw [Nat.pow_succ]
 omega
theorem Bd.mono {j k:Nat} {x:Int} (h:Bd j x) (hk:j<=k):Bd k x:=Nat.le_trans h (Nat.pow_le_pow_right (by decide) hk)
structure BP (k:Nat) (P:P3):Prop where
 (x:Bd k P.x) (y:Bd k P.y) (z:Bd k P.z)
structure BF (k:Nat) (Q:F6):Prop where
 (a:Bd k Q.a) (b:Bd k Q.b) (c:Bd k Q.c) (d:Bd k Q.d) (e:Bd k Q.e) (f:Bd k Q.f)
structure BT (k:Nat) (t:T3):Prop where
 (r0:BP k t.r0) (r1:BP k t.r1) (r2:BP k t.r2)
theorem BP.mono {j k:Nat} {P:P3} (h:BP j P) (hk:j<=k):BP k P:=⟨h.x.mono hk,h.y.mono hk,h.z.mono hk⟩
theorem bd_rp {j k:Nat} {r s:P3} (h:BP j r) (h2:BP k s):Bd (j+k+2) (rp r s):=((h.x.mul h2.x).add (h.y.mul h2.y)).add ((h.z.mul h2.z).mono (Nat.le_succ _))
theorem bd_wo {j k:Nat} {Q:F6} {P:P3} (h:BF j Q) (p:BP k P):Bd (j+(k+k)+5) (wo Q P):=
 (((((h.a.mul (p.x.mul p.x)).add (h.b.mul (p.y.mul p.y))).add ((h.c.mul (p.z.mul p.z)).mono (by omega))).add ((h.d.mul (p.y.mul p.z)).mono (by omega))).add ((h.e.mul (p.x.mul p.z)).mono (by omega))).add ((h.f.mul (p.x.mul p.y)).mono (by omega))
theorem bd_tb {j k:Nat} {t:T3} {P:P3} (h:BT j t) (p:BP k P):BP (j+k+2) (tb t P):=⟨bd_rp h.r0 p,bd_rp h.r1 p,bd_rp h.r2 p⟩
theorem bd_two {k:Nat} {x:Int} (h:Bd k x):Bd (k+1) (2*x):=by
 unfold Bd at *
 rw [Nat.pow_succ]
 omega
theorem bd_sl {k:Nat} {Q:F6} (h:BF k Q):BT (k+1) (sl Q):=⟨⟨bd_two h.a,h.f.mono (Nat.le_succ _),h.e.mono (Nat.le_succ _)⟩,⟨h.f.mono (Nat.le_succ _),bd_two h.b,h.d.mono (Nat.le_succ _)⟩,⟨h.e.mono (Nat.le_succ _),h.d.mono (Nat.le_succ _),bd_two h.c⟩⟩
theorem bd_bl {j k:Nat} {Q:F6} {x y:P3} (h:BF j Q) (p:BP k x) (q:BP k y):Bd (j+(k+k)+5) (bl Q x y):=(bd_rp (bd_tb (bd_sl h) p) q).mono (by omega)
theorem bd_cr {k:Nat} {r s:P3} (h:BP k r) (p:BP k s):BP (k+k+1) (cr r s):=⟨(h.y.mul p.z).sub (h.z.mul p.y),(h.z.mul p.x).sub (h.x.mul p.z),(h.x.mul p.y).sub (h.y.mul p.x)⟩
theorem sum6 (a b c d e f:Int):[a,b,c,d,e,f].sum=a+b+c+d+e+f:=by
 simp [List.sum_cons]
 omega
end Sm
namespace Lw
def One3 (a b c:Int):Prop:=∃ u v w:Int,u*a+v*b+w*c=1
def Pos3 (a b c:Int):Prop:=0 < a\/(a=0/\0 < b)\/(a=0/\b=0/\0 < c)
def Al (a b c x y z:Int):Prop:=a*y=b*x/\a*z=c*x/\b*z=c*y
theorem unit_pm {t s:Int} (h:t*s=1):t=1\/t=-1:=by
 have h2:t ∣ 1:=⟨s,h.symm⟩
 have h3:=Int.natAbs_dvd_natAbs.mpr h2
 have h4:t.natAbs=1:=Nat.dvd_one.mp h3
 omega
theorem uniq {a b c a' b' c':Int} (o:One3 a b c) (o':One3 a' b' c') (p:Pos3 a b c) (p':Pos3 a' b' c') (al:Al a b c a' b' c'):a=a'/\b=b'/\c=c':=by
 obtain ⟨u,v,w,e⟩:=o
 obtain ⟨u',v',w',e'⟩:=o'
 obtain ⟨h1,h2,h3⟩:=al
 have ea:a'=a*(u*a'+v*b'+w*c'):=by
  have:a'*(u*a+v*b+w*c)=a':=by rw [e,Int.mul_one]
  grind
 have eb:b'=b*(u*a'+v*b'+w*c'):=by
  have:b'*(u*a+v*b+w*c)=b':=by rw [e,Int.mul_one]
  grind
 have ec:c'=c*(u*a'+v*b'+w*c'):=by
  have:c'*(u*a+v*b+w*c)=c':=by rw [e,Int.mul_one]
  grind
 generalize u*a'+v*b'+w*c'=t at ea eb ec
 have ht:t*(u'*a+v'*b+w'*c)=1:=by
  rw [ea,eb,ec] at e'
  grind
 rcases unit_pm ht with rfl | rfl
 ·omega
 ·unfold Pos3 at p p'
  omega
theorem low_ok {x y z d:Int} (hd:d ≠ 0) (hx:d ∣ x) (hy:d ∣ y) (hz:d ∣ z) (hb:∃ u v w:Int,u*x+v*y+w*z=d):One3 (x.fdiv d) (y.fdiv d) (z.fdiv d)/\x=d*x.fdiv d/\y=d*y.fdiv d/\z=d*z.fdiv d:=by
 obtain ⟨x',rfl⟩:=hx
 obtain ⟨y',rfl⟩:=hy
 obtain ⟨z',rfl⟩:=hz
 obtain ⟨u,v,w,e⟩:=hb
 rw [Int.mul_fdiv_cancel_left _ hd,Int.mul_fdiv_cancel_left _ hd,Int.mul_fdiv_cancel_left _ hd]
 refine ⟨⟨u,v,w,?_⟩,rfl,rfl,rfl⟩
 have:d*(u*x'+v*y'+w*z')=d*1:=by grind
 exact Int.eq_of_mul_eq_mul_left hd this
end Lw
namespace Sm
theorem BP.mono' {j k:Nat} {P:P3} (h:BP j P) (hk:j<=k:=by omega):BP k P:=h.mono hk
theorem BF.mono {j k:Nat} {F:F6} (h:BF j F) (hk:j<=k:=by omega):BF k F:=⟨h.a.mono hk,h.b.mono hk,h.c.mono hk,h.d.mono hk,h.e.mono hk,h.f.mono hk⟩
theorem BT.mono {j k:Nat} {t:T3} (h:BT j t) (hk:j<=k:=by omega):BT k t:=⟨h.r0.mono hk,h.r1.mono hk,h.r2.mono hk⟩
end Sm
namespace Pn
open Sm Lw
def sz (Q:F6):Int:=4*Q.a*Q.b*Q.c+Q.d*Q.e*Q.f - Q.a*Q.d*Q.d - Q.b*Q.e*Q.e - Q.c*Q.f*Q.f
def fm (t:T3) (c:Int):F6:=
 ⟨c*(t.r0.x*t.r2.x - t.r1.x*t.r1.x),c*(t.r0.y*t.r2.y - t.r1.y*t.r1.y),c*(t.r0.z*t.r2.z - t.r1.z*t.r1.z),
  c*(t.r0.y*t.r2.z+t.r0.z*t.r2.y - 2*t.r1.y*t.r1.z),c*(t.r0.x*t.r2.z+t.r0.z*t.r2.x - 2*t.r1.x*t.r1.z),c*(t.r0.x*t.r2.y+t.r0.y*t.r2.x - 2*t.r1.x*t.r1.y)⟩
theorem sz_fm (t:T3) (c:Int):sz (fm t c)=c*c*c*(me t*me t):=by
 simp only [sz,fm,me,cr,rp]
 grind
theorem wo_fm (t:T3) (c:Int) (P:P3):wo (fm t c) P=c*(rp t.r0 P*rp t.r2 P - rp t.r1 P*rp t.r1 P):=by
 simp only [wo,fm,rp]
 grind
def sp1 (s u:Int) (p q r:Int):Int:=s*s*p+s*u*q+u*u*r
def sp (t:T3) (s u:Int):P3:=
 ⟨sp1 s u (cr t.r1 t.r2).x (cr t.r2 t.r0).x (cr t.r0 t.r1).x,sp1 s u (cr t.r1 t.r2).y (cr t.r2 t.r0).y (cr t.r0 t.r1).y,sp1 s u (cr t.r1 t.r2).z (cr t.r2 t.r0).z (cr t.r0 t.r1).z⟩
theorem sp_r0 (t:T3) (s u:Int):rp t.r0 (sp t s u)=s*s*me t:=by
 simp only [sp,sp1,me,cr,rp]
 grind
theorem sp_r1 (t:T3) (s u:Int):rp t.r1 (sp t s u)=s*u*me t:=by
 simp only [sp,sp1,me,cr,rp]
 grind
theorem sp_r2 (t:T3) (s u:Int):rp t.r2 (sp t s u)=u*u*me t:=by
 simp only [sp,sp1,me,cr,rp]
 grind
theorem wo_sp (t:T3) (c s u:Int):wo (fm t c) (sp t s u)=0:=by
 rw [wo_fm,sp_r0,sp_r1,sp_r2]
 grind
def N3 (P:P3):Prop:=P.x ≠ 0\/P.y ≠ 0\/P.z ≠ 0
theorem rp_zero {r P:P3} (h:¬ N3 P):rp r P=0:=by
 unfold N3 at h
 have h1:P.x=0:=by omega
 have h2:P.y=0:=by omega
 have h3:P.z=0:=by omega
 unfold rp
 rw [h1,h2,h3]
 omega
theorem sp_nz {t:T3} {s u:Int} (ht:me t ≠ 0) (h:s ≠ 0\/u ≠ 0):N3 (sp t s u):=by
 apply Classical.byContradiction
 intro c
 have h0:=sp_r0 t s u
 have h2:=sp_r2 t s u
 rw [rp_zero c] at h0 h2
 rcases h with h | h
 ·rcases Int.mul_eq_zero.mp h0.symm with w | w
  ·rcases Int.mul_eq_zero.mp w with w | w <;> exact h w
  ·exact ht w
 ·rcases Int.mul_eq_zero.mp h2.symm with w | w
  ·rcases Int.mul_eq_zero.mp w with w | w <;> exact h w
  ·exact ht w
def tm (d:Int) (P:P3):P3:=⟨d*P.x,d*P.y,d*P.z⟩
theorem wo_tm (Q:F6) (d:Int) (P:P3):wo Q (tm d P)=d*d*wo Q P:=by
 simp only [wo,tm]
 grind
theorem wo_of_tm {Q:F6} {d:Int} {P:P3} (hd:d ≠ 0) (h:wo Q (tm d P)=0):wo Q P=0:=by
 rw [wo_tm] at h
 rcases Int.mul_eq_zero.mp h with w | w
 ·rcases Int.mul_eq_zero.mp w with w | w <;> exact absurd w hd
 ·exact w
def ad (P R:P3):P3:=⟨P.x+R.x,P.y+R.y,P.z+R.z⟩
theorem wo_ad (Q:F6) (P R:P3):wo Q (ad P R) - wo Q P - wo Q R=bl Q P R:=by
 simp only [wo,ad,bl,tb,sl,rp]
 grind
theorem bl_comm (Q:F6) (P R:P3):bl Q P R=bl Q R P:=by
 simp only [bl,tb,sl,rp]
 grind
theorem sl_cr (Q:F6) (P R:P3):tb (sl Q) (cr (tb (sl Q) P) (tb (sl Q) R))=tm (2*sz Q) (cr P R):=by
 simp only [tb,sl,cr,rp,tm,sz,P3.mk.injEq]
 refine ⟨?_,?_,?_⟩ <;> grind
theorem along_cr {u P R:P3} (h1:rp u P=0) (h2:rp u R=0):cr u (cr P R)=⟨0,0,0⟩:=by
 have e:cr u (cr P R)=⟨P.x*rp u R - R.x*rp u P,P.y*rp u R - R.y*rp u P,P.z*rp u R - R.z*rp u P⟩:=by
  simp only [cr,rp,P3.mk.injEq]
  refine ⟨?_,?_,?_⟩ <;> grind
 rw [e,h1,h2]
 simp
theorem mul_cancel {a b:Int} (h:a*b=0) (ha:a ≠ 0):b=0:=by
 rcases Int.mul_eq_zero.mp h with w | w
 ·exact absurd w ha
 ·exact w
theorem cr_along {u v w:P3} (n:N3 w) (h1:cr u w=⟨0,0,0⟩) (h2:cr v w=⟨0,0,0⟩):cr u v=⟨0,0,0⟩:=by
 simp only [cr,P3.mk.injEq] at *
 obtain ⟨a1,a2,a3⟩:=h1
 obtain ⟨b1,b2,b3⟩:=h2
 rcases n with n | n | n
 ·refine ⟨mul_cancel (a:=w.x) ?_ n,mul_cancel (a:=w.x) ?_ n,mul_cancel (a:=w.x) ?_ n⟩ <;> grind
 ·refine ⟨mul_cancel (a:=w.y) ?_ n,mul_cancel (a:=w.y) ?_ n,mul_cancel (a:=w.y) ?_ n⟩ <;> grind
 ·refine ⟨mul_cancel (a:=w.z) ?_ n,mul_cancel (a:=w.z) ?_ n,mul_cancel (a:=w.z) ?_ n⟩ <;> grind
theorem no_line {Q:F6} {P D:P3} (hs:sz Q ≠ 0) (n:N3 (cr P D)) (h1:wo Q P=0) (h2:wo Q D=0) (h3:bl Q P D=0):False:=by
 have pp:rp (tb (sl Q) P) P=0:=by
  have:=wo_two Q P
  unfold bl at this
  omega
 have pd:rp (tb (sl Q) P) D=0:=h3
 have dd:rp (tb (sl Q) D) D=0:=by
  have:=wo_two Q D
  unfold bl at this
  omega
 have dp:rp (tb (sl Q) D) P=0:=by
  have:=bl_comm Q D P
  unfold bl at this h3
  omega
 have c0:=cr_along n (along_cr pp pd) (along_cr dp dd)
 have e:=sl_cr Q P D
 rw [c0] at e
 simp only [tb,rp,tm,P3.mk.injEq] at e
 obtain ⟨e1,e2,e3⟩:=e
 rcases n with n | n | n
 ·exact n (mul_cancel (a:=2*sz Q) (by rw [<- e1]; simp) (by omega))
 ·exact n (mul_cancel (a:=2*sz Q) (by rw [<- e2]; simp) (by omega))
 ·exact n (mul_cancel (a:=2*sz Q) (by rw [<- e3]; simp) (by omega))
def dr (P:P3) (m n:Int):P3:=if P.z ≠ 0 then ⟨m,n,0⟩ else if P.y ≠ 0 then ⟨m,0,n⟩ else ⟨0,m,n⟩
theorem dr_off {P:P3} {m n:Int} (hP:N3 P) (h:m ≠ 0\/n ≠ 0):N3 (cr P (dr P m n)):=by
 have k:∀ {a b:Int},a ≠ 0->b ≠ 0->a*b ≠ 0:=fun ha hb z=>hb (mul_cancel z ha)
 unfold dr
 unfold N3 at *
 by_cases c1:P.z=0
 ·rw [if_neg (by omega)]
  by_cases c2:P.y=0
  ·rw [if_neg (by omega)]
   have px:P.x ≠ 0:=by omega
   simp only [cr]
   rcases h with h | h
   ·right; right
    have:=k px h
    rw [c2]
    omega
   ·right; left
    have:=k px h
    rw [c1]
    omega
  ·rw [if_pos c2]
   simp only [cr]
   rcases h with h | h
   ·right; right
    have:=k c2 h
    omega
   ·left
    have:=k c2 h
    rw [c1]
    omega
 ·rw [if_pos c1]
  simp only [cr]
  rcases h with h | h
  ·right; left
   have:=k c1 h
   omega
  ·left
   have:=k c1 h
   omega
def mk (Q:F6) (P D:P3):P3:=ad (tm (wo Q D) P) (tm (-(bl Q P D)) D)
theorem mk_nz {Q:F6} {P D:P3} (hs:sz Q ≠ 0) (n:N3 (cr P D)) (h:wo Q P=0):N3 (mk Q P D):=by
 apply Classical.byContradiction
 intro c
 have c1:(mk Q P D).x=0/\(mk Q P D).y=0/\(mk Q P D).z=0:=by unfold N3 at c; omega
 have w:wo Q D=0/\bl Q P D=0:=by
  generalize hi:wo Q D=i at *
  generalize hj:bl Q P D=j at *
  unfold mk at c1
  rw [hi,hj] at c1
  simp only [ad,tm] at c1
  obtain ⟨e1,e2,e3⟩:=c1
  simp only [N3,cr] at n
  rcases n with n | n | n
  ·exact ⟨mul_cancel (a:=P.y*D.z - P.z*D.y) (by grind) n,mul_cancel (a:=P.y*D.z - P.z*D.y) (by grind) n⟩
  ·exact ⟨mul_cancel (a:=P.z*D.x - P.x*D.z) (by grind) n,mul_cancel (a:=P.z*D.x - P.x*D.z) (by grind) n⟩
  ·exact ⟨mul_cancel (a:=P.x*D.y - P.y*D.x) (by grind) n,mul_cancel (a:=P.x*D.y - P.y*D.x) (by grind) n⟩
 exact no_line hs n h w.1 w.2
def L3 (P:P3):Prop:=One3 P.x P.y P.z/\Pos3 P.x P.y P.z
theorem L3.n3 {P:P3} (h:L3 P):N3 P:=by
 have:=h.2
 unfold Pos3 at this
 unfold N3
 omega
theorem P3.ext' {P R:P3} (h:P.x=R.x/\P.y=R.y/\P.z=R.z):P=R:=by
 cases P; cases R
 simp only at h
 obtain ⟨rfl,rfl,rfl⟩:=h
 rfl
instance:DecidableEq P3:=fun P R=>decidable_of_iff (P.x=R.x/\P.y=R.y/\P.z=R.z) ⟨P3.ext',fun h=>by subst h; exact ⟨rfl,rfl,rfl⟩⟩
theorem low_uniq {P R:P3} (hP:L3 P) (hR:L3 R) (h:cr P R=⟨0,0,0⟩):P=R:=by
 simp only [cr,P3.mk.injEq] at h
 obtain ⟨e1,e2,e3⟩:=h
 exact P3.ext' (uniq hP.1 hR.1 hP.2 hR.2 ⟨by omega,by omega,by omega⟩)
theorem low_tm {P R:P3} {d e:Int} (hP:L3 P) (hR:L3 R) (hd:d ≠ 0) (h:tm d P=tm e R):P=R:=by
 simp only [tm,P3.mk.injEq] at h
 obtain ⟨e1,e2,e3⟩:=h
 refine low_uniq hP hR ?_
 simp only [cr,P3.mk.injEq]
 refine ⟨mul_cancel (a:=d) ?_ hd,mul_cancel (a:=d) ?_ hd,mul_cancel (a:=d) ?_ hd⟩ <;> grind
def ax (P:P3):P3:=if P.z ≠ 0 then ⟨0,0,1⟩ else if P.y ≠ 0 then ⟨0,1,0⟩ else ⟨1,0,0⟩
def ln (Q:F6) (P R:P3):P3:=if R=P then tb (sl Q) P else cr P R
theorem n3_not {P:P3} (h:¬ N3 P):P=⟨0,0,0⟩:=by
 unfold N3 at h
 exact P3.ext' ⟨by show P.x=0; omega,by show P.y=0; omega,by show P.z=0; omega⟩
theorem ln_nz {Q:F6} {P R:P3} (hs:sz Q ≠ 0) (hP:L3 P) (hR:L3 R):N3 (ln Q P R):=by
 apply Classical.byContradiction
 intro c
 have c0:=n3_not c
 unfold ln at c0
 by_cases h:R=P
 ·rw [if_pos h] at c0
  have n:=dr_off (P:=P) (m:=1) (n:=0) hP.n3 (.inl (by decide))
  generalize dr P 1 0=D at n
  have e:=sl_cr Q P D
  rw [c0] at e
  have z:cr ⟨0,0,0⟩ (tb (sl Q) D)=⟨0,0,0⟩:=by
   simp only [cr,P3.mk.injEq]
   refine ⟨?_,?_,?_⟩ <;> omega
  rw [z] at e
  have z2:tb (sl Q) ⟨0,0,0⟩=⟨0,0,0⟩:=by
   simp [tb,rp]
  rw [z2] at e
  simp only [tm,P3.mk.injEq] at e
  obtain ⟨e1,e2,e3⟩:=e
  rcases n with n | n | n
  ·exact n (mul_cancel e1.symm (by omega))
  ·exact n (mul_cancel e2.symm (by omega))
  ·exact n (mul_cancel e3.symm (by omega))
 ·rw [if_neg h] at c0
  exact h (low_uniq hP hR c0).symm
theorem ln_P {Q:F6} {P R:P3} (on:wo Q P=0):rp (ln Q P R) P=0:=by
 unfold ln
 split
 ·have:=wo_two Q P
  unfold bl at this
  omega
 ·simp only [rp,cr]
  grind
theorem ax_off {l P:P3} (hP:N3 P) (hl:N3 l) (h:rp l P=0):N3 (cr l (ax P)):=by
 apply Classical.byContradiction
 intro c
 have c0:=n3_not c
 unfold ax at c0
 unfold N3 at hP hl
 by_cases c1:P.z=0
 ·rw [if_neg (by omega)] at c0
  by_cases c2:P.y=0
  ·rw [if_neg (by omega)] at c0
   simp only [cr,P3.mk.injEq] at c0
   have hy:l.y=0:=by omega
   have hz:l.z=0:=by omega
   have hx:P.x*l.x=0:=by
    simp only [rp] at h
    rw [hy,hz] at h
    grind
   have:=mul_cancel hx (by omega)
   omega
  ·rw [if_pos c2] at c0
   simp only [cr,P3.mk.injEq] at c0
   have hx:l.x=0:=by omega
   have hz:l.z=0:=by omega
   have hy:P.y*l.y=0:=by
    simp only [rp] at h
    rw [hx,hz] at h
    grind
   have:=mul_cancel hy c2
   omega
 ·rw [if_pos c1] at c0
  simp only [cr,P3.mk.injEq] at c0
  have hx:l.x=0:=by omega
  have hy:l.y=0:=by omega
  have hz:P.z*l.z=0:=by
   simp only [rp] at h
   rw [hx,hy] at h
   grind
  have:=mul_cancel hz c1
  omega
def nm1 (P D:P3):Int:=if P.z ≠ 0 then D.x else if P.y ≠ 0 then D.x else D.y
def nm2 (P D:P3):Int:=if P.z ≠ 0 then D.y else D.z
structure Rgt (F:F6) (P D R:P3):Prop where
 (low:L3 R) (on:wo F R=0) (ln:rp (cr P D) R=0) (same:R=P ↔ bl F P D=0)
theorem on_line {P D R:P3} (n:N3 (cr P D)) (h:rp (cr P D) R=0):∃ k i j:Int,k ≠ 0/\tm k R=ad (tm i P) (tm j D):=by
 simp only [rp,cr] at h
 unfold N3 at n
 simp only [cr] at n
 rcases n with n | n | n
 ·refine ⟨_,R.y*D.z - R.z*D.y,P.y*R.z - P.z*R.y,n,?_⟩
  simp only [tm,ad,P3.mk.injEq]
  refine ⟨?_,?_,?_⟩ <;> grind
 ·refine ⟨_,R.z*D.x - R.x*D.z,P.z*R.x - P.x*R.z,n,?_⟩
  simp only [tm,ad,P3.mk.injEq]
  refine ⟨?_,?_,?_⟩ <;> grind
 ·refine ⟨_,R.x*D.y - R.y*D.x,P.x*R.y - P.y*R.x,n,?_⟩
  simp only [tm,ad,P3.mk.injEq]
  refine ⟨?_,?_,?_⟩ <;> grind
theorem wo_mix (Q:F6) (P D:P3) (i j:Int):wo Q (ad (tm i P) (tm j D))=i*i*wo Q P+i*j*bl Q P D+j*j*wo Q D:=by
 simp only [wo,ad,tm,bl,tb,sl,rp]
 grind
end Pn
namespace Pn
open Sm Lw
def nzb (P:P3):Bool:=decide (P.x ≠ 0) || (decide (P.y ≠ 0) || decide (P.z ≠ 0))
theorem nzb_iff {P:P3}:nzb P=true ↔ N3 P:=by
 unfold nzb N3
 simp
def crs (ls os:List P3):List P3:=ls.flatMap fun l=>os.map (cr l)
def axs:List P3:=[⟨1,0,0⟩,⟨0,1,0⟩,⟨0,0,1⟩]
def sls (Q:F6):List P3:=[(sl Q).r0,(sl Q).r1,(sl Q).r2]
def vxs (Q:F6):List P3:=crs (sls Q) (sls Q) ++ crs (sls Q) axs ++ crs axs axs
def O3:P3:=⟨0,0,0⟩
theorem of_not {l:List P3} (h:l.filter nzb=[]) {P:P3} (hP:P ∈ l):P=⟨0,0,0⟩:=by
 refine n3_not fun n=>?_
 have:P ∈ l.filter nzb:=List.mem_filter.mpr ⟨hP,nzb_iff.mpr n⟩
 rw [h] at this
 cases this
theorem head_of {l m:List P3} {v:P3} (h:((l ++ m).filter nzb).head?=some v):v ∈ l.filter nzb\/(l.filter nzb=[]/\(m.filter nzb).head?=some v):=by
 rw [List.filter_append] at h
 cases e:l.filter nzb with
 | nil=>
  rw [e] at h
  exact .inr ⟨rfl,h⟩
 | cons a t=>
  rw [e] at h
  have:a=v:=Option.some.inj h
  subst this
  exact .inl (List.mem_cons_self ..)
theorem mem_crs {ls os:List P3} {v:P3}:v ∈ crs ls os ↔ ∃ l ∈ ls,∃ o ∈ os,cr l o=v:=by
 unfold crs
 simp [List.mem_flatMap]
theorem tb_sls {Q:F6} {v:P3} (h:∀ l ∈ sls Q,rp l v=0):tb (sl Q) v=⟨0,0,0⟩:=by
 unfold sls at h
 simp only [tb,P3.mk.injEq]
 exact ⟨h _ (by simp),h _ (by simp),h _ (by simp)⟩
theorem sls_three {Q:F6} (hs:sz Q=0):∀ k ∈ sls Q,∀ l ∈ sls Q,∀ m ∈ sls Q,rp k (cr l m)=0:=by
 have d:me (sl Q)=2*sz Q:=by
  simp only [me,sl,cr,rp,sz]
  grind
 rw [hs] at d
 unfold me at d
 unfold sls
 generalize (sl Q).r0=a at *
 generalize (sl Q).r1=b at *
 generalize (sl Q).r2=c at *
 simp only [rp,cr] at d
 intro k hk l hl m hm
 simp only [List.mem_cons,List.not_mem_nil,or_false] at hk hl hm
 simp only [rp,cr]
 rcases hk with rfl | rfl | rfl <;> rcases hl with rfl | rfl | rfl <;> rcases hm with rfl | rfl | rfl <;> grind
theorem vert {Q:F6} (hs:sz Q=0) {v:P3} (h:((vxs Q).filter nzb).head?=some v):N3 v/\tb (sl Q) v=⟨0,0,0⟩:=by
 have nv:N3 v:=by
  have:v ∈ (vxs Q).filter nzb:=List.mem_of_head? h
  exact nzb_iff.mp (List.mem_filter.mp this).2
 refine ⟨nv,?_⟩
 unfold vxs at h
 rw [List.append_assoc] at h
 rcases head_of h with h | ⟨z1,h⟩
 ·obtain ⟨l,hl,o,ho,rfl⟩:=mem_crs.mp (List.mem_filter.mp h).1
  exact tb_sls fun k hk=>sls_three hs k hk l hl o ho
 rcases head_of h with h | ⟨z2,h⟩
 ·obtain ⟨l,hl,o,ho,rfl⟩:=mem_crs.mp (List.mem_filter.mp h).1
  refine tb_sls fun k hk=>?_
  have z:=of_not z1 (mem_crs.mpr ⟨k,hk,l,hl,rfl⟩)
  have e:rp k (cr l o)=rp (cr k l) o:=by
   simp only [rp,cr]
   grind
  rw [e,z]
  simp [rp]
 ·refine tb_sls fun k hk=>?_
  have a1:=of_not z2 (mem_crs.mpr ⟨k,hk,⟨1,0,0⟩,by simp [axs],rfl⟩)
  have a2:=of_not z2 (mem_crs.mpr ⟨k,hk,⟨0,1,0⟩,by simp [axs],rfl⟩)
  simp only [cr,P3.mk.injEq] at a1 a2
  have x0:k.x=0:=by omega
  have y0:k.y=0:=by omega
  have z0:k.z=0:=by omega
  simp [rp,x0,y0,z0]
theorem vert_ex (Q:F6):∃ v,((vxs Q).filter nzb).head?=some v:=by
 cases e:(vxs Q).filter nzb with
 | nil=>
  have:=of_not e (P:=⟨0,0,1⟩) (by
   unfold vxs
   exact List.mem_append.mpr (.inr (mem_crs.mpr ⟨⟨1,0,0⟩,by simp [axs],⟨0,1,0⟩,by simp [axs],rfl⟩)))
  simp at this
 | cons a t=>exact ⟨a,rfl⟩
theorem vx_bp {Q:F6} {k:Nat} (h:BF k Q) {v:P3} (hv:v ∈ vxs Q):BP (2*k+3) v:=by
 have bc:∀ {j i:Nat} {r s:P3},BP j r->BP i s->BP (j+i+1) (cr r s):=fun h p=>⟨(h.y.mul p.z).sub (h.z.mul p.y),(h.z.mul p.x).sub (h.x.mul p.z),(h.x.mul p.y).sub (h.y.mul p.x)⟩
 have b2:∀ {x:Int},Bd k x->Bd (k+1) (2*x):=fun {x} h=>by
  have:=h.add h
  rw [show x+x=2*x by omega] at this
  exact this
 have bs:∀ l ∈ sls Q,BP (k+1) l:=fun l hl=>by
  unfold sls sl at hl
  simp only [List.mem_cons,List.not_mem_nil,or_false] at hl
  rcases hl with rfl | rfl | rfl
  ·exact ⟨b2 h.a,h.f.mono (by omega),h.e.mono (by omega)⟩
  ·exact ⟨h.f.mono (by omega),b2 h.b,h.d.mono (by omega)⟩
  ·exact ⟨h.e.mono (by omega),h.d.mono (by omega),b2 h.c⟩
 have b0:Bd 0 0:=by unfold Bd; decide
 have b1:Bd 0 1:=by unfold Bd; decide
 have ba:∀ l ∈ axs,BP 0 l:=fun l hl=>by
  unfold axs at hl
  simp only [List.mem_cons,List.not_mem_nil,or_false] at hl
  rcases hl with rfl | rfl | rfl
  ·exact ⟨b1,b0,b0⟩
  ·exact ⟨b0,b1,b0⟩
  ·exact ⟨b0,b0,b1⟩
 unfold vxs at hv
 rcases List.mem_append.mp hv with hv | hv
 ·rcases List.mem_append.mp hv with hv | hv
  ·obtain ⟨l,hl,o,ho,rfl⟩:=mem_crs.mp hv
   exact (bc (bs l hl) (bs o ho)).mono (by omega)
  ·obtain ⟨l,hl,o,ho,rfl⟩:=mem_crs.mp hv
   exact (bc (bs l hl) (ba o ho)).mono (by omega)
 ·obtain ⟨l,hl,o,ho,rfl⟩:=mem_crs.mp hv
  exact (bc (ba l hl) (ba o ho)).mono (by omega)
end Pn
namespace Pn
open Sm Lw
def cb (P D E:P3) (i j k:Int):P3:=ad (tm i P) (ad (tm j D) (tm k E))
def md (Q:F6) (P:P3):P3:=ad (mk Q P (dr P 1 1)) (tm (-1) (ad (mk Q P (dr P 1 0)) (mk Q P (dr P 0 1))))
def sd (Q:F6) (P:P3):T3:=⟨mk Q P (dr P 1 0),md Q P,mk Q P (dr P 0 1)⟩
def sc (Q:F6) (P:P3):Int:=bl Q (sd Q P).r0 (sd Q P).r2
end Pn
namespace Pr
def NoDiv (x d:Int):Prop:=∀ k,2<=k->k < d->¬ k ∣ x
structure Prm (p:Int):Prop where
 two:2<=p
 no:∀ k,2<=k->k*k<=p->¬ k ∣ p
def prodP:List (Int × Int)->Int
 | []=>1
 | x :: r=>x.1^x.2.toNat*prodP r
structure Part (x:Int × Int):Prop where
 prime:Prm x.1
 often:1<=x.2
structure Told (n:Int) (xs:List (Int × Int)):Prop where
 all:∀ x ∈ xs,Part x
 rise:xs.Pairwise fun x y=>x.1 < y.1
 prod:prodP xs=n
structure Out (n left d:Int) (xs:List (Int × Int)):Prop where
 all:∀ x ∈ xs,Part x
 rise:xs.Pairwise fun x y=>x.1 < y.1
 below:∀ x ∈ xs,x.1 < d
 prod:prodP xs*left=n
 no:NoDiv left d
 odd:d=2\/d % 2=1
structure Inn (left₀ d left often:Int):Prop where
 eq:left₀=d^often.toNat*left
def coreP:List (Int × Int)->Int
 | []=>1
 | x :: r=>(if x.2 % 2=1 then x.1 else 1)*coreP r
def rootP:List (Int × Int)->Int
 | []=>1
 | x :: r=>x.1^(x.2 / 2).toNat*rootP r
end Pr
namespace Jc
def S (f:Nat->Nat):Nat->Nat
 | 0=>0
 | m+1=>S f m+f (m+1)
def e (a n k:Nat):Nat:=if n < 2*(a*k % n) then 1 else 0
def pi (a n k:Nat):Nat:=if n < 2*(a*k % n) then n - a*k % n else a*k % n
def mu (a n:Nat):Nat:=S (e a n) (n / 2)
structure Ok (a n:Nat):Prop where
 odd:n % 2=1
 cop:Nat.gcd a n=1
def sg (k:Nat):Int:=if k % 2=0 then 1 else -1
def jac (a n:Nat):Int:=if Nat.gcd a n=1 then sg (mu a n) else 0
def two (n:Nat):Int:=if n % 8=3\/n % 8=5 then -1 else 1
def turn (a n:Nat):Int:=if a % 4=3/\n % 4=3 then -1 else 1
end Jc
namespace Jc
@[irreducible] def J (x n:Int):Int:=jac (x % n).toNat n.toNat
def twoI (n:Int):Int:=if n % 8=3\/n % 8=5 then -1 else 1
def turnI (a n:Int):Int:=if a % 4=3/\n % 4=3 then -1 else 1
def GG (a b:Int):Nat:=Nat.gcd (a % b).toNat b.toNat
end Jc
namespace Jc
structure Dec (x p l o:Int):Prop where
 eq:x=p^o.toNat*l
 o0:0<=o
 nd:¬ p ∣ l
def odd4 (p o1 l1 o2 l2:Int):Int:=if o1 % 2=1 then (if o2 % 2=1 then J (-l1*l2) p else J l2 p) else (if o2 % 2=1 then J l1 p else 1)
def two4 (o1 l1 o2 l2:Int):Int:=turnI l1 l2*(if o1 % 2=1 then twoI l2 else 1)*(if o2 % 2=1 then twoI l1 else 1)
def hs (p o1 l1 o2 l2:Int):Int:=if p=2 then two4 o1 l1 o2 l2 else odd4 p o1 l1 o2 l2
end Jc
namespace Jc
def anyZ (p n M c b yp:Nat):Nat->Bool
 | 0=>false
 | z+1=>bif anyZ p n M c b yp z then true else bif Nat.ble 1 (yp+z % p) then Nat.testBit M ((c+b*z*z) % n) else false
def anyY (p n M a b k:Nat):Nat->Bool
 | 0=>false
 | y+1=>bif anyY p n M a b k y then true else anyZ p n M (a*y*y) b (y % p) k
def fits (p n M a b:Nat):Bool:=anyY p n M a b (n / 2+1) (n / 2+1)
def ordR (p r:Nat):Int:=if r % p=0 then 1 else 0
def unitR (p r:Nat):Int:=if r % p=0 then (r / p:Nat) else (r:Nat)
def hsR (p ra rb:Nat):Int:=hs p (ordR p ra) (unitR p ra) (ordR p rb) (unitR p rb)
def maskOk (n M:Nat):Bool:=(List.range n).all fun r=>Nat.testBit M r == (List.range n).any fun x=>x*x % n == r
def chkR (p n M ra rb:Nat):Bool:=bif (ra % (p*p) == 0 || rb % (p*p) == 0) then true else bif fits p n M ra rb then decide (hsR p ra rb=1) else decide (hsR p ra rb=-1)
def chkP (p n M:Nat):Bool:=(List.range n).all fun ra=>(List.range n).all fun rb=>chkR p n M ra rb
def FitsR (a b:Int) (p n:Nat):Prop:=∃ y z:Nat,y < n/\z < n/\1<=y % p+z % p/\∃ x:Nat,x < n/\(x:Int)*x % n=(a*y*y+b*z*z) % n
end Jc
namespace Jc
end Jc
namespace Jc
open Pr (Prm)
end Jc
namespace Pw
@[irreducible] def PM (x:Int) (k:Nat) (n:Int):Int:=x^k % n
end Pw
namespace Jc
open Pr (Prm)
def PN (f:Nat->Nat):Nat->Nat
 | 0=>1
 | m+1=>PN f m*f (m+1)
end Jc
namespace Pl
open Jc
def PL:List Nat:=[3,5,7,11,13,17,19,23,29,31,37,41,43,47,53,59,61,67,71,73,79,83,89,97,101,103,107,211,307,499,997]
def chkQ (p:Nat):Bool:=(List.range p).all fun x=>(List.range (p / 2+1)).any (fun r=>r*r % p == x) || x^(p / 2) % p == p - 1
def F27 (a b c:Nat):Bool:=[0,1,4].any fun x=>[0,1,4].any fun y=>[0,1,4].any fun z=>(x == 1 || y == 1 || z == 1) && (a*x+b*y+c*z) % 8 == 0
def adm (a b c:Nat):Bool:=(a % 4 != 0) && (b % 4 != 0) && (c % 4 != 0) && !(a % 2 == 0 && b % 2 == 0) && !(b % 2 == 0 && c % 2 == 0) && !(c % 2 == 0 && a % 2 == 0)
def chk2 (a b c:Nat):Bool:=!(adm a b c) || (decide (hsR 2 ((16 - a)*c % 16) ((16 - b)*c % 16)=-1) == !(F27 a b c))
end Pl
namespace Pl
open Pr (Prm Told)
open Jc
structure Pln (a b c:Int):Prop where
 a0:a ≠ 0
 b0:b ≠ 0
 c0:c ≠ 0
 sa:∀ p,Prm p->¬ p*p ∣ a
 sb:∀ p,Prm p->¬ p*p ∣ b
 sc:∀ p,Prm p->¬ p*p ∣ c
 ab:∀ p,Prm p->p ∣ a->¬ p ∣ b
 bc:∀ p,Prm p->p ∣ b->¬ p ∣ c
 ca:∀ p,Prm p->p ∣ c->¬ p ∣ a
def Rt (x p:Int):Prop:=∃ r:Int,p ∣ r*r - x
def Fit8 (a b c:Int):Prop:=∃ x y z:Int,(x % 2=1\/y % 2=1\/z % 2=1)/\(a*x*x+b*y*y+c*z*z) % 8=0
def Bad (a b c x:Int):Prop:=(x=0/\((a < 0/\b < 0/\c < 0)\/(0 < a/\0 < b/\0 < c)))\/(x=2/\¬ Fit8 a b c) \/
 (Prm x/\x ≠ 2/\((x ∣ a/\¬ Rt (-(b*c)) x)\/(x ∣ b/\¬ Rt (-(c*a)) x)\/(x ∣ c/\¬ Rt (-(a*b)) x)))
end Pl
namespace Jc
open Pr (Prm)
def noDivs (p:Nat) (m:Nat):Bool:=(List.range m).all fun k=>Nat.ble k 1 || !(p % k == 0)
end Jc
namespace Jc
open Pr (Prm)
def HS (p a b v:Int):Prop:=∃ l1 o1 l2 o2,Dec a p l1 o1/\Dec b p l2 o2/\v=hs p o1 l1 o2 l2
open Classical in
noncomputable def H (p a b:Int):Int:=if h:∃ v,HS p a b v then choose h else 1
def inf (a b:Int):Int:=if a < 0/\b < 0 then -1 else 1
def PP (f:Int->Int):List Int->Int
 | []=>1
 | p :: L=>f p*PP f L
noncomputable def W (L:List Int) (a b:Int):Int:=inf a b*PP (fun p=>H p a b) L
section
variable {L:List Int}
end
end Jc
namespace Jc
open Pr (Prm)
noncomputable def At0 (a b x:Int):Int:=if x=0 then inf a b else H x a b
def BadJ (a b c x:Int):Prop:=(x=0/\((a < 0/\b < 0/\c < 0)\/(0 < a/\0 < b/\0 < c)))\/(x=2/\¬ Pl.Fit8 a b c) \/
 (Prm x/\x ≠ 2/\((x ∣ a/\J (-(b*c)) x=-1)\/(x ∣ b/\J (-(c*a)) x=-1)\/(x ∣ c/\J (-(a*b)) x=-1)))
end Jc
namespace Jc
open Pr (Prm)
def Df (f:Int->Int):Int->Int:=fun x=>f (x+1) - f x
def Dg:Nat->Int->(Int->Int)->Prop
 | 0,c,f=>∀ x,f x=c
 | k+1,c,f=>Dg k (((k:Int)+1)*c) (Df f)
end Jc
namespace Jc
open Pr (Prm)
structure Sf (n:Int):Prop where
 n0:n ≠ 0
 sq:∀ p,Prm p->¬ p*p ∣ n
section
variable {a b p x y z:Int}
end
structure Good (a b:Int):Prop where
 a0:a ≠ 0
 b0:b ≠ 0
 i:inf a b=1
 h:∀ p,Prm p->H p a b=1
end Jc
namespace Pn
open Sm Lw
def offs (ps:List P3):List P3:=ps ++ ps.flatMap fun a=>ps.map (ad a)
theorem offs_all {Q:F6} {ps:List P3} (h:∀ v ∈ offs ps,wo Q v=0) {a b:P3} (ha:a ∈ ps) (hb:b ∈ ps):wo Q a=0/\wo Q b=0/\bl Q a b=0:=by
 have h1:=h a (List.mem_append_left _ ha)
 have h2:=h b (List.mem_append_left _ hb)
 have h3:=h (ad a b) (List.mem_append_right _ (List.mem_flatMap.mpr ⟨a,ha,List.mem_map.mpr ⟨b,hb,rfl⟩⟩))
 have h4:=wo_ad Q a b
 exact ⟨h1,h2,by omega⟩
theorem ex_off {Q:F6} {ps:List P3} (h:¬ ∀ v ∈ offs ps,wo Q v=0):∃ v ∈ offs ps,wo Q v ≠ 0:=by
 apply Classical.byContradiction
 intro c
 exact h fun v hv=>Classical.byContradiction fun n=>c ⟨v,hv,n⟩
theorem cr_cr (l a b:P3):cr (cr l a) (cr l b)=tm (rp l (cr a b)) l:=by
 simp only [cr,tm,rp,P3.mk.injEq]
 refine ⟨?_,?_,?_⟩ <;> grind
theorem off_line {Q:F6} {l:P3} (hs:sz Q ≠ 0) (nl:N3 l):∃ v ∈ offs (axs.map (cr l)),wo Q v ≠ 0:=by
 refine ex_off fun h=>?_
 have key:∀ a ∈ axs,∀ b ∈ axs,rp l (cr a b)=0:=fun a ha b hb=>by
  apply Classical.byContradiction
  intro c
  obtain ⟨h1,h2,h3⟩:=offs_all h (List.mem_map.mpr ⟨a,ha,rfl⟩) (List.mem_map.mpr ⟨b,hb,rfl⟩)
  refine no_line hs (P:=cr l a) (D:=cr l b) ?_ h1 h2 h3
  rw [cr_cr]
  rcases nl with n | n | n
  ·exact .inl (Int.mul_ne_zero c n)
  ·exact .inr (.inl (Int.mul_ne_zero c n))
  ·exact .inr (.inr (Int.mul_ne_zero c n))
 have m1:(⟨1,0,0⟩:P3) ∈ axs:=by simp [axs]
 have m2:(⟨0,1,0⟩:P3) ∈ axs:=by simp [axs]
 have m3:(⟨0,0,1⟩:P3) ∈ axs:=by simp [axs]
 have k1:=key _ m1 _ m2
 have k2:=key _ m1 _ m3
 have k3:=key _ m2 _ m3
 simp only [cr,rp] at k1 k2 k3
 unfold N3 at nl
 omega
theorem on_offs {l v:P3} (h:v ∈ offs (axs.map (cr l))):rp l v=0:=by
 have e:∀ a:P3,rp l (cr l a)=0:=fun a=>by
  simp only [rp,cr]
  grind
 have e2:∀ a b:P3,rp l (ad a b)=rp l a+rp l b:=fun a b=>by
  simp only [rp,ad]
  grind
 rcases List.mem_append.mp h with h | h
 ·obtain ⟨a,_,rfl⟩:=List.mem_map.mp h
  exact e a
 ·obtain ⟨x,hx,h⟩:=List.mem_flatMap.mp h
  obtain ⟨y,hy,rfl⟩:=List.mem_map.mp h
  obtain ⟨a,_,rfl⟩:=List.mem_map.mp hx
  obtain ⟨b,_,rfl⟩:=List.mem_map.mp hy
  rw [e2,e,e]
  rfl
structure Crn (Q:F6) (P R S:P3):Prop where
 w1:wo Q P ≠ 0
 w2:wo Q R ≠ 0
 w3:wo Q S ≠ 0
 b12:bl Q P R=0
 b13:bl Q P S=0
 b23:bl Q R S=0
 me0:me ⟨P,R,S⟩ ≠ 0
 prod:4*(wo Q P*wo Q R*wo Q S)=sz Q*me ⟨P,R,S⟩*me ⟨P,R,S⟩
end Pn
namespace Jc
open Pr (Prm)
theorem sq_dvd {A Y:Int} (h:A*A ∣ Y*Y):A ∣ Y:=by
 have h1:=Int.natAbs_dvd_natAbs.mpr h
 rw [Int.natAbs_mul,Int.natAbs_mul] at h1
 have h2:A.natAbs^2 ∣ Y.natAbs^2:=by rw [Nat.pow_two,Nat.pow_two]; exact h1
 exact Int.natAbs_dvd_natAbs.mp ((Nat.pow_dvd_pow_iff (by decide)).mp h2)
structure Gr (g a b:Int):Prop where
 pos:1<=g
 da:g ∣ a
 db:g ∣ b
 all:∀ p,Prm p->p ∣ a->p ∣ b->p ∣ g
end Jc
namespace Pn
open Sm Lw
end Pn
namespace Pn
open Sm Lw
def gq (F:F6) (m:P3):Int:=-((4*F.b*F.c - F.d*F.d)*m.x*m.x+(4*F.a*F.c - F.e*F.e)*m.y*m.y+(4*F.a*F.b - F.f*F.f)*m.z*m.z+2*(F.d*F.e - 2*F.c*F.f)*m.x*m.y+2*(F.f*F.d - 2*F.b*F.e)*m.x*m.z+2*(F.e*F.f - 2*F.a*F.d)*m.y*m.z)
theorem gq_id (F:F6) (u v:P3):bl F u v*bl F u v - 4*(wo F u*wo F v)=gq F (cr u v):=by
 simp only [gq,bl,wo,cr,tb,sl,rp]
 grind
theorem gq_tm (F:F6) (k:Int) (m:P3):gq F (tm k m)=k*k*gq F m:=by
 simp only [gq,tm]
 grind
theorem cr3 (R l T:P3):cr R (cr l T)=ad (tm (rp T R) l) (tm (-(rp l R)) T):=by
 simp only [cr,ad,tm,rp,P3.mk.injEq]
 refine ⟨?_,?_,?_⟩ <;> grind
structure Bas (F:F6) (l R S:P3):Prop where
 w:wo F R ≠ 0
 nl:N3 l
 lR:rp l R=0
 lS:rp l S=0
 b:bl F R S=0
 s:N3 S
 d:∃ d,d ≠ 0/\tm d (cr R S)=tm (2*wo F R) l
theorem tm_nz {k:Int} {P:P3} (hk:k ≠ 0) (h:N3 P):N3 (tm k P):=by
 rcases h with n | n | n
 ·exact .inl (Int.mul_ne_zero hk n)
 ·exact .inr (.inl (Int.mul_ne_zero hk n))
 ·exact .inr (.inr (Int.mul_ne_zero hk n))
theorem n3_tm {k:Int} {P:P3} (h:N3 (tm k P)):k ≠ 0/\N3 P:=by
 unfold N3 tm at *
 simp only at h
 refine ⟨fun z=>?_,?_⟩
 ·subst z; simp at h
 ·rcases h with h | h | h
  ·exact .inl fun z=>h (by rw [z,Int.mul_zero])
  ·exact .inr (.inl fun z=>h (by rw [z,Int.mul_zero]))
  ·exact .inr (.inr fun z=>h (by rw [z,Int.mul_zero]))
theorem pol_cr {F:F6} {l R:P3} (lR:rp l R=0):cr R (cr l (tb (sl F) R))=tm (2*wo F R) l:=by
 have z:=wo_two F R
 unfold bl at z
 rw [cr3,z,lR]
 simp only [ad,tm,P3.mk.injEq]
 refine ⟨?_,?_,?_⟩ <;> omega
theorem pol_nz {F:F6} {l R:P3} (w:wo F R ≠ 0) (nl:N3 l) (lR:rp l R=0):N3 (cr l (tb (sl F) R)):=by
 apply Classical.byContradiction
 intro c
 have h:=pol_cr (F:=F) lR
 have h2:=tm_nz (show 2*wo F R ≠ 0 by omega) nl
 rw [<- h,n3_not c] at h2
 unfold N3 cr at h2
 simp at h2
theorem bas_of {F:F6} {l R S:P3} {d:Int} (w:wo F R ≠ 0) (nl:N3 l) (lR:rp l R=0) (hd:d ≠ 0) (e:cr l (tb (sl F) R)=tm d S):Bas F l R S:=by
 have n:=pol_nz w nl lR
 have h:=pol_cr (F:=F) lR
 rw [e] at n h
 have e1:cr R (tm d S)=tm d (cr R S):=by
  simp only [cr,tm,P3.mk.injEq]
  refine ⟨?_,?_,?_⟩ <;> grind
 have z1:∀ u,rp u (tm d S)=d*rp u S:=fun u=>by
  simp only [rp,tm]
  grind
 refine ⟨w,nl,lR,?_,?_,(n3_tm n).2,d,hd,by rw [<- e1,h]⟩
 ·have:rp l (tm d S)=0:=by
   rw [<- e]
   simp only [rp,cr]
   grind
  rw [z1] at this
  exact mul_cancel this hd
 ·have:rp (tb (sl F) R) (tm d S)=0:=by
   rw [<- e]
   generalize tb (sl F) R=T
   simp only [rp,cr]
   grind
  rw [z1] at this
  exact mul_cancel this hd
def Sqr (g:Int):Prop:=∃ a b,a ≠ 0/\a*a*g=b*b
def sqr (F:F6) (R S:P3):Int:=-(wo F R)*wo F S
theorem Bas.disc {F:F6} {l R S:P3} (B:Bas F l R S):∃ d,d ≠ 0/\d*d*sqr F R S=wo F R*wo F R*gq F l:=by
 obtain ⟨d,hd,e⟩:=B.d
 refine ⟨d,hd,?_⟩
 have h1:=gq_id F R S
 have h2:=gq_tm F d (cr R S)
 rw [e,gq_tm,<- h1,B.b] at h2
 unfold sqr
 grind
def On (F:F6) (l X:P3):Prop:=L3 X/\rp l X=0/\wo F X=0
theorem rp_mix (l R S:P3) (i j:Int):rp l (ad (tm i R) (tm j S))=i*rp l R+j*rp l S:=by
 simp only [rp,ad,tm]
 grind
theorem Bas.ends {F:F6} {l R S:P3} (B:Bas F l R S) {r:Int} (hr:r*r=sqr F R S):N3 (ad (tm r R) (tm (wo F R) S))/\rp l (ad (tm r R) (tm (wo F R) S))=0/\wo F (ad (tm r R) (tm (wo F R) S))=0:=by
 refine ⟨?_,by rw [rp_mix,B.lR,B.lS]; omega,?_⟩
 ·apply Classical.byContradiction
  intro c
  have c0:=n3_not c
  have z:=wo_two F R
  have h1:rp (tb (sl F) R) (ad (tm r R) (tm (wo F R) S))=r*(2*wo F R):=by
   rw [rp_mix]
   have b:=B.b
   unfold bl at z b
   rw [z,b]
   omega
  rw [c0] at h1
  have h2:r*(2*wo F R)=0:=by
   rw [<- h1]
   simp [rp]
  have r0:r=0:=(Int.mul_eq_zero.mp h2).resolve_right (by have:=B.w; omega)
  subst r0
  have:ad (tm 0 R) (tm (wo F R) S)=tm (wo F R) S:=by
   simp only [ad,tm,P3.mk.injEq]
   refine ⟨?_,?_,?_⟩ <;> omega
  rw [this] at c
  exact c (tm_nz B.w B.s)
 ·rw [wo_mix,B.b]
  unfold sqr at hr
  grind
theorem Bas.all {F:F6} {l R S X:P3} (B:Bas F l R S) (h:On F l X):∃ c k j:Int,k ≠ 0/\c*c=sqr F R S/\tm k X=tm j (ad (tm c R) (tm (wo F R) S))/\(bl F R X=0->c=0):=by
 obtain ⟨hX,lX,wX⟩:=h
 obtain ⟨d,hd,e⟩:=B.d
 have nc:N3 (cr R S):=by
  have:=tm_nz (show 2*wo F R ≠ 0 by have:=B.w; omega) B.nl
  rw [<- e] at this
  exact (n3_tm this).2
 have on:rp (cr R S) X=0:=by
  have h1:rp (tm d (cr R S)) X=d*rp (cr R S) X:=by
   simp only [rp,tm]
   grind
  have h2:rp (tm (2*wo F R) l) X=2*wo F R*rp l X:=by
   simp only [rp,tm]
   grind
  rw [e,h2,lX,Int.mul_zero] at h1
  exact mul_cancel h1.symm hd
 obtain ⟨k,i,j,hk,e1⟩:=on_line nc on
 have h1:wo F (tm k X)=0:=by rw [wo_tm,wX,Int.mul_zero]
 rw [e1,wo_mix,B.b] at h1
 have j0:j ≠ 0:=fun z=>by
  subst z
  have h2:i*i*wo F R=0:=by omega
  have h3:i*i=0:=(Int.mul_eq_zero.mp h2).resolve_right B.w
  have i0:i=0:=by rcases Int.mul_eq_zero.mp h3 with h | h <;> exact h
  subst i0
  have:=tm_nz hk hX.n3
  rw [e1] at this
  unfold N3 ad tm at this
  simp at this
 have h2:(i*wo F R)*(i*wo F R)=j*j*sqr F R S:=by
  unfold sqr
  grind
 obtain ⟨c,hc⟩:=Jc.sq_dvd (A:=j) (Y:=i*wo F R) ⟨_,h2⟩
 have h3:c*c=sqr F R S:=by
  rw [hc] at h2
  have h4:j*j*(c*c)=j*j*sqr F R S:=by rw [<- h2]; grind
  exact Int.eq_of_mul_eq_mul_left (Int.mul_ne_zero j0 j0) h4
 refine ⟨c,k*wo F R,j,Int.mul_ne_zero hk B.w,h3,?_,fun hb=>?_⟩
 ·have:tm (k*wo F R) X=tm (wo F R) (tm k X):=by
   simp only [tm,P3.mk.injEq]
   refine ⟨?_,?_,?_⟩ <;> grind
  rw [this,e1]
  simp only [ad,tm,P3.mk.injEq]
  refine ⟨?_,?_,?_⟩ <;> grind
 ·have z:=wo_two F R
  have h5:rp (tb (sl F) R) (tm k X)=i*(2*wo F R):=by
   rw [e1,rp_mix]
   have b:=B.b
   unfold bl at z b
   rw [z,b]
   omega
  have h6:rp (tb (sl F) R) (tm k X)=k*bl F R X:=by
   unfold bl
   generalize tb (sl F) R=T
   simp only [rp,tm]
   grind
  rw [hb] at h6
  have i0:i=0:=(Int.mul_eq_zero.mp (show i*(2*wo F R)=0 by omega)).resolve_right (by have:=B.w; omega)
  subst i0
  have:j*c=0:=by rw [<- hc]; omega
  exact mul_cancel this j0
theorem Bas.two {F:F6} {l R S P P':P3} {r e e':Int} (B:Bas F l R S) (hr:r*r=sqr F R S) (hP:L3 P) (hP':L3 P') (he:e ≠ 0) (he':e' ≠ 0)
  (q:ad (tm r R) (tm (wo F R) S)=tm e P) (q':ad (tm (-r) R) (tm (wo F R) S)=tm e' P') (X:P3):On F l X ↔ X=P\/X=P':=by
 have hr':(-r)*(-r)=sqr F R S:=by rw [<- hr]; grind
 have s:∀ {u:Int} {Y:P3} {f:Int},u*u=sqr F R S->L3 Y->f ≠ 0->ad (tm u R) (tm (wo F R) S)=tm f Y->On F l Y:=fun {u Y f} hu hY hf ey=>by
  obtain ⟨_,h2,h3⟩:=B.ends hu
  rw [ey] at h2 h3
  refine ⟨hY,?_,wo_of_tm hf h3⟩
  have:rp l (tm f Y)=f*rp l Y:=by
   simp only [rp,tm]
   grind
  rw [this] at h2
  exact mul_cancel h2 hf
 constructor
 ·intro h
  obtain ⟨c,k,j,hk,hc,e1,_⟩:=B.all h
  have:c=r\/c=-r:=by
   have:(c - r)*(c+r)=0:=by
    have:=hc.trans hr.symm
    grind
   rcases Int.mul_eq_zero.mp this with z | z
   ·left; omega
   ·right; omega
  have tt:∀ (j f:Int) (Y:P3),tm j (tm f Y)=tm (j*f) Y:=fun j f Y=>by
   simp only [tm,P3.mk.injEq]
   refine ⟨?_,?_,?_⟩ <;> grind
  rcases this with rfl | rfl
  ·left
   rw [q,tt] at e1
   exact low_tm h.1 hP hk e1
  ·right
   rw [q',tt] at e1
   exact low_tm h.1 hP' hk e1
 ·rintro (rfl | rfl)
  ·exact s hr hP he q
  ·exact s hr' hP' he' q'
theorem Bas.same {F:F6} {l R S P P':P3} {r e e':Int} (B:Bas F l R S) (he:e ≠ 0) (he':e' ≠ 0) (hP:L3 P) (hP':L3 P')
  (q:ad (tm r R) (tm (wo F R) S)=tm e P) (q':ad (tm (-r) R) (tm (wo F R) S)=tm e' P'):P=P' ↔ r=0:=by
 constructor
 ·rintro rfl
  have z:=wo_two F R
  have b:=B.b
  unfold bl at z b
  have hm:∀ u:Int,rp (tb (sl F) R) (ad (tm u R) (tm (wo F R) S))=u*(2*wo F R):=fun u=>by
   rw [rp_mix,z,b]
   omega
  have h1:=hm r
  have h2:=hm (-r)
  rw [q] at h1
  rw [q'] at h2
  have z1:∀ (f:Int) (u:P3),rp u (tm f P)=f*rp u P:=fun f u=>by
   simp only [rp,tm]
   grind
  rw [z1] at h1 h2
  apply Classical.byContradiction
  intro c
  have w:=B.w
  generalize rp (tb (sl F) R) P=t at *
  have h3:t*(e+e')=0:=by grind
  have t0:t ≠ 0:=fun z=>by
   subst z
   have:r*(2*wo F R)=0:=by omega
   exact c ((Int.mul_eq_zero.mp this).resolve_right (by omega))
  have ee:e'=-e:=by have:=mul_cancel h3 t0; omega
  subst ee
  simp only [ad,tm,P3.mk.injEq] at q q'
  have k:∀ a s p:Int,r*a+wo F R*s=e*p->-r*a+wo F R*s=-e*p->s=0:=fun a s p h1 h2=>by
   have:2*wo F R*s=0:=by grind
   exact (Int.mul_eq_zero.mp this).resolve_left (by omega)
  have s:=B.s
  unfold N3 at s
  have:=k _ _ _ q.1 q'.1
  have:=k _ _ _ q.2.1 q'.2.1
  have:=k _ _ _ q.2.2 q'.2.2
  omega
 ·rintro rfl
  rw [show -(0:Int)=0 from rfl] at q'
  rw [q] at q'
  exact low_tm hP hP' he q'
theorem Bas.none {F:F6} {l R S:P3} (B:Bas F l R S) (h:¬ ∃ r,r*r=sqr F R S):¬ Sqr (gq F l)/\∀ X,¬ On F l X:=by
 refine ⟨fun ⟨a,b,ha,e⟩=>?_,fun X hX=>let ⟨c,_,_,_,hc,_⟩:=B.all hX; h ⟨c,hc⟩⟩
 obtain ⟨d,hd,q⟩:=B.disc
 have h1:(a*d)*(a*d)*sqr F R S=(wo F R*b)*(wo F R*b):=by grind
 obtain ⟨c,hc⟩:=Jc.sq_dvd (A:=a*d) (Y:=wo F R*b) ⟨_,h1.symm⟩
 refine h ⟨c,?_⟩
 rw [hc] at h1
 refine Int.eq_of_mul_eq_mul_left (Int.mul_ne_zero (Int.mul_ne_zero ha hd) (Int.mul_ne_zero ha hd)) ?_
 grind
theorem Bas.sq {F:F6} {l R S:P3} {r:Int} (B:Bas F l R S) (hr:r*r=sqr F R S):Sqr (gq F l)/\(gq F l=0 ↔ r=0):=by
 obtain ⟨d,hd,q⟩:=B.disc
 refine ⟨⟨wo F R,d*r,B.w,by rw [<- q,<- hr]; grind⟩,fun z=>?_,fun z=>?_⟩
 ·rw [z,<- hr] at q
  have h1:(d*r)*(d*r)=0:=by grind
  have h2:d*r=0:=by rcases Int.mul_eq_zero.mp h1 with h | h <;> exact h
  exact mul_cancel h2 hd
 ·subst z
  rw [<- hr] at q
  have h1:wo F R*wo F R*gq F l=0:=by omega
  exact mul_cancel h1 (Int.mul_ne_zero B.w B.w)
def lt3 (P R:P3):Prop:=P.x < R.x\/(P.x=R.x/\(P.y < R.y\/(P.y=R.y/\P.z < R.z)))
theorem lt3_irr (P:P3):¬ lt3 P P:=by unfold lt3; omega
inductive Met (F:F6) (l:P3):List P3->Prop where
 | none:¬ Sqr (gq F l)->(∀ X,¬ On F l X)->Met F l []
 | one {P:P3}:gq F l=0->(∀ X,On F l X ↔ X=P)->Met F l [P]
 | two {P R:P3}:Sqr (gq F l)->gq F l ≠ 0->lt3 P R->(∀ X,On F l X ↔ X=P\/X=R)->Met F l [P,R]
def cnt (u:Int) (c:Int):Prop:=(u=0/\c=1)\/(u < 0/\c=0)\/(0 < u/\(∃ h,0<=h/\h*h=u)/\c=2)\/(0 < u/\(¬ ∃ h,h*h=u)/\c=0)
end Pn
namespace Pn
open Sm Lw
structure In100 (F:F6):Prop where
 (a:F.a.natAbs<=100) (b:F.b.natAbs<=100) (c:F.c.natAbs<=100) (d:F.d.natAbs<=100) (e:F.e.natAbs<=100) (f:F.f.natAbs<=100)
def offF (F:F6) (ps:List P3):Option P3:=(offs ps).find? fun v=>wo F v != 0
theorem offF_ex {F:F6} {ps:List P3} (h:∃ v ∈ offs ps,wo F v ≠ 0):∃ v,offF F ps=some v:=by
 obtain ⟨v,hv,n⟩:=h
 have:(offF F ps).isSome=true:=List.find?_isSome.mpr ⟨v,hv,by simpa using n⟩
 exact Option.isSome_iff_exists.mp this
theorem offF_nz {F:F6} {ps:List P3} {v:P3} (h:offF F ps=some v):wo F v ≠ 0:=by
 have:=List.find?_some h
 simpa using this
theorem offF_mem {F:F6} {ps:List P3} {v:P3} (h:offF F ps=some v):v ∈ offs ps:=List.mem_of_find?_eq_some h
structure Fst (F:F6) (P l:P3):Prop where
 w0:wo F P ≠ 0
 w:(wo F P).natAbs<=100
 px:P.x.natAbs<=1
 py:P.y.natAbs<=1
 pz:P.z.natAbs<=1
 lx:l.x.natAbs<=200
 ly:l.y.natAbs<=200
 lz:l.z.natAbs<=200
 xy:l.x.natAbs+l.y.natAbs<=300
 xz:l.x.natAbs+l.z.natAbs<=300
 yz:l.y.natAbs+l.z.natAbs<=300
end Pn
namespace Jc
open Pr
structure Cc (a b c:Int):Prop where
 sf:Sf c
 sq:∃ g,g ≠ 0/\a*b=c*(g*g)
 dv:∀ p,Prm p->p ∣ c->p ∣ a\/p ∣ b
end Jc
namespace L2
open PySem PySem.Spec PyProof.Rows
def cxC (X:Cx) (N:List Str) (scope:Scope) (cl:List (Str × Addr)) (C:Addr) (s0:Shared) (H0:Hp) (fp:List Addr) (pins:List (Addr × Obj)):Cx:=
 { X with N:=N,s₀:=s0,H₀:=H0,env:=compEnvC scope cl C X.env,outer:=X.stack,ex:=fp,fn:=fun _=>false,pn:=X.pn ++ pins,xe:=fun _ _=>False }
structure CompScope (X:Cx) (N:List Str) (fr:List Nat) (x:Str) (scope:Scope) (cl:List (Str × Addr)):Prop where
 kind:scope.kind=.function
 nocell:∀ y ∈ scope.names,y.2 ≠ .cell
 loc:∀ y ∈ scope.names,y.2=.local->scope.names.lookup y.1=some .local
 own:scope.names.lookup x=some .local
 clos:closureFor scope X.env=pure cl
 sub:∀ y c,cl.lookup y=some c->X.env.cells.lookup y=some c
 has:∀ y,((relabel scope X.env).names.lookup y=some .cell\/(relabel scope X.env).names.lookup y=some .free)->∃ c,cl.lookup y=some c
 nd:N.Nodup
 hN:N[0]?=some x
 len:N.length=fr.length+1
 ownOnly:∀ (j:Nat) (y:Str),N[j+1]?=some y->(relabel scope X.env).names.lookup y ≠ some .local
 out:∀ (j k:Nat),fr[j]?=some k->∃ y,N[j+1]?=some y/\X.N[k]?=some y/\X.env.kindOf y=some .cell
def compSt (σ:St) (fr:List Nat) (v:Option V):St:=v :: fr.map fun k=>(σ[k]?).join
def tComp (wi:TI) (fr:List Nat) (te:TE):TE:=fun σ H Q=>wi σ H fun J H1=>∀ acc,H1 acc=none->∃ W:Nat->Nat->Hp->List V->Prop,(∃ m,W 0 m (upd H1 acc (.lst [])) []) /\
 ∀ i m H' vs,W i m H' vs->H' acc=some (.lst vs)/\((J.stop i H'/\Q (.ref acc) H')\/(J.go i H'/\vs.length < sizeLine/\∀ x H2,J.yld i H' x H2->te (compSt σ fr (some x)) H2 fun y H3=>H3 acc=some (.lst vs)/\∃ m',m' < m/\W (i+1) m' (upd H3 acc (.lst (vs ++ [y]))) (vs ++ [y])))
def tCompIf (wi:TI) (fr:List Nat) (tc:TT) (te:TE):TE:=fun σ H Q=>wi σ H fun J H1=>∀ acc,H1 acc=none->∃ W:Nat->Nat->Hp->List V->Prop,(∃ m,W 0 m (upd H1 acc (.lst [])) []) /\
 ∀ i m H' vs,W i m H' vs->H' acc=some (.lst vs)/\((J.stop i H'/\Q (.ref acc) H')\/(J.go i H'/\vs.length < sizeLine/\∀ x H2,J.yld i H' x H2->tc (compSt σ fr (some x)) H2 fun b H3=>
  if b=true then te (compSt σ fr (some x)) H3 fun y H4=>H4 acc=some (.lst vs)/\∃ m',m' < m/\W (i+1) m' (upd H4 acc (.lst (vs ++ [y]))) (vs ++ [y]) else ∃ m',m' < m/\W (i+1) m' H3 vs))
section
variable {X:Cx} {N:List Str} {fr:List Nat} {x:Str} {scope:Scope} {cl:List (Str × Addr)} {elt iter:Expr} {px pos:Pos} {wi:TI} {te:TE}
theorem cxC_ok {pins:List (Addr × Obj)} {σ:St} {H:Hp} {s:Shared} {fp:List Addr} {C:Addr} (S:CompScope X N fr x scope cl) (I:Inv X pins σ H s) (hf:∀ b ∈ fp,FpOk X pins H b) (hC:s.heap.objs.size<=C) (hfl:∀ b ∈ fp,b < s.heap.objs.size):(cxC X N scope cl C s H fp pins).Ok where
 mod:=I.ok.mod
 kind:=S.kind
 glob:=I.ok.glob
 blt:=I.ok.blt
 above:=hC
 inj:=fun y z c h1 h2=>I.ok.inj y z c (S.sub _ _ h1) (S.sub _ _ h2)
 has:=fun y h=>S.has y h
 cab:=fun y c h=>by cases h
 hd:=I.ok.hd
 hs:=I.ok.hs
 frames:=I.ok.frames
 stk:=.inl rfl
 exf:=fun b hb=>⟨Nat.ne_of_lt (Nat.lt_of_lt_of_le (hfl b hb) hC),fun y c h=>(hf b hb).2.2.2.2.1 y c (S.sub _ _ h)⟩
 bs:=fun b o e=>I.bs b o e
 bsz:=Nat.le_trans I.ok.bsz I.sz
 noex:=fun b o e hb=>by
  rcases (hf b hb).2.2.2.1 with z | z
  ·exact I.ok.noex b o e z
  ·exact absurd (Nat.lt_of_lt_of_le (Heap.lt_size e) (Nat.le_trans I.ok.bsz z)) (Nat.lt_irrefl _)
 exfs:=fun b hb z=>by
  rcases List.mem_cons.mp (I.stkSub b z) with e | e
  ·exact (hf b hb).2.1 e
  ·exact (hf b hb).2.2.1 e
 funs:=I.stack
 frf:=I.stkFree
theorem cxC_start {pins:List (Addr × Obj)} {σ:St} {H:Hp} {s s4:Shared} {fp:List Addr} {C:Addr} {m:Str->Option Value} (S:CompScope X N fr x scope cl) (I:Inv X pins σ H s) (hf:∀ b ∈ fp,FpOk X pins H b) (hC:s.heap.objs.size<=C) (hfl:∀ b ∈ fp,b < s.heap.objs.size)
  (hn:s4.heap.Ns C m) (hk:∀ b o,s.heap.get? b=some o->s4.heap.get? b=some o) (ho:s4.os=s.os) (hg:s4.gens=s.gens):Inv (cxC X N scope cl C s H fp pins) [] (compSt σ fr none) H s4:=by
 obtain ⟨m0,hn0,hl⟩:=id I.loc
 refine ⟨cxC_ok S I hf hC hfl,I.fzs,ho,by rw [hg]; exact I.bare,Un.kept hk,⟨m,hn,fun i y v e1 e2 e3=>?_⟩,fun y c h=>?_,I.hok.fresh hC,fun y c h=>I.freeC y c (S.sub _ _ h),fun p hp=>?_,I.hok.kept hk,?_⟩
 ·cases i with
  | zero=>cases e2
  | succ j=>
   have e2':(fr.map fun k=>(σ[k]?).join)[j]?=some (some v):=e2
   rw [List.getElem?_map] at e2'
   cases ek:fr[j]? with
   | none=>rw [ek] at e2'; cases e2'
   | some k=>
    rw [ek] at e2'
    have e4:(σ[k]?).join=some v:=Option.some.inj e2'
    obtain ⟨y',h1,h2,h3⟩:=S.out j k ek
    have e1':N[j+1]?=some y:=e1
    obtain rfl:y'=y:=Option.some.inj (h1.symm.trans e1')
    have e5:σ[k]?=some (some v):=by
     cases q:σ[k]? with
     | none=>rw [q] at e4; cases e4
     | some w=>rw [q] at e4; exact congrArg some e4
    obtain ⟨u,r,lk⟩:=hl k y' v h2 e5 (.inr (.inl h3))
    refine ⟨u,r,.inr ?_⟩
    rcases lk with ⟨z,_⟩ | ⟨_,c,hc,hcell⟩
    ·rw [h3] at z; cases z
    ·have e6:Vis (relabel scope X.env) y':=e3
     have hk2:(relabel scope X.env).names.lookup y'=some .cell\/(relabel scope X.env).names.lookup y'=some .free:=by
      rcases e6 with e6 | e6 | e6
      ·exfalso
       have nd:=S.nd
       -- a name of the block's own is the first one
       exact S.ownOnly _ _ h1 e6
      ·exact .inl e6
      ·exact .inr e6
     obtain ⟨c2,hc2⟩:=S.has y' hk2
     have:=S.sub _ _ hc2
     rw [hc] at this; cases this
     obtain ⟨o,z1,z2⟩:=hcell
     exact ⟨hk2,c,hc2,o,hk _ _ z1,z2⟩
 ·obtain ⟨v,o,z1,z2⟩:=I.cell y c (S.sub _ _ h)
  exact ⟨v,o,hk _ _ z1,z2⟩
 ·rw [List.append_nil] at hp
  obtain ⟨e,k,ne,nf,d⟩:=I.pin p hp
  refine ⟨hk _ _ e,k,Nat.ne_of_lt (Nat.lt_of_lt_of_le (Heap.lt_size e) hC),fun z=>?_,d⟩
  rcases List.mem_cons.mp (I.stkSub _ z) with q | q
  ·exact ne q
  ·exact nf q
 ·show (compSt σ fr none).length=N.length
  rw [S.len]
  simp [compSt]
theorem cxC_end {pins:List (Addr × Obj)} {σ σ':St} {H H':Hp} {s s':Shared} {fp:List Addr} {C:Addr} {h':Heap} (I:Inv X pins σ H s) (hf:∀ b ∈ fp,FpOk X pins H b) (hC:s.heap.objs.size<=C) (J:Inv (cxC X N scope cl C s H fp pins) [] σ' H' s') (hs:Heap.SameBut C s'.heap h') :
  Inv X pins σ H' { s' with heap:=h' }:=by
 have ne:∀ b o,s.heap.get? b=some o->b ≠ C:=fun b o e=>Nat.ne_of_lt (Nat.lt_of_lt_of_le (Heap.lt_size e) hC)
 have u:Un (frs X.stack) fp H H' s.heap s'.heap:=J.base
 have u2:Un (frs X.stack) fp H H' s.heap h':=⟨fun b o e n hb hx=>(hs.2 b (ne b o e)).trans (u.keep b o e n hb hx),fun b o e n hb hx=>(by
   obtain ⟨sl,q⟩:=u.slot b o e n hb hx
   exact ⟨sl,(hs.2 b (ne b o e)).trans q⟩),u.free,fun b o e hx=>(by
   obtain ⟨o',q⟩:=u.there b o e hx
   exact ⟨o',(hs.2 b (ne b o e)).trans q⟩),u.tups,u.frzs,u.tbls⟩
 have nC:H' C=none:=J.free
 refine I.call' (s':={ s' with heap:=h' }) (ch:=fp) J.os u2 (J.hok.onward fun b o hb q=>(hs.2 b fun z=>hb (z ▸ nC)).trans q) J.bare fun b hb=>?_
 obtain ⟨_,f2,_,f4,f5,f6⟩:=hf b hb
 exact ⟨f4,f2,f5,f6⟩
def PTs (X:Cx) (ifs:List Expr) (t:TT):Prop:=
 ∀ (pins:List (Addr × Obj)) (s:Shared) (σ:St) (H:Hp) (Q:Bool->Hp->Prop),Inv X pins σ H s->t σ H Q->wpAny (model X.prog X.w) X.A (forIn ifs true fun c r=>if r=true then do let ok <- PySem.isTrue c X.env (eval c X.env); pure (ForInStep.yield ok) else pure (ForInStep.yield r)) (TP X pins σ Q) X.xe s
theorem pts_one {X:Cx} {c:Expr} {t:TT} (h:PT X c t):PTs X [c] t:=fun pins s σ H Q I q=>wpAny_tests_one (h pins s σ H Q I q)
theorem pts_nil {X:Cx}:PTs X [] (fun _ H Q=>Q true H):=fun pins s σ H Q I q=>by
 show wpAny _ _ (pure true) _ _ _
 exact wpAny_pure ⟨H,I,q⟩
theorem comp_core {ifs:List Expr} {tc:TT} {use:Option (Value->Sem Unit)} {R:Value->Shared->Prop} {Q:VK} {pins:List (Addr × Obj)} {s:Shared} {σ:St} {H:Hp} {ep:Pos} (hc:X.still=true) (S:CompScope X N fr x scope cl) (hi:PI X (.Name x px) iter wi)
  (ht:∀ (C:Addr) (s0:Shared) (H0:Hp) (fp:List Addr) (pins:List (Addr × Obj)),PTs (cxC X N scope cl C s0 H0 fp pins) ifs tc) (he:∀ (C:Addr) (s0:Shared) (H0:Hp) (fp:List Addr) (pins:List (Addr × Obj)),PE (cxC X N scope cl C s0 H0 fp pins) elt te)
  (hs:∀ y,foldedSetIterable iter X.env y=pure y) (I:Inv X pins σ H s) (h:tCompIf wi fr tc te σ H Q)
  (fin:∀ (acc C:Addr) (m:Str->Option Value) (H6:Hp) (s7:Shared),Q (.ref acc) H6->s7.heap.Ns C m->(∀ h':Heap,Heap.SameBut C s7.heap h'->Inv X pins σ H6 { s7 with heap:=h' })->H6 C=none->X.env.locals ≠ C->(∀ z c,X.env.cells.lookup z=some c->c ≠ C)->(∀ p ∈ X.pn ++ pins,p.1 ≠ C)->X.s₀.heap.objs.size<=C->compPost (model X.prog X.w) X.A X.xe use R (.ref acc) C (.ok .next) s7) :
  wpAny (model X.prog X.w) X.A (comprehension (.ListComp elt [⟨.Name x px,iter,ifs,0⟩] scope pos) scope X.env ep (newList []) false (eval iter X.env) use) R X.xe s:=by
 refine wpAny_comprehension_free (use:=use) rfl hs S.clos S.kind S.loc (thn (hi pins s σ H _ I h) fun v s1 h1=>thn h1 fun itv s2 h2=>?_)
 obtain ⟨it,fp,tn,J,H2,e,I2,T,st2,f2,hW⟩:=h2
 subst e
 have hfl:∀ b ∈ fp,b < s2.heap.objs.size:=fun b hb=>by
  obtain ⟨o,q,_⟩:=T.obj _ _ st2 b hb
  exact Heap.lt_size q
 have hfr:H2 s2.heap.objs.size=none:=I2.hok.fresh (Nat.le_refl _)
 refine wpAny_newObj_type ?_
 have keep3:∀ b o,s2.heap.get? b=some o->(s2.heap.push { cls:=.type "list",dict:=none,data:=.seq ([]:List Value).toArray }).get? b=some o:=fun b o q=>Heap.get?_push_of_some _ q
 have I3:Inv X pins σ (upd H2 s2.heap.objs.size (.lst [])) { s2 with heap:=s2.heap.push { cls:=.type "list",dict:=none,data:=.seq ([]:List Value).toArray } }:=
  I2.laid (t':=s2.toks) keep3 (Nat.le_refl _) ⟨Nat.zero_le _,[],0,.nil,Heap.get?_push_size _ rfl⟩
 obtain ⟨W,⟨m0,w0⟩,turn⟩:=hW s2.heap.objs.size hfr
 have f3:∀ b ∈ fp,FpOk X pins (upd H2 s2.heap.objs.size (.lst [])) b:=fun b hb=>⟨by rw [upd_ne (Nat.ne_of_lt (hfl b hb))]; exact (f2 b hb).1,(f2 b hb).2⟩
 refine wpAny_newFunctionEnv S.nocell (by intro y hy; simp at hy) (fun h4 hns hsb=>?_) S.kind
 have hfl3:∀ b ∈ fp,b < (s2.heap.push { cls:=.type "list",dict:=none,data:=.seq ([]:List Value).toArray }).objs.size:=fun b hb=>by
  rw [Heap.size_push]
  exact Nat.lt_succ_of_lt (hfl b hb)
 have keep4:∀ b o,(s2.heap.push { cls:=.type "list",dict:=none,data:=.seq ([]:List Value).toArray }).get? b=some o->h4.get? b=some o:=fun b o q=>
  (hsb.2 b (Nat.ne_of_lt (Heap.lt_size q))).trans (Heap.get?_push_of_some _ q)
 have I4:Inv (cxC X N scope cl (s2.heap.push { cls:=.type "list",dict:=none,data:=.seq ([]:List Value).toArray }).objs.size { s2 with heap:=s2.heap.push { cls:=.type "list",dict:=none,data:=.seq ([]:List Value).toArray } } (upd H2 s2.heap.objs.size (.lst [])) fp pins) [] (compSt σ fr none) (upd H2 s2.heap.objs.size (.lst []))
   { s2 with heap:=h4,toks:=s2.toks+([]:List (Str × Value)).length }:=cxC_start S I3 f3 (Nat.le_refl _) hfl3 hns keep4 rfl rfl
 have st4:tn 0 h4:=T.keep _ _ _ st2 fun b hb o q=>keep4 b o (keep3 b o q)
 generalize hY:cxC X N scope cl (s2.heap.push { cls:=.type "list",dict:=none,data:=.seq ([]:List Value).toArray }).objs.size { s2 with heap:=s2.heap.push { cls:=.type "list",dict:=none,data:=.seq ([]:List Value).toArray } } (upd H2 s2.heap.objs.size (.lst [])) fp pins=Y at I4
 have hel:PE Y elt te:=hY ▸ he _ _ _ _ _
 have htl:PTs Y ifs tc:=hY ▸ ht _ _ _ _ _
 have eA:Y.A=X.A:=by rw [<- hY]; rfl
 have eP:Y.prog=X.prog:=by rw [<- hY]; rfl
 have ew:Y.w=X.w:=by rw [<- hY]; rfl
 have eK:Y.K=X.K:=by rw [<- hY]; rfl
 have eC:Y.still=true:=by rw [<- hY]; exact hc
 have eE:Y.env=compEnvC scope cl (s2.heap.push { cls:=.type "list",dict:=none,data:=.seq ([]:List Value).toArray }).objs.size X.env:=by rw [<- hY]; rfl
 have eX:Y.xe=fun _ _=>False:=by rw [<- hY]; rfl
 have hg:PG Y (.Name x px) (gName 0):=by
  subst hY
  exact pg_name (i:=0) S.nd S.hN (.inl (lookup_relabel_local S.own)) (.inr (lookup_relabel_local S.own))
 have fY:∀ {H':Hp},(∀ b ∈ fp,H' b=none)->∀ b ∈ fp,FpOk Y [] H' b:=fun {H'} hn b hb=>by
  subst hY
  obtain ⟨_,g2,g3,g4,g5,g6⟩:=f3 b hb
  refine ⟨hn b hb,Nat.ne_of_lt (hfl3 b hb),fun z=>?_,.inl hb,fun y c q=>g5 y c (S.sub _ _ q),fun p hp=>?_⟩
  ·rcases List.mem_cons.mp (I3.stkSub b z) with q | q
   ·exact g2 q
   ·exact g3 q
  ·rw [List.append_nil] at hp
   exact g6 p hp
 have loop:∀ s5:Shared,s5={ s2 with heap:=h4,toks:=s2.toks+([]:List (Str × Value)).length } ->
   codeAny (model X.prog X.w) X.A (.compLoop (.ListComp elt [⟨.Name x px,iter,ifs,0⟩] scope pos) 0 (.ref it) (.ref s2.heap.objs.size) (compEnvC scope cl (s2.heap.push { cls:=.type "list",dict:=none,data:=.seq ([]:List Value).toArray }).objs.size X.env))
    (compPost (model X.prog X.w) X.A X.xe use R (.ref s2.heap.objs.size) (s2.heap.push { cls:=.type "list",dict:=none,data:=.seq ([]:List Value).toArray }).objs.size) s5:=by
  rintro s5 rfl
  refine codeAny_compLoop_tests (fun n s'=>∃ i v H' vs,Inv Y [] (compSt σ fr v) H' s'/\tn i s'.heap/\(∀ b ∈ fp,H' b=none)/\W i n H' vs) ?_ m0 ⟨0,none,_,[],I4,st4,fun b hb=>(f3 b hb).1,w0⟩
  rintro n s6 ⟨i,v6,H6,vs,I6,st6,fr6,w6⟩
  obtain ⟨hacc,hgo⟩:=turn i n H6 vs w6
  rcases hgo with ⟨stop,qn⟩ | ⟨go,hz,step⟩
  ·have hd:=T.done Y eP ew eK eC i [] s6 _ H6 (fun _ _=>False) I6 (fY fr6) st6 stop
   rw [eA] at hd
   refine wpAny_mono hd (fun r s7 ⟨hr,I7⟩=>?_) fun _ _ z=>z.elim
   subst hr
   obtain ⟨m,hn,_⟩:=id I7.loc
   rw [eE] at hn
   have hend:∀ h':Heap,Heap.SameBut (s2.heap.push { cls:=.type "list",dict:=none,data:=.seq ([]:List Value).toArray }).objs.size s7.heap h'->Inv X pins σ H6 { s7 with heap:=h' }:=fun h' hs'=>by
    subst hY
    exact cxC_end I3 f3 (Nat.le_refl _) I7 hs'
   have cf:H6 (s2.heap.push { cls:=.type "list",dict:=none,data:=.seq ([]:List Value).toArray }).objs.size=none:=by
    subst hY
    exact I7.free
   have big:∀ b o,s2.heap.get? b=some o->b ≠ (s2.heap.push { cls:=.type "list",dict:=none,data:=.seq ([]:List Value).toArray }).objs.size:=fun b o q=>Nat.ne_of_lt (by rw [Heap.size_push]; exact Nat.lt_succ_of_lt (Heap.lt_size q))
   obtain ⟨m2,hn2,_⟩:=id I2.loc
   obtain ⟨oL,_,_,hoL,_⟩:=id hn2
   exact fin _ _ m H6 s7 qn hn hend cf (big _ _ hoL) (fun z c q=>by
    obtain ⟨_,o,w1,_⟩:=I2.cell z c q
    exact big _ _ w1) (fun p hp=>by
    obtain ⟨e,_⟩:=I2.pin p hp
    exact big _ _ e) (by
    rw [Heap.size_push]
    exact Nat.le_succ_of_le (Nat.le_trans (Nat.le_refl _) I2.sz))
  ·have hd:=T.item Y eP ew eK eC i [] s6 _ H6 (fun _ _=>False) I6 (fY fr6) st6 go
   rw [eA] at hd
   refine wpAny_mono hd (fun r s7 ⟨u,hr,h7⟩=>?_) fun _ _ z=>z.elim
   subst hr
   show wpAny _ _ ((pure ():Sem Unit) >>= fun _=>assign (.Name x px) _ u) _ _ s7
   refine wpAny_bind (wpAny_mono h7 (fun _ s8 ⟨y,H8,I8,r8,y8,st8,fr8⟩=>?_) fun _ _ z=>z.elim)
   have I8':=I8.pinned (fY fr8) (T.obj _ _ st8)
   have h9:=hg _ s8 _ H8 y u (fun σ9 H9=>σ9=compSt σ fr (some y)/\H9=H8) I8' r8 ⟨rfl,rfl⟩
   rw [eA,eP,ew,eE,eX] at h9
   refine wpAny_mono h9 (fun _ s9 ⟨σ9,H9,I9,e9,e9'⟩=>?_) fun _ _ z=>z.elim
   subst e9 e9'
   have ht10:=htl _ s9 _ _ _ I9 (step y _ y8)
   rw [eA,eP,ew,eE,eX] at ht10
   refine wpAny_mono ht10 (fun ok s9t ⟨H9t,I9t,q9t⟩=>?_) fun _ _ z=>z.elim
   cases ok with
   | false=>
    rw [if_neg Bool.false_ne_true] at q9t
    rw [if_neg Bool.false_ne_true]
    obtain ⟨m',hm,w10⟩:=q9t
    refine ⟨m',hm,i+1,some y,_,vs,I9t.unpinned,T.keep _ _ _ st8 fun b hb o q=>(I9t.pin (b,o) (List.mem_append_right _ (List.mem_append_right _ (mem_pinsAt hb q)))).1,fun b hb=>?_,w10⟩
    obtain ⟨o,q,_⟩:=T.obj _ _ st8 b hb
    exact (I9t.pin (b,o) (List.mem_append_right _ (List.mem_append_right _ (mem_pinsAt hb q)))).2.1
   | true=>
   rw [if_pos rfl] at q9t
   rw [if_pos rfl]
   have h10:=hel _ s9t _ _ _ I9t q9t
   rw [eA,eP,ew,eE,eX] at h10
   refine wpAny_mono h10 (fun u10 s10 ⟨z10,H10,I10,r10,a10,m',hm,w10⟩=>?_) fun _ _ z=>z.elim
   have h11:=mt_append _ s10 _ H10 (.ref s2.heap.objs.size) [z10] (.ref s2.heap.objs.size) [u10] (fun _ H11=>H11=upd H10 s2.heap.objs.size (.lst (vs ++ [z10]))) I10 rfl (.cons r10 .nil) ⟨_,vs,z10,rfl,rfl,a10,hz,rfl⟩
   rw [eA,eP,ew,eX] at h11
   refine wpAny_mono h11 (fun _ s11 ⟨_,H11,I11,_,e11⟩=>?_) fun _ _ z=>z.elim
   subst e11
   refine ⟨m',hm,i+1,some y,_,vs ++ [z10],I11.unpinned,T.keep _ _ _ st8 fun b hb o q=>(I11.pin (b,o) (List.mem_append_right _ (List.mem_append_right _ (mem_pinsAt hb q)))).1,fun b hb=>?_,w10⟩
   obtain ⟨o,q,_⟩:=T.obj _ _ st8 b hb
   exact (I11.pin (b,o) (List.mem_append_right _ (List.mem_append_right _ (mem_pinsAt hb q)))).2.1
 exact codeAny_compStart_list (loop _ rfl) (T.self _ 0 _ _ _ st4 (loop _ rfl))
theorem pe_comp (hc:X.still=true) (S:CompScope X N fr x scope cl) (hi:PI X (.Name x px) iter wi) (he:∀ (C:Addr) (s0:Shared) (H0:Hp) (fp:List Addr) (pins:List (Addr × Obj)),PE (cxC X N scope cl C s0 H0 fp pins) elt te)
  (hs:∀ y,foldedSetIterable iter X.env y=pure y:=by intro _; rfl):PE X (.ListComp elt [⟨.Name x px,iter,[],0⟩] scope pos) (tComp wi fr te):=by
 intro pins s σ H Q I h
 rw [eval_ListComp]
 exact comp_core (tc:=fun _ H Q=>Q true H) (use:=none) hc S hi (fun _ _ _ _ _=>pts_nil) he hs I h fun acc C m H6 s7 qn hn hend _ _ _ _ _=>⟨m,hn,fun h' hs'=>⟨.ref acc,H6,hend h' hs',rfl,qn⟩⟩
end
end L2
namespace L2
open PySem PySem.Spec PyProof.Rows
theorem call_all {X:Cx} (hc:X.still=true):CallR X (.builtin "all") (fun xs H Q=>∃ (l:Addr) (bs:List Bool),xs=[.ref l]/\H l=some (.lst (bs.map V.bl))/\Q (.bl (bs.all id)) H):=by
 intro pins s σ H xs us Q I rv h
 obtain ⟨l,bs,rfl,hH,q⟩:=h
 obtain ⟨u,rfl,ru⟩:=rv.one
 cases ru
 obtain ⟨z,its,n,r,hl,e⟩:=I.lstM hH
 have hlt:l < s.heap.objs.size:=Heap.lt_size e
 refine call_all_walk (wpAny_pyIter_list (A:=X.A.in1) ⟨_,e,rfl,n,rfl⟩ ?_)
 obtain ⟨fp,st,W,st0,_⟩:=walks_list_any (P:=X.prog) (w:=X.w) (I.stl hc).in1 s.heap.objs.size l (Nat.ne_of_lt hlt) (I.stn hc (I.hok.fresh (Nat.le_refl _))) its.toArray
 refine ⟨s.heap.objs.size,_,_,_,_,_,fun i=>bs.getD i true,rfl,W,st0 _ ⟨_,Heap.get?_push_size _ rfl,rfl,rfl⟩ ⟨_,Heap.get?_push_of_some _ e,rfl,n,rfl⟩ (fun b o x=>Heap.get?_push_of_some _ x),?_,?_⟩
 ·intro i v s' Q' E' hP hQ
  have hv:its[i]?=some v:=by simpa using hP
  obtain ⟨b,hb,rfl⟩:∃ b,bs[i]?=some b/\v=Value.bool b:=by
   cases hbi:bs[i]? with
   | none=>
    have h1:=r.none_of (i:=i) (by rw [List.getElem?_map,hbi]; rfl)
    rw [h1] at hv; cases hv
   | some b=>
    obtain ⟨u',h1,h2⟩:=r.get (i:=i) (x:=.bl b) (by rw [List.getElem?_map,hbi]; rfl)
    rw [h1] at hv; cases hv
    exact ⟨b,rfl,h2⟩
  have hQ2:Q' (bs.getD i true) s':=hQ
  rw [List.getD_eq_getElem?_getD,hb] at hQ2
  exact wpAny_truthy_bool hQ2
 ·intro h' tk hk
  have e2:((List.range its.toArray.size).all fun i=>bs.getD i true)=bs.all id:=by
   have hlen:its.toArray.size=bs.length:=by
    rw [List.size_toArray,<- r.length,List.length_map]
   rw [hlen]
   rw [Bool.eq_iff_iff,List.all_eq_true,List.all_eq_true]
   constructor
   ·intro hA b hb
    obtain ⟨i,hi,e⟩:=List.getElem_of_mem hb
    have:=hA i (List.mem_range.mpr hi)
    rw [List.getD_eq_getElem?_getD,List.getElem?_eq_getElem hi,e] at this
    exact this
   ·intro hA i hi
    have hi':=List.mem_range.mp hi
    rw [List.getD_eq_getElem?_getD,List.getElem?_eq_getElem hi']
    exact hA _ (List.getElem_mem hi')
  rw [e2]
  refine ⟨.bl (bs.all id),H,?_,rfl,q⟩
  exact I.kept (h':=h') (t':=tk) fun b o q'=>hk b o (fun zz=>by
   have:b=s.heap.objs.size:=by simpa using zz
   subst this
   exact absurd (Heap.lt_size q') (Nat.lt_irrefl _)) (Heap.get?_push_of_some _ q')
end L2
namespace L2
open PySem PySem.Spec PyProof.Rows
section
variable {κ:Type} [DecidableEq κ]
def valV (kvs:List (κ × V)) (k:κ):Option V:=(kvs.find? fun kv=>decide (kv.1=k)).map (·.2)
def putK (kvs:List (κ × V)) (k:κ) (v:V):List (κ × V):=
 if (kvs.any fun kv=>decide (kv.1=k))=true then kvs.map (fun kv=>if kv.1=k then (kv.1,v) else kv) else kvs ++ [(k,v)]
def dropK (kvs:List (κ × V)) (k:κ):List (κ × V):=kvs.filter fun kv=>decide (kv.1 ≠ k)
end
abbrev KT (H:Hp):List (List Key × V)->List (List Key × Addr × Value)->Prop:=Paired fun p q=>p.1=q.1/\H q.2.1=some (.tup (p.1.map kV))/\RelV p.2 q.2.2
section
variable {P:Program} {w:World} {H:Hp} {h:Heap} {a:Addr}
end
def DGet (H:Hp) (a:Addr) (y:V) (r:Option V):Prop:=
 (∃ kvs k,Rd H a (.dK kvs)/\y=kV k/\r=valV kvs k)\/∃ kvs k b,Rd H a (.dT kvs)/\y=.ref b/\H b=some (.tup (k.map kV))/\r=valV kvs k
def DPut (H:Hp) (a:Addr) (y v:V) (H':Hp):Prop:=
 (∃ kvs k,H a=some (.dK kvs)/\y=kV k/\kvs.length < sizeLine/\H'=upd H a (.dK (putK kvs k v))) \/
 ∃ kvs k b,H a=some (.dT kvs)/\y=.ref b/\H b=some (.tup (k.map kV))/\kvs.length < sizeLine/\H'=upd H a (.dT (putK kvs k v))
section
variable {X:Cx} {pins:List (Addr × Obj)} {σ:St} {H:Hp} {s:Shared} {a:Addr} {y v:V} {u r:Value} {o:Option V} {A:Around} {E:Value->Shared->Prop}
end
section
variable {X:Cx} {pins:List (Addr × Obj)} {σ:St} {H:Hp} {s:Shared} {a:Addr} {kvs:List (Key × V)} {k:Key} {u:Value} {A:Around} {E:Value->Shared->Prop}
end
def NoSl (i:Expr):Prop:=∀ ov iv,subscripted i false ov iv=operate [ov,iv] (getItem ov iv)
def tDGet (td ty:TE):TE:=fun σ H Q=>td σ H fun x H1=>ty σ H1 fun y H2=>∃ a v,x=.ref a/\DGet H2 a y (some v)/\Q v H2
def tDIn (ty td:TE):TE:=fun σ H Q=>ty σ H fun y H1=>td σ H1 fun x H2=>∃ a o,x=.ref a/\DGet H2 a y o/\Q (.bl o.isSome) H2
def tDNotIn (ty td:TE):TE:=fun σ H Q=>ty σ H fun y H1=>td σ H1 fun x H2=>∃ a o,x=.ref a/\DGet H2 a y o/\Q (.bl (!o.isSome)) H2
def sDPut (td ty tv:TE):TS:=fun D σ H=>tv σ H fun v H1=>td σ H1 fun x H2=>ty σ H2 fun y H3=>∃ a H4,x=.ref a/\DPut H3 a y v H4/\D.nx σ H4
def sDAug (td ty tv:TE) (rd:V->V->Hp->VK->Prop):TS:=fun D σ H=>td σ H fun x H1=>ty σ H1 fun y H2=>∃ a v,x=.ref a/\DGet H2 a y (some v) /\
 tv σ H2 fun y2 H3=>rd v y2 H3 fun z H4=>∃ H5,DPut H4 a y z H5/\D.nx σ H5
def sDDel (td ty:TE):TS:=fun D σ H=>td σ H fun x H1=>ty σ H1 fun y H2=>∃ a kvs k,x=.ref a/\H2 a=some (.dK kvs)/\y=kV k/\(valV kvs k).isSome=true/\D.nx σ (upd H2 a (.dK (dropK kvs k)))
section
variable {X:Cx} {o i e value:Expr} {pos pos' tpos:Pos} {td ty tv:TE}
end
def tDNewK:TE:=fun _ H Q=>∀ p,H p=none->Q (.ref p) (upd H p (.dK []))
def tDNewT:TE:=fun _ H Q=>∀ p,H p=none->Q (.ref p) (upd H p (.dT []))
section
variable {X:Cx} {pos:Pos}
end
def tPairs:List (TE × TE)->St->Hp->(List (V × V)->Hp->Prop)->Prop
 | [],_,H,Q=>Q [] H
 | (tk,tv) :: r,σ,H,Q=>tk σ H fun x H1=>tv σ H1 fun y H2=>tPairs r σ H2 fun ps H3=>Q ((x,y) :: ps) H3
abbrev VV:List (V × V)->List (Value × Value)->Prop:=Paired fun p q=>RelV p.1 q.1/\RelV p.2 q.2
def PPs (X:Cx) (pos:Pos) (keys:List (Option Expr)) (values:List Expr) (trs:List (TE × TE)):Prop:=
 ∀ (pins:List (Addr × Obj)) (s:Shared) (σ:St) (H:Hp) (Q:List (V × V)->Hp->Prop),Inv X pins σ H s->tPairs trs σ H Q ->
  wpAny (model X.prog X.w) X.A (evalPairs (pairTrees keys values X.env pos)) (fun vs s'=>∃ ps H',Inv X pins σ H' s'/\VV ps vs/\Q ps H') X.xe s
def mergeK (kvs more:List (Key × V)):List (Key × V):=more.foldl (fun acc kv=>putK acc kv.1 kv.2) kvs
def tDisp (trs:List (TE × TE)):TE:=fun σ H Q=>∀ p,H p=none->tPairs trs σ (upd H p (.dK [])) fun ps H2=>H2 p=some (.dK [])/\∃ kvs:List (Key × V),ps=kvs.map (fun kv=>(kV kv.1,kv.2))/\kvs.length<=15/\Q (.ref p) (upd H2 p (.dK (mergeK [] kvs)))
structure M1 (X:Cx) (o:Expr) (m:Str) (apos:Pos) (e:Expr) (cpos:Pos):Prop where
 base:attributeBase o m X.env (eval o X.env)=eval o X.env
 few:((backTo cpos (starEach [e] X.env)).all (fun x=>!x.1) && (backToKw cpos (keywordEach [] X.env)).all (fun x=>x.1.isSome)
  && decide (([e]:List Expr).length+([]:List Keyword).length+(if ([]:List Keyword).isEmpty then 0 else 1) < 30))=true
 line:(apos.endLine == cpos.line)=true
 trees:backTo cpos (starEach [e] X.env)=[(false,eval e X.env)]
structure M2 (X:Cx) (o:Expr) (m:Str) (apos:Pos) (e f:Expr) (cpos:Pos):Prop where
 base:attributeBase o m X.env (eval o X.env)=eval o X.env
 few:((backTo cpos (starEach [e,f] X.env)).all (fun x=>!x.1) && (backToKw cpos (keywordEach [] X.env)).all (fun x=>x.1.isSome)
  && decide (([e,f]:List Expr).length+([]:List Keyword).length+(if ([]:List Keyword).isEmpty then 0 else 1) < 30))=true
 line:(apos.endLine == cpos.line)=true
 trees:backTo cpos (starEach [e,f] X.env)=[(false,eval e X.env),(false,eval f X.env)]
def IsD (H:Hp) (a:Addr):Prop:=(∃ kvs,Rd H a (.dK kvs))\/∃ kvs,Rd H a (.dT kvs)
section
variable {X:Cx} {pins:List (Addr × Obj)} {σ:St} {H:Hp} {s:Shared} {a:Addr} {y d:V} {u r:Value} {o:Option V} {A:Around} {E:Value->Shared->Prop}
end
def tDGet1 (td ty:TE):TE:=fun σ H Q=>td σ H fun x H1=>∃ a,x=.ref a/\IsD H1 a/\ty σ H1 fun y H2=>∃ o,DGet H2 a y o/\Q (o.getD .non) H2
def tDGet2 (td ty tx:TE):TE:=fun σ H Q=>td σ H fun x H1=>∃ a,x=.ref a/\IsD H1 a/\ty σ H1 fun y H2=>tx σ H2 fun z H3=>∃ o,DGet H3 a y o/\Q (o.getD z) H3
def tDPop1 (td ty:TE):TE:=fun σ H Q=>td σ H fun x H1=>∃ a,x=.ref a/\IsD H1 a/\ty σ H1 fun y H2=>∃ kvs k v,H2 a=some (.dK kvs)/\y=kV k/\valV kvs k=some v/\Q v (upd H2 a (.dK (dropK kvs k)))
def tDPop2 (td ty tx:TE):TE:=fun σ H Q=>td σ H fun x H1=>∃ a,x=.ref a/\IsD H1 a/\ty σ H1 fun y H2=>tx σ H2 fun z H3=>∃ kvs k,H3 a=some (.dK kvs)/\y=kV k /\
 (∀ v,valV kvs k=some v->Q v (upd H3 a (.dK (dropK kvs k))))/\(valV kvs k=none->Q z H3)
section
variable {X:Cx} {o e f:Expr} {apos cpos:Pos} {td ty tx:TE}
end
section
variable {X:Cx} {pins:List (Addr × Obj)} {σ:St} {H:Hp} {s:Shared} {a:Addr} {y:V} {u:Value} {A:Around} {E:Value->Shared->Prop}
end
end L2
namespace L2
open PySem PySem.Spec PyProof.Rows
section
variable {P:Program} {w:World} {K:W.Frag} {mg:Str->Option Value} {base:Heap}
end
section
variable {X:Cx}
end
section
variable {κ:Type} [DecidableEq κ]
end
end L2
namespace L2
open PySem PySem.Spec PyProof.Rows
abbrev pairD (x:Int × Int):PyData:=.tuple [.int x.1,.int x.2]
end L2
namespace L2
open PySem PySem.Spec PyProof.Rows
section
variable {X:Cx} {N:List Str} {fr:List Nat} {x:Str} {scope:Scope} {cl:List (Str × Addr)} {elt iter:Expr} {px pos:Pos} {wi:TI} {te:TE}
theorem pe_compIf {cnd:Expr} {tc:TT} (hc:X.still=true) (S:CompScope X N fr x scope cl) (hi:PI X (.Name x px) iter wi) (ht:∀ (C:Addr) (s0:Shared) (H0:Hp) (fp:List Addr) (pins:List (Addr × Obj)),PT (cxC X N scope cl C s0 H0 fp pins) cnd tc) (he:∀ (C:Addr) (s0:Shared) (H0:Hp) (fp:List Addr) (pins:List (Addr × Obj)),PE (cxC X N scope cl C s0 H0 fp pins) elt te)
  (hs:∀ y,foldedSetIterable iter X.env y=pure y:=by intro _; rfl):PE X (.ListComp elt [⟨.Name x px,iter,[cnd],0⟩] scope pos) (tCompIf wi fr tc te):=by
 intro pins s σ H Q I h
 rw [eval_ListComp]
 exact comp_core (use:=none) hc S hi (fun _ _ _ _ _=>pts_one (ht _ _ _ _ _)) he hs I h fun acc C m H6 s7 qn hn hend _ _ _ _ _=>⟨m,hn,fun h' hs'=>⟨.ref acc,H6,hend h' hs',rfl,qn⟩⟩
end
end L2
namespace L2
open PySem PySem.Spec PyProof.Rows
section
variable {M:Model} {A:Around} {E:Value->Shared->Prop}
variable {nm q nm' q':Str} {C N D N':Addr} {bs bm bs' bm':List Value} {hdct hdct':Bool} {sn sn':List Str} {sub sub':List Value} {ab ab':Bool} {col col':Option Bool} {dd dd':Option Addr} {k0 k1 k2 k3 k5 j0 j1 j2 j3 j5:Option Value} {newId newId':String}
end
section
variable {X:Cx} {pins:List (Addr × Obj)} {σ:St} {H H':Hp} {s s':Shared} {e:Addr} {cls a0:Value} {ea C:Addr} {B h':Heap} {t':Nat}
end
section
variable {X:Cx} {k:Nat} {f C:Addr} {fd:FuncData} {ps:List Str} {sp:Sp} {g x n:Str} {p pos pos2 pos3 np hpos:Pos} {e:Expr} {es:List Expr} {t:TA} {ts:TS} {b₀:Stmt} {suite:List Stmt} {i:Nat}
end
end L2
namespace L2
open PySem PySem.Spec PyProof.Rows
def bls (c:Int) (i:Nat):List Bool:=(List.range i).map fun (j:Nat)=>decide (V.int (0+(j:Int))=V.int c)
def spAloneS (C:Addr) (k:Int):Sp:=fun vs H Q _=>∃ e,vs=[.ref e,.int k]/\H e=some (.ext (ExcAt C e))/\∀ H',Same H H'->Q (.bl true) H'
end L2
namespace L2
open PySem PySem.Spec PyProof.Rows
end L2
namespace L2
open PySem PySem.Spec PyProof.Rows
def tTryAs3 (sp:Sp) (C C2:Addr) (i:Nat) (ta:TA) (ts:TS):TS:=fun D σ H=>ta σ H fun vs H1=>sp vs H1 (fun _ H2=>D.nx σ H2) fun cls _ H2=>
 (cls=.ref C/\∀ e,H2 e=none->ts (asEnds D i) (σ.set i (some (.ref e))) (upd H2 e (.ext (ExcAt C e))))\/(cls=.ref C2/\∀ e,H2 e=none->ts (asEnds D i) (σ.set i (some (.ref e))) (upd H2 e (.ext (ExcAt C2 e))))
section
variable {X:Cx} {k:Nat} {f C:Addr} {fd:FuncData} {ps:List Str} {sp:Sp} {g x n:Str} {p pos pos2 pos3 np hpos:Pos} {e:Expr} {es:List Expr} {t:TA} {ts:TS} {b₀:Stmt} {suite:List Stmt} {i:Nat}
end
end L2
namespace L2
open PySem PySem.Spec PyProof.Rows
inductive IsiE (X:Cx) (C0:Addr):List Expr->List Bool->Prop where
 | nil:IsiE X C0 [] []
 | cons {x:Str} {C:Addr} {b:Bool} {p p2 p3 p4:Pos} {es:List Expr} {bs:List Bool} (h5:Gl X x) (h6:X.mg x=some (.ref C)) (h7:(x == ("__debug__":Str))=false) (k:W.kitOne X.K (.ref C0) (.ref C)=some b) (h:IsiE X C0 es bs) :
   IsiE X C0 (.Call (.Name "isinstance" p) [.Name "_law_e" p2,.Name x p3] [] p4 :: es) (b :: bs)
def tIsis (C0:Addr) (bs:List Bool):TA:=fun σ H Q=>∃ a,σ[0]?=some (some (V.ref a))/\H a=some (.ext (ExcAt C0 a))/\Q (bs.map V.bl) H
end L2
namespace L2
open PySem PySem.Spec PyProof.Rows
def tSetC (wi:TI) (fr:List Nat) (tc:TT) (te:TE) (k:Nat):TS:=fun D σ H=>tCompIf wi fr tc te σ H fun v H'=>D.nx (σ.set k (some v)) H'
theorem Inv.off {X:Cx} {pins:List (Addr × Obj)} {σ:St} {H:Hp} {s:Shared} {C:Addr} {h':Heap} (I:Inv X pins σ H s) (hs:Heap.SameBut C s.heap h') (hC0:X.s₀.heap.objs.size<=C) (hH:H C=none) (hL:C ≠ X.env.locals) (hc:∀ y c,X.env.cells.lookup y=some c->c ≠ C) (hp:∀ p ∈ X.pn ++ pins,p.1 ≠ C):Inv X pins σ H { s with heap:=h' }:=by
 obtain ⟨m,hn,hl⟩:=id I.loc
 have old:∀ b o,X.s₀.heap.get? b=some o->h'.get? b=s.heap.get? b:=fun b o e=>hs.2 b (Nat.ne_of_lt (Nat.lt_of_lt_of_le (Heap.lt_size e) hC0))
 refine ⟨I.ok,I.fzs,I.os,I.bare,⟨fun b o e k hb hx=>(old b o e).trans (I.base.keep b o e k hb hx),fun b o e k hb hx=>?_,I.base.free,fun b o e hx=>?_,I.base.tups,I.base.frzs,I.base.tbls⟩,⟨m,hn.sameBut hs hL.symm,fun j y v' e1 e2 e3=>?_⟩,fun y c e=>?_,I.free,I.freeC,fun p q=>?_,fun b ob e=>?_,I.len⟩
 ·obtain ⟨sl,e1⟩:=I.base.slot b o e k hb hx
  exact ⟨sl,(old b o e).trans e1⟩
 ·obtain ⟨o',e1⟩:=I.base.there b o e hx
  exact ⟨o',(old b o e).trans e1⟩
 ·obtain ⟨u',r',q⟩:=hl j y v' e1 e2 e3
  refine ⟨u',r',?_⟩
  rcases q with q | ⟨k,c,e,z⟩
  ·exact .inl q
  ·exact .inr ⟨k,c,e,z.sameBut hs (hc y c e)⟩
 ·obtain ⟨w',z⟩:=I.cell y c e
  exact ⟨w',z.sameBut hs (hc y c e)⟩
 ·obtain ⟨e,k,ne,nf,d⟩:=I.pin p q
  exact ⟨(hs.2 p.1 (hp p q)).trans e,k,ne,nf,d⟩
 ·refine (I.hok b ob e).stay (fun c w' hc' q=>(hs.2 c ?_).trans q) (fun _ q=>q) fun _ _ q=>q
  rintro rfl
  rcases hc' with rfl | hc'
  ·rw [hH] at e; cases e
  ·rw [hH] at hc'; cases hc'
section
variable {X:Cx} {N:List Str} {fr:List Nat} {x:Str} {scope:Scope} {cl:List (Str × Addr)} {elt iter:Expr} {px pos:Pos} {wi:TI} {te:TE}
theorem ps_setC {cnd:Expr} {tc:TT} {y:Str} {py spos:Pos} {k:Nat} (hN:X.N.Nodup) (hk:X.N[k]?=some y) (hy:Loc X.env.scope y) (hsw:swapsWith (.ListComp elt [⟨.Name x px,iter,[cnd],0⟩] scope pos) (some (.Name y py)) spos.line X.env=pure true) (hc:X.still=true) (S:CompScope X N fr x scope cl) (hi:PI X (.Name x px) iter wi) (ht:∀ (C:Addr) (s0:Shared) (H0:Hp) (fp:List Addr) (pins:List (Addr × Obj)),PT (cxC X N scope cl C s0 H0 fp pins) cnd tc) (he:∀ (C:Addr) (s0:Shared) (H0:Hp) (fp:List Addr) (pins:List (Addr × Obj)),PE (cxC X N scope cl C s0 H0 fp pins) elt te)
  (hf:X.fn y=true\/X.env.scope.names.lookup y=some .local) (hs:∀ y,foldedSetIterable iter X.env y=pure y:=by intro _; rfl):PS X (.Assign [.Name y py] (.ListComp elt [⟨.Name x px,iter,[cnd],0⟩] scope pos) spos) (tSetC wi fr tc te k):=by
 intro pins s σ H D I h
 rw [exec_Assign_Name_used _ _ _ _ hsw]
 refine wpAny_bind (wpAny_standAt (wpAny_bind ?_))
 show wpAny _ X.A (do let _ <- comprehension (.ListComp elt [⟨.Name x px,iter,[cnd],0⟩] scope pos) scope X.env _ (newList []) false (eval iter X.env) (some (assign (.Name y py) X.env))) _ _ s
 refine wpAny_bind (wpAny_mono (comp_core (use:=some (assign (.Name y py) X.env)) (R:=fun _ s'=>SP X pins D .next s') hc S hi (fun _ _ _ _ _=>pts_one (ht _ _ _ _ _)) he hs I h (fun acc C m H6 s7 qn hn hend cf cL cC cP cS=>by
  have J7:Inv X pins σ H6 s7:=hend s7.heap ⟨rfl,fun _ _=>rfl⟩
  show wpAny _ X.A (assign (.Name y py) X.env (.ref acc)) _ _ _
  refine wpAny_assign_Name (store_ok2 J7 hN hk hy (v:=.ref acc) rfl (fun s8 J8 ⟨a,hsa,ha⟩=>?_) hf)
  have aC:C ≠ a:=by
   rcases ha with e | e
   ·rw [e]; exact Ne.symm cL
   ·exact Ne.symm (cC _ _ e)
  exact ⟨m,hn.sameBut hsa aC,fun h' hs'=>⟨_,H6,J8.off hs' cS cf (Ne.symm cL) cC cP,qn⟩⟩)) (fun _ s' hq=>wpAny_pure (wpAny_pure hq)) fun _ _ e=>e)
end
end L2
namespace L2
open PySem PySem.Spec PyProof.Rows
def CompEnd (J:It) (Q:VK) (H1:Hp) (te:TE) (σ:V->St):Prop:=∀ acc,H1 acc=none->∃ W:Nat->Nat->Hp->List V->Prop,(∃ m,W 0 m (upd H1 acc (.lst [])) []) /\
 ∀ i m H' vs,W i m H' vs->H' acc=some (.lst vs)/\((J.stop i H'/\Q (.ref acc) H')\/(J.go i H'/\vs.length < sizeLine/\∀ x H2,J.yld i H' x H2->te (σ x) H2 fun y H3=>H3 acc=some (.lst vs)/\∃ m',m' < m/\W (i+1) m' (upd H3 acc (.lst (vs ++ [y]))) (vs ++ [y])))
def CompIfEnd (J:It) (Q:VK) (H1:Hp) (tc:TT) (te:TE) (σ:V->St):Prop:=∀ acc,H1 acc=none->∃ W:Nat->Nat->Hp->List V->Prop,(∃ m,W 0 m (upd H1 acc (.lst [])) []) /\
 ∀ i m H' vs,W i m H' vs->H' acc=some (.lst vs)/\((J.stop i H'/\Q (.ref acc) H')\/(J.go i H'/\vs.length < sizeLine/\∀ x H2,J.yld i H' x H2->tc (σ x) H2 fun b H3=>
  if b=true then te (σ x) H3 fun y H4=>H4 acc=some (.lst vs)/\∃ m',m' < m/\W (i+1) m' (upd H4 acc (.lst (vs ++ [y]))) (vs ++ [y]) else ∃ m',m' < m/\W (i+1) m' H3 vs))
def tCompC (wi:TI) (fr:List Nat) (te:TE):TE:=fun σ H Q=>wi σ H fun J H1=>CompEnd J Q H1 te (fun x=>compSt σ fr (some x))
def tCompIfC (wi:TI) (fr:List Nat) (tc:TT) (te:TE):TE:=fun σ H Q=>wi σ H fun J H1=>CompIfEnd J Q H1 tc te (fun x=>compSt σ fr (some x))
def tSetC0 (wi:TI) (fr:List Nat) (te:TE) (k:Nat):TS:=fun D σ H=>tCompC wi fr te σ H fun v H'=>D.nx (σ.set k (some v)) H'
section
variable {X:Cx} {N:List Str} {fr:List Nat} {x:Str} {scope:Scope} {cl:List (Str × Addr)} {elt iter:Expr} {px pos:Pos} {wi:TI} {te:TE}
theorem ps_setC0 {y:Str} {py spos:Pos} {k:Nat} (hN:X.N.Nodup) (hk:X.N[k]?=some y) (hy:Loc X.env.scope y) (hsw:swapsWith (.ListComp elt [⟨.Name x px,iter,[],0⟩] scope pos) (some (.Name y py)) spos.line X.env=pure true) (hc:X.still=true) (S:CompScope X N fr x scope cl) (hi:PI X (.Name x px) iter wi) (he:∀ (C:Addr) (s0:Shared) (H0:Hp) (fp:List Addr) (pins:List (Addr × Obj)),PE (cxC X N scope cl C s0 H0 fp pins) elt te)
  (hf:X.fn y=true\/X.env.scope.names.lookup y=some .local) (hs:∀ y,foldedSetIterable iter X.env y=pure y:=by intro _; rfl):PS X (.Assign [.Name y py] (.ListComp elt [⟨.Name x px,iter,[],0⟩] scope pos) spos) (tSetC0 wi fr te k):=by
 intro pins s σ H D I h
 rw [exec_Assign_Name_used _ _ _ _ hsw]
 refine wpAny_bind (wpAny_standAt (wpAny_bind ?_))
 show wpAny _ X.A (do let _ <- comprehension (.ListComp elt [⟨.Name x px,iter,[],0⟩] scope pos) scope X.env _ (newList []) false (eval iter X.env) (some (assign (.Name y py) X.env))) _ _ s
 refine wpAny_bind (wpAny_mono (comp_core (tc:=fun _ H Q=>Q true H) (Q:=fun v H'=>D.nx (σ.set k (some v)) H') (use:=some (assign (.Name y py) X.env)) (R:=fun _ s'=>SP X pins D .next s') hc S hi (fun _ _ _ _ _=>pts_nil) he hs I h (fun acc C m H6 s7 qn hn hend cf cL cC cP cS=>by
  have J7:Inv X pins σ H6 s7:=hend s7.heap ⟨rfl,fun _ _=>rfl⟩
  show wpAny _ X.A (assign (.Name y py) X.env (.ref acc)) _ _ _
  refine wpAny_assign_Name (store_ok2 J7 hN hk hy (v:=.ref acc) rfl (fun s8 J8 ⟨a,hsa,ha⟩=>?_) hf)
  have aC:C ≠ a:=by
   rcases ha with e | e
   ·rw [e]; exact Ne.symm cL
   ·exact Ne.symm (cC _ _ e)
  exact ⟨m,hn.sameBut hsa aC,fun h' hs'=>⟨_,H6,J8.off hs' cS cf (Ne.symm cL) cC cP,qn⟩⟩)) (fun _ s' hq=>wpAny_pure (wpAny_pure hq)) fun _ _ e=>e)
end
section
variable {X:Cx} {N:List Str} {fr:List Nat} {x:Str} {scope:Scope} {cl:List (Str × Addr)} {elt iter:Expr} {px pos:Pos} {wi:TI} {te:TE}
theorem pe_compC (hc:X.still=true) (S:CompScope X N fr x scope cl) (hi:PI X (.Name x px) iter wi) (he:∀ (C:Addr) (s0:Shared) (H0:Hp) (fp:List Addr) (pins:List (Addr × Obj)),PE (cxC X N scope cl C s0 H0 fp pins) elt te)
  (hs:∀ y,foldedSetIterable iter X.env y=pure y:=by intro _; rfl):PE X (.ListComp elt [⟨.Name x px,iter,[],0⟩] scope pos) (tCompC wi fr te):=pe_comp hc S hi he hs
theorem pe_compIfC {cnd:Expr} {tc:TT} (hc:X.still=true) (S:CompScope X N fr x scope cl) (hi:PI X (.Name x px) iter wi) (ht:∀ (C:Addr) (s0:Shared) (H0:Hp) (fp:List Addr) (pins:List (Addr × Obj)),PT (cxC X N scope cl C s0 H0 fp pins) cnd tc) (he:∀ (C:Addr) (s0:Shared) (H0:Hp) (fp:List Addr) (pins:List (Addr × Obj)),PE (cxC X N scope cl C s0 H0 fp pins) elt te)
  (hs:∀ y,foldedSetIterable iter X.env y=pure y:=by intro _; rfl):PE X (.ListComp elt [⟨.Name x px,iter,[cnd],0⟩] scope pos) (tCompIfC wi fr tc te):=pe_compIf hc S hi ht he hs
end
theorem same_upd {H0 H:Hp} {p:Addr} {o:HO} (g:Same H0 H) (h:H0 p=none):Same H0 (upd H p o):=fun b u q=>by
 rw [upd_ne (ne_of_none q h)]
 exact g b u q
theorem comp_range {te:TE} {σ:V->St} {H:Hp} {Q:VK} {lo:Int} (n:Nat) (hn:n < sizeLine) (R:Nat->List V->Hp->Prop) (R0:∀ p,H p=none->R 0 [] (upd H p (.lst [])))
  (he:∀ i vs H' acc (Q':VK),i < n->Same H H'->H acc=none->H' acc=some (.lst vs)->R i vs H'->vs.length=i->(∀ y H2,Same H' H2->(R (i+1) (vs ++ [y]) (upd H2 acc (.lst (vs ++ [y]))))->Q' y H2)->te (σ (.int (lo+i))) H' Q')
  (q:∀ p H' vs,Same H H'->H p=none->H' p=some (.lst vs)->vs.length=n->R n vs H'->Q (.ref p) H'):CompEnd (Itr lo n) Q H te σ:=by
 intro acc hacc
 refine ⟨fun i m H' vs=>i<=n/\m=n - i/\Same H H'/\H' acc=some (.lst vs)/\vs.length=i/\R i vs H',⟨n,Nat.zero_le _,by simp,same_new hacc _,upd_same,rfl,R0 _ hacc⟩,?_⟩
 rintro i m H' vs ⟨hi,rfl,g,ha,hl,r⟩
 refine ⟨ha,?_⟩
 by_cases h:i=n
 ·subst h
  exact .inl ⟨Nat.le_refl _,q acc H' vs g hacc ha hl r⟩
 ·refine .inr ⟨by (show i < n; omega),by omega,?_⟩
  rintro z H2 ⟨rfl,rfl⟩
  refine he i vs H2 acc _ (by omega) g hacc ha r hl fun y H3 g3 r3=>⟨g3 _ _ ha,n - (i+1),by omega,by omega,rfl,same_upd (g.trans g3) hacc,upd_same,?_,r3⟩
  rw [List.length_append,hl]
  rfl
theorem comp_rangeF {te:TE} {σ:V->St} {H:Hp} {Q:VK} {lo:Int} (n:Nat) (hn:n < sizeLine) (f:Nat->V)
  (he:∀ i H' (Q':VK),i < n->Same H H'->(∀ H2,Same H' H2->Q' (f i) H2)->te (σ (.int (lo+i))) H' Q')
  (q:∀ p H',Same H H'->H p=none->H' p=some (.lst ((List.range n).map f))->Q (.ref p) H'):CompEnd (Itr lo n) Q H te σ:=by
 refine comp_range n hn (fun i vs _=>vs=(List.range i).map f) (fun _ _=>rfl) ?_ ?_
 ·intro i vs H' acc Q' hi g h0 h1 r hl k
  refine he i H' Q' hi g fun H2 g2=>k _ _ g2 ?_
  rw [r,List.range_succ,List.map_append]
  rfl
 ·intro p H' vs g h0 h1 hl r
  exact q p H' g h0 (r ▸ h1)
theorem comp_listF {K:W.Frag} {a:Addr} {xs:List V} {te:TE} {σ:V->St} {H:Hp} {Q:VK} (hx:SqL K H a xs) (hn:xs.length < sizeLine) (f:V->V) (hK:∀ H',Same H H'->SqL K H' a xs)
  (he:∀ (i:Nat) (x:V) (H':Hp) (Q':VK),xs[i]?=some x->Same H H'->(∀ H2,Same H' H2->Q' (f x) H2)->te (σ x) H' Q')
  (q:∀ p H',Same H H'->H p=none->H' p=some (.lst (xs.map f))->Q (.ref p) H'):CompEnd (Itl K a) Q H te σ:=by
 intro acc hacc
 refine ⟨fun i m H' vs=>i<=xs.length/\m=xs.length - i/\Same H H'/\H' acc=some (.lst vs)/\vs=(xs.take i).map f,⟨xs.length,Nat.zero_le _,by simp,same_new hacc _,upd_same,by simp⟩,?_⟩
 rintro i m H' vs ⟨hi,rfl,g,ha,rfl⟩
 refine ⟨ha,?_⟩
 by_cases h:i=xs.length
 ·refine .inl ⟨⟨xs,hK _ g,by omega⟩,q acc H' g hacc ?_⟩
  rw [ha,h,List.take_length]
 ·have hlt:i < xs.length:=by omega
  refine .inr ⟨⟨xs,xs[i],hK _ g,by simp [hlt]⟩,by rw [List.length_map,List.length_take]; omega,?_⟩
  rintro z H2 ⟨rfl,hz⟩
  have hz':=hz xs (hK _ g)
  refine he i z H2 _ hz' g fun H3 g3=>⟨g3 _ _ ha,xs.length - (i+1),by omega,by omega,rfl,same_upd (g.trans g3) hacc,upd_same,?_⟩
  rw [List.take_succ,hz',List.map_append]
  rfl
theorem comp_tupF {K:W.Frag} {a:Addr} {xs:List V} {te:TE} {σ:V->St} {H:Hp} {Q:VK} (hx:SqT K H a xs) (hn:xs.length < sizeLine) (f:V->V) (hK:∀ H',Same H H'->SqT K H' a xs)
  (he:∀ (i:Nat) (x:V) (H':Hp) (Q':VK),xs[i]?=some x->Same H H'->(∀ H2,Same H' H2->Q' (f x) H2)->te (σ x) H' Q')
  (q:∀ p H',Same H H'->H p=none->H' p=some (.lst (xs.map f))->Q (.ref p) H'):CompEnd (Itt K a) Q H te σ:=by
 intro acc hacc
 refine ⟨fun i m H' vs=>i<=xs.length/\m=xs.length - i/\Same H H'/\H' acc=some (.lst vs)/\vs=(xs.take i).map f,⟨xs.length,Nat.zero_le _,by simp,same_new hacc _,upd_same,by simp⟩,?_⟩
 rintro i m H' vs ⟨hi,rfl,g,ha,rfl⟩
 refine ⟨ha,?_⟩
 by_cases h:i=xs.length
 ·refine .inl ⟨⟨xs,hK _ g,by omega⟩,q acc H' g hacc ?_⟩
  rw [ha,h,List.take_length]
 ·have hlt:i < xs.length:=by omega
  refine .inr ⟨⟨xs,xs[i],hK _ g,by simp [hlt]⟩,by rw [List.length_map,List.length_take]; omega,?_⟩
  rintro z H2 ⟨rfl,hz⟩
  have hz':=hz xs (hK _ g)
  refine he i z H2 _ hz' g fun H3 g3=>⟨g3 _ _ ha,xs.length - (i+1),by omega,by omega,rfl,same_upd (g.trans g3) hacc,upd_same,?_⟩
  rw [List.take_succ,hz',List.map_append]
  rfl
theorem compIf_walk {J:It} {xs:List V} {tc:TT} {te:TE} {σ:V->St} {H:Hp} {Q:VK} (hn:xs.length < sizeLine) (p:V->Bool) (f:V->V)
  (hstop:∀ H',Same H H'->J.stop xs.length H') (hgo:∀ (i:Nat) H',i < xs.length->Same H H'->J.go i H') (hyld:∀ (i:Nat) H' x H2,Same H H'->J.yld i H' x H2->H2=H'/\xs[i]?=some x)
  (ht:∀ (i:Nat) (x:V) (H':Hp) (Q':Bool->Hp->Prop),xs[i]?=some x->Same H H'->(∀ H2,Same H' H2->Q' (p x) H2)->tc (σ x) H' Q')
  (he:∀ (i:Nat) (x:V) (H':Hp) (Q':VK),xs[i]?=some x->p x=true->Same H H'->(∀ H2,Same H' H2->Q' (f x) H2)->te (σ x) H' Q')
  (q:∀ a H',Same H H'->H a=none->H' a=some (.lst ((xs.filter p).map f))->Q (.ref a) H'):CompIfEnd J Q H tc te σ:=by
 intro acc hacc
 refine ⟨fun i m H' vs=>i<=xs.length/\m=xs.length - i/\Same H H'/\H' acc=some (.lst vs)/\vs=((xs.take i).filter p).map f,⟨xs.length,Nat.zero_le _,by simp,same_new hacc _,upd_same,by simp⟩,?_⟩
 rintro i m H' vs ⟨hi,rfl,g,ha,rfl⟩
 refine ⟨ha,?_⟩
 by_cases h:i=xs.length
 ·refine .inl ⟨h ▸ hstop _ g,q acc H' g hacc ?_⟩
  rw [ha,h,List.take_length]
 ·have hlt:i < xs.length:=by omega
  refine .inr ⟨hgo i _ hlt g,?_,?_⟩
  ·rw [List.length_map]
   have h1:=List.length_filter_le p (xs.take i)
   rw [List.length_take] at h1
   omega
  intro z H2 hz
  obtain ⟨rfl,hz'⟩:=hyld i _ _ _ g hz
  refine ht i z H2 _ hz' g fun H3 g3=>?_
  have ts:xs.take (i+1)=xs.take i ++ [z]:=by rw [List.take_succ,hz']; rfl
  cases e:p z with
  | true=>
   rw [if_pos rfl]
   refine he i z H3 _ hz' e (g.trans g3) fun H4 g4=>⟨g4 _ _ (g3 _ _ ha),xs.length - (i+1),by omega,by omega,rfl,same_upd (g.trans (g3.trans g4)) hacc,upd_same,?_⟩
   rw [ts,List.filter_append,List.map_append]
   have:[z].filter p=[z]:=by simp [e]
   rw [this]
   rfl
  | false=>
   rw [if_neg Bool.false_ne_true]
   refine ⟨xs.length - (i+1),by omega,by omega,rfl,g.trans g3,g3 _ _ ha,?_⟩
   rw [ts,List.filter_append,List.map_append]
   have:[z].filter p=[]:=by simp [e]
   rw [this]
   simp
theorem compIf_tupF {K:W.Frag} {a:Addr} {xs:List V} {tc:TT} {te:TE} {σ:V->St} {H:Hp} {Q:VK} (hn:xs.length < sizeLine) (p:V->Bool) (f:V->V) (hK:∀ H',Same H H'->SqT K H' a xs)
  (ht:∀ (i:Nat) (x:V) (H':Hp) (Q':Bool->Hp->Prop),xs[i]?=some x->Same H H'->(∀ H2,Same H' H2->Q' (p x) H2)->tc (σ x) H' Q')
  (he:∀ (i:Nat) (x:V) (H':Hp) (Q':VK),xs[i]?=some x->p x=true->Same H H'->(∀ H2,Same H' H2->Q' (f x) H2)->te (σ x) H' Q')
  (q:∀ a H',Same H H'->H a=none->H' a=some (.lst ((xs.filter p).map f))->Q (.ref a) H'):CompIfEnd (Itt K a) Q H tc te σ:=
 compIf_walk hn p f (fun H' g=>⟨xs,hK _ g,Nat.le_refl _⟩) (fun i H' hi g=>⟨xs,xs[i],hK _ g,by simp [hi]⟩) (fun i H' x H2 g h=>⟨h.1,h.2 xs (hK _ g)⟩) ht he q
theorem compIf_listF {K:W.Frag} {a:Addr} {xs:List V} {tc:TT} {te:TE} {σ:V->St} {H:Hp} {Q:VK} (hn:xs.length < sizeLine) (p:V->Bool) (f:V->V) (hK:∀ H',Same H H'->SqL K H' a xs)
  (ht:∀ (i:Nat) (x:V) (H':Hp) (Q':Bool->Hp->Prop),xs[i]?=some x->Same H H'->(∀ H2,Same H' H2->Q' (p x) H2)->tc (σ x) H' Q')
  (he:∀ (i:Nat) (x:V) (H':Hp) (Q':VK),xs[i]?=some x->p x=true->Same H H'->(∀ H2,Same H' H2->Q' (f x) H2)->te (σ x) H' Q')
  (q:∀ a H',Same H H'->H a=none->H' a=some (.lst ((xs.filter p).map f))->Q (.ref a) H'):CompIfEnd (Itl K a) Q H tc te σ:=
 compIf_walk hn p f (fun H' g=>⟨xs,hK _ g,Nat.le_refl _⟩) (fun i H' hi g=>⟨xs,xs[i],hK _ g,by simp [hi]⟩) (fun i H' x H2 g h=>⟨h.1,h.2 xs (hK _ g)⟩) ht he q
mutual
inductive DA (H:Hp):V->PyData->Prop where
 | int {i:Int}:DA H (.int i) (.int i)
 | bl {b:Bool}:DA H (.bl b) (.bool b)
 | str {x:Str}:DA H (.str x) (.str x)
 | lst {p:Addr} {xs:List V} {ds:List PyData}:H p=some (.lst xs)->DAs H xs ds->DA H (.ref p) (.list ds)
 | tup {p:Addr} {xs:List V} {ds:List PyData}:H p=some (.tup xs)->DAs H xs ds->DA H (.ref p) (.tuple ds)
inductive DAs (H:Hp):List V->List PyData->Prop where
 | nil:DAs H [] []
 | cons {x:V} {d:PyData} {xs:List V} {ds:List PyData}:DA H x d->DAs H xs ds->DAs H (x :: xs) (d :: ds)
end
mutual
theorem DA.reads {X:Cx} {pins:List (Addr × Obj)} {σ:St} {H:Hp} {s:Shared} (I:Inv X pins σ H s):∀ {v:V} {d:PyData} {u:Value},DA H v d->RelV v u->∃ as,Reads s.heap u d as
 | _,_,_,.int,r=>by obtain ⟨t,rfl⟩:=r; exact ⟨_,.int _ _⟩
 | _,_,_,.bl,r=>by cases r; exact ⟨_,.bool _⟩
 | _,_,_,.str,r=>by obtain ⟨t,rfl⟩:=r; exact ⟨_,.str _ _⟩
 | _,_,_,.lst h hs,r=>by
  cases r
  obtain ⟨its,rv,⟨o,n,e1,e2,_,e3⟩,_⟩:=I.list (SqL.of h)
  obtain ⟨as,z⟩:=DAs.reads I hs rv
  exact ⟨_,.list e1 e2 e3 z⟩
 | _,_,_,.tup h hs,r=>by
  cases r
  obtain ⟨its,rv,⟨o,e1,e2,n,e3⟩,_⟩:=I.tuple (SqT.of h)
  obtain ⟨as,z⟩:=DAs.reads I hs rv
  exact ⟨_,.tuple e1 e2 e3 z⟩
theorem DAs.reads {X:Cx} {pins:List (Addr × Obj)} {σ:St} {H:Hp} {s:Shared} (I:Inv X pins σ H s):∀ {vs:List V} {ds:List PyData} {us:List Value},DAs H vs ds->Vals vs us->∃ as,ReadsAll s.heap us ds as
 | _,_,_,.nil,r=>by cases r; exact ⟨_,.nil⟩
 | _,_,_,.cons h hs,r=>by
  cases r with
  | cons r1 r2=>
   obtain ⟨a1,z1⟩:=DA.reads I h r1
   obtain ⟨a2,z2⟩:=DAs.reads I hs r2
   exact ⟨_,.cons z1 z2⟩
end
theorem DAs.ints {H:Hp}:∀ ns:List Int,DAs H (ns.map V.int) (ns.map PyData.int)
 | []=>.nil
 | _ :: ns=>.cons .int (DAs.ints ns)
def rEqD:R2:=fun x y H Q=>∃ da db:PyData,DA H x da/\DA H y db/\SeqAt.shaped da=true/\SeqAt.shaped db=true/\Q (.bl (PyData.eqv da db)) H
def rNeD:R2:=fun x y H Q=>∃ da db:PyData,DA H x da/\DA H y db/\SeqAt.shaped da=true/\SeqAt.shaped db=true/\Q (.bl (!PyData.eqv da db)) H
theorem op_eqD {X:Cx} (hu:X.A.units+64 < cLine):OpR X (compareOp .Eq) rEqD:=by
 intro pins s σ H x y v u Q I rx ry h
 obtain ⟨da,db,ha,hb,sa,sb,q⟩:=h
 obtain ⟨as,ra⟩:=ha.reads I rx
 obtain ⟨bs,rb⟩:=hb.reads I ry
 exact eq_dataH ra rb sa sb hu ⟨.bl _,H,I,rfl,q⟩
end L2
namespace L2
open PySem PySem.Spec PyProof.Rows
structure CompScope2 (X:Cx) (N:List Str) (fr:List Nat) (x x2:Str) (scope:Scope) (cl:List (Str × Addr)):Prop where
 kind:scope.kind=.function
 nocell:∀ y ∈ scope.names,y.2 ≠ .cell
 loc:∀ y ∈ scope.names,y.2=.local->scope.names.lookup y.1=some .local
 own:scope.names.lookup x=some .local
 own2:scope.names.lookup x2=some .local
 clos:closureFor scope X.env=pure cl
 sub:∀ y c,cl.lookup y=some c->X.env.cells.lookup y=some c
 has:∀ y,((relabel scope X.env).names.lookup y=some .cell\/(relabel scope X.env).names.lookup y=some .free)->∃ c,cl.lookup y=some c
 nd:N.Nodup
 hN:N[0]?=some x
 hN2:N[1]?=some x2
 len:N.length=fr.length+2
 ownOnly:∀ (j:Nat) (y:Str),N[j+2]?=some y->(relabel scope X.env).names.lookup y ≠ some .local
 out:∀ (j k:Nat),fr[j]?=some k->∃ y,N[j+2]?=some y/\X.N[k]?=some y/\X.env.kindOf y=some .cell
def compSt2 (σ:St) (fr:List Nat) (v v2:Option V):St:=v :: v2 :: fr.map fun k=>(σ[k]?).join
def CompPEnd (K:W.Frag) (J:It) (Q:VK) (H1:Hp) (te:TE) (σ:V->V->St):Prop:=∀ acc,H1 acc=none->∃ W:Nat->Nat->Hp->List V->Prop,(∃ m,W 0 m (upd H1 acc (.lst [])) []) /\
 ∀ i m H' vs,W i m H' vs->H' acc=some (.lst vs)/\((J.stop i H'/\Q (.ref acc) H')\/(J.go i H'/\vs.length < sizeLine/\∀ x H2,J.yld i H' x H2->∃ (t:Addr) (v1 v2:V),x=.ref t/\SqT K H2 t [v1,v2]/\te (σ v1 v2) H2 fun y H3=>H3 acc=some (.lst vs)/\∃ m',m' < m/\W (i+1) m' (upd H3 acc (.lst (vs ++ [y]))) (vs ++ [y])))
def tCompP (K:W.Frag) (wi:TI) (fr:List Nat) (te:TE):TE:=fun σ H Q=>wi σ H fun J H1=>CompPEnd K J Q H1 te (fun v1 v2=>compSt2 σ fr (some v1) (some v2))
theorem compLoop_pairIf {P:Program} {w:World} {A:Around} {s:Shared} {elt iter:Expr} {ifs:List Expr} {es:List Expr} {x1:Nat} {tp:Pos} {scope:Scope} {pos:Pos} {it acc:Value} {env:Env} {R:Result->Shared->Prop} (I:Nat->Shared->Prop)
  (turn:∀ n s,I n s->wpAny (model P w) A (pyNext it) (fun r s₁=>match r with
   | none=>R (.ok .next) s₁
   | some v=>wpAny (model P w) A (letOwnedTupleGo (.Tuple es x1 tp) it v) (fun _ s₁'=>wpAny (model P w) A (assign (.Tuple es x1 tp) env v) (fun _ s₂=>
     wpAny (model P w) A (forIn ifs true fun c r=>if r=true then do let ok <- isTrue c env (eval c env); pure (ForInStep.yield ok) else pure (ForInStep.yield r)) (fun ok s₃=>
      if ok=true then wpAny (model P w) A (eval elt env) (fun x s₄=>
       wpAny (model P w) A (call (.builtin "list.append") [acc,x]) (fun _ s₅=>∃ m,m < n/\I m s₅) (notedBy (model P w) A env fun e s'=>R (.error e) s') s₄) (notedBy (model P w) A env fun e s'=>R (.error e) s') s₃
      else ∃ m,m < n/\I m s₃) (notedBy (model P w) A env fun e s'=>R (.error e) s') s₂)
     (notedBy (model P w) A env fun e s'=>R (.error e) s') s₁') (notedBy (model P w) A env fun e s'=>R (.error e) s') s₁) (notedBy (model P w) A env fun e s'=>R (.error e) s') s)
  (n:Nat) (h:I n s):codeAny (model P w) A (.compLoop (.ListComp elt [⟨.Tuple es x1 tp,iter,ifs,0⟩] scope pos) 0 it acc env) R s:=by
 refine codeAny_loop rfl I (fun m s1 hI=>?_) n h
 show wpAny _ A ((compTurn (.ListComp elt [⟨.Tuple es x1 tp,iter,ifs,0⟩] scope pos) 0 it acc env).onRaise (fun x=>do noteFrame x env; theTreesLotGoes x)) _ _ s1
 refine wpAny_noted ?_
 rw [compTurn_list]
 refine wpAny_bind (wpAny_standAt (wpAny_bind (wpAny_mono (turn m s1 hI) (fun r s2 k2=>?_) fun _ _ z=>z)))
 cases r with
 | none=>exact wpAny_pure k2
 | some v=>
  refine wpAny_bind (wpAny_mono k2 (fun _ s3 k3=>?_) fun _ _ z=>z)
  refine wpAny_bind (wpAny_mono k3 (fun _ s4 k4=>wpAny_bind (wpAny_mono k4 (fun ok s5 k5=>?_) fun _ _ z=>z)) fun _ _ z=>z)
  cases ok with
  | false=>exact wpAny_pure ⟨rfl,k5⟩
  | true=>
   exact wpAny_bind (wpAny_bind (wpAny_mono k5 (fun x s6 k6=>wpAny_bind (wpAny_mono k6 (fun _ s7 k7=>wpAny_pure (wpAny_pure ⟨rfl,k7⟩)) fun _ _ z=>z)) fun _ _ z=>z))
def CompPIEnd (K:W.Frag) (J:It) (Q:VK) (H1:Hp) (tc:TT) (te:TE) (σ:V->V->St):Prop:=∀ acc,H1 acc=none->∃ W:Nat->Nat->Hp->List V->Prop,(∃ m,W 0 m (upd H1 acc (.lst [])) []) /\
 ∀ i m H' vs,W i m H' vs->H' acc=some (.lst vs)/\((J.stop i H'/\Q (.ref acc) H')\/(J.go i H'/\vs.length < sizeLine/\∀ x H2,J.yld i H' x H2->∃ (t:Addr) (v1 v2:V),x=.ref t/\SqT K H2 t [v1,v2]/\tc (σ v1 v2) H2 fun b H3=>
  if b=true then te (σ v1 v2) H3 fun y H4=>H4 acc=some (.lst vs)/\∃ m',m' < m/\W (i+1) m' (upd H4 acc (.lst (vs ++ [y]))) (vs ++ [y]) else ∃ m',m' < m/\W (i+1) m' H3 vs))
def tCompPI (K:W.Frag) (wi:TI) (fr:List Nat) (tc:TT) (te:TE):TE:=fun σ H Q=>wi σ H fun J H1=>CompPIEnd K J Q H1 tc te (fun v1 v2=>compSt2 σ fr (some v1) (some v2))
section
variable {X:Cx} {N:List Str} {fr:List Nat} {x x2:Str} {scope:Scope} {cl:List (Str × Addr)} {elt iter:Expr} {px px2 tp pos:Pos} {kt:Nat} {wi:TI} {te:TE}
theorem cxC_ok2 {pins:List (Addr × Obj)} {σ:St} {H:Hp} {s:Shared} {fp:List Addr} {C:Addr} (S:CompScope2 X N fr x x2 scope cl) (I:Inv X pins σ H s) (hf:∀ b ∈ fp,FpOk X pins H b) (hC:s.heap.objs.size<=C) (hfl:∀ b ∈ fp,b < s.heap.objs.size):(cxC X N scope cl C s H fp pins).Ok where
 mod:=I.ok.mod
 kind:=S.kind
 glob:=I.ok.glob
 blt:=I.ok.blt
 above:=hC
 inj:=fun y z c h1 h2=>I.ok.inj y z c (S.sub _ _ h1) (S.sub _ _ h2)
 has:=fun y h=>S.has y h
 cab:=fun y c h=>by cases h
 hd:=I.ok.hd
 hs:=I.ok.hs
 frames:=I.ok.frames
 stk:=.inl rfl
 exf:=fun b hb=>⟨Nat.ne_of_lt (Nat.lt_of_lt_of_le (hfl b hb) hC),fun y c h=>(hf b hb).2.2.2.2.1 y c (S.sub _ _ h)⟩
 bs:=fun b o e=>I.bs b o e
 bsz:=Nat.le_trans I.ok.bsz I.sz
 noex:=fun b o e hb=>by
  rcases (hf b hb).2.2.2.1 with z | z
  ·exact I.ok.noex b o e z
  ·exact absurd (Nat.lt_of_lt_of_le (Heap.lt_size e) (Nat.le_trans I.ok.bsz z)) (Nat.lt_irrefl _)
 exfs:=fun b hb z=>by
  rcases List.mem_cons.mp (I.stkSub b z) with e | e
  ·exact (hf b hb).2.1 e
  ·exact (hf b hb).2.2.1 e
 funs:=I.stack
 frf:=I.stkFree
theorem cxC_start2 {pins:List (Addr × Obj)} {σ:St} {H:Hp} {s s4:Shared} {fp:List Addr} {C:Addr} {m:Str->Option Value} (S:CompScope2 X N fr x x2 scope cl) (I:Inv X pins σ H s) (hf:∀ b ∈ fp,FpOk X pins H b) (hC:s.heap.objs.size<=C) (hfl:∀ b ∈ fp,b < s.heap.objs.size)
  (hn:s4.heap.Ns C m) (hk:∀ b o,s.heap.get? b=some o->s4.heap.get? b=some o) (ho:s4.os=s.os) (hg:s4.gens=s.gens):Inv (cxC X N scope cl C s H fp pins) [] (compSt2 σ fr none none) H s4:=by
 obtain ⟨m0,hn0,hl⟩:=id I.loc
 refine ⟨cxC_ok2 S I hf hC hfl,I.fzs,ho,by rw [hg]; exact I.bare,Un.kept hk,⟨m,hn,fun i y v e1 e2 e3=>?_⟩,fun y c h=>?_,I.hok.fresh hC,fun y c h=>I.freeC y c (S.sub _ _ h),fun p hp=>?_,I.hok.kept hk,?_⟩
 ·match i,e1,e2 with
  | 0,e1,e2=>cases e2
  | 1,e1,e2=>cases e2
  | j+2,e1,e2=>
   have e2':(fr.map fun k=>(σ[k]?).join)[j]?=some (some v):=e2
   rw [List.getElem?_map] at e2'
   cases ek:fr[j]? with
   | none=>rw [ek] at e2'; cases e2'
   | some k=>
    rw [ek] at e2'
    have e4:(σ[k]?).join=some v:=Option.some.inj e2'
    obtain ⟨y',h1,h2,h3⟩:=S.out j k ek
    have e1':N[j+2]?=some y:=e1
    obtain rfl:y'=y:=Option.some.inj (h1.symm.trans e1')
    have e5:σ[k]?=some (some v):=by
     cases q:σ[k]? with
     | none=>rw [q] at e4; cases e4
     | some w=>rw [q] at e4; exact congrArg some e4
    obtain ⟨u,r,lk⟩:=hl k y' v h2 e5 (.inr (.inl h3))
    refine ⟨u,r,.inr ?_⟩
    rcases lk with ⟨z,_⟩ | ⟨_,c,hc,hcell⟩
    ·rw [h3] at z; cases z
    ·have e6:Vis (relabel scope X.env) y':=e3
     have hk2:(relabel scope X.env).names.lookup y'=some .cell\/(relabel scope X.env).names.lookup y'=some .free:=by
      rcases e6 with e6 | e6 | e6
      ·exfalso
       have nd:=S.nd
       -- a name of the block's own is the first one
       exact S.ownOnly _ _ h1 e6
      ·exact .inl e6
      ·exact .inr e6
     obtain ⟨c2,hc2⟩:=S.has y' hk2
     have:=S.sub _ _ hc2
     rw [hc] at this; cases this
     obtain ⟨o,z1,z2⟩:=hcell
     exact ⟨hk2,c,hc2,o,hk _ _ z1,z2⟩
 ·obtain ⟨v,o,z1,z2⟩:=I.cell y c (S.sub _ _ h)
  exact ⟨v,o,hk _ _ z1,z2⟩
 ·rw [List.append_nil] at hp
  obtain ⟨e,k,ne,nf,d⟩:=I.pin p hp
  refine ⟨hk _ _ e,k,Nat.ne_of_lt (Nat.lt_of_lt_of_le (Heap.lt_size e) hC),fun z=>?_,d⟩
  rcases List.mem_cons.mp (I.stkSub _ z) with q | q
  ·exact ne q
  ·exact nf q
 ·show (compSt2 σ fr none none).length=N.length
  rw [S.len]
  simp [compSt2]
theorem comp_core2 {ifs:List Expr} {tc:TT} {use:Option (Value->Sem Unit)} {R:Value->Shared->Prop} {Q:VK} {pins:List (Addr × Obj)} {s:Shared} {σ:St} {H:Hp} {ep:Pos} (hc:X.still=true) (S:CompScope2 X N fr x x2 scope cl) (hi:PI X (.Tuple [.Name x px,.Name x2 px2] kt tp) iter wi)
  (ht:∀ (C:Addr) (s0:Shared) (H0:Hp) (fp:List Addr) (pins:List (Addr × Obj)),PTs (cxC X N scope cl C s0 H0 fp pins) ifs tc) (he:∀ (C:Addr) (s0:Shared) (H0:Hp) (fp:List Addr) (pins:List (Addr × Obj)),PE (cxC X N scope cl C s0 H0 fp pins) elt te)
  (hs:∀ y,foldedSetIterable iter X.env y=pure y) (I:Inv X pins σ H s) (h:tCompPI X.K wi fr tc te σ H Q)
  (fin:∀ (acc C:Addr) (m:Str->Option Value) (H6:Hp) (s7:Shared),Q (.ref acc) H6->s7.heap.Ns C m->(∀ h':Heap,Heap.SameBut C s7.heap h'->Inv X pins σ H6 { s7 with heap:=h' })->H6 C=none->X.env.locals ≠ C->(∀ z c,X.env.cells.lookup z=some c->c ≠ C)->(∀ p ∈ X.pn ++ pins,p.1 ≠ C)->X.s₀.heap.objs.size<=C->compPost (model X.prog X.w) X.A X.xe use R (.ref acc) C (.ok .next) s7) :
  wpAny (model X.prog X.w) X.A (comprehension (.ListComp elt [⟨.Tuple [.Name x px,.Name x2 px2] kt tp,iter,ifs,0⟩] scope pos) scope X.env ep (newList []) false (eval iter X.env) use) R X.xe s:=by
 refine wpAny_comprehension_free (use:=use) rfl hs S.clos S.kind S.loc (thn (hi pins s σ H _ I h) fun v s1 h1=>thn h1 fun itv s2 h2=>?_)
 obtain ⟨it,fp,tn,J,H2,e,I2,T,st2,f2,hW⟩:=h2
 subst e
 have hfl:∀ b ∈ fp,b < s2.heap.objs.size:=fun b hb=>by
  obtain ⟨o,q,_⟩:=T.obj _ _ st2 b hb
  exact Heap.lt_size q
 have hfr:H2 s2.heap.objs.size=none:=I2.hok.fresh (Nat.le_refl _)
 refine wpAny_newObj_type ?_
 have keep3:∀ b o,s2.heap.get? b=some o->(s2.heap.push { cls:=.type "list",dict:=none,data:=.seq ([]:List Value).toArray }).get? b=some o:=fun b o q=>Heap.get?_push_of_some _ q
 have I3:Inv X pins σ (upd H2 s2.heap.objs.size (.lst [])) { s2 with heap:=s2.heap.push { cls:=.type "list",dict:=none,data:=.seq ([]:List Value).toArray } }:=
  I2.laid (t':=s2.toks) keep3 (Nat.le_refl _) ⟨Nat.zero_le _,[],0,.nil,Heap.get?_push_size _ rfl⟩
 obtain ⟨W,⟨m0,w0⟩,turn⟩:=hW s2.heap.objs.size hfr
 have f3:∀ b ∈ fp,FpOk X pins (upd H2 s2.heap.objs.size (.lst [])) b:=fun b hb=>⟨by rw [upd_ne (Nat.ne_of_lt (hfl b hb))]; exact (f2 b hb).1,(f2 b hb).2⟩
 refine wpAny_newFunctionEnv S.nocell (by intro y hy; simp at hy) (fun h4 hns hsb=>?_) S.kind
 have hfl3:∀ b ∈ fp,b < (s2.heap.push { cls:=.type "list",dict:=none,data:=.seq ([]:List Value).toArray }).objs.size:=fun b hb=>by
  rw [Heap.size_push]
  exact Nat.lt_succ_of_lt (hfl b hb)
 have keep4:∀ b o,(s2.heap.push { cls:=.type "list",dict:=none,data:=.seq ([]:List Value).toArray }).get? b=some o->h4.get? b=some o:=fun b o q=>
  (hsb.2 b (Nat.ne_of_lt (Heap.lt_size q))).trans (Heap.get?_push_of_some _ q)
 have I4:Inv (cxC X N scope cl (s2.heap.push { cls:=.type "list",dict:=none,data:=.seq ([]:List Value).toArray }).objs.size { s2 with heap:=s2.heap.push { cls:=.type "list",dict:=none,data:=.seq ([]:List Value).toArray } } (upd H2 s2.heap.objs.size (.lst [])) fp pins) [] (compSt2 σ fr none none) (upd H2 s2.heap.objs.size (.lst []))
   { s2 with heap:=h4,toks:=s2.toks+([]:List (Str × Value)).length }:=cxC_start2 S I3 f3 (Nat.le_refl _) hfl3 hns keep4 rfl rfl
 have st4:tn 0 h4:=T.keep _ _ _ st2 fun b hb o q=>keep4 b o (keep3 b o q)
 generalize hY:cxC X N scope cl (s2.heap.push { cls:=.type "list",dict:=none,data:=.seq ([]:List Value).toArray }).objs.size { s2 with heap:=s2.heap.push { cls:=.type "list",dict:=none,data:=.seq ([]:List Value).toArray } } (upd H2 s2.heap.objs.size (.lst [])) fp pins=Y at I4
 have hel:PE Y elt te:=hY ▸ he _ _ _ _ _
 have htl:PTs Y ifs tc:=hY ▸ ht _ _ _ _ _
 have eA:Y.A=X.A:=by rw [<- hY]; rfl
 have eP:Y.prog=X.prog:=by rw [<- hY]; rfl
 have ew:Y.w=X.w:=by rw [<- hY]; rfl
 have eK:Y.K=X.K:=by rw [<- hY]; rfl
 have eC:Y.still=true:=by rw [<- hY]; exact hc
 have eE:Y.env=compEnvC scope cl (s2.heap.push { cls:=.type "list",dict:=none,data:=.seq ([]:List Value).toArray }).objs.size X.env:=by rw [<- hY]; rfl
 have eX:Y.xe=fun _ _=>False:=by rw [<- hY]; rfl
 have hg:PG Y (.Tuple [.Name x px,.Name x2 px2] kt tp) (gTup Y.K 2 (gCons (gName 0) (gCons (gName 1) gNil))):=by
  refine pg_tup eC (pgs_cons ?_ (pgs_cons ?_ pgs_nil)) (by rfl) (by rfl)
  ·subst hY
   exact pg_name (i:=0) S.nd S.hN (.inl (lookup_relabel_local S.own)) (.inr (lookup_relabel_local S.own))
  ·subst hY
   exact pg_name (i:=1) S.nd S.hN2 (.inl (lookup_relabel_local S.own2)) (.inr (lookup_relabel_local S.own2))
 have fY:∀ {H':Hp},(∀ b ∈ fp,H' b=none)->∀ b ∈ fp,FpOk Y [] H' b:=fun {H'} hn b hb=>by
  subst hY
  obtain ⟨_,g2,g3,g4,g5,g6⟩:=f3 b hb
  refine ⟨hn b hb,Nat.ne_of_lt (hfl3 b hb),fun z=>?_,.inl hb,fun y c q=>g5 y c (S.sub _ _ q),fun p hp=>?_⟩
  ·rcases List.mem_cons.mp (I3.stkSub b z) with q | q
   ·exact g2 q
   ·exact g3 q
  ·rw [List.append_nil] at hp
   exact g6 p hp
 have loop:∀ s5:Shared,s5={ s2 with heap:=h4,toks:=s2.toks+([]:List (Str × Value)).length } ->
   codeAny (model X.prog X.w) X.A (.compLoop (.ListComp elt [⟨.Tuple [.Name x px,.Name x2 px2] kt tp,iter,ifs,0⟩] scope pos) 0 (.ref it) (.ref s2.heap.objs.size) (compEnvC scope cl (s2.heap.push { cls:=.type "list",dict:=none,data:=.seq ([]:List Value).toArray }).objs.size X.env))
    (compPost (model X.prog X.w) X.A X.xe use R (.ref s2.heap.objs.size) (s2.heap.push { cls:=.type "list",dict:=none,data:=.seq ([]:List Value).toArray }).objs.size) s5:=by
  rintro s5 rfl
  refine compLoop_pairIf (fun n s'=>∃ i v v2 H' vs,Inv Y [] (compSt2 σ fr v v2) H' s'/\tn i s'.heap/\(∀ b ∈ fp,H' b=none)/\W i n H' vs) ?_ m0 ⟨0,none,none,_,[],I4,st4,fun b hb=>(f3 b hb).1,w0⟩
  rintro n s6 ⟨i,v6,v62,H6,vs,I6,st6,fr6,w6⟩
  obtain ⟨hacc,hgo⟩:=turn i n H6 vs w6
  rcases hgo with ⟨stop,qn⟩ | ⟨go,hz,step⟩
  ·have hd:=T.done Y eP ew eK eC i [] s6 _ H6 (fun _ _=>False) I6 (fY fr6) st6 stop
   rw [eA] at hd
   refine wpAny_mono hd (fun r s7 ⟨hr,I7⟩=>?_) fun _ _ z=>z.elim
   subst hr
   obtain ⟨m,hn,_⟩:=id I7.loc
   rw [eE] at hn
   have hend:∀ h':Heap,Heap.SameBut (s2.heap.push { cls:=.type "list",dict:=none,data:=.seq ([]:List Value).toArray }).objs.size s7.heap h'->Inv X pins σ H6 { s7 with heap:=h' }:=fun h' hs'=>by
    subst hY
    exact cxC_end I3 f3 (Nat.le_refl _) I7 hs'
   have cf:H6 (s2.heap.push { cls:=.type "list",dict:=none,data:=.seq ([]:List Value).toArray }).objs.size=none:=by
    subst hY
    exact I7.free
   have big:∀ b o,s2.heap.get? b=some o->b ≠ (s2.heap.push { cls:=.type "list",dict:=none,data:=.seq ([]:List Value).toArray }).objs.size:=fun b o q=>Nat.ne_of_lt (by rw [Heap.size_push]; exact Nat.lt_succ_of_lt (Heap.lt_size q))
   obtain ⟨m2,hn2,_⟩:=id I2.loc
   obtain ⟨oL,_,_,hoL,_⟩:=id hn2
   exact fin _ _ m H6 s7 qn hn hend cf (big _ _ hoL) (fun z c q=>by
    obtain ⟨_,o,w1,_⟩:=I2.cell z c q
    exact big _ _ w1) (fun p hp=>by
    obtain ⟨e,_⟩:=I2.pin p hp
    exact big _ _ e) (by
    rw [Heap.size_push]
    exact Nat.le_succ_of_le (Nat.le_trans (Nat.le_refl _) I2.sz))
  ·have hd:=T.item Y eP ew eK eC i [] s6 _ H6 (fun _ _=>False) I6 (fY fr6) st6 go
   rw [eA] at hd
   refine wpAny_mono hd (fun r s7 ⟨u,hr,h7⟩=>?_) fun _ _ z=>z.elim
   subst hr
   refine wpAny_mono h7 (fun _ s8 ⟨y,H8,I8,r8,y8,st8,fr8⟩=>?_) fun _ _ z=>z.elim
   have I8':=I8.pinned (fY fr8) (T.obj _ _ st8)
   obtain ⟨ta,va,vb,ey,hta,step'⟩:=step y _ y8
   have h9:=hg _ s8 _ H8 y u (fun σ9 H9=>σ9=compSt2 σ fr (some va) (some vb)/\H9=H8) I8' r8 ⟨ta,[va,vb],ey,by rw [eK]; exact hta,rfl,va,[vb],rfl,vb,[],rfl,rfl,rfl,rfl⟩
   rw [eA,eP,ew,eE,eX] at h9
   refine wpAny_mono h9 (fun _ s9 ⟨σ9,H9,I9,e9,e9'⟩=>?_) fun _ _ z=>z.elim
   subst e9 e9'
   have ht10:=htl _ s9 _ _ _ I9 step'
   rw [eA,eP,ew,eE,eX] at ht10
   refine wpAny_mono ht10 (fun ok s9t ⟨H9t,I9t,q9t⟩=>?_) fun _ _ z=>z.elim
   cases ok with
   | false=>
    rw [if_neg Bool.false_ne_true] at q9t
    rw [if_neg Bool.false_ne_true]
    obtain ⟨m',hm,w10⟩:=q9t
    refine ⟨m',hm,i+1,some va,some vb,_,vs,I9t.unpinned,T.keep _ _ _ st8 fun b hb o q=>(I9t.pin (b,o) (List.mem_append_right _ (List.mem_append_right _ (mem_pinsAt hb q)))).1,fun b hb=>?_,w10⟩
    obtain ⟨o,q,_⟩:=T.obj _ _ st8 b hb
    exact (I9t.pin (b,o) (List.mem_append_right _ (List.mem_append_right _ (mem_pinsAt hb q)))).2.1
   | true=>
   rw [if_pos rfl] at q9t
   rw [if_pos rfl]
   have h10:=hel _ s9t _ _ _ I9t q9t
   rw [eA,eP,ew,eE,eX] at h10
   refine wpAny_mono h10 (fun u10 s10 ⟨z10,H10,I10,r10,a10,m',hm,w10⟩=>?_) fun _ _ z=>z.elim
   have h11:=mt_append _ s10 _ H10 (.ref s2.heap.objs.size) [z10] (.ref s2.heap.objs.size) [u10] (fun _ H11=>H11=upd H10 s2.heap.objs.size (.lst (vs ++ [z10]))) I10 rfl (.cons r10 .nil) ⟨_,vs,z10,rfl,rfl,a10,hz,rfl⟩
   rw [eA,eP,ew,eX] at h11
   refine wpAny_mono h11 (fun _ s11 ⟨_,H11,I11,_,e11⟩=>?_) fun _ _ z=>z.elim
   subst e11
   refine ⟨m',hm,i+1,some va,some vb,_,vs ++ [z10],I11.unpinned,T.keep _ _ _ st8 fun b hb o q=>(I11.pin (b,o) (List.mem_append_right _ (List.mem_append_right _ (mem_pinsAt hb q)))).1,fun b hb=>?_,w10⟩
   obtain ⟨o,q,_⟩:=T.obj _ _ st8 b hb
   exact (I11.pin (b,o) (List.mem_append_right _ (List.mem_append_right _ (mem_pinsAt hb q)))).2.1
 exact codeAny_compStart_list (loop _ rfl) (T.self _ 0 _ _ _ st4 (loop _ rfl))
theorem pe_compPair (hc:X.still=true) (S:CompScope2 X N fr x x2 scope cl) (hi:PI X (.Tuple [.Name x px,.Name x2 px2] kt tp) iter wi) (he:∀ (C:Addr) (s0:Shared) (H0:Hp) (fp:List Addr) (pins:List (Addr × Obj)),PE (cxC X N scope cl C s0 H0 fp pins) elt te)
  (hs:∀ y,foldedSetIterable iter X.env y=pure y:=by intro _; rfl):PE X (.ListComp elt [⟨.Tuple [.Name x px,.Name x2 px2] kt tp,iter,[],0⟩] scope pos) (tCompP X.K wi fr te):=by
 intro pins s σ H Q I h
 rw [eval_ListComp]
 exact comp_core2 (tc:=fun _ H Q=>Q true H) (use:=none) hc S hi (fun _ _ _ _ _=>pts_nil) he hs I h fun acc C m H6 s7 qn hn hend _ _ _ _ _=>⟨m,hn,fun h' hs'=>⟨.ref acc,H6,hend h' hs',rfl,qn⟩⟩
end
end L2
namespace L2
open PySem PySem.Spec PyProof.Rows
structure CompScopeK (X:Cx) (N:List Str) (fr:List Nat) (x:Str) (scope:Scope) (cl:List (Str × Addr)):Prop where
 kind:scope.kind=.function
 hcf:∀ n:Nat,cellsFrom n scope.names cl=(x,n) :: cl
 hpc:∀ h:Heap,pushCells h scope.names=h.push { cls:=.type "cell",data:=.cell none }
 loc:∀ y ∈ scope.names,y.2=.local->scope.names.lookup y.1=some .local
 own:(relabel scope X.env).names.lookup x=some .cell
 clos:closureFor scope X.env=pure cl
 sub:∀ y c,cl.lookup y=some c->X.env.cells.lookup y=some c
 has:∀ y,((relabel scope X.env).names.lookup y=some .cell\/(relabel scope X.env).names.lookup y=some .free)->y=x\/∃ c,cl.lookup y=some c
 nd:N.Nodup
 hN:N[0]?=some x
 len:N.length=fr.length+1
 ownOnly:∀ (j:Nat) (y:Str),N[j+1]?=some y->(relabel scope X.env).names.lookup y ≠ some .local
 out:∀ (j k:Nat),fr[j]?=some k->∃ y,N[j+1]?=some y/\X.N[k]?=some y/\X.env.kindOf y=some .cell
def cxK (X:Cx) (N:List Str) (x:Str) (scope:Scope) (cl:List (Str × Addr)) (C:Addr) (s0:Shared) (H0:Hp) (fp:List Addr) (pins:List (Addr × Obj)):Cx:=
 { X with N:=N,s₀:=s0,H₀:=H0,env:=compEnvC scope ((x,C+1) :: cl) C X.env,outer:=X.stack,ex:=fp,fn:=fun y=>y == x,pn:=X.pn ++ pins,xe:=fun _ _=>False }
section
variable {X:Cx} {N:List Str} {fr:List Nat} {x:Str} {scope:Scope} {cl:List (Str × Addr)} {elt iter:Expr} {px pos:Pos} {wi:TI} {te:TE}
end
end L2
namespace L2
open PySem PySem.Spec PyProof.Rows
theorem preSum_take (ns:List Int):∀ k,k<=ns.length->preSum (fun i=>ns.getD i 0) k=(ns.take k).sum
 | 0,_=>by simp [preSum]
 | k+1,h=>by
  have hk:k < ns.length:=h
  show preSum (fun i=>ns.getD i 0) k+ns.getD k 0=_
  rw [preSum_take ns k (Nat.le_of_lt hk),List.take_succ,List.getElem?_eq_getElem hk,List.getD_eq_getElem?_getD,List.getElem?_eq_getElem hk,List.sum_append]
  show _+ns[k]=_+([ns[k]]:List Int).sum
  simp
theorem call_sum {X:Cx} (hc:X.still=true):CallR X (.builtin "sum") (fun xs H Q=>∃ (l:Addr) (ns:List Int),xs=[.ref l]/\H l=some (.lst (ns.map V.int))/\Q (.int ns.sum) H):=by
 intro pins s σ H xs us Q I rv h
 obtain ⟨l,ns,rfl,hH,q⟩:=h
 obtain ⟨u,rfl,ru⟩:=rv.one
 cases ru
 obtain ⟨z,its,n,r,hl,e⟩:=I.lstM hH
 have hlt:l < s.heap.objs.size:=Heap.lt_size e
 refine call_sum_walkAnyS (wpAny_pyIter_list (A:=X.A.in1) ⟨_,e,rfl,n,rfl⟩ ?_)
 obtain ⟨fp,st,W0,st0,hfp⟩:=walks_list_any (P:=X.prog) (w:=X.w) (I.stl hc).in1 s.heap.objs.size l (Nat.ne_of_lt hlt) (I.stn hc (I.hok.fresh (Nat.le_refl _))) its.toArray
 have W:=W0.toS
 refine ⟨s.heap.objs.size,_,_,_,_,_,_,fun i=>ns.getD i 0,rfl,W,?_,?_,?_,?_⟩
 ·exact st0 _ ⟨_,Heap.get?_push_size _ rfl,rfl,rfl⟩ ⟨_,Heap.get?_push_of_some _ e,rfl,n,rfl⟩ (fun b o x=>Heap.get?_push_of_some _ x)
 ·intro b hb
  have:=hfp b hb
  rw [Heap.size_push]
  rcases this with rfl | rfl | ⟨o,ho⟩
  ·exact Nat.lt_succ_self _
  ·exact Nat.lt_succ_of_lt hlt
  ·exact Nat.lt_succ_of_lt (Heap.lt_size ho)
 ·intro i v hP
  have hv:its[i]?=some v:=by simpa using hP
  cases hn:ns[i]? with
  | none=>
   have h1:=r.none_of (i:=i) (by rw [List.getElem?_map,hn]; rfl)
   rw [h1] at hv; cases hv
  | some m=>
   obtain ⟨u',h1,t,h2⟩:=r.get (i:=i) (x:=.int m) (by rw [List.getElem?_map,hn]; rfl)
   rw [h1] at hv; cases hv
   exact ⟨t,by show v=Value.int (ns.getD i 0) t; rw [List.getD_eq_getElem?_getD,hn]; exact h2⟩
 ·intro s' t' hm
  have hlen:its.toArray.size=ns.length:=by rw [List.size_toArray,<- r.length,List.length_map]
  rw [hlen,preSum_take ns _ (Nat.le_refl _),List.take_length]
  obtain ⟨h',g',d',tk,o'⟩:=s'
  obtain rfl:g'=s.gens:=hm.gens
  obtain rfl:d'=s.drawn:=hm.drawn
  obtain rfl:o'=s.os:=hm.os
  refine ⟨.int ns.sum,H,?_,⟨_,rfl⟩,q⟩
  exact I.kept (h':=h') (t':=tk) fun b o q'=>hm.heap b o (fun zz=>by
   have:b=s.heap.objs.size:=by simpa using zz
   subst this
   exact absurd (Heap.lt_size q') (Nat.lt_irrefl _)) (Heap.get?_push_of_some _ q')
end L2
namespace L2
open PySem PySem.Spec PyProof.Rows
section
variable {P:Program} {w:World} {A:Around} {E:Value->Shared->Prop} {s:Shared}
theorem tnext_item {j a:Addr} {i:Nat} {us:Array Value} {u:Value} {Q:Value->Shared->Prop} (g0:s.heap.IsTupleIter j a i) (g1:s.heap.IsTuple a us) (ex:us[i]?=some u)
  (q:∀ h',h'.IsTupleIter j a (i+1)->Heap.SameBut j s.heap h'->Q u { s with heap:=h' }):wpAny (model P w) A (Builtin.SmallTypes.nextOf (.ref j)) Q E s:=by
 obtain ⟨o1,k1,k2,k3⟩:=id g0
 obtain ⟨o2,k4,_,n2,k5⟩:=g1
 unfold Builtin.SmallTypes.nextOf
 refine wpAny_bind (wpAny_callSpecial?_slot (name:=Str.ofString "__next__") g0.typeIs F.slot_tuple_iterator_next (wpAny_call_entry F.slot_tuple_iterator_next g0.typeIs F.entry_tuple_iterator_next ?_ (F.args_tuple_iterator_next_1 _)))
 show wpAny _ _ (field (.ref j) 0 >>= _) _ _ s
 refine wpAny_bind (wpAny_field k1 k3 (x:=.ref a) rfl ?_)
 show wpAny _ _ (if (Value.ref a == Value.none)=true then _ else _) _ _ s
 rw [if_neg (show ¬ ((Value.ref a == Value.none)=true) from Bool.false_ne_true)]
 show wpAny _ _ (field (.ref j) 1 >>= _) _ _ s
 refine wpAny_bind (wpAny_field k1 k3 (x:=.int i 0) rfl ?_)
 show wpAny _ _ (seqItems? (.ref a) >>= _) _ _ s
 refine wpAny_bind (wpAny_seqItems k4 k5 ?_)
 simp only [Int.toNat_natCast,ex]
 refine wpAny_bind (wpAny_setField k1 k3 (by simp) (wpAny_pure ⟨u,rfl,wpAny_pure (q _ ?_ (Heap.SameBut.update ..))⟩))
 refine ⟨_,Heap.get?_update_self _ k1 (Obj.isFreed_of_fields (Obj.data_mapFields k3 _)),(Obj.cls_mapFields ..).trans k2,?_⟩
 rw [Obj.data_mapFields k3]
 simp [rawInt]
structure ZT (z TI TO j1 j2 a1 a2:Addr) (us vs:Array Value) (i:Nat) (f0:Value) (h:Heap):Prop where
 zip:IsZip h z TI TO f0
 its:IsPair h TI (.ref j1) (.ref j2)
 to:∃ a b,IsPair h TO a b
 i1:h.IsTupleIter j1 a1 i
 i2:h.IsTupleIter j2 a2 i
theorem zt_item {z TI TO j1 j2 a1 a2:Addr} {us vs:Array Value} {i:Nat} {u v:Value} {Q:Value->Shared->Prop} (D:ZipApart z TI TO j1 j2 a1 a2) (Z:ZT z TI TO j1 j2 a1 a2 us vs i .none s.heap)
  (t1:s.heap.IsTuple a1 us) (t2:s.heap.IsTuple a2 vs) (eu:us[i]?=some u) (ev:vs[i]?=some v)
  (q:∀ h',ZT z TI TO j1 j2 a1 a2 us vs (i+1) (rawInt s.heap.objs.size) h'->IsPair h' s.heap.objs.size u v->h'.objs.size=s.heap.objs.size+1 ->
   (∀ c o,c ≠ z->c ≠ TO->c ≠ j1->c ≠ j2->s.heap.get? c=some o->h'.get? c=some o)->Q (.ref s.heap.objs.size) { s with heap:=h' }) :
  wpAny (model P w) A (Builtin.«zip.__next__» ⟨[.ref z],[]⟩) (fun fin s'=>∃ v,fin=.done (.ret v)/\Q v s') E s:=by
 obtain ⟨hz,hI,⟨p1,p2,hO⟩,y1,y2⟩:=Z
 show wpAny _ _ (field (.ref z) (1+1) >>= _) _ _ _
 refine wpAny_bind (wpAny_field hz rfl (x:=.bool false) rfl ?_); show wpAny _ _ (field (.ref z) (2+1) >>= _) _ _ _
 refine wpAny_bind (wpAny_field hz rfl (x:=.ref TI) rfl (wpAny_bind (wpAny_seqItems hI rfl ?_)))
 refine wpAny_bind (m:=Builtin.SmallTypes.ownedTupleIsFree (.ref z)) ?_
 unfold Builtin.SmallTypes.ownedTupleIsFree; refine wpAny_bind (wpAny_field hz rfl (x:=.none) rfl (wpAny_pure ?_))
 simp only [if_true]
 refine wpAny_bind (wpAny_rule (wpAny_bind (wpAny_field hz rfl (x:=.ref TO) rfl ?_)))
 refine wpAny_bind (wpAny_setField_rec hz (by simp) fun w1 hz1 b1=>?_)
 replace hz1:IsZip w1 z TI TO .ellipsis:=hz1
 refine wpAny_bind ?_
 simp only [List.zipIdx_cons,List.zipIdx_nil,List.forIn_cons,List.forIn_nil]; refine wpAny_bind (wpAny_bind (wpAny_onRaise ?_))
 refine wpAny_bind (m:=Builtin.SmallTypes.nextOf (.ref j1)) (tnext_item (y1.extBut b1.extBut D.i1z) (t1.extBut b1.extBut D.l1z) eu fun w2 y12 b2=>wpAny_pure ?_)
 have hO2:IsPair w2 TO p1 p2:=b2.extBut _ _ D.TOi1 (b1.extBut _ _ D.TOz hO)
 refine wpAny_bind (wpAny_seqItems hO2 rfl (wpAny_bind (wpAny_updateSeq_pair hO2 fun w3 hO3 b3=>?_)))
 replace hO3:IsPair w3 TO u p2:=hO3
 refine wpAny_bind (wpAny_letGo (wpAny_pure ?_)); refine wpAny_bind (wpAny_bind (wpAny_onRaise ?_))
 refine wpAny_bind (m:=Builtin.SmallTypes.nextOf (.ref j2)) (tnext_item (((y2.extBut b1.extBut D.i2z).extBut b2.extBut D.i12.symm).extBut b3.extBut D.TOi2.symm) (((t2.extBut b1.extBut D.l2z).extBut b2.extBut D.l2i1).extBut b3.extBut D.l2TO) ev fun w4 y24 b4=>wpAny_pure ?_)
 have hO4:IsPair w4 TO u p2:=b4.extBut _ _ D.TOi2 hO3
 refine wpAny_bind (wpAny_seqItems hO4 rfl (wpAny_bind (wpAny_updateSeq_pair hO4 fun w5 hO5 b5=>?_)))
 replace hO5:IsPair w5 TO u v:=hO5
 refine wpAny_bind (wpAny_letGo (wpAny_pure (wpAny_pure ?_))); refine wpAny_bind (wpAny_seqItems hO5 rfl (wpAny_bind (wpAny_newTuple ?_)))
 have size5:w5.objs.size=s.heap.objs.size:=by rw [b5.1,b4.1,b3.1,b2.1,b1.1]
 have hz5:IsZip w5 z TI TO .ellipsis:=b5.extBut _ _ D.TOz.symm (b4.extBut _ _ D.i2z.symm (b3.extBut _ _ D.TOz.symm (b2.extBut _ _ D.i1z.symm hz1)))
 have kept5:∀ c o,c ≠ z->c ≠ TO->c ≠ j1->c ≠ j2->s.heap.get? c=some o->w5.get? c=some o:=fun c o c1 c2 c3 c4 e=>b5.extBut _ _ c2 (b4.extBut _ _ c4 (b3.extBut _ _ c2 (b2.extBut _ _ c3 (b1.extBut _ _ c1 e))))
 have y15:w5.IsTupleIter j1 a1 (i+1):=((y12.extBut b3.extBut D.TOi1.symm).extBut b4.extBut D.i12).extBut b5.extBut D.TOi1.symm
 have y25:w5.IsTupleIter j2 a2 (i+1):=y24.extBut b5.extBut D.TOi2.symm
 have zlt:z < w5.objs.size:=Heap.lt_size hz5
 refine wpAny_bind (m:=Builtin.SmallTypes.ownedTupleHandOut (.ref z) (.ref w5.objs.size)) ?_
 unfold Builtin.SmallTypes.ownedTupleHandOut
 have hz6:IsZip (w5.push { cls:=.type "tuple",data:=.seq #[u,v] }) z TI TO .ellipsis:=Heap.get?_push_of_some _ hz5
 refine wpAny_bind (wpAny_setField_rec hz6 (by simp) fun w7 hz7 b7=>?_)
 replace hz7:IsZip w7 z TI TO (rawInt w5.objs.size):=hz7
 refine wpAny_setField_rec hz7 (by simp) fun w8 hz8 b8=>?_
 replace hz8:IsZip w8 z TI TO (rawInt w5.objs.size):=hz8
 have up:∀ c o,c ≠ z->w5.get? c=some o->w8.get? c=some o:=fun c o c1 e=>b8.extBut _ _ c1 (b7.extBut _ _ c1 (Heap.get?_push_of_some _ e))
 have new8:IsPair w8 w5.objs.size u v:=b8.extBut _ _ (Nat.ne_of_gt zlt) (b7.extBut _ _ (Nat.ne_of_gt zlt) (Heap.get?_push_size _ rfl))
 have size8:w8.objs.size=w5.objs.size+1:=by rw [b8.1,b7.1,Heap.size_push]
 rw [size5] at hz8 new8 size8
 refine wpAny_pure ⟨_,rfl,?_⟩
 show Q (.ref w5.objs.size) _
 rw [size5]
 exact q w8 ⟨hz8,up _ _ D.TIz (kept5 _ _ D.TIz D.TITO D.TIi1 D.TIi2 hI),⟨_,_,up _ _ D.TOz hO5⟩,(let ⟨o,e,r⟩:=y15; ⟨o,up _ _ D.i1z e,r⟩),(let ⟨o,e,r⟩:=y25; ⟨o,up _ _ D.i2z e,r⟩)⟩ new8 size8 fun c o c1 c2 c3 c4 e=>up c o c1 (kept5 c o c1 c2 c3 c4 e)
theorem zt_end {z TI TO j1 j2 a1 a2:Addr} {us vs:Array Value} {i:Nat} {Q:Fin->Shared->Prop} (ha:Still A s.heap) (nz:A.handled ≠ some (.ref z)) (nj:A.handled ≠ some (.ref j1)) (D:ZipApart z TI TO j1 j2 a1 a2) (Z:ZT z TI TO j1 j2 a1 a2 us vs i .none s.heap)
  (t1:s.heap.IsTuple a1 us) (eu:us[i]?=none)
  (q:∀ h' e,(∀ c o,c ≠ z->c ≠ TO->c ≠ j1->c ≠ j2->s.heap.get? c=some o->h'.get? c=some o)->(∃ o,h'.get? e=some o/\o.cls=.type "StopIteration")->E (.ref e) { s with heap:=h' }) :
  wpAny (model P w) A (Builtin.«zip.__next__» ⟨[.ref z],[]⟩) Q E s:=by
 obtain ⟨hz,hI,⟨p1,p2,hO⟩,y1,y2⟩:=Z
 show wpAny _ _ (field (.ref z) (1+1) >>= _) _ _ _
 refine wpAny_bind (wpAny_field hz rfl (x:=.bool false) rfl ?_); show wpAny _ _ (field (.ref z) (2+1) >>= _) _ _ _
 refine wpAny_bind (wpAny_field hz rfl (x:=.ref TI) rfl (wpAny_bind (wpAny_seqItems hI rfl ?_)))
 refine wpAny_bind (m:=Builtin.SmallTypes.ownedTupleIsFree (.ref z)) ?_
 unfold Builtin.SmallTypes.ownedTupleIsFree; refine wpAny_bind (wpAny_field hz rfl (x:=.none) rfl (wpAny_pure ?_))
 simp only [if_true]
 refine wpAny_bind (wpAny_rule (wpAny_bind (wpAny_field hz rfl (x:=.ref TO) rfl ?_)))
 refine wpAny_bind (wpAny_setField_rec hz (by simp) fun w1 hz1 b1=>?_)
 replace hz1:IsZip w1 z TI TO .ellipsis:=hz1
 refine wpAny_bind ?_
 simp only [List.zipIdx_cons,List.zipIdx_nil,List.forIn_cons,List.forIn_nil]; refine wpAny_bind (wpAny_bind (wpAny_onRaise ?_))
 refine wpAny_bind (m:=Builtin.SmallTypes.nextOf (.ref j1)) (tnext_end_still (ha.mono fun e o hh h=>b1.extBut _ _ (fun x=>nz (by rw [<- x]; exact hh)) h) nj (y1.extBut b1.extBut D.i1z) (t1.extBut b1.extBut D.l1z) eu fun w2 e b2 he=>?_)
 obtain ⟨oe,e1,e2⟩:=he
 have hz2:IsZip w2 z TI TO .ellipsis:=b2 _ _ D.i1z.symm hz1
 have ez:e ≠ z:=fun x=>by
  subst x
  rw [hz2] at e1; cases e1; simp at e2
 exact wpAny_setField_rec hz2 (by simp) fun w3 _ b3=>q w3 e (fun c o c1 _ c3 _ x=>b3.extBut _ _ c1 (b2 _ _ c3 (b1.extBut _ _ c1 x))) ⟨oe,b3.extBut _ _ ez e1,e2⟩
theorem zt_new (a1 a2:Addr) (us vs:Array Value) :
  Meets (Builtin.«zip.__new__» ⟨[.type "zip",.ref a1,.ref a2],[]⟩) (fun _ R s=>s.heap.IsTuple a1 us/\s.heap.IsTuple a2 vs /\
   ∀ h',(∀ c o,s.heap.get? c=some o->h'.get? c=some o)->ZT (s.heap.objs.size+4) (s.heap.objs.size+2) (s.heap.objs.size+3) s.heap.objs.size (s.heap.objs.size+1) a1 a2 us vs 0 .none h'->h'.objs.size=s.heap.objs.size+5->R (.ok (.ret (.ref (s.heap.objs.size+4)))) { s with heap:=h' }):=
 .of_wp fun prog w A R s h=>by
  obtain ⟨hp,g,d,tk,os⟩:=s; obtain ⟨t1,t2,h⟩:=h
  have hsub:=sub_zip
  have T1:Heap.IsTuple (Shared.heap ⟨hp,g,d,tk,os⟩) a1 us:=t1
  have T2:Heap.IsTuple (Shared.heap ⟨hp.push { cls:=.type "tuple_iterator",data:=.fields #[.ref a1,.int 0 0] },g,d,tk,os⟩) a2 vs:=t2.push _
  wp_walk using wpAny_pyIter_tuple T1,wpAny_pyIter_tuple T2
  refine ⟨_,rfl,?_⟩
  simp only [Heap.size_push]
  refine h _ (fun c o e=>Heap.get?_push_of_some _ (Heap.get?_push_of_some _ (Heap.get?_push_of_some _ (Heap.get?_push_of_some _ (Heap.get?_push_of_some _ e))))) ⟨?_,?_,⟨.none,.none,?_⟩,⟨_,Heap.get?_push_of_some _ (Heap.get?_push_of_some _ (Heap.get?_push_of_some _ (Heap.get?_push_of_some _ (Heap.get?_push_size _ rfl)))),rfl,rfl⟩,⟨_,Heap.get?_push_of_some _ (Heap.get?_push_of_some _ (Heap.get?_push_of_some _ (Heap.get?_push_at (by simp only [Heap.size_push]) rfl))),rfl,rfl⟩⟩ (by simp only [Heap.size_push])
  ·exact Heap.get?_push_at (by simp only [Heap.size_push]) rfl
  ·exact Heap.get?_push_of_some _ (Heap.get?_push_of_some _ (Heap.get?_push_at (by simp only [Heap.size_push]) rfl))
  ·exact Heap.get?_push_of_some _ (Heap.get?_push_at (by simp only [Heap.size_push]) rfl)
theorem zt_call {a1 a2:Addr} {us vs:Array Value} {Q:Value->Shared->Prop} (t1:s.heap.IsTuple a1 us) (t2:s.heap.IsTuple a2 vs)
  (q:∀ h',(∀ c o,s.heap.get? c=some o->h'.get? c=some o)->ZT (s.heap.objs.size+4) (s.heap.objs.size+2) (s.heap.objs.size+3) s.heap.objs.size (s.heap.objs.size+1) a1 a2 us vs 0 .none h'->h'.objs.size=s.heap.objs.size+5->Q (.ref (s.heap.objs.size+4)) { s with heap:=h' }) :
  wpAny (model P w) A (call (.type "zip") [.ref a1,.ref a2]) Q E s:=by
 refine callType_new F.called_zip (by decide) (F.typeCall_zip_2 _ _) (F.newCall_zip_2 _ _) (fun obj=>F.args_object_init_3 obj _ _) F.entry_zip_new (zt_new a1 a2 us vs) ⟨t1,t2,fun h' k Z sz=>?_⟩
 exact ⟨⟨_,Z.zip,rfl⟩,q h' k Z sz⟩
end
def Itz (K:W.Frag) (a b:Addr):It:=
 ⟨fun i H=>∃ xs ys x y,SqT K H a xs/\SqT K H b ys/\xs[i]?=some x/\ys[i]?=some y,
  fun i H v H'=>∃ t x y,v=.ref t/\H t=none/\H'=upd H t (.tup [x,y])/\(∀ xs,SqT K H a xs->xs[i]?=some x)/\∀ ys,SqT K H b ys->ys[i]?=some y,
  fun i H=>∃ xs ys,SqT K H a xs/\SqT K H b ys/\xs.length<=i⟩
theorem Inv.turnedM {X:Cx} {pins:List (Addr × Obj)} {σ:St} {H:Hp} {s:Shared} {h':Heap} {t':Nat} {fp:List Addr} (I:Inv X pins σ H s) (k:∀ b o,b ∉ fp->s.heap.get? b=some o->h'.get? b=some o) (hf:∀ b ∈ fp,FpOk X pins H b):Inv X pins σ H { s with heap:=h',toks:=t' }:=by
 have nf:∀ b u,H b=some u->b ∉ fp:=fun b u e z=>by
  have:=(hf b z).1
  rw [this] at e; cases e
 have U:Un (frs X.stack) fp H H s.heap h':=⟨fun b o e _ _ hx=>k b o hx e,fun b o e _ _ hx=>⟨o.slots,k b o hx e⟩,fun _ _ _ n _=>n,fun b o e hx=>⟨o,k b o hx e⟩,fun _ _ e=>e,fun _ _ _ e=>e,fun b ps e=>⟨#[],by rw [e]; simp⟩⟩
 refine I.call' (s':={ s with heap:=h',toks:=t' }) (ch:=fp) rfl U (I.hok.onward fun b o hb e=>k b o (fun z=>hb (hf b z).1) e) I.bare fun b hb=>?_
 obtain ⟨_,f1,_,f3,f4,f5⟩:=hf b hb
 exact ⟨f3,f1,f4,f5⟩
theorem turn_zip {P:Program} {w:World} {K:W.Frag} {elts:List Expr} {kt:Nat} {tp:Pos} {z TI TO j1 j2 a b:Addr} (D:ZipApart z TI TO j1 j2 a b) (us vs:Array Value) :
  Turn P w K (.Tuple elts kt tp) (Itz K a b) [z,TI,TO,j1,j2] z (fun i h=>ZT z TI TO j1 j2 a b us vs i .none h) where
 mem:=by simp
 obj:=fun i h st c hc=>by
  obtain ⟨hz,hI,⟨p1,p2,hO⟩,y1,y2⟩:=st
  simp only [List.mem_cons,List.not_mem_nil,or_false] at hc
  rcases hc with rfl | rfl | rfl | rfl | rfl
  ·exact ⟨_,hz,fun v q=>by cases q⟩
  ·exact ⟨_,hI,fun v q=>by cases q⟩
  ·exact ⟨_,hO,fun v q=>by cases q⟩
  ·obtain ⟨o,e,c,d⟩:=y1
   exact ⟨o,e,fun v q=>by rw [d] at q; cases q⟩
  ·obtain ⟨o,e,c,d⟩:=y2
   exact ⟨o,e,fun v q=>by rw [d] at q; cases q⟩
 keep:=fun i h h' st k=>by
  obtain ⟨hz,hI,⟨p1,p2,hO⟩,y1,y2⟩:=st
  exact ⟨k z (by simp) _ hz,k TI (by simp) _ hI,⟨p1,p2,k TO (by simp) _ hO⟩,(let ⟨o,e,r⟩:=y1; ⟨o,k j1 (by simp) _ e,r⟩),(let ⟨o,e,r⟩:=y2; ⟨o,k j2 (by simp) _ e,r⟩)⟩
 item:=by
  intro X hP hw hK hc i pins s σ H E I hf st hg
  subst hP hw hK
  obtain ⟨xs,ys,x,y,qx,qy,ex,ey⟩:=hg
  obtain ⟨its,rx,px,lx⟩:=I.tuple qx
  obtain ⟨its',ry,py,ly⟩:=I.tuple qy
  obtain ⟨u,hu,ru⟩:=rx.get ex
  obtain ⟨v,hv,rv⟩:=ry.get ey
  have ht:s.TypeIs (.ref z) "zip":=⟨_,st.zip,rfl⟩
  unfold pyNext
  have st':ZT z TI TO j1 j2 a b its.toArray its'.toArray i .none s.heap:=⟨st.zip,st.its,st.to,st.i1,st.i2⟩
  refine wpAny_bind (wpAny_attempt (wpAny_callSpecial?_slot (name:=Str.ofString "__next__") ht F.slot_zip_next (wpAny_call_entry F.slot_zip_next ht F.entry_zip_next
   (zt_item D st' px py (u:=u) (v:=v) (by simpa using hu) (by simpa using hv) fun h' Z np sz k=>wpAny_pure ?_) (F.args_zip_next_1 _))))
  refine ⟨_,rfl,wpAny_letOwnedTupleGo_zip Z.zip fun h2 hz2 b2=>?_⟩
  have szl:z < s.heap.objs.size:=Heap.lt_size st.zip
  have k2:∀ c o,c ∉ [z,TI,TO,j1,j2]->s.heap.get? c=some o->h2.get? c=some o:=fun c o hc e=>by
   simp only [List.mem_cons,List.not_mem_nil,or_false,not_or] at hc
   exact b2.extBut _ _ hc.1 (k c o hc.1 hc.2.2.1 hc.2.2.2.1 hc.2.2.2.2 e)
  have I2:Inv X pins σ H { s with heap:=h2 }:=I.turnedM (t':=s.toks) k2 hf
  have np2:IsPair h2 s.heap.objs.size u v:=b2.extBut _ _ (Nat.ne_of_gt szl) np
  have fr:H s.heap.objs.size=none:=I.hok.fresh (Nat.le_refl _)
  have I3:Inv X pins σ (upd H s.heap.objs.size (.tup [x,y])) { s with heap:=h2 }:=by
   have U:Un (frs X.stack) [z,TI,TO,j1,j2] H (upd H s.heap.objs.size (.tup [x,y])) s.heap h2:=
    ⟨fun c o e _ _ hx=>k2 c o hx e,fun c o e _ _ hx=>⟨o.slots,k2 c o hx e⟩,fun c o e n _=>(by rw [upd_ne (Nat.ne_of_lt (Heap.lt_size e))]; exact n),fun c o e hx=>⟨o,k2 c o hx e⟩,
     fun c zs e=>(by rw [upd_ne (ne_of_none e fr)]; exact e),fun c o w e=>(by rw [upd_ne (ne_of_none e fr)]; exact e),fun c ps e=>⟨#[],by rw [upd_ne (ne_of_none e fr),e]; simp⟩⟩
   refine I.call' (s':={ s with heap:=h2 }) (ch:=[z,TI,TO,j1,j2]) rfl U (I2.hok.more fr ?_) I.bare fun c hc=>?_
   ·exact ⟨by show 2<=sizeLine; decide,[u,v],.cons ru (.cons rv .nil),⟨_,np2,rfl,_,rfl⟩⟩
   ·obtain ⟨_,f1,_,f3,f4,f5⟩:=hf c hc
    exact ⟨f3,f1,f4,f5⟩
  refine ⟨.ref s.heap.objs.size,_,I3,rfl,⟨_,x,y,rfl,fr,rfl,fun zs hz=>by rw [I.tuple_inj hz qx]; exact ex,fun zs hz=>by rw [I.tuple_inj hz qy]; exact ey⟩,?_,fun c hc=>?_⟩
  ·obtain ⟨o1,e1,r1⟩:=Z.i1
   obtain ⟨o2,e2,r2⟩:=Z.i2
   obtain ⟨p1,p2,e3⟩:=Z.to
   exact ⟨hz2,b2.extBut _ _ D.TIz Z.its,⟨p1,p2,b2.extBut _ _ D.TOz e3⟩,⟨o1,b2.extBut _ _ D.i1z e1,r1⟩,⟨o2,b2.extBut _ _ D.i2z e2,r2⟩⟩
  ·have h0:=(hf c hc).1
   rw [upd_ne ?_]
   ·exact h0
   ·have st2:=st
    obtain ⟨hz,hI,⟨p1,p2,hO⟩,⟨o1,y1,_⟩,⟨o2,y2,_⟩⟩:=st2
    simp only [List.mem_cons,List.not_mem_nil,or_false] at hc
    rcases hc with rfl | rfl | rfl | rfl | rfl
    ·exact Nat.ne_of_lt (Heap.lt_size hz)
    ·exact Nat.ne_of_lt (Heap.lt_size hI)
    ·exact Nat.ne_of_lt (Heap.lt_size hO)
    ·exact Nat.ne_of_lt (Heap.lt_size y1)
    ·exact Nat.ne_of_lt (Heap.lt_size y2)
 done:=by
  intro X hP hw hK hc i pins s σ H E I hf st hg
  subst hP hw hK
  obtain ⟨xs,ys,qx,qy,ln⟩:=hg
  obtain ⟨its,rx,px,lx⟩:=I.tuple qx
  have ht:s.TypeIs (.ref z) "zip":=⟨_,st.zip,rfl⟩
  have hl:=rx.length
  unfold pyNext
  have st':ZT z TI TO j1 j2 a b its.toArray vs i .none s.heap:=⟨st.zip,st.its,st.to,st.i1,st.i2⟩
  refine wpAny_bind (wpAny_attempt (wpAny_callSpecial?_slot (name:=Str.ofString "__next__") ht F.slot_zip_next (wpAny_call_entry F.slot_zip_next ht F.entry_zip_next
   (zt_end (I.stl hc) (I.stn hc (hf z (by simp)).1) (I.stn hc (hf j1 (by simp)).1) D st' px (by simp; omega) fun h' e k he=>?_) (F.args_zip_next_1 _))))
  obtain ⟨o,ho,hce⟩:=he
  refine wpAny_bind (wpAny_isInstance (T:="StopIteration") (b:=true) ⟨o,ho,hce⟩ isSubtype_stop ?_)
  refine wpAny_pure ⟨rfl,I.turnedM (t':=s.toks) (fun c o hc e=>?_) hf⟩
  simp only [List.mem_cons,List.not_mem_nil,or_false,not_or] at hc
  exact k c o hc.1 hc.2.2.1 hc.2.2.2.1 hc.2.2.2.2 e
 self:=fun _ _ _ _ _ st h=>wpAny_pyIter_zip st.zip h
def iZip (K:W.Frag) (ta:TA):TI:=fun σ H R=>ta σ H fun vs H1=>∃ (a b:Addr) (xs ys:List V),vs=[.ref a,.ref b]/\SqT K H1 a xs/\SqT K H1 b ys/\R (Itz K a b) H1
theorem pi_zip {X:Cx} {elts:List Expr} {kt:Nat} {tp:Pos} {a b:Expr} {ta:TA} {p pos:Pos} (hg:Gl X "zip") (hm:X.mg "zip"=none) (ha:PA X [a,b] ta) (hs:starEach [a,b] X.env=[(false,eval a X.env),(false,eval b X.env)]:=by rfl) (hs2:starEach [b] X.env=[(false,eval b X.env)]:=by rfl) :
  PI X (.Tuple elts kt tp) (.Call (.Name "zip" p) [a,b] [] pos) (iZip X.K ta):=by
 intro pins s σ H R I h
 refine Call_ (ld_blt I hg hm boot_zip (PyProof.Rows.callWith_type1 (thn (ha pos pins s σ H _ I h) fun us s1 ⟨vs,H1,I1,r1,q1⟩=>?_) (by rw [hs,hs2]) (by rw [hs2]; rfl)))
 obtain ⟨x,y,xs,ys,e,qx,qy,q⟩:=q1
 subst e
 cases r1 with
 | cons r rr=>
  cases rr with
  | cons r' rr=>
   cases rr
   cases r
   cases r'
   obtain ⟨its,rx,px,lx⟩:=I1.tuple qx
   obtain ⟨its',ry,py,ly⟩:=I1.tuple qy
   refine zt_call (us:=its.toArray) (vs:=its'.toArray) px py fun h' k Z sz=>?_
   refine wpAny_pyIter_zip Z.zip ?_
   have I2:Inv X pins σ H1 { s1 with heap:=h' }:=I1.kept (t':=s1.toks) k
   have l1:x < s1.heap.objs.size:=by
    obtain ⟨o,e,_⟩:=px
    exact Heap.lt_size e
   have l2:y < s1.heap.objs.size:=by
    obtain ⟨o,e,_⟩:=py
    exact Heap.lt_size e
   refine ⟨_,[s1.heap.objs.size+4,s1.heap.objs.size+2,s1.heap.objs.size+3,s1.heap.objs.size,s1.heap.objs.size+1],_,_,H1,rfl,I2,turn_zip (zipApart_new l1 l2) its.toArray its'.toArray,Z,fun c hc=>?_,q⟩
   have big:s1.heap.objs.size<=c:=by
    simp only [List.mem_cons,List.not_mem_nil,or_false] at hc
    rcases hc with rfl | rfl | rfl | rfl | rfl <;> simp
   exact I1.fpOk big (I1.hok.fresh big)
end L2
namespace L2
open PySem PySem.Spec PyProof.Rows
def tSetCP (K:W.Frag) (wi:TI) (fr:List Nat) (te:TE) (k:Nat):TS:=fun D σ H=>tCompP K wi fr te σ H fun v H'=>D.nx (σ.set k (some v)) H'
section
variable {X:Cx} {N:List Str} {fr:List Nat} {x x2:Str} {scope:Scope} {cl:List (Str × Addr)} {elt iter:Expr} {px px2 tp pos:Pos} {kt:Nat} {wi:TI} {te:TE}
end
theorem compP_zipF {K:W.Frag} {a b:Addr} {xs ys:List V} {te:TE} {σ:V->V->St} {H:Hp} {Q:VK} (hx:∀ H',Same H H'->SqT K H' a xs) (hy:∀ H',Same H H'->SqT K H' b ys) (hl:xs.length=ys.length) (hn:xs.length < sizeLine) (f:V->V->V)
  (he:∀ (i:Nat) (x y:V) (H':Hp) (Q':VK),xs[i]?=some x->ys[i]?=some y->Same H H'->(∀ H2,Same H' H2->Q' (f x y) H2)->te (σ x y) H' Q')
  (q:∀ p H',Same H H'->H p=none->H' p=some (.lst (List.zipWith f xs ys))->Q (.ref p) H'):CompPEnd K (Itz K a b) Q H te σ:=by
 intro acc hacc
 have zl:(List.zipWith f xs ys).length=xs.length:=by rw [List.length_zipWith,<- hl]; simp
 refine ⟨fun i m H' vs=>i<=xs.length/\m=xs.length - i/\Same H H'/\H' acc=some (.lst vs)/\vs=(List.zipWith f xs ys).take i,⟨xs.length,Nat.zero_le _,by simp,same_new hacc _,upd_same,by simp⟩,?_⟩
 rintro i m H' vs ⟨hi,rfl,g,ha,rfl⟩
 refine ⟨ha,?_⟩
 by_cases h:i=xs.length
 ·refine .inl ⟨⟨xs,ys,hx _ g,hy _ g,by omega⟩,q acc H' g hacc ?_⟩
  rw [ha,h,<- zl,List.take_length]
 ·have hlt:i < xs.length:=by omega
  have hlt2:i < ys.length:=by omega
  refine .inr ⟨⟨xs,ys,xs[i],ys[i],hx _ g,hy _ g,by simp [hlt],by simp [hlt2]⟩,by rw [List.length_take,zl]; omega,?_⟩
  rintro z H2 ⟨t,x,y,rfl,ht,rfl,ex,ey⟩
  have ex':=ex xs (hx _ g)
  have ey':=ey ys (hy _ g)
  have g2:Same H' (upd H' t (.tup [x,y])):=same_new ht _
  refine ⟨t,x,y,rfl,SqT.of upd_same,he i x y _ _ ex' ey' (g.trans g2) fun H3 g3=>⟨g3 _ _ (g2 _ _ ha),xs.length - (i+1),by omega,by omega,rfl,same_upd (g.trans (g2.trans g3)) hacc,upd_same,?_⟩⟩
  rw [List.take_succ,List.getElem?_zipWith,ex',ey']
  rfl
theorem outs_ok {X:Cx} {own:List Str} {ys:List Str} {ks:List Nat} (hl:ks.length=ys.length) (hk:∀ p ∈ ks.zip ys,X.N[p.1]?=some p.2/\X.env.kindOf p.2=some .cell):∀ (j k:Nat),ks[j]?=some k->∃ y,(own ++ ys)[j+own.length]?=some y/\X.N[k]?=some y/\X.env.kindOf y=some .cell:=by
 intro j k h
 have hj:j < ks.length:=(List.getElem?_eq_some_iff.mp h).1
 have hj2:j < ys.length:=by omega
 refine ⟨ys[j],by rw [List.getElem?_append_right (by omega)]; simp [hj2],?_⟩
 have m:(k,ys[j]) ∈ ks.zip ys:=by
  refine List.mem_of_getElem? (i:=j) ?_
  rw [List.getElem?_zip_eq_some]
  exact ⟨h,by simp [hj2]⟩
 exact hk _ m
theorem lookup_mem_all {cl:List (Str × Addr)} {P:Str->Addr->Prop} (h:∀ p ∈ cl,P p.1 p.2) {y:Str} {c:Addr} (e:cl.lookup y=some c):P y c:=h _ (PySem.mem_of_lookup e)
theorem has_of {ns':List (Str × NameKind)} {cl:List (Str × Addr)} (h:∀ p ∈ ns',p.2=.cell\/p.2=.free->(cl.lookup p.1).isSome=true) (y:Str) (e:ns'.lookup y=some .cell\/ns'.lookup y=some .free):∃ c,cl.lookup y=some c:=by
 have:(cl.lookup y).isSome=true:=by
  rcases e with e | e
  ·exact h _ (PySem.mem_of_lookup e) (.inl rfl)
  ·exact h _ (PySem.mem_of_lookup e) (.inr rfl)
 exact Option.isSome_iff_exists.mp this
theorem CompScope.gen {X:Cx} {x:Str} {scope:Scope} {cl:List (Str × Addr)} (ys:List Str) (ks:List Nat) (ns':List (Str × NameKind)) (kind:scope.kind=.function) (nocell:∀ z ∈ scope.names,z.2 ≠ .cell) (loc:∀ z ∈ scope.names,z.2=.local->scope.names.lookup z.1=some .local) (own:scope.names.lookup x=some .local)
  (clos:closureFor scope X.env=pure cl) (sub:∀ p ∈ cl,X.env.cells.lookup p.1=some p.2) (rl:(relabel scope X.env).names=ns') (only:∀ p ∈ ns',p.2=.cell\/p.2=.free->(cl.lookup p.1).isSome=true) (nd:(x :: ys).Nodup) (ny:∀ y ∈ ys,ns'.lookup y ≠ some .local) (hl:ks.length=ys.length)
  (hk:∀ p ∈ ks.zip ys,X.N[p.1]?=some p.2/\X.env.kindOf p.2=some .cell):CompScope X (x :: ys) ks x scope cl:=by
 subst rl
 refine ⟨kind,nocell,loc,own,clos,fun y c h=>lookup_mem_all (P:=fun y c=>X.env.cells.lookup y=some c) sub h,has_of only,nd,rfl,by simp [hl],fun j y h=>?_,fun j k h=>outs_ok (own:=[x]) hl hk j k h⟩
 exact ny y (List.mem_of_getElem? (by simpa using h))
theorem CompScope2.gen {X:Cx} {x x2:Str} {scope:Scope} {cl:List (Str × Addr)} (ys:List Str) (ks:List Nat) (ns':List (Str × NameKind)) (kind:scope.kind=.function) (nocell:∀ z ∈ scope.names,z.2 ≠ .cell) (loc:∀ z ∈ scope.names,z.2=.local->scope.names.lookup z.1=some .local) (own:scope.names.lookup x=some .local) (own2:scope.names.lookup x2=some .local)
  (clos:closureFor scope X.env=pure cl) (sub:∀ p ∈ cl,X.env.cells.lookup p.1=some p.2) (rl:(relabel scope X.env).names=ns') (only:∀ p ∈ ns',p.2=.cell\/p.2=.free->(cl.lookup p.1).isSome=true) (nd:(x :: x2 :: ys).Nodup) (ny:∀ y ∈ ys,ns'.lookup y ≠ some .local) (hl:ks.length=ys.length)
  (hk:∀ p ∈ ks.zip ys,X.N[p.1]?=some p.2/\X.env.kindOf p.2=some .cell):CompScope2 X (x :: x2 :: ys) ks x x2 scope cl:=by
 subst rl
 refine ⟨kind,nocell,loc,own,own2,clos,fun y c h=>lookup_mem_all (P:=fun y c=>X.env.cells.lookup y=some c) sub h,has_of only,nd,rfl,rfl,by simp [hl],fun j y h=>?_,fun j k h=>outs_ok (own:=[x,x2]) hl hk j k h⟩
 exact ny y (List.mem_of_getElem? (by simpa using h))
end L2
namespace L2
open PySem PySem.Spec PyProof.Rows
theorem comp_walk {J:It} {xs:List V} {te:TE} {σ:V->St} {H:Hp} {Q:VK} (hn:xs.length < sizeLine) (R:Nat->List V->Hp->Prop) (R0:∀ p,H p=none->R 0 [] (upd H p (.lst [])))
  (hstop:∀ H',Same H H'->J.stop xs.length H') (hgo:∀ (i:Nat) H',i < xs.length->Same H H'->J.go i H') (hyld:∀ (i:Nat) H' x H2,Same H H'->J.yld i H' x H2->H2=H'/\xs[i]?=some x)
  (he:∀ (i:Nat) (x:V) (vs:List V) (H':Hp) (acc:Addr) (Q':VK),xs[i]?=some x->Same H H'->H acc=none->H' acc=some (.lst vs)->R i vs H'->vs.length=i->(∀ y H2,Same H' H2->R (i+1) (vs ++ [y]) (upd H2 acc (.lst (vs ++ [y])))->Q' y H2)->te (σ x) H' Q')
  (q:∀ p H' vs,Same H H'->H p=none->H' p=some (.lst vs)->vs.length=xs.length->R xs.length vs H'->Q (.ref p) H'):CompEnd J Q H te σ:=by
 intro acc hacc
 refine ⟨fun i m H' vs=>i<=xs.length/\m=xs.length - i/\Same H H'/\H' acc=some (.lst vs)/\vs.length=i/\R i vs H',⟨xs.length,Nat.zero_le _,by simp,same_new hacc _,upd_same,rfl,R0 _ hacc⟩,?_⟩
 rintro i m H' vs ⟨hi,rfl,g,ha,hl,r⟩
 refine ⟨ha,?_⟩
 by_cases h:i=xs.length
 ·subst h
  exact .inl ⟨hstop _ g,q acc H' vs g hacc ha hl r⟩
 ·have hlt:i < xs.length:=by omega
  refine .inr ⟨hgo i _ hlt g,by omega,?_⟩
  intro z H2 hz
  obtain ⟨rfl,hz'⟩:=hyld i _ _ _ g hz
  refine he i z vs H2 acc _ hz' g hacc ha r hl fun y H3 g3 r3=>⟨g3 _ _ ha,xs.length - (i+1),by omega,by omega,rfl,same_upd (g.trans g3) hacc,upd_same,?_,r3⟩
  rw [List.length_append,hl]
  rfl
theorem comp_tupR {K:W.Frag} {a:Addr} {xs:List V} {te:TE} {σ:V->St} {H:Hp} {Q:VK} (hn:xs.length < sizeLine) (hK:∀ H',Same H H'->SqT K H' a xs) (R:Nat->List V->Hp->Prop) (R0:∀ p,H p=none->R 0 [] (upd H p (.lst [])))
  (he:∀ (i:Nat) (x:V) (vs:List V) (H':Hp) (acc:Addr) (Q':VK),xs[i]?=some x->Same H H'->H acc=none->H' acc=some (.lst vs)->R i vs H'->vs.length=i->(∀ y H2,Same H' H2->R (i+1) (vs ++ [y]) (upd H2 acc (.lst (vs ++ [y])))->Q' y H2)->te (σ x) H' Q')
  (q:∀ p H' vs,Same H H'->H p=none->H' p=some (.lst vs)->vs.length=xs.length->R xs.length vs H'->Q (.ref p) H'):CompEnd (Itt K a) Q H te σ:=
 comp_walk hn R R0 (fun H' g=>⟨xs,hK _ g,Nat.le_refl _⟩) (fun i H' hi g=>⟨xs,xs[i],hK _ g,by simp [hi]⟩) (fun i H' x H2 g h=>⟨h.1,h.2 xs (hK _ g)⟩) he q
theorem comp_listR {K:W.Frag} {a:Addr} {xs:List V} {te:TE} {σ:V->St} {H:Hp} {Q:VK} (hn:xs.length < sizeLine) (hK:∀ H',Same H H'->SqL K H' a xs) (R:Nat->List V->Hp->Prop) (R0:∀ p,H p=none->R 0 [] (upd H p (.lst [])))
  (he:∀ (i:Nat) (x:V) (vs:List V) (H':Hp) (acc:Addr) (Q':VK),xs[i]?=some x->Same H H'->H acc=none->H' acc=some (.lst vs)->R i vs H'->vs.length=i->(∀ y H2,Same H' H2->R (i+1) (vs ++ [y]) (upd H2 acc (.lst (vs ++ [y])))->Q' y H2)->te (σ x) H' Q')
  (q:∀ p H' vs,Same H H'->H p=none->H' p=some (.lst vs)->vs.length=xs.length->R xs.length vs H'->Q (.ref p) H'):CompEnd (Itl K a) Q H te σ:=
 comp_walk hn R R0 (fun H' g=>⟨xs,hK _ g,Nat.le_refl _⟩) (fun i H' hi g=>⟨xs,xs[i],hK _ g,by simp [hi]⟩) (fun i H' x H2 g h=>⟨h.1,h.2 xs (hK _ g)⟩) he q
theorem ixK_tup {X:Cx} {K:W.Frag} (e:X.K=K):IxR X (rIxT K):=e ▸ ix_tup
theorem ixK_list {X:Cx} {K:W.Frag} (e:X.K=K):IxR X (rIxL K):=e ▸ ix_list
def Laid (row:Nat->HO) (i:Nat) (vs:List V) (H:Hp):Prop:=∃ rs:List Addr,vs=rs.map V.ref/\rs.length=i/\∀ (j:Nat) (r:Addr),rs[j]?=some r->H r=some (row j)
end L2
namespace L2
open PySem PySem.Spec PyProof.Rows
theorem call_maxL {X:Cx} (hc:X.calm=true):CallR X (.builtin "max") (fun xs H Q=>∃ (l:Addr) (ns:List Int),xs=[.ref l]/\H l=some (.lst (ns.map V.int))/\ns ≠ []/\∀ m:Int,m ∈ ns->(∀ n ∈ ns,n<=m)->Q (.int m) H):=by
 intro pins s σ H xs us Q I rv h
 obtain ⟨l,ns,rfl,hH,hne,q⟩:=h
 obtain ⟨u,rfl,ru⟩:=rv.one
 cases ru
 obtain ⟨z,its,n,r,hl,e⟩:=I.lstM hH
 have hlt:l < s.heap.objs.size:=Heap.lt_size e
 have hlen:its.toArray.size=ns.length:=by rw [List.size_toArray,<- r.length,List.length_map]
 have pos:0 < ns.length:=List.length_pos_iff.mpr hne
 have val:∀ (i:Nat) (v:Value),its.toArray[i]?=some v->∃ t,v=.int (ns.getD i 0) t:=by
  intro i v hP
  have hv:its[i]?=some v:=by simpa using hP
  cases hn:ns[i]? with
  | none=>
   have h1:=r.none_of (i:=i) (by rw [List.getElem?_map,hn]; rfl)
   rw [h1] at hv; cases hv
  | some m=>
   obtain ⟨u',h1,t,h2⟩:=r.get (i:=i) (x:=.int m) (by rw [List.getElem?_map,hn]; rfl)
   rw [h1] at hv; cases hv
   exact ⟨t,by rw [List.getD_eq_getElem?_getD,hn]; exact h2⟩
 refine call_max_walk (wpAny_pyIter_list (A:=X.A.in1) ⟨_,e,rfl,n,rfl⟩ ?_)
 have W:=Walks.list (prog:=X.prog) (w:=X.w) (A:=X.A.in1) (show X.A.in1.handled=none from I.ok.hd hc) s.heap.objs.size l (Nat.ne_of_lt hlt) its.toArray
 refine ⟨s.heap.objs.size,_,_,_,_,_,_,rfl,W,⟨⟨_,Heap.get?_push_size _ rfl,rfl,rfl⟩,⟨_,Heap.get?_push_of_some _ e,rfl,n,rfl⟩⟩,?_,by omega,CmpOf.ints_gt (fun i=>ns.getD i 0) val,?_⟩
 ·intro b hb
  have:b=s.heap.objs.size\/b=l:=by simpa using hb
  rw [Heap.size_push]
  rcases this with rfl | rfl
  ·exact Nat.lt_succ_self _
  ·exact Nat.lt_succ_of_lt hlt
 ·intro v h' tk hv hk
  obtain ⟨t,rfl⟩:=val _ _ hv
  have ab:=argBest_gt (fun i=>ns.getD i 0) (its.toArray.size - 1)
  refine ⟨.int _,H,I.kept (h':=h') (t':=tk) fun b o q'=>hk b o (fun zz=>?_) (Heap.get?_push_of_some _ q'),⟨t,rfl⟩,q _ ?_ ?_⟩
  ·have:b=s.heap.objs.size:=by simpa using zz
   subst this
   exact absurd (Heap.lt_size q') (Nat.lt_irrefl _)
  ·have lt:argBest (fun i j=>decide (ns.getD i 0 > ns.getD j 0)) (its.toArray.size - 1) < ns.length:=by have:=ab.1; omega
   rw [List.getD_eq_getElem?_getD,List.getElem?_eq_getElem lt]
   exact List.getElem_mem lt
  ·intro m hm
   obtain ⟨j,hj,ej⟩:=List.getElem_of_mem hm
   have:=ab.2 j (by omega)
   rw [<- ej]
   have e2:ns.getD j 0=ns[j]:=by rw [List.getD_eq_getElem?_getD,List.getElem?_eq_getElem hj]; rfl
   rw [e2] at this
   exact this
section
variable {P:Program} {w:World} {A:Around} {E:Value->Shared->Prop}
theorem draw_lst {j l:Addr} {us:Array Value} (ne:l ≠ j):∀ (n i:Nat) (s:Shared) (Q:List Value->Shared->Prop),s.heap.IsListIter j l i->s.heap.IsList l us->i+n<=us.size ->
  (∀ h',h'.IsListIter j l (i+n)->Heap.SameBut j s.heap h'->Q ((us.toList.drop i).take n) { s with heap:=h' })->wpAny (model P w) A (draw (.ref j) n) Q E s
 | 0,i,s,Q,g0,_,_,q=>by
  show wpAny _ _ (pure ([]:List Value)) Q E s
  exact wpAny_pure (by simpa using q s.heap g0 (Heap.SameBut.refl ..))
 | n+1,i,s,Q,g0,g1,le,q=>by
  have lt:i < us.size:=by omega
  show wpAny _ _ (pyNext (.ref j) >>= _) Q E s
  refine wpAny_bind (wpAny_pyNext_list_item g0 g1 (x:=us[i]) (by simp [lt]) fun w1 k1 b1=>?_)
  refine wpAny_bind (wpAny_holding (draw_lst ne n (i+1) _ _ k1 (g1.extBut b1.extBut ne) (by omega) fun w2 k2 b2=>wpAny_pure ?_))
  have dr:us.toList.drop i=us[i] :: us.toList.drop (i+1):=by simp [List.drop_eq_getElem_cons,lt]
  have z:=q w2 (by rw [show i+(n+1)=i+1+n by omega]; exact k2) (b1.trans b2)
  rw [dr,List.take_succ_cons] at z
  exact z
theorem unpack_lst {s:Shared} {l:Addr} {us:Array Value} {ts:List (Bool × (Value->Sem Unit))} {Q:Unit->Shared->Prop} (ha:A.handled=none) (g1:s.heap.IsList l us) (hn:ts.length=us.size) (hst:ts.findIdx? (·.1)=none)
  (q:∀ h',Heap.ExtBut s.heap.objs.size s.heap h'->wpAny (model P w) A (assignInOrder (ts.map (·.2)) us.toList) Q E { s with heap:=h' }):wpAny (model P w) A (unpack (.ref l) ts) Q E s:=by
 have ne:l ≠ s.heap.objs.size:=by
  obtain ⟨o,ho,_⟩:=g1
  exact Nat.ne_of_lt (Heap.lt_size ho)
 unfold unpack
 rw [hn,hst]
 refine wpAny_bind (wpAny_holding ?_)
 unfold unpackItems
 refine wpAny_bind ?_
 unfold notIterableAtAll
 refine wpAny_bind (wpAny_specialOf g1.typeIs slot_list_iter.lookup (wpAny_pure ?_))
 simp only [Bool.false_eq_true,if_false]
 refine wpAny_bind (wpAny_holding (wpAny_pyIter_list g1 ?_))
 refine wpAny_bind (wpAny_holding (draw_lst ne us.size 0 _ _ ⟨_,Heap.get?_push_size _ rfl,rfl,rfl⟩ (g1.push _) (by omega) fun w1 k1 b1=>?_))
 rw [show List.take us.size (List.drop 0 us.toList)=us.toList by rw [List.drop_zero]; exact List.take_of_length_le (by simp)]
 rw [if_neg (by simp)]
 refine wpAny_bind (wpAny_holding (wpAny_pyNext_list_end ha k1 ((g1.push _).extBut b1.extBut ne) (by simp) fun w2 b2=>?_))
 simp only [Option.isSome_none,Bool.false_eq_true,if_false]
 exact wpAny_pure (q w2 fun b o hb e=>b2 b o hb (b1.extBut b o hb (Heap.get?_push_of_some _ e)))
end
def gLst (K:W.Frag) (n:Nat) (t:TGs):TG:=fun v σ H Q=>∃ a xs,v=.ref a/\SqL K H a xs/\xs.length=n/\t xs σ H Q
theorem pg_lst {X:Cx} {es:List Expr} {k:Nat} {t:TGs} {n:Nat} {pos:Pos} (hc:X.calm=true) (h:PGs X es t)
  (hn:(assignEach es X.env).length=n:=by rfl) (hst:(assignEach es X.env).findIdx? (·.1)=none:=by rfl):PG X (.Tuple es k pos) (gLst X.K n t):=by
 intro pins s σ H v u Q I r hw
 obtain ⟨a,xs,e1,hq,hl,hw⟩:=hw
 subst e1
 cases r
 obtain ⟨its,rv,p,hz⟩:=I.list hq
 rw [assign_Tuple]
 refine wpAny_bind (wpAny_standAt (unpack_lst (I.ok.hd hc) p.isList (by simp [hn,<- hl,rv.length]) hst fun h' hx=>?_))
 have I1:Inv X pins σ H { s with heap:=h' }:=I.kept (t':=s.toks) fun b o e=>hx b o (Nat.ne_of_lt (Heap.lt_size e)) e
 exact h pins _ σ H xs _ Q I1 (by simpa using rv) hw
end L2
namespace L2
open PySem PySem.Spec PySem.Calls PyProof.Rows
section
variable {X:Cx} {N:List Str} {fr:List Nat} {x x2:Str} {scope:Scope} {cl:List (Str × Addr)} {elt iter:Expr} {px px2 tp pos:Pos} {kt:Nat} {wi:TI} {te:TE}
end
end L2
namespace L2
open PySem PySem.Spec PyProof.Rows
def tPar3 (i j k:Nat) (ta:TA):TS:=fun D σ H=>ta σ H fun vs H1=>∃ v w z,vs=[v,w,z]/\D.nx (((σ.set i (some v)).set j (some w)).set k (some z)) H1
theorem compIf_walk2 {J:It} {xs:List V} {tc:TT} {te:TE} {σ:V->St} {H:Hp} {Q:VK} (hn:xs.length < sizeLine) (p:V->Bool) (f:V->V)
  (hstop:∀ H',Same H H'->J.stop xs.length H') (hgo:∀ (i:Nat) H',i < xs.length->Same H H'->J.go i H') (hyld:∀ (i:Nat) H' x H2,i < xs.length->Same H H'->J.yld i H' x H2->H2=H'/\xs[i]?=some x)
  (ht:∀ (i:Nat) (x:V) (H':Hp) (Q':Bool->Hp->Prop),xs[i]?=some x->Same H H'->(∀ H2,Same H' H2->Q' (p x) H2)->tc (σ x) H' Q')
  (he:∀ (i:Nat) (x:V) (H':Hp) (Q':VK),xs[i]?=some x->p x=true->Same H H'->(∀ H2,Same H' H2->Q' (f x) H2)->te (σ x) H' Q')
  (q:∀ a H',Same H H'->H a=none->H' a=some (.lst ((xs.filter p).map f))->Q (.ref a) H'):CompIfEnd J Q H tc te σ:=by
 intro acc hacc
 refine ⟨fun i m H' vs=>i<=xs.length/\m=xs.length - i/\Same H H'/\H' acc=some (.lst vs)/\vs=((xs.take i).filter p).map f,⟨xs.length,Nat.zero_le _,by simp,same_new hacc _,upd_same,by simp⟩,?_⟩
 rintro i m H' vs ⟨hi,rfl,g,ha,rfl⟩
 refine ⟨ha,?_⟩
 by_cases h:i=xs.length
 ·refine .inl ⟨h ▸ hstop _ g,q acc H' g hacc ?_⟩
  rw [ha,h,List.take_length]
 ·have hlt:i < xs.length:=by omega
  refine .inr ⟨hgo i _ hlt g,?_,?_⟩
  ·rw [List.length_map]
   have h1:=List.length_filter_le p (xs.take i)
   rw [List.length_take] at h1
   omega
  intro z H2 hz
  obtain ⟨rfl,hz'⟩:=hyld i _ _ _ hlt g hz
  refine ht i z H2 _ hz' g fun H3 g3=>?_
  have ts:xs.take (i+1)=xs.take i ++ [z]:=by rw [List.take_succ,hz']; rfl
  cases e:p z with
  | true=>
   rw [if_pos rfl]
   refine he i z H3 _ hz' e (g.trans g3) fun H4 g4=>⟨g4 _ _ (g3 _ _ ha),xs.length - (i+1),by omega,by omega,rfl,same_upd (g.trans (g3.trans g4)) hacc,upd_same,?_⟩
   rw [ts,List.filter_append,List.map_append]
   have:[z].filter p=[z]:=by simp [e]
   rw [this]
   rfl
  | false=>
   rw [if_neg Bool.false_ne_true]
   refine ⟨xs.length - (i+1),by omega,by omega,rfl,g.trans g3,g3 _ _ ha,?_⟩
   rw [ts,List.filter_append,List.map_append]
   have:[z].filter p=[]:=by simp [e]
   rw [this]
   simp
theorem compIf_three {tc:TT} {te:TE} {σ:V->St} {H:Hp} {Q:VK} (p:V->Bool) (f:V->V)
  (ht:∀ (i:Nat) (H':Hp) (Q':Bool->Hp->Prop),i < 3->Same H H'->(∀ H2,Same H' H2->Q' (p (.int (0+(i:Int)))) H2)->tc (σ (.int (0+(i:Int)))) H' Q')
  (he:∀ (i:Nat) (H':Hp) (Q':VK),i < 3->p (.int (0+(i:Int)))=true->Same H H'->(∀ H2,Same H' H2->Q' (f (.int (0+(i:Int)))) H2)->te (σ (.int (0+(i:Int)))) H' Q')
  (q:∀ a H',Same H H'->H a=none->H' a=some (.lst ((((List.range 3).map fun (i:Nat)=>V.int (0+(i:Int))).filter p).map f))->Q (.ref a) H'):CompIfEnd (Itr 0 3) Q H tc te σ:=by
 have get:∀ (i:Nat) (x:V),((List.range 3).map fun (i:Nat)=>V.int (0+(i:Int)))[i]?=some x->i < 3/\x=.int (0+(i:Int)):=fun i x h=>by
  rw [List.getElem?_map] at h
  by_cases e:i < 3
  ·rw [List.getElem?_range e] at h
   exact ⟨e,(Option.some.inj h).symm⟩
  ·rw [List.getElem?_eq_none (by rw [List.length_range]; omega)] at h
   cases h
 refine compIf_walk2 (xs:=(List.range 3).map fun (i:Nat)=>V.int (0+(i:Int))) (by show 3 < sizeLine; decide) p f (fun H' g=>Nat.le_refl 3) (fun i H' hi g=>hi) (fun i H' x H2 hi g h=>⟨h.1,?_⟩) ?_ ?_ q
 ·have i3:i < 3:=hi
  rw [h.2,List.getElem?_map,List.getElem?_range i3]
  rfl
 ·intro i x H' Q' hx g k
  obtain ⟨h1,rfl⟩:=get i x hx
  exact ht i H' Q' h1 g k
 ·intro i x H' Q' hx hp g k
  obtain ⟨h1,rfl⟩:=get i x hx
  exact he i H' Q' h1 hp g k
def tSetCI (wi:TI) (fr:List Nat) (tc:TT) (te:TE) (k:Nat):TS:=fun D σ H=>tCompIfC wi fr tc te σ H fun v H'=>D.nx (σ.set k (some v)) H'
theorem ps_setCI {X:Cx} {N:List Str} {fr:List Nat} {x:Str} {scope:Scope} {cl:List (Str × Addr)} {elt iter:Expr} {px pos:Pos} {wi:TI} {te:TE} {cnd:Expr} {tc:TT} {y:Str} {py spos:Pos} {k:Nat} (hN:X.N.Nodup) (hk:X.N[k]?=some y) (hy:Loc X.env.scope y) (hsw:swapsWith (.ListComp elt [⟨.Name x px,iter,[cnd],0⟩] scope pos) (some (.Name y py)) spos.line X.env=pure true) (hc:X.still=true) (S:CompScope X N fr x scope cl) (hi:PI X (.Name x px) iter wi) (ht:∀ (C:Addr) (s0:Shared) (H0:Hp) (fp:List Addr) (pins:List (Addr × Obj)),PT (cxC X N scope cl C s0 H0 fp pins) cnd tc) (he:∀ (C:Addr) (s0:Shared) (H0:Hp) (fp:List Addr) (pins:List (Addr × Obj)),PE (cxC X N scope cl C s0 H0 fp pins) elt te)
  (hf:X.fn y=true\/X.env.scope.names.lookup y=some .local) (hs:∀ y,foldedSetIterable iter X.env y=pure y:=by intro _; rfl):PS X (.Assign [.Name y py] (.ListComp elt [⟨.Name x px,iter,[cnd],0⟩] scope pos) spos) (tSetCI wi fr tc te k):=
 ps_setC hN hk hy hsw hc S hi ht he hf hs
end L2
namespace L2
open PySem PySem.Spec PyProof.Rows
def Ho (b:Bool) (xs:List V):HO:=match b with
 | true=>.lst xs
 | false=>.tup xs
def Sq (K:W.Frag) (H:Hp) (b:Bool) (a:Addr) (xs:List V):Prop:=match b with
 | true=>SqL K H a xs
 | false=>SqT K H a xs
def Itb (K:W.Frag) (b:Bool) (a:Addr):It:=match b with
 | true=>Itl K a
 | false=>Itt K a
theorem Sq.of {K:W.Frag} {H:Hp} {b:Bool} {a:Addr} {xs:List V} (h:H a=some (Ho b xs)):Sq K H b a xs:=by
 cases b with
 | true=>exact SqL.of h
 | false=>exact SqT.of h
def iSeq (K:W.Frag) (tl:TE):TI:=fun σ H R=>tl σ H fun x H1=>∃ a b xs,x=.ref a/\Sq K H1 b a xs/\R (Itb K b a) H1
theorem pi_seq {X:Cx} {tg l:Expr} {tl:TE} (hl:PE X l tl):PI X tg l (iSeq X.K tl):=by
 intro pins s σ H R I h
 refine thn (hl pins s σ H _ I h) fun v s1 ⟨x,H1,I1,r1,q1⟩=>?_
 obtain ⟨a,b,xs,e,hq,q⟩:=q1
 subst e
 cases r1
 cases b with
 | true=>
  obtain ⟨its,rv,p,hz⟩:=I1.list hq
  refine wpAny_pyIter_list p.isList ?_
  refine ⟨s1.heap.objs.size,[s1.heap.objs.size],_,_,H1,rfl,I1.kept (t':=s1.toks) fun b o e=>Heap.get?_push_of_some _ e,turn_list a _,⟨_,Heap.get?_push_size _ rfl,rfl,rfl⟩,fun b hb=>?_,q⟩
  have e:b=s1.heap.objs.size:=by simpa using hb
  subst e
  exact I1.fpOk (Nat.le_refl _) (I1.hok.fresh (Nat.le_refl _))
 | false=>
  obtain ⟨its,rv,p,hz⟩:=I1.tuple hq
  refine wpAny_pyIter_tuple (show s1.heap.IsTuple a its.toArray from p) ?_
  refine ⟨s1.heap.objs.size,[s1.heap.objs.size],_,_,H1,rfl,I1.kept (t':=s1.toks) fun b o e=>Heap.get?_push_of_some _ e,turn_tuple a _,⟨_,Heap.get?_push_size _ rfl,rfl,rfl⟩,fun b hb=>?_,q⟩
  have e:b=s1.heap.objs.size:=by simpa using hb
  subst e
  exact I1.fpOk (Nat.le_refl _) (I1.hok.fresh (Nat.le_refl _))
theorem for_seq {K:W.Frag} {b:Bool} {a:Addr} {xs:List V} {g:TG} {tb:TS} {D:Ends} {σ:St} {H:Hp} (Pv:Nat->St->Hp->Prop) (h0:Pv 0 σ H) (hl:∀ i σ H,i<=xs.length->Pv i σ H->Sq K H b a xs)
  (hs:∀ i x σ H,xs[i]?=some x->Pv i σ H->g x σ H fun σ2 H2=>tb { D with nx:=Pv (i+1),ct:=Pv (i+1),bk:=D.nx } σ2 H2) (hd:∀ σ H,Pv xs.length σ H->D.nx σ H) :
  ∃ W:Nat->Nat->St->Hp->Prop,(∃ m,W 0 m σ H)/\∀ i m σ H,W i m σ H ->
   ((Itb K b a).stop i H/\D.nx σ H)\/((Itb K b a).go i H/\∃ N:St->Hp->Prop,(∀ σ' H',N σ' H'->∃ m',m' < m/\W (i+1) m' σ' H')/\∀ x H',(Itb K b a).yld i H x H'->g x σ H' fun σ2 H2=>tb { D with nx:=N,ct:=N,bk:=D.nx } σ2 H2):=by
 cases b with
 | true=>exact for_list Pv h0 hl hs hd
 | false=>exact for_tup Pv h0 hl hs hd
theorem compIf_seqF {K:W.Frag} {b:Bool} {a:Addr} {xs:List V} {tc:TT} {te:TE} {σ:V->St} {H:Hp} {Q:VK} (hn:xs.length < sizeLine) (p:V->Bool) (f:V->V) (hK:∀ H',Same H H'->Sq K H' b a xs)
  (ht:∀ (i:Nat) (x:V) (H':Hp) (Q':Bool->Hp->Prop),xs[i]?=some x->Same H H'->(∀ H2,Same H' H2->Q' (p x) H2)->tc (σ x) H' Q')
  (he:∀ (i:Nat) (x:V) (H':Hp) (Q':VK),xs[i]?=some x->p x=true->Same H H'->(∀ H2,Same H' H2->Q' (f x) H2)->te (σ x) H' Q')
  (q:∀ a H',Same H H'->H a=none->H' a=some (.lst ((xs.filter p).map f))->Q (.ref a) H'):CompIfEnd (Itb K b a) Q H tc te σ:=by
 cases b with
 | true=>exact compIf_listF hn p f hK ht he q
 | false=>exact compIf_tupF hn p f hK ht he q
theorem comp_seqF {K:W.Frag} {b:Bool} {a:Addr} {xs:List V} {te:TE} {σ:V->St} {H:Hp} {Q:VK} (hn:xs.length < sizeLine) (f:V->V) (hK:∀ H',Same H H'->Sq K H' b a xs)
  (he:∀ (i:Nat) (x:V) (H':Hp) (Q':VK),xs[i]?=some x->Same H H'->(∀ H2,Same H' H2->Q' (f x) H2)->te (σ x) H' Q')
  (q:∀ a H',Same H H'->H a=none->H' a=some (.lst (xs.map f))->Q (.ref a) H'):CompEnd (Itb K b a) Q H te σ:=by
 cases b with
 | true=>exact comp_listF (hK H (Same.refl _)) hn f hK he q
 | false=>exact comp_tupF (hK H (Same.refl _)) hn f hK he q
def Its (lo st:Int) (n:Nat):It:=⟨fun i _=>i < n,fun i H x H'=>H'=H/\x=.int (lo+(i:Int)*st),fun i _=>n<=i⟩
section
variable {X:Cx} {tg:Expr}
def iRng3 (ta:TA):TI:=fun σ H R=>ta σ H fun vs H1=>∃ i j c:Int,vs=[.int i,.int j,.int c]/\c ≠ 0/\Builtin.divisionGoesByPylong (j - i) c=false/\Builtin.Range.small i j c=true/\R (Its i c (Builtin.Range.rangeSize i j c).toNat) H1
end
theorem call_anyT {X:Cx} (hc:X.calm=true):CallR X (.builtin "any") (fun xs H Q=>∃ (l:Addr) (ns:List Int),xs=[.ref l]/\SqT X.K H l (ns.map V.int)/\Q (.bl (ns.any (· != 0))) H):=by
 intro pins s σ H xs us Q I rv h
 obtain ⟨l,ns,rfl,hH,q⟩:=h
 obtain ⟨u,rfl,ru⟩:=rv.one
 cases ru
 obtain ⟨its,r,p,hz⟩:=I.tuple hH
 obtain ⟨o,e,hcl,n,hd⟩:=id p
 have hlt:l < s.heap.objs.size:=Heap.lt_size e
 refine call_any_walk (wpAny_pyIter_tuple (A:=X.A.in1) (show s.heap.IsTuple l its.toArray from p) ?_)
 have W:=Walks.tuple (prog:=X.prog) (w:=X.w) (A:=X.A.in1) (show X.A.in1.handled=none from I.ok.hd hc) s.heap.objs.size l (Nat.ne_of_lt hlt) its.toArray
 refine ⟨s.heap.objs.size,_,_,_,_,_,fun i=>ns.getD i 0 != 0,rfl,W,⟨⟨_,Heap.get?_push_size _ rfl,rfl,rfl⟩,⟨o,Heap.get?_push_of_some _ e,hcl,n,hd⟩⟩,?_,?_⟩
 ·intro i v s' Q' E' hP hQ
  have hv:its[i]?=some v:=by simpa using hP
  obtain ⟨b,t,hb,rfl⟩:∃ b t,ns[i]?=some b/\v=Value.int b t:=by
   cases hbi:ns[i]? with
   | none=>
    have h1:=r.none_of (i:=i) (by rw [List.getElem?_map,hbi]; rfl)
    rw [h1] at hv; cases hv
   | some b=>
    obtain ⟨u',h1,h2⟩:=r.get (i:=i) (x:=.int b) (by rw [List.getElem?_map,hbi]; rfl)
    rw [h1] at hv; cases hv
    obtain ⟨t,rfl⟩:=h2
    exact ⟨b,t,rfl,rfl⟩
  have hQ2:Q' (ns.getD i 0 != 0) s':=hQ
  rw [List.getD_eq_getElem?_getD,hb] at hQ2
  exact truthy_int hQ2
 ·intro h' tk hk
  have e2:((List.range its.toArray.size).any fun i=>ns.getD i 0 != 0)=ns.any (· != 0):=by
   have hlen:its.toArray.size=ns.length:=by
    rw [List.size_toArray,<- r.length,List.length_map]
   rw [hlen]
   rw [Bool.eq_iff_iff,List.any_eq_true,List.any_eq_true]
   constructor
   ·rintro ⟨i,hi,hA⟩
    have hi':=List.mem_range.mp hi
    rw [List.getD_eq_getElem?_getD,List.getElem?_eq_getElem hi'] at hA
    exact ⟨_,List.getElem_mem hi',hA⟩
   ·rintro ⟨b,hb,hA⟩
    obtain ⟨i,hi,e⟩:=List.getElem_of_mem hb
    refine ⟨i,List.mem_range.mpr hi,?_⟩
    rw [List.getD_eq_getElem?_getD,List.getElem?_eq_getElem hi,e]
    exact hA
  rw [e2]
  refine ⟨.bl (ns.any (· != 0)),H,?_,rfl,q⟩
  exact I.kept (h':=h') (t':=tk) fun b o q'=>hk b o (fun zz=>by
   have:b=s.heap.objs.size:=by simpa using zz
   subst this
   exact absurd (Heap.lt_size q') (Nat.lt_irrefl _)) (Heap.get?_push_of_some _ q')
theorem callK_isi {X:Cx} {K:W.Frag} (e:X.K=K):CallR X (.builtin "isinstance") (rIsi K):=e ▸ call_isi
def TupK (K:W.Frag) (a:Addr) (xs:List V):Prop:=∃ (o:Obj) (its:Array Value) (n:Nat),K.lookup a=some o/\o.cls=.type "tuple"/\o.data=.seq its n/\its.size<=sizeLine/\Vals xs its.toList
theorem TupK.sq {K:W.Frag} {a:Addr} {xs:List V} (h:TupK K a xs) (H:Hp):SqT K H a xs:=.inr h
theorem TupK.mk {K:W.Frag} {a:Addr} {xs:List V} {od:Option Addr} {its:Array Value} {n:Nat} {sl:Array (Option Value)} (h:K.lookup a=some ⟨.type "tuple",od,.seq its n,sl⟩) (hz:its.size<=sizeLine) (hv:Vals xs its.toList):TupK K a xs:=⟨_,its,n,h,rfl,rfl,hz,hv⟩
end L2
namespace SetM
open PySem PySem.SetTable
def Up (xs:Array Nat):Prop:=∀ i j,(hij:i < j)->(h:j < xs.size)->xs[i]'(Nat.lt_trans hij h) < xs[j]
theorem below_go {xs:Array Nat} (u:Up xs) (j:Nat):∀ (f lo hi:Nat),hi<=xs.size->hi - lo<=f->lo<=hi->(∀ i,i < lo->(h:i < xs.size)->xs[i] < j)->(∀ i,hi<=i->(h:i < xs.size)->j<=xs[i]) ->
  let r:=below.go xs j f lo hi
  r<=xs.size/\(∀ i,i < r->(h:i < xs.size)->xs[i] < j)/\(∀ i,r<=i->(h:i < xs.size)->j<=xs[i])
 | 0,lo,hi,h1,h2,h3,ha,hb=>by
  have e:lo=hi:=by omega
  subst e
  exact ⟨h1,ha,hb⟩
 | f+1,lo,hi,h1,h2,h3,ha,hb=>by
  unfold below.go
  by_cases c:lo < hi
  ·rw [if_pos c]
   have hm:(lo+hi) / 2 < xs.size:=by omega
   have e:xs.getD ((lo+hi) / 2) j=xs[(lo+hi) / 2]:=by
    rw [Array.getD_eq_getD_getElem?,Array.getElem?_eq_getElem hm]
    rfl
   dsimp only
   rw [e]
   by_cases d:xs[(lo+hi) / 2] < j
   ·rw [if_pos d]
    refine below_go u j f _ hi h1 (by omega) (by omega) (fun i hi' h=>?_) hb
    by_cases q:i=(lo+hi) / 2
    ·subst q; exact d
    ·have:=u i ((lo+hi) / 2) (by omega) hm
     omega
   ·rw [if_neg d]
    refine below_go u j f lo _ (by omega) (by omega) (by omega) ha (fun i hi' h=>?_)
    by_cases q:i=(lo+hi) / 2
    ·subst q; omega
    ·have:=u ((lo+hi) / 2) i (by omega) h
     omega
  ·rw [if_neg c]
   have e:lo=hi:=by omega
   subst e
   exact ⟨h1,ha,hb⟩
theorem below_spec {xs:Array Nat} (u:Up xs) (j:Nat):below xs j<=xs.size/\(∀ i,i < below xs j->(h:i < xs.size)->xs[i] < j)/\(∀ i,below xs j<=i->(h:i < xs.size)->j<=xs[i]):=
 below_go u j xs.size 0 xs.size (Nat.le_refl _) (by omega) (by omega) (fun i h=>absurd h (Nat.not_lt_zero i)) fun i h h'=>by omega
theorem below_next {xs:Array Nat} (u:Up xs) {i:Nat} (h:i < xs.size):below xs (xs[i]+1)=i+1:=by
 obtain ⟨a,b,c⟩:=below_spec u (xs[i]+1)
 have h1:¬ below xs (xs[i]+1)<=i:=fun z=>by have:=c i z h; omega
 have h2:¬ i+1 < below xs (xs[i]+1):=fun z=>by
  have h3:i+1 < xs.size:=by omega
  have:=b (i+1) z h3
  have:=u i (i+1) (by omega) h3
  omega
 omega
theorem below_zero {xs:Array Nat} (u:Up xs):below xs 0=0:=by
 obtain ⟨a,b,c⟩:=below_spec u 0
 by_cases z:below xs 0=0
 ·exact z
 ·have:=b 0 (by omega) (by omega)
  omega
theorem insertAt_toList {α:Type} (xs:Array α) (p:Nat) (x:α):(insertAt xs p x).toList=xs.toList.take p ++ x :: xs.toList.drop p:=by
 unfold insertAt
 simp
 exact List.take_of_length_le (by simp)
theorem up_iff {xs:Array Nat}:Up xs ↔ xs.toList.Pairwise (· < ·):=by
 rw [List.pairwise_iff_getElem]
 constructor
 ·intro u i j hi hj hij
  exact u i j hij (by simpa using hj)
 ·intro u i j hij h
  exact u i j (by simpa using Nat.lt_trans hij h) (by simpa using h) hij
theorem up_insert {xs:Array Nat} (u:Up xs) {j:Nat} (hj:xs[below xs j]? ≠ some j):Up (insertAt xs (below xs j) j):=by
 obtain ⟨a,b,c⟩:=below_spec u j
 have ul:=up_iff.mp u
 rw [up_iff,insertAt_toList]
 have c':∀ y ∈ xs.toList.drop (below xs j),j < y:=fun y hy=>by
  obtain ⟨i,hi,rfl⟩:=List.getElem_of_mem hy
  rw [List.getElem_drop]
  have hs:below xs j+i < xs.size:=by
   rw [List.length_drop,Array.length_toList] at hi
   omega
  have h1:=c (below xs j+i) (by omega) hs
  by_cases z:i=0
  ·subst z
   have h2:xs[below xs j] ≠ j:=fun z=>hj (by rw [Array.getElem?_eq_getElem (by omega),z])
   have h3:=c (below xs j) (by omega) (by omega)
   have h4:xs[below xs j]=xs[below xs j+0]:=rfl
   show j < xs[below xs j+0]
   omega
  ·have h2:=u (below xs j) (below xs j+i) (by omega) hs
   have h3:=c (below xs j) (by omega) (by omega)
   show j < xs[below xs j+i]
   omega
 have b':∀ y ∈ xs.toList.take (below xs j),y < j:=fun y hy=>by
  obtain ⟨i,hi,rfl⟩:=List.getElem_of_mem hy
  rw [List.getElem_take]
  rw [List.length_take,Array.length_toList] at hi
  exact b i (by omega) (by omega)
 rw [List.pairwise_append]
 refine ⟨ul.take,List.pairwise_cons.mpr ⟨c',ul.drop⟩,fun x hx y hy=>?_⟩
 rcases List.mem_cons.mp hy with rfl | hy
 ·exact b' x hx
 ·exact Nat.lt_trans (b' x hx) (c' y hy)
structure Good (b:Bool) (t:SetTable):Prop where
 up:Up t.place
 no:t.dummies=#[]
 led:t.led=b
theorem has_none (j:Nat):SetTable.has #[] j=false:=rfl
theorem good_put {b:Bool} {t:SetTable} (g:Good b t) {j:Nat} (hj:t.slot j=.empty):Good b (t.put j).1:=by
 have hn:t.place[below t.place j]? ≠ some j:=fun z=>by
  unfold SetTable.slot at hj
  dsimp only at hj
  rw [if_pos (by rw [z]; exact beq_self_eq_true _)] at hj
  cases hj
 refine ⟨up_insert g.up hn,?_,g.led⟩
 unfold SetTable.put
 dsimp only
 rw [g.no,has_none]
 rfl
end SetM
namespace SetM
open PySem
def SetG (prog:Program) (w:World) (b:Bool) (h:Heap) (a:Addr) (S:Int->Bool) (n:Nat):Prop:=
 ∃ o es ep t,h.get? a=some o/\o.ExactSet/\o.data=.set es ep t/\ElemsOf (intKind prog w) es.toList/\(∀ k,S k=true ↔ ∃ e ∈ es.toList,(intKind prog w).is k e.2=true)/\es.size < scanBound/\t.fits es.size=true/\es.size=n/\Good b t
section
variable {prog:Program} {w:World} {A:Around} {E:Value->Shared->Prop} {s:Shared} {b:Bool}
end
end SetM
namespace SetM
open PySem PyProof.Rows
abbrev byT (w:World):Bool:=w.params.followText "set-order"
abbrev newO (w:World):Obj:={ cls:=.type "set",dict:=none,data:=.set #[] 0 (.fresh 0 0 (!byT w)) }
section
variable {prog:Program} {w:World} {A:Around} {E:Value->Shared->Prop} {s:Shared} {b:Bool}
theorem newG (a:Value) {Q₁:Value->Shared->Prop} (h:Q₁ (.ref s.heap.objs.size) { s with heap:=s.heap.push (newO w) }) :
  codeAny (model prog w) A (.call (.builtin "set.__new__") ⟨[.type "set",a],[]⟩) (wants Q₁ E) s:=by
 refine codeAny_of_tree ?_
 show wpAny _ A.in1 (do checkBuiltinCall "set.__new__" ⟨[.type "set",a],[]⟩; again (.builtin "set.__new__" ⟨[.type "set",a],[]⟩)) _ _ s
 refine wpAny_bind (wpAny_of_eq (PySem.F.newCall_set_1 a) (wpAny_pure ⟨plainId_quiet PySem.F.plain_set_new _,codeAny_builtin PySem.F.entry_set_new ?_⟩))
 rw [Around.under_plainId PySem.F.plain_set_new _]
 unfold Builtin.«set.__new__» Builtin.Frozenset.newClass
 have hsub:=sub_set_self
 obtain ⟨hp,g,d,tk,os⟩:=s
 dsimp only
 wp_walk
 refine wpAny_askSetting (wpAny_pure ?_)
 dsimp only
 simp only [newObj]
 exact wpAny_bind (wpAny_alloc (wpAny_pure (wpAny_pure h)))
end
end SetM
namespace SetM
open PySem PyProof.Rows
theorem sl_next:Slot "set_iterator" "__next__" "set_iterator.__next__":=
 .of (owner:="set_iterator") (n:="__next__") (by rw [typeLookup_type,builtinLookup_eq_fast]; kernel_rfl) (by decide +kernel) (by decide +kernel) (by decide +kernel)
  (by first | exact .inl (by decide +kernel) | exact .inr (by decide +kernel)) (by rw [isSubtype_type]; kernel_rfl)
theorem en_next:entryFor table "set_iterator.__next__"=some Builtin.«set_iterator.__next__»:=entryFor_of_tree (by kernel_rfl)
theorem ow_si:Manifest.owners.lookup (String.ofList ['r','o','t','a','r','e','t','i','_','t','e','s'].reverse)=some Manifest.sig_set_iterator:=by kernel_rfl
theorem ar_next (a:Value):argsOk "set_iterator.__next__" ⟨[a],[]⟩:=by
 unfold argsOk; rw [signature?_of (id:="set_iterator.__next__") (n:=['_','_','t','x','e','n','_','_']) (o:=['r','o','t','a','r','e','t','i','_','t','e','s']) (by kernel_rfl) ow_si]; kernel_rfl
theorem en_iter:entryFor table "set.__iter__"=some Builtin.«frozenset.__iter__»:=entryFor_alias (id':="frozenset.__iter__") (by kernel_rfl) rfl (by decide +kernel) (by kernel_rfl)
theorem sl_self:Slot "set_iterator" "__iter__" "set_iterator.__iter__":=
 .of (owner:="set_iterator") (n:="__iter__") (by rw [typeLookup_type,builtinLookup_eq_fast]; kernel_rfl) (by decide +kernel) (by decide +kernel) (by decide +kernel)
  (by first | exact .inl (by decide +kernel) | exact .inr (by decide +kernel)) (by rw [isSubtype_type]; kernel_rfl)
def SetAt (h:Heap) (a:Addr) (es:Array (Int × Value)) (ep:Nat) (t:SetTable):Prop:=∃ o,h.get? a=some o/\o.ExactSet/\o.data=.set es ep t/\t.fits es.size=true
def IterAt (h:Heap) (it a:Addr) (first:Value) (i n ep:Nat):Prop:=∃ o,h.get? it=some o/\o.cls=.type "set_iterator"/\o.data=.fields #[first,.int i 0,.ref a,.int n 0,.int ep 0]
theorem SetAt.keeps {h h':Heap} {a:Addr} {es:Array (Int × Value)} {ep:Nat} {t:SetTable} (x:SetAt h a es ep t) (k:∀ o,h.get? a=some o->h'.get? a=some o):SetAt h' a es ep t:=let ⟨o,p,r⟩:=x; ⟨o,k _ p,r⟩
theorem IterAt.keeps {h h':Heap} {it a:Addr} {f:Value} {i n ep:Nat} (x:IterAt h it a f i n ep) (k:∀ o,h.get? it=some o->h'.get? it=some o):IterAt h' it a f i n ep:=let ⟨o,p,r⟩:=x; ⟨o,k _ p,r⟩
section
variable {prog:Program} {w:World} {A:Around} {E:Value->Shared->Prop} {s:Shared} {it a:Addr} {es:Array (Int × Value)} {ep i:Nat} {t:SetTable} {first:Value}
theorem IterAt.type {n:Nat} (x:IterAt s.heap it a first i n ep):s.TypeIs (.ref it) "set_iterator":=let ⟨o,p,c,_⟩:=x; ⟨o,p,c⟩
theorem choose_ok {src:Source} {n:Nat} {Q:Nat->Shared->Prop} (hn:n ≠ 0) (h:∀ k d,k < n->Q k { s with drawn:=d }):wpAny (model prog w) A (choose src n) Q E s:=fun _ _ _=>⟨hn,h _ _ (Nat.mod_lt _ (Nat.pos_of_ne_zero hn))⟩
theorem next_int {sl nx:Nat} {x:Value} {Q:Option Value->Shared->Prop} (hi:IterAt s.heap it a (.int sl 0) i es.size ep) (hs:SetAt s.heap a es ep t) (hne:a ≠ it)
  (hn:∀ (A':Around) (Q':Option (Value × Nat)->Shared->Prop) (E':Value->Shared->Prop),Q' (some (x,nx)) s->wpAny (model prog w) A' (setNext a sl i ep) Q' E' s)
  (hQ:∀ h',IterAt h' it a (.int nx 0) (i+1) es.size ep->Heap.SameBut it s.heap h'->Q (some x) { s with heap:=h' }) :
  wpAny (model prog w) A (pyNext (.ref it)) Q E s:=by
 obtain ⟨o,ho,hc,hd⟩:=id hi
 obtain ⟨os,hos,hex,hds,hf⟩:=id hs
 unfold pyNext
 refine wpAny_bind (wpAny_attempt (wpAny_callSpecial?_slot (name:=Str.ofString "__next__") hi.type sl_next (wpAny_call_entry sl_next hi.type en_next ?_ (ar_next _))))
 unfold Builtin.«set_iterator.__next__»
 refine wpAny_bind (wpAny_pure ?_)
 refine wpAny_bind (wpAny_fieldsOf ho hd ?_)
 dsimp only
 refine wpAny_bind (wpAny_setEntries_of hos hds hf ?_)
 rw [if_neg (by simp)]
 refine wpAny_bind ?_
 simp only [Int.toNat_natCast]
 refine hn _ _ _ ?_
 dsimp only
 refine wpAny_bind (wpAny_setField ho hd (by simp) ?_)
 have h1:(s.heap.update it (Obj.mapFields (·.setIfInBounds 0 (rawInt (nx:Int))))).get? it=some (Obj.mapFields (·.setIfInBounds 0 (rawInt (nx:Int))) o):=Heap.get?_update_self _ ho (Obj.isFreed_of_fields (Obj.data_mapFields hd _))
 refine wpAny_bind (wpAny_setField (s:={ s with heap:=s.heap.update it (Obj.mapFields (·.setIfInBounds 0 (rawInt (nx:Int)))) }) h1 (Obj.data_mapFields hd _) (by simp) ?_)
 refine wpAny_pure ⟨_,rfl,wpAny_pure (hQ _ ⟨_,Heap.get?_update_self _ h1 (Obj.isFreed_of_fields (Obj.data_mapFields (Obj.data_mapFields hd _) _)),?_,?_⟩ ((Heap.SameBut.update ..).trans (Heap.SameBut.update ..)))⟩
 ·rw [Obj.cls_mapFields,Obj.cls_mapFields]
  exact hc
 ·rw [Obj.data_mapFields (Obj.data_mapFields hd _)]
  simp [rawInt]
theorem stopped {o:Obj} {vs:Array Value} {k:Nat} {Q:Option Value->Shared->Prop} (hh:A.handled=none) (ho:s.heap.get? it=some o) (hd:o.data=.fields vs) (hk:k < vs.size) (x:Value) (hQ:∀ h',Heap.ExtBut it s.heap h'->Q none { s with heap:=h' }) :
  wpAny (model prog w) A.in1 (do setField (.ref it) k x; raiseNew (<- newExc (.type "StopIteration") [])) (fun fin s'=>∃ v,fin=Fin.done (Flow.ret v)/\wpAny (model prog w) A (pure (some v)) Q E s')
   (fun e s'=>wpAny (model prog w) A (do if <- isInstance e (.type "StopIteration") then pure none else throw e) Q E s') s:=by
 refine wpAny_bind (wpAny_setField ho hd hk ?_)
 refine wpAny_bind ?_
 simp only [newExc,newTuple]
 refine wpAny_bind (wpAny_newObj_type ?_ (by size_fits))
 refine wpAny_bind (m:=firstArgMember _ _) (wpAny_of_eq (a:=Value.none) (by first | rfl | (simp only [firstArgMember]; rfl)) ?_)
 refine wpAny_newObj_type ?_ (by size_fits)
 simp only [raiseNew]
 refine wpAny_bind (wpAny_handled ?_)
 rw [show A.in1.handled=none from hh]
 refine wpAny_bind (wpAny_pure (wpAny_throw ?_))
 refine wpAny_bind (wpAny_isInstance (T:="StopIteration") (b:=true) ⟨_,Heap.get?_push_size _ rfl,rfl⟩ isSubtype_stop ?_)
 exact wpAny_pure (hQ _ (((Heap.SameBut.update ..).extBut.push _).push _))
theorem next_intE {sl:Nat} {Q:Option Value->Shared->Prop} (hh:A.handled=none) (hi:IterAt s.heap it a (.int sl 0) i es.size ep) (hs:SetAt s.heap a es ep t)
  (hn:∀ (A':Around) (Q':Option (Value × Nat)->Shared->Prop) (E':Value->Shared->Prop),Q' none s->wpAny (model prog w) A' (setNext a sl i ep) Q' E' s)
  (hQ:∀ h',Heap.ExtBut it s.heap h'->Q none { s with heap:=h' }):wpAny (model prog w) A (pyNext (.ref it)) Q E s:=by
 obtain ⟨o,ho,hc,hd⟩:=id hi
 obtain ⟨os,hos,hex,hds,hf⟩:=id hs
 unfold pyNext
 refine wpAny_bind (wpAny_attempt (wpAny_callSpecial?_slot (name:=Str.ofString "__next__") hi.type sl_next (wpAny_call_entry sl_next hi.type en_next ?_ (ar_next _))))
 unfold Builtin.«set_iterator.__next__»
 refine wpAny_bind (wpAny_pure ?_)
 refine wpAny_bind (wpAny_fieldsOf ho hd ?_)
 dsimp only
 refine wpAny_bind (wpAny_setEntries_of hos hds hf ?_)
 rw [if_neg (by simp)]
 refine wpAny_bind ?_
 simp only [Int.toNat_natCast]
 refine hn _ _ _ ?_
 dsimp only
 exact stopped hh ho hd (by simp) _ hQ
theorem next_drawn {f:Addr} {ps:List Nat} {p:Nat} {e:Int × Value} {Q:Option Value->Shared->Prop} (hi:IterAt s.heap it a (.ref f) i es.size ep) (hs:SetAt s.heap a es ep t) (hf':s.heap.IsTuple f (ps.map fun (i:Nat)=>rawInt i).toArray)
  (hp:ps[i]?=some p) (he:es[p]?=some e) (hQ:∀ h',IterAt h' it a (.ref f) (i+1) es.size ep->Heap.SameBut it s.heap h'->Q (some e.2) { s with heap:=h' }) :
  wpAny (model prog w) A (pyNext (.ref it)) Q E s:=by
 obtain ⟨o,ho,hc,hd⟩:=id hi
 obtain ⟨os,hos,hex,hds,hf⟩:=id hs
 unfold pyNext
 refine wpAny_bind (wpAny_attempt (wpAny_callSpecial?_slot (name:=Str.ofString "__next__") hi.type sl_next (wpAny_call_entry sl_next hi.type en_next ?_ (ar_next _))))
 unfold Builtin.«set_iterator.__next__»
 refine wpAny_bind (wpAny_pure ?_)
 refine wpAny_bind (wpAny_fieldsOf ho hd ?_)
 dsimp only
 refine wpAny_bind (wpAny_setEntries_of hos hds hf ?_)
 rw [if_neg (by simp)]
 obtain ⟨of,hof,hcf,nf,hdf⟩:=id hf'
 refine wpAny_bind (wpAny_seqItems hof hdf ?_)
 have hx:(ps.map fun (i:Nat)=>rawInt i).toArray[(i:Int).toNat]?=some (.int p 0):=by
  rw [Int.toNat_natCast,List.getElem?_toArray,List.getElem?_map,hp]
  rfl
 dsimp only
 rw [hx]
 dsimp only
 refine wpAny_bind ?_
 unfold setNextDrawn
 refine wpAny_bind (wpAny_setState_of hos hds hf ?_)
 dsimp only
 rw [if_neg (by simp)]
 simp only [Int.toNat_natCast,he]
 refine wpAny_pure ?_
 refine wpAny_bind (wpAny_setField ho hd (by simp) ?_)
 refine wpAny_pure ⟨_,rfl,wpAny_pure (hQ _ ⟨_,Heap.get?_update_self _ ho (Obj.isFreed_of_fields (Obj.data_mapFields hd _)),(Obj.cls_mapFields ..).trans hc,?_⟩ (Heap.SameBut.update ..))⟩
 rw [Obj.data_mapFields hd]
 simp [rawInt]
theorem next_drawnE {f:Addr} {ps:List Nat} {Q:Option Value->Shared->Prop} (hh:A.handled=none) (hi:IterAt s.heap it a (.ref f) i es.size ep) (hs:SetAt s.heap a es ep t) (hf':s.heap.IsTuple f (ps.map fun (i:Nat)=>rawInt i).toArray)
  (hp:ps[i]?=none) (hQ:∀ h',Heap.ExtBut it s.heap h'->Q none { s with heap:=h' }):wpAny (model prog w) A (pyNext (.ref it)) Q E s:=by
 obtain ⟨o,ho,hc,hd⟩:=id hi
 obtain ⟨os,hos,hex,hds,hf⟩:=id hs
 unfold pyNext
 refine wpAny_bind (wpAny_attempt (wpAny_callSpecial?_slot (name:=Str.ofString "__next__") hi.type sl_next (wpAny_call_entry sl_next hi.type en_next ?_ (ar_next _))))
 unfold Builtin.«set_iterator.__next__»
 refine wpAny_bind (wpAny_pure ?_)
 refine wpAny_bind (wpAny_fieldsOf ho hd ?_)
 dsimp only
 refine wpAny_bind (wpAny_setEntries_of hos hds hf ?_)
 rw [if_neg (by simp)]
 obtain ⟨of,hof,hcf,nf,hdf⟩:=id hf'
 refine wpAny_bind (wpAny_seqItems hof hdf ?_)
 have hx:(ps.map fun (i:Nat)=>rawInt i).toArray[(i:Int).toNat]?=none:=by
  rw [Int.toNat_natCast,List.getElem?_toArray,List.getElem?_map,hp]
  rfl
 dsimp only
 rw [hx]
 dsimp only
 refine wpAny_bind (wpAny_setField ho hd (by simp) ?_)
 have h1:(s.heap.update it (Obj.mapFields (·.setIfInBounds 0 (rawInt 0)))).get? it=some (Obj.mapFields (·.setIfInBounds 0 (rawInt 0)) o):=Heap.get?_update_self _ ho (Obj.isFreed_of_fields (Obj.data_mapFields hd _))
 exact stopped (s:={ s with heap:=s.heap.update it (Obj.mapFields (·.setIfInBounds 0 (rawInt 0))) }) hh h1 (Obj.data_mapFields hd _) (by simp) _ fun h' x=>hQ h' fun b o' nb e=>x b o' nb ((Heap.get?_update_ne _ _ _ _ nb).trans e)
theorem erase_perm {α:Type}:∀ {l:List α} {i:Nat} (h:i < l.length),(l[i] :: l.eraseIdx i).Perm l
 | x :: xs,0,h=>.refl _
 | x :: xs,i+1,h=>by
  have h':i < xs.length:=by simpa using h
  show (xs[i] :: x :: xs.eraseIdx i).Perm (x :: xs)
  exact (List.Perm.swap x xs[i] _).trans ((erase_perm h').cons x)
theorem draw_ok {α:Type}:∀ (n:Nat) (xs:List α) (s:Shared) (Q:List α->Shared->Prop),n=xs.length->(∀ ys d,ys.Perm xs->Q ys { s with drawn:=d })->wpAny (model prog w) A (drawOrder n xs) Q E s
 | 0,xs,s,Q,hl,h=>by
  have:xs=[]:=List.length_eq_zero_iff.mp hl.symm
  subst this
  exact wpAny_pure (h [] s.drawn .nil)
 | n+1,[],s,Q,hl,h=>by cases hl
 | n+1,x :: xs,s,Q,hl,h=>by
  unfold drawOrder
  refine wpAny_bind (choose_ok (by simp) fun k d hk=>?_)
  rw [List.getElem?_eq_getElem hk]
  dsimp only
  refine wpAny_bind (draw_ok n _ _ _ (by rw [List.length_eraseIdx_of_lt hk]; simp at hl ⊢; omega) fun ys d' hy=>wpAny_pure ?_)
  exact h _ d' ((hy.cons _).trans (erase_perm hk))
theorem pick_go {α:Type} (nx:Nat->Nat):∀ (f k:Nat) (l:List α) (out:Array α),f=l.length->(pickOrder.go nx f k l out).toList.Perm (out.toList ++ l)
 | 0,k,l,out,hl=>by
  have:l=[]:=List.length_eq_zero_iff.mp hl.symm
  subst this
  unfold pickOrder.go
  rw [List.append_nil]
 | f+1,k,l,out,hl=>by
  have hp:nx k % l.length < l.length:=Nat.mod_lt _ (by omega)
  unfold pickOrder.go
  rw [List.getElem?_eq_getElem hp]
  dsimp only
  refine (pick_go nx f (k+1) _ _ (by rw [List.length_eraseIdx_of_lt hp]; omega)).trans ?_
  rw [Array.toList_push,List.append_assoc]
  exact (erase_perm hp).append_left out.toList
theorem pick_perm {α:Type} (nx:Nat->Nat) (xs:Array α):(pickOrder nx xs).toList.Perm xs.toList:=by
 have:=pick_go nx xs.size 0 xs.toList #[] (by simp)
 simpa [pickOrder] using this
end
end SetM
namespace SetM
open PySem PyProof.Rows
def Ends (t:SetTable):Nat->SetTable.Probe->Prop
 | 0,p=>t.slot p.j=.empty
 | n+1,p=>t.slot p.j=.empty\/(t.slot p.j=.live 0/\Ends t n (t.advance p))
theorem adv_dummy (t:SetTable) (p:SetTable.Probe):(t.advance p).dummy=p.dummy:=by unfold SetTable.advance; split <;> rfl
theorem go_ends {t:SetTable} {f:Nat->Int} {h:Int}:∀ (n fuel:Nat) (p:SetTable.Probe),n < fuel->p.dummy=none->Ends t n p ->
  (∃ j,SetTable.probe.go t f h fuel p=some (.empty j none)/\t.slot j=.empty) \/
  (∃ j q m,m < n/\SetTable.probe.go t f h fuel p=some (.candidate j 0 q)/\f 0=h/\t.slot j=.live 0/\q.dummy=none/\Ends t m q)
 | n,0,p,hn,_,_=>absurd hn (Nat.not_lt_zero n)
 | 0,fuel+1,p,_,hd,he=>by
  left
  refine ⟨p.j,?_,he⟩
  unfold SetTable.probe.go
  rw [show t.slot p.j=.empty from he,hd]
 | n+1,fuel+1,p,hn,hd,he=>by
  rcases he with he | ⟨he,hr⟩
  ·left
   refine ⟨p.j,?_,he⟩
   unfold SetTable.probe.go
   rw [he,hd]
  ·by_cases c:f 0=h
   ·right
    refine ⟨p.j,t.advance p,n,Nat.lt_succ_self n,?_,c,he,(adv_dummy t p).trans hd,hr⟩
    unfold SetTable.probe.go
    rw [he]
    dsimp only
    rw [if_pos (by rw [c]; exact beq_self_eq_true _)]
   ·have ih:=go_ends (f:=f) (h:=h) n fuel (t.advance p) (by omega) ((adv_dummy t p).trans hd) hr
    have e:SetTable.probe.go t f h (fuel+1) p=SetTable.probe.go t f h fuel (t.advance p):=by
     conv=>lhs; unfold SetTable.probe.go
     rw [he]
     dsimp only
     rw [if_neg (by simpa using c)]
    rw [e]
    rcases ih with ih | ⟨j,q,m,h1,h2⟩
    ·exact .inl ih
    ·exact .inr ⟨j,q,m,by omega,h2⟩
theorem slot_one {t:SetTable} {q:Nat} (hp:t.place=#[q]) (hd:t.dummies=#[]) (j:Nat):t.slot j=if j=q then .live 0 else .empty:=by
 have hb:SetTable.below #[q] j=if q < j then 1 else 0:=by
  unfold SetTable.below
  show SetTable.below.go #[q] j 1 0 1=_
  unfold SetTable.below.go
  simp [SetTable.below.go]
 unfold SetTable.slot
 rw [hp,hd]
 dsimp only
 rw [hb]
 by_cases c:q < j
 ·rw [if_pos c,if_neg (show ¬ j=q by omega)]
  rfl
 ·rw [if_neg c]
  by_cases d:j=q
  ·subst d
   rw [if_pos rfl,if_pos (by simp)]
  ·rw [if_neg d,if_neg (by simp; omega)]
   rfl
theorem ends_one {t:SetTable} {q:Nat} (hp:t.place=#[q]) (hd:t.dummies=#[]) (hm:t.mask=7):∀ (k:Nat) (p:SetTable.Probe),p.more=0->p.j=p.i->p.i < 8->p.perturb < 32^k->Ends t (k+1) p
 | k,p,h1,h2,h3,h4=>by
  have ha:t.advance p={ p with j:=(p.i*5+1+p.perturb / 32) % 8,more:=0,i:=(p.i*5+1+p.perturb / 32) % 8,perturb:=p.perturb / 32 }:=by
   unfold SetTable.advance
   rw [if_neg (by omega),hm]
   dsimp only [SetTable.leap]
   unfold SetTable.runEnd
   rw [if_neg (by omega),Nat.sub_self]
  by_cases c:p.j=q
  ·right
   refine ⟨by rw [slot_one hp hd,if_pos c],?_⟩
   cases k with
   | zero=>
    have e0:p.perturb=0:=by simpa using h4
    show t.slot (t.advance p).j=.empty
    rw [ha,slot_one hp hd]
    dsimp only
    rw [if_neg (by rw [e0]; omega)]
   | succ k=>
    refine ends_one hp hd hm k _ (by rw [ha]) (by rw [ha]) (by rw [ha]; dsimp only; omega) ?_
    rw [ha]
    dsimp only
    rw [Nat.pow_succ] at h4
    omega
  ·left
   rw [slot_one hp hd,if_neg c]
theorem ends_start {t:SetTable} {q:Nat} (hp:t.place=#[q]) (hd:t.dummies=#[]) (hm:t.mask=7) (h:Int):Ends t 14 (t.probeStart h):=by
 have hb:SetTable.bits h < 2^64:=by
  unfold SetTable.bits
  have:=Int.emod_nonneg h (show (2^64:Int) ≠ 0 by decide)
  have:=Int.emod_lt_of_pos h (show (0:Int) < 2^64 by decide)
  omega
 have hr:SetTable.runEnd 7 (SetTable.bits h % 8) - SetTable.bits h % 8=0:=by
  unfold SetTable.runEnd
  rw [if_neg (by omega),Nat.sub_self]
 refine ends_one hp hd hm 13 _ ?_ rfl ?_ (Nat.lt_of_lt_of_le hb (by decide))
 ·unfold SetTable.probeStart; rw [hm]; exact hr
 ·unfold SetTable.probeStart; rw [hm]; exact Nat.mod_lt _ (by decide)
section
variable {prog:Program} {w:World} {A:Around} {E:Value->Shared->Prop} {s:Shared}
abbrev TK (prog:Program) (w:World) (h:Heap) (ns:List Int) (x:Addr):Prop:=IsTupleKey (intKind prog w) h ns x
theorem TK.keep {h h':Heap} {ns:List Int} {x:Addr} (k:TK prog w h ns x) (q:∀ o,h.get? x=some o->h'.get? x=some o):TK prog w h' ns x:=
 let ⟨o,its,n,a,b⟩:=k; ⟨o,its,n,q _ a,b⟩
theorem notClass {ks:List Int} {x:Addr} {Q:Bool->Shared->Prop} (hx:TK prog w s.heap ks x) (h:Q false s):wpAny (model prog w) A (ofAClassStatement 8 (.ref x)) Q E s:=by
 have hT:=hx.typeIs
 obtain ⟨o,items,n,ho,_,hd,hi⟩:=hx
 unfold ofAClassStatement
 refine wpAny_bind (wpAny_typeOf hT ?_)
 show wpAny _ _ (if ("tuple" == "tuple")=true then _ else _) _ _ _
 rw [if_pos (by decide)]
 refine wpAny_bind (wpAny_pure ?_)
 dsimp only
 rw [if_neg (by decide)]
 refine wpAny_bind (wpAny_seqItems ho hd ?_)
 dsimp only
 refine wpAny_bind ?_
 show wpAny _ _ (forIn items _ _) _ _ s
 rw [<- Array.forIn_toList]
 refine wpAny_forIn_list _ (fun rest r s'=>r.1=none/\s'=s/\∀ v ∈ rest,carriedByValue v=true) _ ?_ ?_ _ _ ⟨rfl,rfl,hi.byValue⟩
 ·rintro v rest r s' ⟨hr,rfl,hall⟩
  have e:ofAClassStatement 7 v=pure false:=by
   have:=hall v List.mem_cons_self
   cases v with
   | ref a=>simp [carriedByValue] at this
   | _=>rfl
  rw [e]
  refine wpAny_bind (wpAny_pure ?_)
  simp only [Bool.false_eq_true,if_false]
  exact wpAny_pure ⟨rfl,rfl,fun u hu'=>hall u (List.mem_cons_of_mem _ hu')⟩
 ·rintro ⟨r1,r2⟩ s' ⟨hr,rfl,_⟩
  simp only at hr
  subst hr
  exact wpAny_pure h
theorem hashByV {ks:List Int} {x:Addr} {Q:Bool->Shared->Prop} (hx:TK prog w s.heap ks x) (h:Q true s):wpAny (model prog w) A (hashByValue 8 (.ref x)) Q E s:=by
 have hT:=hx.typeIs
 obtain ⟨o,items,n,ho,_,hd,hi⟩:=hx
 unfold hashByValue
 refine wpAny_bind (wpAny_specialOf hT F.slot_tuple_hash.lookup ?_)
 dsimp only
 refine wpAny_bind (wpAny_seqItems ho hd ?_)
 refine wpAny_bind ?_
 show wpAny _ _ (forIn items _ _) _ _ s
 rw [<- Array.forIn_toList]
 refine wpAny_forIn_list _ (fun rest r s'=>r.1=none/\s'=s/\∃ ks',ItemsAre (intKind prog w) ks' rest) _ ?_ ?_ _ _ ⟨rfl,rfl,ks,hi⟩
 ·rintro v rest r s' ⟨hr,rfl,ks',hall⟩
  cases hall with
  | @cons k _ ks'' _ h1 hl=>
   have e:hashByValue 7 v=pure true:=by
    have h':Value.isInt k v=true:=h1
    cases v with
    | int i t=>rfl
    | _=>simp [Value.isInt] at h'
   rw [e]
   refine wpAny_bind (wpAny_pure ?_)
   simp only [Bool.not_true,Bool.false_eq_true,if_false]
   exact wpAny_pure ⟨rfl,rfl,ks'',hl⟩
 ·rintro ⟨r1,r2⟩ s' ⟨hr,rfl,_⟩
  simp only at hr
  subst hr
  exact wpAny_pure h
theorem seen_no {ks ms:List Int} {x y:Addr} {Q:Bool->Shared->Prop} (hx:TK prog w s.heap ks x) (hy:TK prog w s.heap ms y) (h:Q false s):wpAny (model prog w) A (searchCouldBeSeen (.ref x) [.ref y]) Q E s:=by
 unfold searchCouldBeSeen
 refine wpAny_bind ?_
 rw [List.forIn_cons]
 refine wpAny_bind ?_
 dsimp only
 by_cases c:x=y
 ·subst c
  rw [if_pos (by simp)]
  refine wpAny_pure ?_
  dsimp only
  rw [List.forIn_nil]
  exact wpAny_pure (wpAny_pure h)
 ·rw [if_neg (by simp [carriedByValue,c])]
  refine wpAny_bind (wpAny_eqIsQuiet_tuple hx ?_)
  simp only [Bool.not_true,Bool.false_eq_true,if_false]
  refine wpAny_bind (wpAny_eqIsQuiet_tuple hy ?_)
  simp only [Bool.not_true,Bool.false_eq_true,if_false]
  refine wpAny_bind (notClass hx ?_)
  simp only [Bool.false_eq_true,if_false]
  refine wpAny_bind (notClass hy ?_)
  simp only [Bool.false_eq_true,if_false]
  refine wpAny_pure ?_
  dsimp only
  rw [List.forIn_nil]
  exact wpAny_pure (wpAny_pure h)
end
end SetM
namespace SetM
open PySem PyProof.Rows
section
variable {prog:Program} {w:World} {A:Around} {E:Value->Shared->Prop} {s:Shared}
theorem search_free {S x y:Addr} {ks ms:List Int} {h0 h:Int} {ep:Nat} {t:SetTable} {o:Obj} {Q:SetFound->Shared->Prop} (hu:A.units < cLine) (ho:s.heap.get? S=some o) (hd:o.data=.set #[(h0,.ref y)] ep t) (hf:t.fits 1=true) (hm:t.mask=7)
  (hx:TK prog w s.heap ks x) (hy:TK prog w s.heap ms y) (hne:ks ≠ ms) (hQ:∀ j,t.slot j=.empty->Q (.free j false) s) :
  ∀ (n fuel:Nat) (st:Option SetTable.Probe),n < fuel->n < 220->(st.getD (t.probeStart h)).dummy=none->Ends t n (st.getD (t.probeStart h))->wpAny (model prog w) A (setSearchFrom S (.ref x) h true fuel st) Q E s
 | n,0,st,hn,_,_,_=>absurd hn (Nat.not_lt_zero n)
 | n,fuel+1,st,hn,h220,hdm,he=>by
  unfold setSearchFrom
  refine wpAny_bind (wpAny_setState_of ho hd hf ?_)
  dsimp only
  rw [if_neg (by unfold SetTable.gaveWay; rw [hm]; decide)]
  refine wpAny_bind (wpAny_pure ?_)
  have hp:∀ f,t.probe f h (st.getD (t.probeStart h))=SetTable.probe.go t f h 220 (st.getD (t.probeStart h)):=fun f=>by
   unfold SetTable.probe SetTable.turns
   rw [hm]
  rw [hp]
  rcases go_ends (h:=h) (f:=_) n 220 _ h220 hdm he with ⟨j,e,hs⟩ | ⟨j,q,m,hmn,e,hh,hs,hqd,hqe⟩
  ·rw [e]
   exact wpAny_pure (hQ j hs)
  ·rw [e]
   dsimp only
   have fin:wpAny (model prog w) A (do
     let some (_,y):=(#[(h0,Value.ref y)]:Array (Int × Value))[0]? | unsupported "internal:set-entry"
     let equal <- holding [y] (eqBool y (.ref x))
     let (es',_,t') <- setState S
     if true && equal then return SetFound.there none
     let some same:=t'.sameMemory t.moves t.mask | unsupported "set.changed-during-lookup:is-the-new-block-at-the-old-address"
     let still <- match (if same then t'.slot j else .empty) with
      | .live i'=>match es'[i']? with
       | some (_,y')=>do pure (if <- isSame y' y then some i' else none)
       | none=>pure none
      | _=>pure none
     match still with
     | none=>rule "set.search.anew"; setSearchFrom S (.ref x) h true fuel none
     | some i'=>if equal then return .there (some i') else setSearchFrom S (.ref x) h true fuel (some q)) Q E s:=by
    show wpAny _ _ (holding [Value.ref y] (eqBool (.ref y) (.ref x)) >>= _) _ _ s
    refine wpAny_bind (wpAny_holding (wpAny_eqBool_tuple hu hy hx ?_))
    rw [decide_eq_false (fun z=>hne z.symm)]
    refine wpAny_bind (wpAny_setState_of ho hd hf ?_)
    dsimp only
    rw [if_neg (by decide)]
    refine wpAny_bind (wpAny_pure ?_)
    rw [show t.sameMemory t.moves t.mask=some true by unfold SetTable.sameMemory; rw [if_pos (by simp)]]
    dsimp only
    rw [if_pos rfl,hs]
    dsimp only
    show wpAny _ _ (isSame (Value.ref y) (Value.ref y) >>= _) _ _ s
    have es:isSame (Value.ref y) (Value.ref y)=pure true:=by
     show (if (y == y)=true then _ else _)=_
     rw [if_pos (by simp)]
    rw [es]
    refine wpAny_bind (wpAny_pure (wpAny_bind (wpAny_pure ?_)))
    rw [if_pos rfl]
    dsimp only
    rw [if_neg (by decide)]
    exact search_free hu ho hd hf hm hx hy hne hQ m fuel (some q) (by omega) (by omega) hqd hqe
   cases hl:t.led with
   | true=>
    rw [if_neg (by decide)]
    exact fin
   | false=>
    rw [if_pos (by decide)]
    have ef:((#[(h0,Value.ref y)]:Array (Int × Value)).filter (·.1 == h)).toList.map (·.2)=[Value.ref y]:=by
     have:h0=h:=hh
     simp [this]
    rw [ef]
    refine wpAny_bind (seen_no hx hy ?_)
    rw [if_neg (by decide)]
    exact fin
abbrev T1 (q:Nat) (b:Bool):SetTable:={ mask:=7,place:=#[q],dummies:=#[],finger:=0,led:=b,moves:=0,plain:=true }
abbrev hsh (prog:Program) (w:World) (ks:List Int):Int:=tupleKeyHash (intKind prog w) ks
abbrev hb8 (prog:Program) (w:World) (ks:List Int):Nat:=SetTable.bits (hsh prog w ks) % 8
def One (prog:Program) (w:World) (b:Bool) (h:Heap) (S x:Addr) (ks:List Int):Prop:=∃ ep,SetAt h S #[(hsh prog w ks,.ref x)] ep (T1 (hb8 prog w ks) b)
theorem add_first {S x:Addr} {ks:List Int} {b:Bool} {ep:Nat} {Q:Bool->Shared->Prop} (hu:A.units < cLine) (hs:SetAt s.heap S #[] ep (.fresh 0 0 b)) (hx:TK prog w s.heap ks x)
  (h:∀ h' tk,s.toks<=tk->Heap.SameBut S s.heap h'->One prog w b h' S x ks->Q true { s with heap:=h',toks:=tk }):wpAny (model prog w) A (setAdd S (.ref x)) Q E s:=by
 obtain ⟨o,ho,hex,hd,hf⟩:=hs
 unfold setAdd
 refine wpAny_holding (wpAny_bind (wpAny_pyHash_tuple hu hx ?_))
 unfold setAddHashed setAddHashedIn
 refine wpAny_holding (wpAny_bind (wpAny_setState_of ho hd hf ?_))
 show wpAny _ _ (setSearch S (.ref x) (hsh prog w ks) true >>= _) _ _ _
 refine wpAny_bind ?_
 unfold setSearch setSearchFrom
 refine wpAny_bind (wpAny_setState_of ho hd hf ?_)
 dsimp only
 rw [if_neg (show ¬ ((SetTable.fresh 0 0 b).gaveWay=true) from (show ¬ ((7 % 2 == 0)=true) by decide))]
 refine wpAny_pure ?_
 dsimp only
 refine wpAny_bind (wpAny_setState_of ho hd hf ?_)
 show wpAny _ _ (hashByValue 8 (.ref x) >>= _) _ _ _
 refine wpAny_bind (hashByV (s:={ s with toks:=_ }) hx ?_)
 show wpAny _ _ (storeSet S #[(hsh prog w ks,.ref x)] (T1 (hb8 prog w ks) b) >>= _) _ _ _
 refine wpAny_bind (wpAny_storeSet_of ho hd ?_ (by show 1<=_; rw [sizeLine_eq]; omega))
 show wpAny _ _ (pure true) _ _ _
 refine wpAny_pure (h _ _ (Nat.le_add_right _ _) (Heap.SameBut.update _ _ _) ⟨ep+1,{ o with data:=.set #[(hsh prog w ks,.ref x)] (ep+1) (T1 (hb8 prog w ks) b) },?_,hex,rfl,rfl⟩)
 have z:=Heap.get?_update_self (Obj.putSet #[(hsh prog w ks,.ref x)] (T1 (hb8 prog w ks) b)) ho (by rw [putSet_of _ _ hd]; rfl)
 rw [putSet_of _ _ hd] at z
 exact z
def Two (b:Bool) (h:Heap) (S x y:Addr) (ks ms:List Int):Prop:=∃ es ep t,SetAt h S es ep t/\Good b t/\(es.toList.map (·.2)).Perm (if ks=ms then [.ref x] else [.ref x,.ref y])
theorem good_one (q:Nat) (b:Bool):Good b (T1 q b):=⟨fun i j hij h=>by simp at h; omega,rfl,rfl⟩
theorem add_second {S x y:Addr} {ks ms:List Int} {b:Bool} {Q:Bool->Shared->Prop} (hu:A.units < cLine) (hs:One prog w b s.heap S x ks) (hx:TK prog w s.heap ks x) (hy:TK prog w s.heap ms y)
  (h:∀ (r:Bool) h' tk,s.toks<=tk->Heap.SameBut S s.heap h'->Two b h' S x y ks ms->Q r { s with heap:=h',toks:=tk }):wpAny (model prog w) A (setAdd S (.ref y)) Q E s:=by
 obtain ⟨ep,o,ho,hex,hd,hf⟩:=hs
 unfold setAdd
 refine wpAny_holding (wpAny_bind (wpAny_pyHash_tuple hu hy ?_))
 unfold setAddHashed setAddHashedIn
 refine wpAny_holding (wpAny_bind (wpAny_setState_of ho hd hf ?_))
 show wpAny _ _ (setSearch S (.ref y) (hsh prog w ms) true >>= _) _ _ _
 refine wpAny_bind ?_
 by_cases c:ks=ms
 ·subst c
  unfold setSearch setSearchFrom
  refine wpAny_bind (wpAny_setState_of ho hd hf ?_)
  dsimp only
  rw [if_neg (show ¬ ((T1 (hb8 prog w ks) b).gaveWay=true) from (show ¬ ((7 % 2 == 0)=true) by decide))]
  have hg:∀ f:Nat->Int,f 0=hsh prog w ks->(T1 (hb8 prog w ks) b).probe f (hsh prog w ks) ((none:Option SetTable.Probe).getD ((T1 (hb8 prog w ks) b).probeStart (hsh prog w ks)))=some (.candidate (hb8 prog w ks) 0 ((T1 (hb8 prog w ks) b).advance ((T1 (hb8 prog w ks) b).probeStart (hsh prog w ks)))):=fun f hf=>by
   show SetTable.probe.go _ f _ 220 ((T1 (hb8 prog w ks) b).probeStart (hsh prog w ks))=_
   unfold SetTable.probe.go
   rw [show ((T1 (hb8 prog w ks) b).slot ((T1 (hb8 prog w ks) b).probeStart (hsh prog w ks)).j)=.live 0 from by rw [slot_one rfl rfl]; exact if_pos rfl]
   dsimp only
   rw [if_pos (by rw [hf]; exact beq_self_eq_true _)]
   rfl
  rw [hg _ rfl]
  dsimp only
  have hh:Two b s.heap S x y ks ks:=⟨_,ep,_,⟨o,ho,hex,hd,hf⟩,good_one _ b,by rw [if_pos rfl]; exact List.Perm.refl _⟩
  have fin:wpAny (model prog w) A (holding [Value.ref x] (eqBool (.ref x) (.ref y))) (fun e s'=>e=true/\s'={ s with toks:=s.toks+(ks.length+1) }) E { s with toks:=s.toks+(ks.length+1) }:=
   wpAny_holding (wpAny_eqBool_tuple (s:={ s with toks:=s.toks+(ks.length+1) }) hu hx hy ⟨by simp,rfl⟩)
  cases b with
  | true=>
   rw [if_neg (by decide)]
   show wpAny _ _ (holding [Value.ref x] (eqBool (.ref x) (.ref y)) >>= _) _ _ _
   refine wpAny_bind (wpAny_mono fin (fun e s' z=>?_) fun _ _ z=>z)
   obtain ⟨rfl,rfl⟩:=z
   refine wpAny_bind (wpAny_setState_of ho hd hf ?_)
   dsimp only
   rw [if_pos (by rfl)]
   exact wpAny_pure (wpAny_pure (h _ s.heap _ (Nat.le_add_right _ _) (Heap.SameBut.refl _ _) hh))
  | false=>
   rw [if_pos (by decide)]
   have ef:((#[(hsh prog w ks,Value.ref x)]:Array (Int × Value)).filter (·.1 == hsh prog w ks)).toList.map (·.2)=[Value.ref x]:=by simp
   rw [ef]
   refine wpAny_bind (seen_no hy hx ?_)
   rw [if_neg (by decide)]
   show wpAny _ _ (holding [Value.ref x] (eqBool (.ref x) (.ref y)) >>= _) _ _ _
   refine wpAny_bind (wpAny_mono fin (fun e s' z=>?_) fun _ _ z=>z)
   obtain ⟨rfl,rfl⟩:=z
   refine wpAny_bind (wpAny_setState_of ho hd hf ?_)
   dsimp only
   rw [if_pos (by rfl)]
   exact wpAny_pure (wpAny_pure (h _ s.heap _ (Nat.le_add_right _ _) (Heap.SameBut.refl _ _) hh))
 ·unfold setSearch
  refine search_free (s:={ s with toks:=s.toks+(ms.length+1) }) (h:=hsh prog w ms) hu ho hd hf rfl hy hx (fun z=>c z.symm) (fun j hj=>?_) 14 100000 none (by decide) (by decide) rfl (ends_start rfl rfl rfl _)
  refine wpAny_bind (wpAny_setState_of ho hd hf ?_)
  have gp:=good_put (good_one (hb8 prog w ks) b) hj
  have hb:SetTable.below #[hb8 prog w ks] j<=1:=(below_spec (good_one (hb8 prog w ks) b).up j).1
  have pl:((T1 (hb8 prog w ks) b).put j).1.plain=true:=rfl
  show wpAny _ _ (hashByValue 8 (.ref y) >>= _) _ _ _
  refine wpAny_bind (hashByV (s:={ s with toks:=_ }) hy ?_)
  show wpAny _ _ (storeSet S (SetTable.insertAt #[(hsh prog w ks,Value.ref x)] (SetTable.below #[hb8 prog w ks] j) (hsh prog w ms,Value.ref y)) ((T1 (hb8 prog w ks) b).put j).1 >>= fun _=>if (!false && ((T1 (hb8 prog w ks) b).put j).1.tooFull)=true then (setRelay S (SetTable.grown 2) >>= fun _=>pure true) else pure true) _ _ _
  generalize hT:((T1 (hb8 prog w ks) b).put j).1=t2 at gp ⊢
  have hsz:t2.place.size=2/\t2.mask=7:=by
   rw [<- hT]
   refine ⟨?_,rfl⟩
   show (SetTable.insertAt #[hb8 prog w ks] (SetTable.below #[hb8 prog w ks] j) j).size=2
   rw [<- Array.length_toList,insertAt_toList,List.length_append,List.length_cons,<- Nat.add_assoc,List.length_take,List.length_drop]
   simp only [List.length_cons,List.length_nil]
   omega
  have hfl:t2.fill=2:=by unfold SetTable.fill; rw [hsz.1,gp.no]; rfl
  have hl:(SetTable.insertAt #[(hsh prog w ks,Value.ref x)] (SetTable.below #[hb8 prog w ks] j) (hsh prog w ms,Value.ref y)).toList.Perm [(hsh prog w ks,Value.ref x),(hsh prog w ms,Value.ref y)]:=by
   rw [insertAt_toList]
   rcases (by omega:SetTable.below #[hb8 prog w ks] j=0\/SetTable.below #[hb8 prog w ks] j=1) with e | e <;> rw [e]
   ·exact List.Perm.swap _ _ _
   ·exact List.Perm.refl _
  generalize SetTable.insertAt #[(hsh prog w ks,Value.ref x)] (SetTable.below #[hb8 prog w ks] j) (hsh prog w ms,Value.ref y)=es2 at hl ⊢
  have hz:es2.size=2:=by rw [<- Array.length_toList,hl.length_eq]; rfl
  refine wpAny_bind (wpAny_storeSet_of ho hd ?_ (by rw [hz,sizeLine_eq]; omega))
  have hft:t2.tooFull=false:=by unfold SetTable.tooFull; rw [hfl,hsz.2]; decide
  rw [hft,if_neg (by decide)]
  refine wpAny_pure (h _ _ _ (Nat.le_add_right _ _) (Heap.SameBut.update _ _ _) ⟨es2,ep+1,t2,⟨{ o with data:=.set es2 (ep+1) t2 },?_,hex,rfl,?_⟩,gp,?_⟩)
  ·have z:=Heap.get?_update_self (Obj.putSet es2 t2) ho (by rw [putSet_of _ _ hd]; rfl)
   rw [putSet_of _ _ hd] at z
   exact z
  ·unfold SetTable.fits
   rw [hz,hsz.1,hfl,hsz.2]
   decide
  ·rw [if_neg c]
   exact hl.map _
end
end SetM
namespace SetM
open PySem PyProof.Rows
def drw (es:Array (Int × Value)) (t:SetTable):Bool:=!t.plain && decide (es.size > 1)
def slotAt (t:SetTable) (i:Nat):Nat:=match i with
 | 0=>0
 | i+1=>t.place.getD i 0+1
section
variable {prog:Program} {w:World} {A:Around} {E:Value->Shared->Prop} {s:Shared} {it a:Addr} {es:Array (Int × Value)} {ep i:Nat} {t:SetTable}
theorem below_slot {t:SetTable} (u:Up t.place) {i:Nat} (h:i<=t.place.size):SetTable.below t.place (slotAt t i)=i:=by
 cases i with
 | zero=>exact below_zero u
 | succ i=>
  have hi:i < t.place.size:=h
  show SetTable.below t.place (t.place.getD i 0+1)=i+1
  rw [Array.getD_eq_getD_getElem?,Array.getElem?_eq_getElem hi]
  exact below_next u hi
theorem fits_size {t:SetTable} {n:Nat} (h:t.fits n=true):t.place.size=n:=by
 unfold SetTable.fits at h
 simp only [Bool.and_eq_true,beq_iff_eq] at h
 exact h.1
theorem next_table {k:Nat} {Q:Option (Value × Nat)->Shared->Prop} (hs:SetAt s.heap a es ep t) (hT:byT w=false) (hD:drw es t=false) (g:Good true t) (hi:i < es.size) (hQ:Q (some ((es[i]).2,slotAt t (i+1))) s) :
  wpAny (model prog w) A (setNext a (slotAt t i) k ep) Q E s:=by
 obtain ⟨o,ho,hex,hd,hf⟩:=hs
 have hz:=fits_size hf
 unfold setNext
 refine wpAny_bind (wpAny_setState_of ho hd hf ?_)
 refine wpAny_bind (wpAny_bind (wpAny_askSetting (wpAny_pure ?_)))
 show wpAny _ _ (if byT w=true then _ else _) _ _ _
 rw [if_neg (by rw [hT]; exact Bool.false_ne_true)]
 show wpAny _ _ (if drw es t=true then _ else _) _ _ _
 rw [if_neg (by rw [hD]; exact Bool.false_ne_true)]
 refine wpAny_bind ?_
 show wpAny _ _ (if (!t.led && !es.isEmpty)=true then _ else _) _ _ _
 rw [if_neg (by rw [g.led]; simp)]
 refine wpAny_pure (wpAny_pure ?_)
 rw [below_slot g.up (by omega),Array.getElem?_eq_getElem hi,Array.getElem?_eq_getElem (show i < t.place.size by omega)]
 have e:slotAt t (i+1)=t.place[i]'(by omega)+1:=by
  show t.place.getD i 0+1=_
  rw [Array.getD_eq_getD_getElem?,Array.getElem?_eq_getElem (show i < t.place.size by omega)]
  rfl
 rw [e] at hQ
 exact hQ
theorem next_tableE {k:Nat} {Q:Option (Value × Nat)->Shared->Prop} (hs:SetAt s.heap a es ep t) (hT:byT w=false) (hD:drw es t=false) (g:Good true t) (hQ:Q none s) :
  wpAny (model prog w) A (setNext a (slotAt t es.size) k ep) Q E s:=by
 obtain ⟨o,ho,hex,hd,hf⟩:=hs
 have hz:=fits_size hf
 unfold setNext
 refine wpAny_bind (wpAny_setState_of ho hd hf ?_)
 refine wpAny_bind (wpAny_bind (wpAny_askSetting (wpAny_pure ?_)))
 show wpAny _ _ (if byT w=true then _ else _) _ _ _
 rw [if_neg (by rw [hT]; exact Bool.false_ne_true)]
 show wpAny _ _ (if drw es t=true then _ else _) _ _ _
 rw [if_neg (by rw [hD]; exact Bool.false_ne_true)]
 refine wpAny_bind ?_
 show wpAny _ _ (if (!t.led && !es.isEmpty)=true then _ else _) _ _ _
 rw [if_neg (by rw [g.led]; simp)]
 refine wpAny_pure (wpAny_pure ?_)
 rw [below_slot g.up (by omega),Array.getElem?_eq_none (Nat.le_refl es.size)]
 exact hQ
abbrev picked (w:World) (a:Addr) (ep:Nat) (es:Array (Int × Value)):Array (Int × Value):=pickOrder (w.params.setOrder a ep) es
theorem next_text {sl:Nat} {Q:Option (Value × Nat)->Shared->Prop} (hs:SetAt s.heap a es ep t) (hT:byT w=true) (hQ:Q (((picked w a ep es)[i]?).map fun e=>(e.2,sl)) s) :
  wpAny (model prog w) A (setNext a sl i ep) Q E s:=by
 obtain ⟨o,ho,hex,hd,hf⟩:=hs
 unfold setNext
 refine wpAny_bind (wpAny_setState_of ho hd hf ?_)
 refine wpAny_bind (wpAny_bind (wpAny_askSetting (wpAny_pure ?_)))
 show wpAny _ _ (if byT w=true then _ else _) _ _ _
 rw [if_pos hT]
 rw [if_neg (by simp)]
 refine wpAny_bind ?_
 unfold setWalk
 refine wpAny_bind (wpAny_setState_of ho hd hf ?_)
 refine wpAny_bind (wpAny_bind (wpAny_askSetting (wpAny_pure ?_)))
 show wpAny _ _ (if byT w=true then _ else _) _ _ _
 rw [if_pos hT]
 exact wpAny_bind (wpAny_askSetting (wpAny_pure (wpAny_pure hQ)))
theorem iter_set {Q:Value->Shared->Prop} (hs:SetAt s.heap a es ep t) (hz:es.size<=sizeLine)
  (h1:(!byT w && drw es t)=false->Q (.ref s.heap.objs.size) { s with heap:=s.heap.push { cls:=.type "set_iterator",data:=.fields #[.int 0 0,.int 0 0,.ref a,.int es.size 0,.int ep 0] } })
  (h2:(!byT w && drw es t)=true->∀ (ps:List Nat) d,ps.Perm (List.range es.size)->Q (.ref (s.heap.objs.size+1)) { s with
   heap:=(s.heap.push { cls:=.type "tuple",data:=.seq (ps.map fun (i:Nat)=>rawInt i).toArray }).push { cls:=.type "set_iterator",data:=.fields #[.ref s.heap.objs.size,.int 0 0,.ref a,.int es.size 0,.int ep 0] },drawn:=d }) :
  wpAny (model prog w) A (pyIter (.ref a)) Q E s:=by
 obtain ⟨o,ho,hex,hd,hf⟩:=id hs
 have hT:s.TypeIs (.ref a) "set":=⟨o,ho,hex.1⟩
 refine wpAny_pyIter_slot hT PySem.F.slot_set_iter (wpAny_call_entry PySem.F.slot_set_iter hT en_iter ?_ (PySem.F.args_set_iter_1 _))
 unfold Builtin.«frozenset.__iter__»
 refine wpAny_bind ?_
 unfold Builtin.Frozenset.slot0
 refine wpAny_bind (wpAny_pure ?_)
 show wpAny _ _ (pure a) _ _ _
 refine wpAny_pure (wpAny_bind ?_)
 unfold Builtin.Frozenset.sizeOf
 refine wpAny_bind (wpAny_setEntries_of ho hd hf (wpAny_pure (wpAny_bind ?_)))
 refine wpAny_bind (wpAny_setState_of ho hd hf ?_)
 refine wpAny_bind (wpAny_bind (wpAny_askSetting (wpAny_pure (wpAny_pure ?_))))
 show wpAny _ _ (if (!byT w && drw es t)=true then _ else _) _ _ _
 cases c:(!byT w && drw es t) with
 | false=>
  rw [if_neg Bool.false_ne_true]
  refine wpAny_bind (wpAny_pure (wpAny_bind (wpAny_setEpoch_of ho hd hf ?_)))
  refine wpAny_bind (wpAny_newObj_type (wpAny_pure ⟨_,rfl,"set_iterator",_,⟨_,Heap.get?_push_size _ rfl,rfl⟩,sl_next.lookup,?_⟩))
  simpa [rawInt] using h1 c
 | true=>
  rw [if_pos rfl]
  refine wpAny_bind (draw_ok _ _ _ _ (by simp) fun ps d hp=>?_)
  have hl:(ps.map fun (i:Nat)=>rawInt (i:Int)).length<=sizeLine:=by rw [List.length_map,hp.length_eq,List.length_range]; exact hz
  refine wpAny_bind (wpAny_newTuple ?_ hl)
  have ho2:(s.heap.push { cls:=.type "tuple",data:=.seq (ps.map fun (i:Nat)=>rawInt (i:Int)).toArray }).get? a=some o:=Heap.get?_push_of_some _ ho
  refine wpAny_bind (wpAny_setEpoch_of ho2 hd hf ?_)
  refine wpAny_bind (wpAny_newObj_type (wpAny_pure ⟨_,rfl,"set_iterator",_,⟨_,Heap.get?_push_size _ rfl,rfl⟩,sl_next.lookup,?_⟩))
  have:=h2 c ps d hp
  simpa [rawInt,Heap.size_push] using this
end
end SetM
namespace SetM
open PySem PyProof.Rows PySem.W
section
variable {prog:Program} {w:World} {A:Around} {E:Value->Shared->Prop} {s:Shared} {a:Addr} {es:Array (Int × Value)} {ep:Nat} {t:SetTable}
theorem en_self:entryFor table "set_iterator.__iter__"=some Builtin.«dict_keyiterator.__iter__»:=entryFor_alias (id':="dict_keyiterator.__iter__") (by kernel_rfl) rfl (by decide +kernel) (by kernel_rfl)
theorem ar_self (a:Value):argsOk "set_iterator.__iter__" ⟨[a],[]⟩:=by
 unfold argsOk; rw [signature?_of (id:="set_iterator.__iter__") (n:=['_','_','r','e','t','i','_','_']) (o:=['r','o','t','a','r','e','t','i','_','t','e','s']) (by kernel_rfl) ow_si]; kernel_rfl
theorem iter_self {it:Addr} {f:Value} {i n:Nat} {Q:Value->Shared->Prop} (hi:IterAt s.heap it a f i n ep) (h:Q (.ref it) s):wpAny (model prog w) A (pyIter (.ref it)) Q E s:=by
 refine wpAny_pyIter_slot hi.type sl_self (wpAny_call_entry sl_self hi.type en_self ?_ (ar_self _))
 show wpAny _ _ (ret (.ref it)) _ _ s
 exact wpAny_pure ⟨_,rfl,"set_iterator",_,hi.type,sl_next.lookup,h⟩
theorem walk_table (hh:A.handled=none) (I:Addr) (hne:a ≠ I) (hT:byT w=false) (hD:drw es t=false) (g:Good true t) :
  Walks prog w A I [I,a] [I] es.size (fun i v=>∃ e,es[i]?=some e/\v=e.2) (fun i h=>IterAt h I a (.int (slotAt t i) 0) i es.size ep/\SetAt h a es ep t) where
 sub:=fun b hb=>by simp at hb; simp [hb]
 frame:=fun _ _ _ st hk=>⟨st.1.keeps fun o e=>hk I (by simp) o e,st.2.keeps fun o e=>hk a (by simp) o e⟩
 item:=fun i s Q E hi st hQ=>by
  refine next_int st.1 st.2 hne (fun A' Q' E' q=>next_table st.2 hT hD g hi q) fun h' it' sb=>?_
  exact hQ _ h' s.toks ⟨es[i],Array.getElem?_eq_getElem hi,rfl⟩ ⟨it',st.2.keeps fun o e=>(sb.2 a hne).trans e⟩ fun b o hb e=>(sb.2 b fun z=>hb (by simp [z])).trans e
 done:=fun s Q E st hQ=>next_intE hh st.1 st.2 (fun A' Q' E' q=>next_tableE st.2 hT hD g q) fun h' x=>hQ h' s.toks fun b o hb e=>x b o (fun z=>hb (by simp [z])) e
 self:=fun _ _ _ _ st hQ=>iter_self st.1 hQ
theorem walk_text (hh:A.handled=none) (I:Addr) (hne:a ≠ I) (hT:byT w=true) :
  Walks prog w A I [I,a] [I] es.size (fun i v=>∃ e,(picked w a ep es)[i]?=some e/\v=e.2) (fun i h=>IterAt h I a (.int (0:Nat) 0) i es.size ep/\SetAt h a es ep t) where
 sub:=fun b hb=>by simp at hb; simp [hb]
 frame:=fun _ _ _ st hk=>⟨st.1.keeps fun o e=>hk I (by simp) o e,st.2.keeps fun o e=>hk a (by simp) o e⟩
 item:=fun i s Q E hi st hQ=>by
  have hz:(picked w a ep es).size=es.size:=by rw [<- Array.length_toList,(pick_perm _ es).length_eq,Array.length_toList]
  have hp:i < (picked w a ep es).size:=by omega
  refine next_int (x:=(picked w a ep es)[i].2) (nx:=0) st.1 st.2 hne (fun A' Q' E' q=>next_text st.2 hT (by rw [Array.getElem?_eq_getElem hp]; exact q)) fun h' it' sb=>?_
  exact hQ _ h' s.toks ⟨_,Array.getElem?_eq_getElem hp,rfl⟩ ⟨it',st.2.keeps fun o e=>(sb.2 a hne).trans e⟩ fun b o hb e=>(sb.2 b fun z=>hb (by simp [z])).trans e
 done:=fun s Q E st hQ=>by
  have hz:(picked w a ep es).size=es.size:=by rw [<- Array.length_toList,(pick_perm _ es).length_eq,Array.length_toList]
  exact next_intE hh st.1 st.2 (fun A' Q' E' q=>next_text st.2 hT (by rw [Array.getElem?_eq_none (by omega)]; exact q)) fun h' x=>hQ h' s.toks fun b o hb e=>x b o (fun z=>hb (by simp [z])) e
 self:=fun _ _ _ _ st hQ=>iter_self st.1 hQ
theorem walk_drawn {f:Addr} {ps:List Nat} (hh:A.handled=none) (I:Addr) (hne:a ≠ I) (hnf:f ≠ I) (hp:ps.Perm (List.range es.size)) :
  Walks prog w A I [I,a,f] [I] es.size (fun i v=>∃ p e,ps[i]?=some p/\es[p]?=some e/\v=e.2) (fun i h=>IterAt h I a (.ref f) i es.size ep/\SetAt h a es ep t/\h.IsTuple f (ps.map fun (i:Nat)=>rawInt i).toArray) where
 sub:=fun b hb=>by simp at hb; simp [hb]
 frame:=fun _ _ _ st hk=>⟨st.1.keeps fun o e=>hk I (by simp) o e,st.2.1.keeps fun o e=>hk a (by simp) o e,let ⟨o,p,r⟩:=st.2.2; ⟨o,hk f (by simp) o p,r⟩⟩
 item:=fun i s Q E hi st hQ=>by
  have hl:ps.length=es.size:=by rw [hp.length_eq,List.length_range]
  have h1:i < ps.length:=by omega
  have h2:ps[i] < es.size:=List.mem_range.mp (hp.mem_iff.mp (List.getElem_mem h1))
  refine next_drawn st.1 st.2.1 st.2.2 (List.getElem?_eq_getElem h1) (Array.getElem?_eq_getElem h2) fun h' it' sb=>?_
  exact hQ _ h' s.toks ⟨_,_,List.getElem?_eq_getElem h1,Array.getElem?_eq_getElem h2,rfl⟩ ⟨it',st.2.1.keeps fun o e=>(sb.2 a hne).trans e,let ⟨o,p,r⟩:=st.2.2; ⟨o,(sb.2 f hnf).trans p,r⟩⟩ fun b o hb e=>(sb.2 b fun z=>hb (by simp [z])).trans e
 done:=fun s Q E st hQ=>by
  have hl:ps.length=es.size:=by rw [hp.length_eq,List.length_range]
  exact next_drawnE hh st.1 st.2.1 st.2.2 (List.getElem?_eq_none (by omega)) fun h' x=>hQ h' s.toks fun b o hb e=>x b o (fun z=>hb (by simp [z])) e
 self:=fun _ _ _ _ st hQ=>iter_self st.1 hQ
def vAt (es:Array (Int × Value)) (p:Nat):Value:=(es.getD p (0,.none)).2
theorem vAt_lt {es:Array (Int × Value)} {p:Nat} (h:p < es.size):vAt es p=es[p].2:=by
 unfold vAt
 rw [Array.getD_eq_getD_getElem?,Array.getElem?_eq_getElem h]
 rfl
theorem vals_range (es:Array (Int × Value)):es.toList.map (·.2)=(List.range es.size).map (vAt es):=by
 refine List.ext_getElem (by simp) fun i h1 h2=>?_
 have h:i < es.size:=by simpa using h1
 rw [List.getElem_map,List.getElem_map,List.getElem_range,vAt_lt h]
 simp
theorem items_table {es:Array (Int × Value)} {acc:Array Value} {n:Nat} (hn:es.size=n) (h:ItemsOf (fun i v=>∃ e,es[i]?=some e/\v=e.2) acc n):acc.toList=es.toList.map (·.2):=by
 refine List.ext_getElem (by simp [h.1,hn]) fun i h1 h2=>?_
 have h3:i < acc.size:=by simpa using h1
 obtain ⟨e,he,hv⟩:=h.2 i acc[i] (Array.getElem?_eq_getElem h3)
 have h4:i < es.size:=by simpa using h2
 rw [Array.getElem?_eq_getElem h4] at he
 cases he
 simpa using hv
theorem items_drawn {es:Array (Int × Value)} {acc:Array Value} {ps:List Nat} (hp:ps.Perm (List.range es.size)) (h:ItemsOf (fun i v=>∃ p e,ps[i]?=some p/\es[p]?=some e/\v=e.2) acc es.size):acc.toList.Perm (es.toList.map (·.2)):=by
 have hl:ps.length=es.size:=by rw [hp.length_eq,List.length_range]
 have e:acc.toList=ps.map (vAt es):=by
  refine List.ext_getElem (by simp [h.1,hl]) fun i h1 h2=>?_
  have h3:i < acc.size:=by simpa using h1
  obtain ⟨p,e,hp',he,hv⟩:=h.2 i acc[i] (Array.getElem?_eq_getElem h3)
  have h4:i < ps.length:=by simpa using h2
  rw [List.getElem?_eq_getElem h4] at hp'
  cases hp'
  obtain ⟨h5,h6⟩:=Array.getElem?_eq_some_iff.mp he
  rw [List.getElem_map,vAt_lt h5,h6,<- hv]
  simp
 rw [e,vals_range]
 exact hp.map _
structure Pk (prog:Program) (w:World) (A:Around) (s s1:Shared) (a I:Addr) (es:Array (Int × Value)) (fp:List Addr) (P:Nat->Value->Prop) (St:Nat->Heap->Prop):Prop where
 walk:Walks prog w A I fp [I] es.size P St
 at0:St 0 s1.heap
 old:∀ b o,s.heap.get? b=some o->s1.heap.get? b=some o
 new:s.heap.get? I=none
 fps:∀ b ∈ fp,b=a\/s.heap.get? b=none
 same:s1={ s with heap:=s1.heap,drawn:=s1.drawn }
 perm:∀ acc,ItemsOf P acc es.size->acc.toList.Perm (es.toList.map (·.2))
theorem iterG {Q:Value->Shared->Prop} (hh:A.handled=none) (hs:SetAt s.heap a es ep t) (hz:es.size<=sizeLine) (g:Good (!byT w) t)
  (h:∀ I s1 fp P St,Pk prog w A s s1 a I es fp P St->Q (.ref I) s1):wpAny (model prog w) A (pyIter (.ref a)) Q E s:=by
 have la:a < s.heap.objs.size:=let ⟨o,p,_⟩:=hs; Heap.lt_size p
 refine iter_set (t:=t) hs hz (fun c=>?_) (fun c ps d hp=>?_)
 ·have hne:a ≠ s.heap.objs.size:=Nat.ne_of_lt la
  have st:IterAt (s.heap.push { cls:=.type "set_iterator",data:=.fields #[.int 0 0,.int 0 0,.ref a,.int es.size 0,.int ep 0] }) s.heap.objs.size a (.int (0:Nat) 0) 0 es.size ep:=⟨_,Heap.get?_push_size _ rfl,rfl,rfl⟩
  have hs1:SetAt (s.heap.push { cls:=.type "set_iterator",data:=.fields #[.int 0 0,.int 0 0,.ref a,.int es.size 0,.int ep 0] }) a es ep t:=hs.keeps fun o e=>Heap.get?_push_of_some _ e
  have nn:s.heap.get? s.heap.objs.size=none:=Heap.get?_none_of_le (Nat.le_refl _)
  have fp:∀ b ∈ [s.heap.objs.size,a],b=a\/s.heap.get? b=none:=fun b hb=>by
   rcases List.mem_cons.mp hb with rfl | hb
   ·exact .inr nn
   ·exact .inl (List.mem_singleton.mp hb)
  cases hT:byT w with
  | true=>
   exact h _ _ _ _ _ ⟨walk_text (t:=t) (ep:=ep) hh _ hne hT,⟨st,hs1⟩,fun b o e=>Heap.get?_push_of_some _ e,nn,fp,rfl,fun acc x=>by
    have hz:(picked w a ep es).size=es.size:=by rw [<- Array.length_toList,(pick_perm _ es).length_eq,Array.length_toList]
    rw [items_table hz x]
    exact (pick_perm _ es).map _⟩
  | false=>
   rw [hT] at g c
   have hD:drw es t=false:=by simpa using c
   exact h _ _ _ _ _ ⟨walk_table (t:=t) (ep:=ep) hh _ hne hT hD g,⟨st,hs1⟩,fun b o e=>Heap.get?_push_of_some _ e,nn,fp,rfl,fun acc x=>by rw [items_table rfl x]⟩
 ·have sz:(s.heap.push { cls:=.type "tuple",data:=.seq (ps.map fun (i:Nat)=>rawInt i).toArray }).objs.size=s.heap.objs.size+1:=Heap.size_push ..
  have n1:s.heap.get? (s.heap.objs.size+1)=none:=Heap.get?_none_of_le (Nat.le_succ _)
  have n0:s.heap.get? s.heap.objs.size=none:=Heap.get?_none_of_le (Nat.le_refl _)
  have st:IterAt ((s.heap.push { cls:=.type "tuple",data:=.seq (ps.map fun (i:Nat)=>rawInt i).toArray }).push { cls:=.type "set_iterator",data:=.fields #[.ref s.heap.objs.size,.int 0 0,.ref a,.int es.size 0,.int ep 0] }) (s.heap.objs.size+1) a (.ref s.heap.objs.size) 0 es.size ep:=
   ⟨{ cls:=.type "set_iterator",data:=.fields #[.ref s.heap.objs.size,.int 0 0,.ref a,.int es.size 0,.int ep 0] },by rw [<- sz]; exact Heap.get?_push_size _ rfl,rfl,rfl⟩
  refine h _ _ _ _ _ ⟨walk_drawn (t:=t) (ep:=ep) (f:=s.heap.objs.size) hh (s.heap.objs.size+1) (Nat.ne_of_lt (Nat.lt_succ_of_lt la)) (Nat.ne_of_lt (Nat.lt_succ_self _)) hp,⟨st,hs.keeps fun o e=>Heap.get?_push_of_some _ (Heap.get?_push_of_some _ e),_,Heap.get?_push_of_some _ (Heap.get?_push_size _ rfl),rfl,_,rfl⟩,fun b o e=>Heap.get?_push_of_some _ (Heap.get?_push_of_some _ e),n1,fun b hb=>?_,rfl,fun acc x=>items_drawn hp x⟩
  rcases List.mem_cons.mp hb with rfl | hb
  ·exact .inr n1
  ·rcases List.mem_cons.mp hb with rfl | hb
   ·exact .inl rfl
   ·rw [List.mem_singleton.mp hb]
    exact .inr n0
end
end SetM
namespace SetM
open PySem PyProof.Rows PySem.W
section
variable {prog:Program} {w:World} {A:Around} {E:Value->Shared->Prop} {s:Shared} {a:Addr} {es:Array (Int × Value)} {ep:Nat} {t:SetTable}
theorem hint_set {Q:Bool->Shared->Prop} (hT:s.TypeIs (.ref a) "set") (h:Q false s):wpAny (model prog w) A (Builtin.List.listLengthHint (.ref a)) Q E s:=by
 unfold Builtin.List.listLengthHint
 refine wpAny_bind (wpAny_specialOf hT PySem.F.slot_set_len.lookup ?_)
 generalize hid:("set.__len__":String)=id0
 wp_delta
 rw [show splitId id0=some ("set","__len__") from by subst hid; decide +kernel]
 subst hid
 refine wpAny_bind (wpAny_isInstance (T:="set") (b:=true) hT (by rw [isSubtype_type]; kernel_rfl) ?_)
 refine wpAny_ite_split (fun hab=>absurd hab (by decide)) (fun _=>?_)
 refine wpAny_ite_split (fun _=>?_) (fun hab=>absurd (by decide +kernel) hab)
 refine wpAny_bind (wpAny_typeOf hT ?_)
 exact wpAny_pure h
theorem extendG {R:Result->Shared->Prop} (hh:A.handled=none) (hs:SetAt s.heap a es ep t) (hz:es.size<=sizeLine) (g:Good (!byT w) t) (S:Addr) (hSa:S ≠ a) (res:Value) (c₀:Nat) (hS:s.heap.get? S=some { cls:=.type "list",data:=.seq #[] c₀ })
  (hR:∀ h' tk d acc' c',(∀ b o,b ≠ S->s.heap.get? b=some o->h'.get? b=some o)->h'.get? S=some { cls:=.type "list",dict:=none,data:=.seq acc' c',slots:=#[] }->acc'.toList.Perm (es.toList.map (·.2))->R (.ok (.ret res)) { s with heap:=h',toks:=tk,drawn:=d }) :
  wpAny (model prog w) A.in1 (Builtin.List.listExtendWith (.ref S) (.ref a) res)
   (fun fin s'=>match fin with | .done f=>R (.ok f) s' | .again c'=>c'.quiet=true/\codeAny (model prog w) A c' R s') (fun e s'=>R (.error e) s') s:=by
 obtain ⟨o,ho,hex,hd,hf⟩:=id hs
 have hT:s.TypeIs (.ref a) "set":=⟨o,ho,hex.1⟩
 unfold Builtin.List.listExtendWith
 refine wpAny_bind (wpAny_typeOf (T:="set") hT ?_)
 have h1:Builtin.List.listSameRef (.ref S) (.ref a)=false:=by simp [Builtin.List.listSameRef,hSa]
 have h2:(Value.type "set" == Value.type "list")=false:=by decide
 have h3:(Value.type "set" == Value.type "tuple")=false:=by decide
 simp only [h1,h2,h3,Bool.or_false,Bool.false_eq_true,if_false]
 refine wpAny_bind (iterG (A:=A.in1) hh hs hz g fun I s1 fp P St pk=>?_)
 have e1:=pk.same
 have hSf:S ∉ fp:=fun z=>by
  rcases pk.fps S z with y | y
  ·exact hSa y
  ·rw [hS] at y; cases y
 have hSI:S ≠ I:=fun z=>by
  have:=pk.new
  rw [<- z,hS] at this
  cases this
 have hS1:=pk.old _ _ hS
 have key:∀ (h:Heap) (c₁ tk:Nat),St 0 h->(∀ b o,b ≠ S->s.heap.get? b=some o->h.get? b=some o)->h.get? S=some { cls:=.type "list",data:=.seq #[] c₁ } ->
   codeAny (model prog w) A (.builtin "list.extend.loop" ⟨[.ref S,.ref I,res],[]⟩) R { s1 with heap:=h,toks:=tk }:=by
  intro h c₁ tk hst hk hS₁
  refine codeAny_extend_loopS pk.walk.toS hz S hSf res es.size 0 _ #[] c₁ rfl (Nat.zero_le _) hst hS₁ (ItemsOf.nil _) fun s' acc' c' hm hS' hacc=>?_
  rw [Moved.eq_with hm,e1]
  refine hR s'.heap s'.toks s1.drawn acc' c' (fun b o hb e=>hm.heap b o (fun hmem=>?_) (hk b o hb e)) hS' (pk.perm _ hacc)
  rcases List.mem_cons.mp hmem with z | z
  ·exact hb z
  ·have:=pk.new
   rw [<- List.mem_singleton.mp z,e] at this
   cases this
 have hT1:s1.TypeIs (.ref a) "set":=⟨o,pk.old _ _ ho,hex.1⟩
 refine wpAny_bind (wpAny_holding (hint_set hT1 ?_))
 refine wpAny_ite_split (fun _=>?_) (fun _=>wpAny_pure ⟨plainId_quiet PySem.F.plain_extend_loop _,key _ c₀ _ pk.at0 (fun b o _ e=>pk.old _ _ e) hS1⟩)
 refine wpAny_bind (wpAny_rule ?_)
 refine wpAny_bind ?_
 show wpAny _ _ (updateSeq S (·.push .none) >>= fun _=>updateSeq S (·.pop)) _ _ _
 refine wpAny_bind (wpAny_updateSeq hS1 rfl ?_)
 have hS₂:=Heap.get?_update_self (Obj.mapSeq (·.push Value.none)) hS1 rfl
 refine wpAny_updateSeq (hz:=by seq_fits) hS₂ rfl ?_
 have hS₃:=Heap.get?_update_self (Obj.mapSeq (·.pop)) hS₂ rfl
 refine wpAny_pure ⟨plainId_quiet PySem.F.plain_extend_loop _,key _ _ _ ?_ (fun b o hb e=>?_) hS₃⟩
 ·refine pk.walk.frame 0 _ _ pk.at0 fun b hb o e=>?_
  have hbS:b ≠ S:=fun h=>hSf (h ▸ hb)
  exact (Heap.get?_update_other _ _ (Ne.symm hbS)).trans ((Heap.get?_update_other _ _ (Ne.symm hbS)).trans e)
 ·exact (Heap.get?_update_other _ _ (Ne.symm hb)).trans ((Heap.get?_update_other _ _ (Ne.symm hb)).trans (pk.old _ _ e))
theorem collectG {R:List Value->Shared->Prop} (hh:A.handled=none) (hs:SetAt s.heap a es ep t) (hz:es.size<=sizeLine) (g:Good (!byT w) t)
  (h:∀ (h':Heap) (tk:Nat) d (acc:Array Value),(∀ b o,s.heap.get? b=some o->h'.get? b=some o)->acc.toList.Perm (es.toList.map (·.2))->R acc.toList { s with heap:=h',toks:=tk,drawn:=d }) :
  wpAny (model prog w) A (collect (.ref a)) R E s:=by
 have la:a < s.heap.objs.size:=let ⟨o,p,_⟩:=hs; Heap.lt_size p
 unfold collect
 refine wpAny_bind (wpAny_runValue (codeAny_builtin entry_proto_collect' ?_))
 rw [Around.under_plainId PySem.F.plain_proto_collect _]
 show wpAny _ A.in1 (newList [] >>= fun l=>again (.builtin "list.__iadd__" ⟨[l,.ref a],[]⟩)) _ _ s
 refine wpAny_bind (wpAny_newObj_type ?_)
 refine wpAny_pure ⟨plainId_quiet PySem.F.plain_list_iadd _,codeAny_builtin entry_list_iadd' ?_⟩
 rw [Around.under_plainId PySem.F.plain_list_iadd _]
 have hS₁:(s.heap.push { cls:=.type "list",data:=.seq ([]:List Value).toArray }).get? s.heap.objs.size=some { cls:=.type "list",data:=.seq #[] }:=Heap.get?_push_size _ rfl
 show wpAny _ A.in1 (Builtin.List.listExtendWith (.ref s.heap.objs.size) (.ref a) (.ref s.heap.objs.size)) _ _ _
 have key:=extendG (A:=A) (prog:=prog) (w:=w) (s:={ s with heap:=s.heap.push { cls:=.type "list",data:=.seq ([]:List Value).toArray } })
  (R:=fun (q:Result) (s':Shared)=>∃ (h':Heap) (tk:Nat) (d:Drawn) (acc':Array Value) (c':Nat),q=.ok (.ret (.ref s.heap.objs.size))/\s'={ s with heap:=h',toks:=tk,drawn:=d } /\
   (∀ b o,s.heap.get? b=some o->h'.get? b=some o)/\h'.get? s.heap.objs.size=some { cls:=.type "list",dict:=none,data:=.seq acc' c',slots:=#[] }/\acc'.toList.Perm (es.toList.map (·.2)))
  hh (hs.keeps fun o e=>Heap.get?_push_of_some _ e) hz g s.heap.objs.size (Nat.ne_of_gt la) (.ref s.heap.objs.size) 0 hS₁
  (fun h' tk d acc' c' hk hS' hacc=>⟨h',tk,d,acc',c',rfl,rfl,fun b o e=>hk b o (Nat.ne_of_lt (Heap.lt_size e)) (Heap.get?_push_of_some _ e),hS',hacc⟩)
 refine wpAny_mono key (fun fin s' x=>?_) fun e s' x=>?_
 ·cases fin with
  | done f=>
   obtain ⟨h',tk,d,acc',c',e,rfl,hk,hS',hacc⟩:=x
   cases e
   show wpAny _ A (load s.heap.objs.size >>= _) _ _ _
   exact wpAny_bind (wpAny_load hS' (wpAny_pure (h h' tk d acc' hk hacc)))
  | again c₁=>
   refine ⟨x.1,codeAny_mono x.2 fun q s₂ y=>?_⟩
   obtain ⟨h',tk,d,acc',c',rfl,rfl,hk,hS',hacc⟩:=y
   show wpAny _ A (load s.heap.objs.size >>= _) _ _ _
   exact wpAny_bind (wpAny_load hS' (wpAny_pure (h h' tk d acc' hk hacc)))
 ·obtain ⟨_,_,_,_,_,e',_⟩:=x
  cases e'
end
end SetM
namespace L2
open PySem PySem.Spec PyProof.Rows PySem.W SetM
def SetE (P:Program) (w:World) (p:Addr) (ns:List Int) (h:Heap):Prop:=∃ D:List Int,D.Nodup/\(∀ k,k ∈ D ↔ k ∈ ns)/\SetG P w (!byT w) h p (fun k=>D.any (· == k)) D.length
end L2
namespace SetM
open PySem PyProof.Rows
section
variable {prog:Program} {w:World} {A:Around} {E:Value->Shared->Prop} {s:Shared}
theorem loopJ {R:Result->Shared->Prop} {I:Addr} {fp wr:List Addr} {G:Array GenState->Array GenState->Prop} {n:Nat} {P:Nat->Value->Prop} {St:Nat->Shared->Prop}
  (W:WalksS prog w A.in1 I fp wr G n P St) (S:Addr) (hSf:S ∉ fp) (J:Nat->Heap->Prop) (Jk:∀ i h h',J i h->(∀ b o,b ∉ wr->h.get? b=some o->h'.get? b=some o)->J i h')
  (add:∀ i v s (Q:Bool->Shared->Prop) (E:Value->Shared->Prop),i < n->P i v->J i s.heap->(∀ (r:Bool) h' tk,s.toks<=tk->Heap.SameBut S s.heap h'->J (i+1) h'->Q r { s with heap:=h',toks:=tk })->wpAny (model prog w) A.in1 (setAdd S v) Q E s):∀ (k i:Nat) (s:Shared),n - i=k->i<=n->St i s ->
   J i s.heap->(∀ s',Moved (S :: wr) G s s'->J n s'.heap->R (.ok (.ret .none)) s') ->
   codeAny (model prog w) A (.builtin "set.update.loop" ⟨[.ref S,.ref I],[]⟩) R s
 | 0,i,s,hk,hi,st,hJ,hR=>by
  obtain rfl:i=n:=by omega
  refine codeAny_builtin F.entry_set_update_loop ?_
  rw [Around.under_plainId F.plain_set_update_loop _]
  show wpAny _ A.in1 (pyNext (.ref I) >>= _) _ _ s
  refine wpAny_bind (W.done s _ _ st fun s' hm=>?_)
  show wpAny _ A.in1 (ret Value.none) _ _ s'
  exact wpAny_pure (hR s' (hm.mono fun b hb=>List.mem_cons_of_mem _ hb) (Jk _ _ _ hJ fun b o hb e=>hm.heap b o hb e))
 | k+1,i,s,hk,hi,st,hJ,hR=>by
  have lt:i < n:=by omega
  refine codeAny_builtin F.entry_set_update_loop ?_
  rw [Around.under_plainId F.plain_set_update_loop _]
  show wpAny _ A.in1 (pyNext (.ref I) >>= _) _ _ s
  refine wpAny_bind (W.item i s _ _ lt st fun v s' hP st' hm=>?_)
  have hJ':=Jk _ _ _ hJ fun b o hb e=>hm.heap b o hb e
  show wpAny _ A.in1 (holding [v] (setAdd S v) >>= _) _ _ s'
  refine wpAny_bind (wpAny_holding (add i v s' _ _ lt hP hJ' fun r h' tk hle sb hJ2=>?_))
  refine wpAny_pure ⟨plainId_quiet F.plain_set_update_loop _,loopJ W S hSf J Jk add k (i+1) _ (by omega) lt (W.frame _ s' _ _ st' hle fun b hb o e=>?_) hJ2 fun s'' hm'' hS''=>?_⟩
  ·rw [sb.2 b fun z=>hSf (by rw [<- z]; exact hb)]
   exact e
  ·refine hR s'' (Moved.trans W.gtrans ((hm.mono fun b hb=>List.mem_cons_of_mem _ hb).then_heap hle fun b o hb e=>?_) hm'') hS''
   rw [sb.2 b fun z=>hb (by rw [z]; exact List.mem_cons_self)]
   exact e
theorem call_setJ {l:Addr} {items:Array Value} {J:Nat->Heap->Prop} {Q:Value->Shared->Prop} (hh:A.handled=none) (hl:s.heap.IsList l items)
  (J0:∀ h',(∀ b o,s.heap.get? b=some o->h'.get? b=some o)->h'.get? s.heap.objs.size=some (newO w)->J 0 h')
  (Jk:∀ i h h',J i h->(∀ b o,b ≠ s.heap.objs.size+1->h.get? b=some o->h'.get? b=some o)->J i h')
  (add:∀ i v s' (Q:Bool->Shared->Prop) (E:Value->Shared->Prop),items[i]?=some v->J i s'.heap->(∀ (r:Bool) h' tk,s'.toks<=tk->Heap.SameBut s.heap.objs.size s'.heap h'->J (i+1) h'->Q r { s' with heap:=h',toks:=tk }) ->
   wpAny (model prog w) A.in1.in1.in1 (setAdd s.heap.objs.size v) Q E s')
  (h:∀ (h':Heap) (tk:Nat),J items.size h'->(∀ b o,b < s.heap.objs.size->s.heap.get? b=some o->h'.get? b=some o)->Q (.ref s.heap.objs.size) { s with heap:=h',toks:=tk }) :
  wpAny (model prog w) A (call (.type "set") [.ref l]) Q E s:=by
 obtain ⟨c,tl,hmro⟩:=PySem.F.called_set.mro
 have hmade:=PySem.F.called_set.made
 have hsub:=PySem.F.called_set.sub
 refine wpAny_call (codeAny_of_tree ?_)
 show wpAny _ _ (callAny (.type "set") _) _ _ _
 refine wpAny_pure ⟨Code.quiet_builtin _ (by decide +kernel),codeAny_builtin PySem.F.entry_type_call ?_⟩
 rw [Around.under_plain (weight_type_call_type "set" [.ref l] []) rfl]
 have h1:=PySem.F.called_set.notType
 have h2:=PySem.F.called_set.canCreate
 have hct:=PySem.F.typeCall_set_1 (.ref l)
 repeat (any_goals (first | assumption | wp_step))
 refine codeAny_mono (newG (.ref l) (E:=E) (Q₁:=fun obj s₁=>obj=.ref s.heap.objs.size/\s₁={ s with heap:=s.heap.push (newO w) }) ⟨rfl,rfl⟩) fun r s₁ hr=>?_
 cases r with
 | error e=>exact hr
 | ok fl=>
  cases fl with
  | ret obj=>
   obtain ⟨rfl,rfl⟩:=hr
   have hS:(s.heap.push (newO w)).get? s.heap.objs.size=some (newO w):=Heap.get?_push_size _ rfl
   have hT:Shared.TypeIs { s with heap:=s.heap.push (newO w) } (.ref s.heap.objs.size) "set":=⟨_,hS,rfl⟩
   have hli:=PySem.F.called_set.init.lookup
   have hbi:=PySem.F.called_set.init.bind (.ref s.heap.objs.size)
   repeat (any_goals (first | assumption | wp_step))
   refine codeAny_mono (codeAny_call_builtin (R:=wants (fun r s₂=>r=.none/\∃ h' tk,s₂={ s with heap:=h',toks:=tk }/\J items.size h' /\
     (∀ b o,b < s.heap.objs.size->s.heap.get? b=some o->h'.get? b=some o)) E) PySem.F.called_set.init.plain PySem.F.entry_set_init (check_set_init_1 hT ?_)) fun r₂ s₂ hr₂=>?_
   ·obtain ⟨ol,hol,hcl,nl,hdl⟩:=hl
    obtain ⟨ocls,odict,odata,oslots⟩:=ol
    simp only at hcl hdl
    subst hcl hdl
    have hol':(s.heap.push (newO w)).get? l=some { cls:=.type "list",dict:=odict,data:=.seq items nl,slots:=oslots }:=Heap.get?_push_of_some _ hol
    have hsls:=PySem.F.sub_list_set
    have hslf:=PySem.F.sub_list_frozenset
    have hne:(Value.type "list" == Value.type "dict")=false:=by decide
    have hl1:(s.heap.push (newO w)).IsList l items:=⟨_,hol',rfl,nl,rfl⟩
    unfold Builtin.«set.__init__» noKeywords Builtin.Frozenset.updateFrom
    generalize hPI:pyIter=PI
    wp_walk
    subst hPI
    refine wpAny_pyIter_list hl1 (wpAny_bind (wpAny_runValue ?_))
    have lS:l < s.heap.objs.size:=Heap.lt_size hol
    have hh3:A.in1.in1.in1.handled=none:=by simp [hh]
    have neI:l ≠ (s.heap.push (newO w)).objs.size:=by rw [Heap.size_push]; exact Nat.ne_of_lt (Nat.lt_succ_of_lt lS)
    have hSf:s.heap.objs.size ∉ [(s.heap.push (newO w)).objs.size,l]:=by
     rw [Heap.size_push]
     simp only [List.mem_cons,List.not_mem_nil,or_false,not_or]
     exact ⟨Nat.ne_of_lt (Nat.lt_succ_self _),Nat.ne_of_gt lS⟩
    refine loopJ ((Walks.list hh3 _ l neI items).toS) s.heap.objs.size hSf J (fun i h h' hJ k=>Jk i h h' hJ fun b o hb e=>k b o (by rw [Heap.size_push]; simpa using hb) e) (fun i v s' Q' E' _ hv hJ hq=>add i v s' Q' E' hv hJ hq) (items.size - 0) 0 _ (by omega) (Nat.zero_le _) ⟨⟨_,Heap.get?_push_size _ rfl,rfl,rfl⟩,(hl1.push _)⟩ ?hS0 ?hR
    case hS0=>exact J0 _ (fun b o e=>Heap.get?_push_of_some _ (Heap.get?_push_of_some _ e)) (Heap.get?_push_of_some _ hS)
    case hR=>
     intro s' hm hS'
     obtain ⟨h',g',d',tk',os'⟩:=s'
     have eg:g'=s.gens:=hm.gens
     have ed:d'=s.drawn:=hm.drawn
     have eo:os'=s.os:=hm.os
     subst eg ed eo
     show wpAny _ _ _ _ _ _
     refine wpAny_pure ?_
     show wpAny _ _ (ret Value.none) _ _ _
     refine wpAny_pure ⟨rfl,h',tk',rfl,hS',fun b o hb e=>?_⟩
     exact hm.heap b o (by
      rw [Heap.size_push]
      simp only [List.mem_cons,List.not_mem_nil,or_false,not_or]
      exact ⟨Nat.ne_of_lt hb,Nat.ne_of_lt (Nat.lt_succ_of_lt hb)⟩) (Heap.get?_push_of_some _ (Heap.get?_push_of_some _ e))
   ·cases r₂ with
    | error e=>exact hr₂
    | ok fl₂=>
     cases fl₂ with
     | ret r=>
      obtain ⟨rfl,h',tk,rfl,hS',hk'⟩:=hr₂
      repeat (any_goals (first | assumption | wp_step))
      exact h _ _ hS' hk'
     | _=>exact hr₂.elim
  | _=>exact hr.elim
end
end SetM
namespace SetM
open PySem PyProof.Rows PySem.W
section
variable {prog:Program} {w:World} {A:Around} {E:Value->Shared->Prop} {s:Shared}
theorem isInt_shape {k:Int} {v:Value} (h:(intKind prog w).is k v=true):∃ t,v=.int k t:=by
 have h':Value.isInt k v=true:=h
 cases v with
 | int i t=>
  have e:i=k:=by simpa [Value.isInt] using h'
  exact ⟨t,by rw [e]⟩
 | _=>simp [Value.isInt] at h'
theorem katlex {b:Bool} {Q:Bool->Shared->Prop}:∀ {xs ys:List Value} {ns ms:List Int} (i:Nat),ItemsAre (intKind prog w) ns xs->ItemsAre (intKind prog w) ms ys->ns.length=ms.length->Q (HT.lexLt ns ms) s->KatLex prog w A b false Q (xs.zip ys) i s
 | _,_,_,_,i,.nil,.nil,_,h=>kat_nil h
 | _,_,_,_,i,.nil,.cons _ _,hl,h=>by simp at hl
 | _,_,_,_,i,.cons _ _,.nil,hl,h=>by simp at hl
 | _,_,n :: ns,m :: ms,i,.cons h1 h2,.cons h3 h4,hl,h=>by
  obtain ⟨t,rfl⟩:=isInt_shape h1
  obtain ⟨u,rfl⟩:=isInt_shape h3
  rw [List.zip_cons_cons]
  refine kat_cons (wpAny_eqBool_int ?_)
  rw [HT.lexLt_cons] at h
  by_cases c:n=m
  ·subst c
   rw [if_pos rfl] at h
   rw [show (n == n)=true by simp]
   exact kat_yes (katlex (i+1) h2 h4 (by simpa using hl) h)
  ·rw [if_neg c] at h
   rw [show (n == m)=false by simpa using c]
   refine kat_no ?_
   cases hb:(b && i == 0) with
   | true=>exact oneLt_int h
   | false=>exact kat_one _ _ (lt_int h)
theorem kas2 {cmp:Nat->Nat->(Bool->Shared->Prop)->Shared->Prop} {G:Array Nat->Shared->Prop} (b:Bool) (hc:∀ C,C b s->cmp 1 0 C s) (h:G (if b then #[1,0] else #[0,1]) s):(kas_sort 2).kasWp cmp G s:=by
 cases b with
 | false=>exact hc _ h
 | true=>
  refine hc _ ?_
  have e:kas_rev (List.range 2).toArray 0 2=#[1,0]:=by decide
  show G (kas_rev (List.range 2).toArray 0 2) s
  rw [e]
  exact h
theorem TK.first {h:Heap} {k:Int} {ks:List Int} {x:Addr} (hx:TK prog w h (k :: ks) x):∃ o xs n t,h.get? x=some o/\o.cls=.type "tuple"/\o.data=.seq xs n/\xs[0]?=some (.int k t)/\ItemsAre (intKind prog w) (k :: ks) xs.toList:=by
 obtain ⟨o,its,n,ho,hc,hd,hi⟩:=hx
 obtain ⟨l⟩:=its
 cases hi with
 | cons h1 h2=>
  obtain ⟨t,rfl⟩:=isInt_shape h1
  exact ⟨o,_,n,t,ho,hc,hd,rfl,.cons h1 h2⟩
theorem TK.ne {h:Heap} {ks:List Int} {x a:Addr} {xs:Array Value} {n:Nat} (hx:TK prog w h ks x) (ho:h.get? a=some (seqObj "list" xs n)):x ≠ a:=by
 rintro rfl
 obtain ⟨o,its,n',ho',hc,_⟩:=hx
 rw [ho] at ho'
 cases ho'
 exact absurd (show Value.type "list"=Value.type "tuple" from hc) (by decide)
theorem sort_two {a x y:Addr} {k m:Int} {ks ms:List Int} {n:Nat} {P:PySem.Fin->Shared->Prop} (ho:s.heap.get? a=some (seqObj "list" [.ref x,.ref y].toArray n)) (hx:TK prog w s.heap (k :: ks) x) (hy:TK prog w s.heap (m :: ms) y) (hl:ks.length=ms.length)
  (h:P (.done (.ret .none)) { s with heap:=sortedHeap s.heap a [.ref x,.ref y] (if HT.lexLt (m :: ms) (k :: ks) then #[.ref y,.ref x] else #[.ref x,.ref y]) }) :
  wpAny (model prog w) A (Builtin.«list.sort» ⟨[.ref a],[]⟩) P E s:=by
 rw [list_sort_plain]
 have ha:a < s.heap.objs.size:=Heap.lt_size ho
 have nx:=hx.ne ho
 have ny:=hy.ne ho
 refine wpAny_bind (listItems_at ho rfl ?_)
 refine wpAny_bind (listUpdate_at ho rfl ?_ (by rw [List.size_toArray,sizeLine_eq]; show 2<=_; omega) (Nat.zero_le _))
 obtain ⟨e1,ho1⟩:∃ e1,(s.heap.update a (Obj.mapSeq fun _=>#[])).get? a=some (seqObj "list" #[] e1):=⟨_,get?_update_seq ho (fun _=>#[])⟩
 refine wpAny_bind (seqEpoch_at ho1 rfl ?_)
 refine wpAny_bind (wpAny_newTuple ?_ (by show 2<=_; rw [sizeLine_eq]; omega))
 refine wpAny_bind (wpAny_newList ?_ (Nat.zero_le _))
 refine wpAny_holding ?_
 have ho6:(((s.heap.update a (Obj.mapSeq fun _=>#[])).push (seqObj "tuple" [Value.ref x,.ref y].toArray 0)).push (seqObj "list" #[] 0)).get? a=some (seqObj "list" #[] e1):=Heap.get?_push_of_some _ (Heap.get?_push_of_some _ ho1)
 have keep:∀ b o,b ≠ a->s.heap.get? b=some o->(((s.heap.update a (Obj.mapSeq fun _=>#[])).push (seqObj "tuple" [Value.ref x,.ref y].toArray 0)).push (seqObj "list" #[] 0)).get? b=some o:=fun b o hb e=>
  Heap.get?_push_of_some _ (Heap.get?_push_of_some _ ((Heap.get?_update_ne _ _ _ _ hb).trans e))
 have hx':=hx.keep (fun o e=>keep x o nx e)
 have hy':=hy.keep (fun o e=>keep y o ny e)
 show wpAny (model prog w) A _ P E { s with heap:=((s.heap.update a (Obj.mapSeq fun _=>#[])).push (seqObj "tuple" [Value.ref x,.ref y].toArray 0)).push (seqObj "list" #[] 0) }
 dsimp only
 rw [if_neg (show ¬ ([Value.ref x,.ref y].toArray.size < 2) from (show ¬ (2 < 2) by decide)),if_neg (show ¬ ([Value.ref x,.ref y].toArray.size < 2) from (show ¬ (2 < 2) by decide))]
 obtain ⟨ox,xs,nx',tx,hox,hcx,hdx,h0x,hix⟩:=hx'.first
 obtain ⟨oy,ys,ny',ty,hoy,hcy,hdy,h0y,hiy⟩:=hy'.first
 refine wpAny_bind (kat_kind (T:=.type "int") (KatTups.cons hox hcx hdx h0x (KatTups.cons hoy hcy hdy h0y KatTups.nil)) (show 0 < 2 by decide) (fun v hv=>?_) (by decide) ?_)
 ·rcases List.mem_cons.mp hv with rfl | hv
  ·exact .now
  ·rw [List.mem_singleton.mp hv]
   exact .now
 have lx:xs.size=ks.length+1:=by rw [<- Array.length_toList,<- hix.length]; rfl
 have ly:ys.size=ms.length+1:=by rw [<- Array.length_toList,<- hiy.length]; rfl
 refine wpAny_bind (wpAny_mono (kat_run (vs:=[Value.ref x,.ref y]) (ks:=[Value.ref x,.ref y]) (G:=fun p s'=>p=(if HT.lexLt (m :: ms) (k :: ks) then #[1,0] else #[0,1])/\s'={ s with heap:=((s.heap.update a (Obj.mapSeq fun _=>#[])).push (seqObj "tuple" [Value.ref x,.ref y].toArray 0)).push (seqObj "list" #[] 0) })
  (Q:=fun st' s'=>∃ p:Array Nat,p=(if HT.lexLt (m :: ms) (k :: ks) then #[1,0] else #[0,1])/\arrOf st'=p.map (kas_item ([Value.ref x,.ref y].toArray.zip [Value.ref x,.ref y].toArray))/\failedOf st'=none/\s'={ s with heap:=((s.heap.update a (Obj.mapSeq fun _=>#[])).push (seqObj "tuple" [Value.ref x,.ref y].toArray 0)).push (seqObj "list" #[] 0) })
  rfl (show 2<=2 by decide) (show 2 < 64 by decide) (fun p' st' s' a1 a2 a3 a4=>⟨p',a4.1,a2,a3,a4.2⟩) (kas2 (HT.lexLt (m :: ms) (k :: ks)) (fun C hC=>?_) ⟨rfl,rfl⟩)) ?_ fun _ _ e=>e)
 ·show wpAny _ _ (keyLt' _ (.ref y) (.ref x)) _ _ _
  refine kat_lt hoy hdy hox hdx ?_
  rw [show decide (ys.size < xs.size)=false by rw [lx,ly,hl]; simp]
  exact katlex 0 hiy hix (by simp [hl]) hC
 ·rintro ⟨⟨⟩,st'⟩ s' ⟨p,rfl,har,hf,rfl⟩
  dsimp only
  have hout:=kat_snds (ks:=[Value.ref x,.ref y]) (vs:=[Value.ref x,.ref y]) rfl har
  have e2:List.toArray ((if HT.lexLt (m :: ms) (k :: ks) then #[1,0] else #[0,1]:Array Nat).toList.map fun i=>[Value.ref x,.ref y].getD i Value.none)=if HT.lexLt (m :: ms) (k :: ks) then #[.ref y,.ref x] else #[.ref x,.ref y]:=by
   split <;> rfl
  rw [e2] at hout
  refine wpAny_bind (seqEpoch_at ho6 rfl ?_)
  rw [hout]
  refine wpAny_bind (listUpdate_at ho6 rfl ?_ (Nat.zero_le _) (by split <;> (show 2<=_; rw [sizeLine_eq]; omega)))
  rw [hf]
  simp only [bne_self_eq_false,Bool.false_eq_true,if_false]
  exact wpAny_pure h
theorem sort_one {a:Addr} {v:Value} {n:Nat} {P:PySem.Fin->Shared->Prop} (ho:s.heap.get? a=some (seqObj "list" [v].toArray n))
  (h:P (.done (.ret .none)) { s with heap:=sortedHeap s.heap a [v] #[v] }) :
  wpAny (model prog w) A (Builtin.«list.sort» ⟨[.ref a],[]⟩) P E s:=by
 rw [list_sort_plain]
 refine wpAny_bind (listItems_at ho rfl ?_)
 refine wpAny_bind (listUpdate_at ho rfl ?_ (by rw [List.size_toArray,sizeLine_eq]; show 1<=_; omega) (Nat.zero_le _))
 obtain ⟨e1,ho1⟩:∃ e1,(s.heap.update a (Obj.mapSeq fun _=>#[])).get? a=some (seqObj "list" #[] e1):=⟨_,get?_update_seq ho (fun _=>#[])⟩
 refine wpAny_bind (seqEpoch_at ho1 rfl ?_)
 refine wpAny_bind (wpAny_newTuple ?_ (by show 1<=_; rw [sizeLine_eq]; omega))
 refine wpAny_bind (wpAny_newList ?_ (Nat.zero_le _))
 refine wpAny_holding ?_
 have ho6:(((s.heap.update a (Obj.mapSeq fun _=>#[])).push (seqObj "tuple" [v].toArray 0)).push (seqObj "list" #[] 0)).get? a=some (seqObj "list" #[] e1):=Heap.get?_push_of_some _ (Heap.get?_push_of_some _ ho1)
 show wpAny (model prog w) A _ P E { s with heap:=((s.heap.update a (Obj.mapSeq fun _=>#[])).push (seqObj "tuple" [v].toArray 0)).push (seqObj "list" #[] 0) }
 dsimp only
 rw [if_pos (show [v].toArray.size < 2 from (show 1 < 2 by decide)),if_pos (show [v].toArray.size < 2 from (show 1 < 2 by decide))]
 refine wpAny_bind (wpAny_pure ?_)
 rw [StateT.run_pure]
 refine wpAny_bind (wpAny_pure ?_)
 dsimp only
 refine wpAny_bind (seqEpoch_at ho6 rfl ?_)
 rw [show Array.map (fun x=>x.snd) (arrOf (SortSt.mk' general' ([v].toArray.zip [v].toArray) #[] 7 none))=#[v] by show Array.map (fun x=>x.snd) ([v].toArray.zip [v].toArray)=#[v]; simp]
 refine wpAny_bind (listUpdate_at ho6 rfl ?_ (Nat.zero_le _) (by show 1<=_; rw [sizeLine_eq]; omega))
 simp only [bne_self_eq_false,Bool.false_eq_true,if_false]
 exact wpAny_pure h
end
end SetM
namespace L2
open PySem PySem.Spec PyProof.Rows PySem.W SetM
theorem items_ofV {P:Program} {w:World}:∀ {ns:List Int} {us:List Value},Vals (ns.map V.int) us->ItemsAre (intKind P w) ns us
 | [],_,r=>by cases r; exact .nil
 | n :: ns,_,r=>by
  cases r with
  | cons r1 r2=>
   obtain ⟨t,rfl⟩:=r1
   exact .cons (intKind_is _ _ _ _) (items_ofV r2)
theorem Inv.tk {X:Cx} {pins:List (Addr × Obj)} {σ:St} {H:Hp} {s:Shared} {p:Addr} {ns:List Int} (I:Inv X pins σ H s) (h:SqT X.K H p (ns.map V.int)):TK X.prog X.w s.heap ns p:=by
 obtain ⟨its,r,⟨o,e1,e2,n,e3⟩,_⟩:=I.tuple h
 exact ⟨o,_,n,e1,e2,e3,by simpa using items_ofV r⟩
def TwoE (w:World) (z p q:Addr) (ks ms:List Int) (h:Heap):Prop:=Two (!byT w) h z p q ks ms
theorem lex_flip:∀ {a b:List Int},a.length=b.length->a ≠ b->HT.lexLt a b=!HT.lexLt b a
 | [],[],_,h=>absurd rfl h
 | [],_ :: _,h,_=>by simp at h
 | _ :: _,[],h,_=>by simp at h
 | x :: a,y :: b,hl,h=>by
  rw [HT.lexLt_cons,HT.lexLt_cons]
  by_cases c:x=y
  ·subst c
   rw [if_pos rfl,if_pos rfl]
   exact lex_flip (by simpa using hl) (fun z=>h (by rw [z]))
  ·rw [if_neg c,if_neg (fun z=>c z.symm),<- decide_not]
   exact decide_eq_decide.mpr (by omega)
theorem call_setT {X:Cx} (hc:X.calm=true) (hu:X.A.units+64 < cLine):CallR X (.type "set") (fun xs H Q=>∃ (l p q:Addr) (ks ms:List Int),xs=[.ref l]/\SqL X.K H l [.ref p,.ref q]/\SqT X.K H p (ks.map V.int)/\SqT X.K H q (ms.map V.int) /\
  ∀ z,H z=none->Q (.ref z) (upd H z (.ext (TwoE X.w z p q ks ms)))):=by
 intro pins s σ H xs us Q I rv h
 obtain ⟨l,p,q,ks,ms,rfl,hl,hp,hq,hQ⟩:=h
 obtain ⟨u,rfl,ru⟩:=rv.one
 cases ru
 obtain ⟨its,r',pl,_⟩:=I.list hl
 obtain ⟨u1,u2,rfl,r1,r2⟩:∃ u1 u2,its=[u1,u2]/\RelV (.ref p) u1/\RelV (.ref q) u2:=by
  cases r' with
  | cons a b=>cases b with
   | cons c d=>cases d; exact ⟨_,_,rfl,a,c⟩
 cases r1
 cases r2
 have tp:=I.tk hp
 have tq:=I.tk hq
 have lp:p < s.heap.objs.size:=let ⟨_,_,_,e,_⟩:=tp; Heap.lt_size e
 have lq:q < s.heap.objs.size:=let ⟨_,_,_,e,_⟩:=tq; Heap.lt_size e
 have p0:p ≠ s.heap.objs.size:=Nat.ne_of_lt lp
 have q0:q ≠ s.heap.objs.size:=Nat.ne_of_lt lq
 have p1:p ≠ s.heap.objs.size+1:=Nat.ne_of_lt (Nat.lt_succ_of_lt lp)
 have q1:q ≠ s.heap.objs.size+1:=Nat.ne_of_lt (Nat.lt_succ_of_lt lq)
 refine call_setJ (J:=fun i h=>TK X.prog X.w h ks p/\TK X.prog X.w h ms q/\(i=0->SetAt h s.heap.objs.size #[] 0 (.fresh 0 0 (!byT X.w)))/\(i=1->One X.prog X.w (!byT X.w) h s.heap.objs.size p ks)/\(i=2->Two (!byT X.w) h s.heap.objs.size p q ks ms))
  (show X.A.handled=none from I.ok.hd hc) pl.isList ?_ ?_ ?_ fun h' tk hJ kp=>?_
 ·intro h' hk hS
  exact ⟨tp.keep (fun o e=>hk p o e),tq.keep (fun o e=>hk q o e),fun _=>⟨_,hS,⟨rfl,rfl,rfl⟩,rfl,rfl⟩,fun z=>by omega,fun z=>by omega⟩
 ·rintro i h h' ⟨a1,a2,a3,a4,a5⟩ k
  have kS:∀ o,h.get? s.heap.objs.size=some o->h'.get? s.heap.objs.size=some o:=fun o e=>k _ o (by omega) e
  exact ⟨a1.keep (fun o e=>k p o p1 e),a2.keep (fun o e=>k q o q1 e),fun z=>(a3 z).keeps kS,fun z=>let ⟨ep,y⟩:=a4 z; ⟨ep,y.keeps kS⟩,fun z=>let ⟨es,ep,t,y,r⟩:=a5 z; ⟨es,ep,t,y.keeps kS,r⟩⟩
 ·rintro i v s' Q' E' hv ⟨a1,a2,a3,a4,a5⟩ hq'
  have hu':X.A.in1.in1.in1.units < cLine:=by show X.A.units+1+1+1 < _; omega
  match i,hv with
  | 0,hv=>
   cases hv
   exact add_first hu' (a3 rfl) a1 fun h' tk ht sb o=>hq' _ h' tk ht sb ⟨a1.keep fun o e=>(sb.2 p p0).trans e,a2.keep fun o e=>(sb.2 q q0).trans e,fun z=>by omega,fun _=>o,fun z=>by omega⟩
  | 1,hv=>
   cases hv
   exact add_second hu' (a4 rfl) a1 a2 fun r h' tk ht sb o=>hq' _ h' tk ht sb ⟨a1.keep fun o e=>(sb.2 p p0).trans e,a2.keep fun o e=>(sb.2 q q0).trans e,fun z=>by omega,fun z=>by omega,fun _=>o⟩
  | i+2,hv=>simp at hv
 ·obtain ⟨_,_,_,_,a5⟩:=hJ
  have e:TwoE X.w s.heap.objs.size p q ks ms h':=a5 rfl
  have I2:=I.laid (a:=s.heap.objs.size) (o:=.ext (TwoE X.w s.heap.objs.size p q ks ms)) (h':=h') (t':=tk) (fun b o z=>kp b o (Heap.lt_size z) z) (Nat.le_refl _) ⟨e,let ⟨_,_,_,⟨o,p,_⟩,_⟩:=e; ⟨o,p⟩,fun _ _ ⟨es,ep,t,y,r⟩ k=>⟨es,ep,t,y.keeps fun o z=>k _ z,r⟩⟩
  exact ⟨.ref s.heap.objs.size,_,I2,rfl,hQ _ (I.hok.fresh (Nat.le_refl _))⟩
def Srt (p q:Addr) (ks ms:List Int) (Q:V->Hp->Prop) (H:Hp) (r:Addr):Prop:=
 (ks=ms->Q (.ref r) (upd H r (.lst [.ref p])))/\(HT.lexLt ks ms=true->Q (.ref r) (upd H r (.lst [.ref p,.ref q])))/\(HT.lexLt ms ks=true->Q (.ref r) (upd H r (.lst [.ref q,.ref p])))
theorem sorted_laid {X:Cx} {pins:List (Addr × Obj)} {σ:St} {H:Hp} {s:Shared} {vs:List Value} {out:Array Value} {xs:List V} (I:Inv X pins σ H s) (r:Vals xs out.toList) (hz:xs.length<=sizeLine) :
  Inv X pins σ (upd H s.heap.objs.size (.lst xs)) { s with heap:=sortedHeap (s.heap.push (seqObj "list" vs.toArray 0)) s.heap.objs.size vs out }:=by
 have hoL:(s.heap.push (seqObj "list" vs.toArray 0)).get? s.heap.objs.size=some (seqObj "list" vs.toArray 0):=Heap.get?_push_size _ rfl
 obtain ⟨e,he⟩:=sortedHeap_at (out:=out) hoL
 refine I.laid (t':=s.toks) (fun b o e=>?_) (Nat.le_refl _) ⟨hz,out.toList,e,r,?_⟩
 ·have hlt:b < s.heap.objs.size:=Heap.lt_size e
  rw [sortedHeap_old (Nat.ne_of_lt hlt) (by rw [size_push']; exact Nat.lt_succ_of_lt hlt)]
  exact Heap.get?_push_of_some _ e
 ·rw [Array.toArray_toList]; exact he
theorem sorted_fin {X:Cx} {pins:List (Addr × Obj)} {σ:St} {H:Hp} {s:Shared} {p q:Addr} {k m:Int} {ks ms:List Int} {acc:List Value} {Q:Value->Shared->Prop} {Q':V->Hp->Prop} {E:Value->Shared->Prop} {A:Around} (I:Inv X pins σ H s)
  (hp:SqT X.K H p ((k :: ks).map V.int)) (hq:SqT X.K H q ((m :: ms).map V.int)) (hl:ks.length=ms.length) (hacc:acc.Perm (if k :: ks=m :: ms then [.ref p] else [.ref p,.ref q])) (hQ:Srt p q (k :: ks) (m :: ms) Q' H s.heap.objs.size)
  (fin:∀ H' s',Inv X pins σ H' s'->Q' (.ref s.heap.objs.size) H'->Q (.ref s.heap.objs.size) s') :
  wpAny (model X.prog X.w) A (call (.builtin "list.sort") [.ref s.heap.objs.size]) (fun _ s'=>Q (.ref s.heap.objs.size) s') E { s with heap:=s.heap.push (seqObj "list" acc.toArray 0) }:=by
 have hoL:(s.heap.push (seqObj "list" acc.toArray 0)).get? s.heap.objs.size=some (seqObj "list" acc.toArray 0):=Heap.get?_push_size _ rfl
 have tp:=(I.tk hp).keep (h':=s.heap.push (seqObj "list" acc.toArray 0)) fun o e=>Heap.get?_push_of_some _ e
 have tq:=(I.tk hq).keep (h':=s.heap.push (seqObj "list" acc.toArray 0)) fun o e=>Heap.get?_push_of_some _ e
 have s2:2<=sizeLine:=by rw [sizeLine_eq]; omega
 have s1:1<=sizeLine:=by rw [sizeLine_eq]; omega
 refine wpAny_call_entry slot_list_sort ⟨_,hoL,rfl⟩ entry_list_sort ?_ (args_list_sort _)
 by_cases c:k :: ks=m :: ms
 ·rw [if_pos c] at hacc
  have:acc=[.ref p]:=List.perm_singleton.mp hacc
  subst this
  exact sort_one (s:={ s with heap:=s.heap.push (seqObj "list" [Value.ref p].toArray 0) }) hoL ⟨_,rfl,fin _ _ (sorted_laid (xs:=[.ref p]) I (.cons rfl .nil) s1) (hQ.1 c)⟩
 ·rw [if_neg c] at hacc
  have hf:=lex_flip (by simp [hl]) c
  have:acc=[.ref p,.ref q]\/acc=[.ref q,.ref p]:=by
   match acc,hacc.length_eq with
   | [u,v],_=>
    have h1:=hacc.mem_iff (a:=u)
    have h2:=hacc.mem_iff (a:=v)
    have h3:=hacc.mem_iff (a:=Value.ref p)
    have h4:=hacc.mem_iff (a:=Value.ref q)
    simp only [List.mem_cons,List.not_mem_nil,or_false,true_or,or_true,true_iff,iff_true] at h1 h2 h3 h4
    rcases h1 with rfl | rfl <;> rcases h2 with rfl | rfl <;> simp_all
  rcases this with rfl | rfl
  ·refine sort_two (s:={ s with heap:=s.heap.push (seqObj "list" [Value.ref p,.ref q].toArray 0) }) hoL tp tq hl ⟨_,rfl,?_⟩
   cases d:HT.lexLt (m :: ms) (k :: ks) with
   | true=>exact fin _ _ (sorted_laid (xs:=[.ref q,.ref p]) I (.cons rfl (.cons rfl .nil)) s2) (hQ.2.2 d)
   | false=>
    rw [d] at hf
    exact fin _ _ (sorted_laid (xs:=[.ref p,.ref q]) I (.cons rfl (.cons rfl .nil)) s2) (hQ.2.1 hf)
  ·refine sort_two (s:={ s with heap:=s.heap.push (seqObj "list" [Value.ref q,.ref p].toArray 0) }) hoL tq tp hl.symm ⟨_,rfl,?_⟩
   cases d:HT.lexLt (k :: ks) (m :: ms) with
   | true=>exact fin _ _ (sorted_laid (xs:=[.ref p,.ref q]) I (.cons rfl (.cons rfl .nil)) s2) (hQ.2.1 d)
   | false=>
    rw [d] at hf
    exact fin _ _ (sorted_laid (xs:=[.ref q,.ref p]) I (.cons rfl (.cons rfl .nil)) s2) (hQ.2.2 (by simpa using hf.symm))
theorem call_sortedT {X:Cx} (hc:X.calm=true):CallR X (.builtin "sorted") (fun xs H Q=>∃ (z p q:Addr) (k m:Int) (ks ms:List Int),xs=[.ref z]/\H z=some (.ext (TwoE X.w z p q (k :: ks) (m :: ms)))/\SqT X.K H p ((k :: ks).map V.int)/\SqT X.K H q ((m :: ms).map V.int)/\ks.length=ms.length /\
  ∀ r,H r=none->Srt p q (k :: ks) (m :: ms) Q H r):=by
 intro pins s σ H xs us Q I rv h
 obtain ⟨z,p,q,k,m,ks,ms,rfl,hH,hp,hq,hl,hQ⟩:=h
 obtain ⟨u,rfl,ru⟩:=rv.one
 cases ru
 obtain ⟨⟨es,ep,t,hs,g,pm⟩,_,_⟩:=(show ObjOk X.prog X.w H s.heap z (.ext (TwoE X.w z p q (k :: ks) (m :: ms))) from I.hok z _ hH)
 have hz:es.size<=2:=by
  have:=pm.length_eq
  rw [List.length_map,Array.length_toList] at this
  rw [this]
  split
  ·exact (show 1<=2 by decide)
  ·exact (show 2<=2 by decide)
 have sl:2<=sizeLine:=by rw [sizeLine_eq]; omega
 refine Calls.call_function_entry kind_sorted plain_sorted entry_sorted (args_sorted1 _) ?_
 unfold Builtin.«sorted»
 refine wpAny_bind (m:=checkCount "sorted" 1 1 _) (wpAny_pure ?_)
 refine wpAny_bind (collectG (A:=X.A.in1) (show X.A.in1.handled=none from I.ok.hd hc) hs (Nat.le_trans hz sl) g fun h' tk d acc hk hacc=>?_)
 have I2:Inv X pins σ H { s with heap:=h',toks:=tk,drawn:=d }:=I.call' (s':={ s with heap:=h',toks:=tk,drawn:=d }) (ch:=[]) rfl (Un.kept hk) (I.hok.kept hk) I.bare fun b z=>absurd z (by simp)
 have lacc:acc.toList.length<=2:=by rw [hacc.length_eq,List.length_map,Array.length_toList]; exact hz
 refine wpAny_bind (wpAny_newList ?_ (Nat.le_trans lacc sl))
 refine wpAny_bind (wpAny_holding (wpAny_mono (sorted_fin (Q':=Q) (Q:=fun v s'=>∃ H',Inv X pins σ H' s'/\Q (.ref h'.objs.size) H') I2 hp hq hl (hacc.trans pm) (hQ _ (I2.hok.fresh (Nat.le_refl _))) fun H' s' I' q'=>⟨H',I',q'⟩) (fun _ s' x=>?_) fun _ _ x=>x))
 obtain ⟨H',I',q'⟩:=x
 exact wpAny_pure ⟨_,rfl,.ref h'.objs.size,H',I',rfl,q'⟩
end L2
namespace L2
open PySem PySem.Spec PyProof.Rows
def rIsiT (K:W.Frag):List V->Hp->VK->Prop:=fun xs H Q=>∃ (e tp C:Addr) (cs:List Addr) (b:Bool),xs=[.ref e,.ref tp]/\ExcCls K C/\H e=some (.ext (ExcAt C e))/\SqT K H tp (cs.map V.ref)/\W.kitAny K (.ref C) (cs.map Value.ref)=some b/\Q (.bl b) H
end L2
namespace L2
open PySem PySem.Spec PyProof.Rows
theorem dict_map (o:Obj) (f:Array Value->Array Value):(o.mapFields f).dict=o.dict:=by
 unfold Obj.mapFields
 split <;> rfl
def TrD (h base:Heap) (e:Addr) (cls:Value) (dx:Option Addr) (fl:Value):Prop:=
 ∃ oe vs T oT ts,h.get? e=some oe/\(oe.cls=cls/\oe.dict=dx)/\oe.data=.fields vs/\vs[1]?=some (.ref T)/\vs[2]?=some .none/\base.get? T=none/\T ≠ e/\h.get? T=some oT/\oT.data=.fields ts/\ts[3]?=some fl
structure FlyAt (base:Heap) (l:List Env) (e:Addr) (cls:Value) (dx:Option Addr) (fl:Value) (h:Heap):Prop where
 (stays:base.StaysIn h) (new:base.get? e=none) (frm:h.FunFrames base l) (tr:TrD h base e cls dx fl)
theorem FlyAt.there {base h:Heap} {l:List Env} {e:Addr} {cls fl:Value} {dx:Option Addr} (x:FlyAt base l e cls dx fl h):∃ ob,h.get? e=some ob/\ob.cls=cls/\ob.dict=dx/\∃ vs,ob.data=.fields vs:=by
 obtain ⟨oe,vs,_,_,_,he,hc,hd,_⟩:=x.tr
 exact ⟨oe,he,hc.1,hc.2,vs,hd⟩
section
variable {M:Model} {A:Around} {E:Value->Shared->Prop} {s:Shared}
theorem entryD {base:Heap} {env:Env} {outer:List Env} {L e:Addr} {oe:Obj} {vs:Array Value} {head:Value} {more:Bool} {Q:Unit->Shared->Prop}
  (fr:A.frames=some (env :: outer)) (fl:s.heap.FunFrames base (env :: outer)) (ef:env.frame=some L) (oe':s.heap.get? e=some oe) (sb:base.StaysIn s.heap) (nb:base.get? e=none) (od:oe.data=.fields vs) (z1:1 < vs.size) (v2:vs[2]?=some .none)
  (k:∀ h',FlyAt base (env :: outer) e oe.cls oe.dict (rawInt L) h'->s.heap.UpToSlots h'->Q () { s with heap:=h' }) :
  wpAny M A (do let a <- frameOf env; let pl <- entryPlaceOf L more; let b <- EntryCells.newEntry head a .none (rawInt L) .none pl; setField (.ref e) 1 b) Q E s:=by
 have nf:e ∉ (env :: outer).filterMap (·.frame):=fun m=>by
  obtain ⟨_,o,h1,h2⟩:=fl.mem m
  rw [oe'] at h1
  cases h1
  exact h2 vs od
 refine wpAny_bind (wpAny_frameOf_fun fr fl ef fun h1 q1=>wpAny_bind (wpAny_entryPlaceOf fun pl sp=>?_))
 unfold EntryCells.newEntry newFields
 refine wpAny_bind (wpAny_newObj_type ?_ (sp.sizeOk5 _ _ _ _ _))
 generalize hob:([head,Value.ref L,.none,rawInt L,.none] ++ (if pl.isEmpty then List.replicate 6 Value.none else pl)).toArray=tb
 have e1:h1.get? e=some oe:=(q1.2.1 e nf).trans oe'
 have s1:base.StaysIn h1:=fun b o x=>(q1.2.1 b fun m=>by rw [(fl.mem m).1] at x; cases x).trans (sb b o x)
 have e2:=Heap.get?_push_of_some (h:=h1) { cls:=.type "traceback",dict:=none,data:=.fields tb } e1
 have ne:h1.objs.size ≠ e:=Nat.ne_of_gt (Heap.lt_size e1)
 have d3:=Obj.data_mapFields od (·.setIfInBounds 1 (Value.ref h1.objs.size))
 have e3:=Heap.get?_update_self (Obj.mapFields (·.setIfInBounds 1 (Value.ref h1.objs.size))) e2 (Obj.isFreed_of_fields d3)
 have t3:=(Heap.get?_update_other (h1.push { cls:=.type "traceback",dict:=none,data:=.fields tb }) (Obj.mapFields (·.setIfInBounds 1 (Value.ref h1.objs.size))) (Ne.symm ne)).trans (Heap.get?_push_size h1 rfl)
 have kp:∀ b o,b ≠ e->h1.get? b=some o->((h1.push { cls:=.type "traceback",dict:=none,data:=.fields tb }).update e (Obj.mapFields (·.setIfInBounds 1 (Value.ref h1.objs.size)))).get? b=some o:=fun b o ne' x=>by
  rw [Heap.get?_update_other _ _ (Ne.symm ne')]
  exact Heap.get?_push_of_some _ x
 have nr:∀ b o,s.heap.get? b=some o->(∀ vs,o.data ≠ .fields vs)->b ≠ e:=fun b o x y z=>by
  rw [z,oe'] at x
  cases x
  exact y vs od
 have f3:tb[3]?=some (rawInt L):=by
  rw [<- hob]
  first | (simp; done) | (rcases sp with rfl | ⟨_,_,_,_,_,_,_,rfl⟩ <;> simp)
 refine wpAny_setField e2 od z1 (k _ ⟨fun b o x=>kp b o (fun z=>by rw [z,nb] at x; cases x) (s1 b o x),nb,fl.of_keeps fun b o x y=>?_,⟨_,_,h1.objs.size,_,_,e3,⟨Obj.cls_mapFields _ _,dict_map _ _⟩,d3,by simp [z1],by simpa [Array.getElem?_setIfInBounds] using v2,s1.fresh,ne,t3,rfl,f3⟩⟩ fun b o x y=>?_)
 ·obtain ⟨sl,z⟩:=q1.2.2 b o x
  exact ⟨_,kp b _ (nr b o x y) z,rfl⟩
 ·obtain ⟨sl,z⟩:=q1.2.2 b o x
  exact ⟨sl,kp b _ (nr b o x y) z⟩
theorem noteFirstD {base:Heap} {env:Env} {outer:List Env} {L e:Addr} {oe:Obj} {vs:Array Value} {Q:Unit->Shared->Prop}
  (fr:A.frames=some (env :: outer)) (fl:s.heap.FunFrames base (env :: outer)) (ef:env.frame=some L) (oe':s.heap.get? e=some oe) (sb:base.StaysIn s.heap) (nb:base.get? e=none) (od:oe.data=.fields vs) (v1:vs[1]?=some .none) (v2:vs[2]?=some .none)
  (k:∀ h',FlyAt base (env :: outer) e oe.cls oe.dict (rawInt L) h'->s.heap.UpToSlots h'->Q () { s with heap:=h' }):wpAny M A (noteFrame (.ref e) env) Q E s:=by
 unfold noteFrame
 simp only [ef]
 refine wpAny_bind (wpAny_field oe' od v1 ?_)
 rw [if_neg (by decide)]
 exact entryD fr fl ef oe' sb nb od (Array.getElem?_eq_some_iff.mp v1).1 v2 k
theorem noteNextD {base:Heap} {env:Env} {outer:List Env} {L e:Addr} {cls:Value} {dx:Option Addr} {Q:Unit->Shared->Prop}
  (fr:A.frames=some (env :: outer)) (ef:env.frame=some L) (x:FlyAt base (env :: outer) e cls dx .none s.heap)
  (k:∀ h',FlyAt base (env :: outer) e cls dx (rawInt L) h'->s.heap.UpToSlots h'->Q () { s with heap:=h' }):wpAny M A (noteFrame (.ref e) env) Q E s:=by
 obtain ⟨sb,nb,fl,oe,vs,T,oT,ts,oe',⟨rfl,rfl⟩,od,v1,v2,nT,ne,hT,dT,t3⟩:=x
 unfold noteFrame
 simp only [ef]
 refine wpAny_bind (wpAny_field oe' od v1 ?_)
 rw [if_pos (show (Value.ref T != Value.none)=true by simp)]
 refine wpAny_bind (wpAny_field hT dT t3 ?_)
 rw [if_neg (show ¬ ((Value.none == rawInt L)=true) by simp [rawInt])]
 refine wpAny_bind (wpAny_setField hT dT (Array.getElem?_eq_some_iff.mp t3).1 ?_)
 have ot:∀ b,b ≠ T->(s.heap.update T (Obj.mapFields (·.setIfInBounds 3 Value.none))).get? b=s.heap.get? b:=fun b z=>Heap.get?_update_other _ _ (Ne.symm z)
 have nr:∀ b o,s.heap.get? b=some o->(∀ vs,o.data ≠ .fields vs)->b ≠ T:=fun b o x y z=>by
  rw [z,hT] at x
  cases x
  exact y ts dT
 exact entryD fr (fl.of_keeps fun b o x y=>⟨o,(ot b (nr b o x y)).trans x,rfl⟩) ef ((ot e (Ne.symm ne)).trans oe') (fun b o x=>(ot b fun z=>by rw [z,nT] at x; cases x).trans (sb b o x)) nb od (Array.getElem?_eq_some_iff.mp v1).1 v2
  fun h' a b=>k h' a fun c o x y=>b c o ((ot c (nr c o x y)).trans x) y
theorem landD {base:Heap} {l:List Env} {e:Addr} {cls fl:Value} {dx:Option Addr} {Q:Unit->Shared->Prop} (x:FlyAt base l e cls dx fl s.heap)
  (k:∀ h',FlyAt base l e cls dx .none h'->s.heap.UpToSlots h'->Q () { s with heap:=h' }):wpAny M A (setFlight (.ref e) none) Q E s:=by
 obtain ⟨sb,nb,frm,oe,vs,T,oT,ts,oe',hc,od,v1,v2,nT,ne,hT,dT,t3⟩:=x
 have z3:3 < ts.size:=(Array.getElem?_eq_some_iff.mp t3).1
 have ot:∀ b,b ≠ T->(s.heap.update T (Obj.mapFields (·.setIfInBounds 3 ((none:Option Addr).elim Value.none fun f=>rawInt f)))).get? b=s.heap.get? b:=fun b z=>Heap.get?_update_other _ _ (Ne.symm z)
 have nr:∀ b o,s.heap.get? b=some o->(∀ vs,o.data ≠ .fields vs)->b ≠ T:=fun b o x y z=>by
  rw [z,hT] at x
  cases x
  exact y ts dT
 unfold setFlight
 refine wpAny_bind (wpAny_field oe' od v1 ?_)
 rw [if_pos (show (Value.ref T != Value.none)=true by simp)]
 exact wpAny_setField hT dT z3 (k _ ⟨fun b o x=>(ot b fun z=>by rw [z,nT] at x; cases x).trans (sb b o x),nb,frm.of_keeps fun b o x y=>⟨o,(ot b (nr b o x y)).trans x,rfl⟩,
  ⟨oe,vs,T,_,_,(ot e (Ne.symm ne)).trans oe',hc,od,v1,v2,nT,ne,Heap.get?_update_self _ hT (Obj.isFreed_of_fields (Obj.data_mapFields dT _)),Obj.data_mapFields dT _,by simp [z3]⟩⟩ fun b o x y=>⟨o.slots,(ot b (nr b o x y)).trans x⟩)
theorem leaveFirstD {base:Heap} {env:Env} {outer:List Env} {L e:Addr} {oe:Obj} {vs:Array Value} {Q:Unit->Shared->Prop}
  (fr:A.frames=some (env :: outer)) (fl:s.heap.FunFrames base (env :: outer)) (ef:env.frame=some L) (oe':s.heap.get? e=some oe) (sb:base.StaysIn s.heap) (nb:base.get? e=none) (od:oe.data=.fields vs) (v1:vs[1]?=some .none) (v2:vs[2]?=some .none)
  (k:∀ h',FlyAt base outer e oe.cls oe.dict .none h'->s.heap.UpToSlots h'->Q () { s with heap:=h' }):wpAny M A (leaving env (.ref e)) Q E s:=by
 unfold leaving
 refine wpAny_bind (noteFirstD fr fl ef oe' sb nb od v1 v2 fun h1 x1 u1=>?_)
 refine landD (s:={ s with heap:=h1 }) x1 fun h2 x2 u2=>?_
 obtain ⟨a,b,⟨_,_,c⟩,d⟩:=x2
 exact k h2 ⟨a,b,c,d⟩ (u1.trans u2)
theorem leaveNextD {base:Heap} {env:Env} {outer:List Env} {L e:Addr} {cls:Value} {dx:Option Addr} {Q:Unit->Shared->Prop}
  (fr:A.frames=some (env :: outer)) (ef:env.frame=some L) (x:FlyAt base (env :: outer) e cls dx .none s.heap)
  (k:∀ h',FlyAt base outer e cls dx .none h'->s.heap.UpToSlots h'->Q () { s with heap:=h' }):wpAny M A (leaving env (.ref e)) Q E s:=by
 unfold leaving
 refine wpAny_bind (noteNextD fr ef x fun h1 x1 u1=>?_)
 refine landD (s:={ s with heap:=h1 }) x1 fun h2 x2 u2=>?_
 obtain ⟨a,b,⟨_,_,c⟩,d⟩:=x2
 exact k h2 ⟨a,b,c,d⟩ (u1.trans u2)
end
end L2
namespace L2
open PySem PySem.Spec PyProof.Rows PySem.W PySem.Calls Builtin Builtin.ObjectAttr
def ExcD (C e dx:Addr) (h:Heap):Prop:=∃ o,h.get? e=some o/\o.cls=.ref C/\o.dict=some dx/\notCls o=true
theorem ExcD.exc {C e dx:Addr} {h:Heap} (x:ExcD C e dx h):ExcAt C e h:=let ⟨o,a,b,_,c⟩:=x; ⟨o,a,b,c⟩
structure ExcFld (K:Frag) (C:Addr) (f:Str):Prop where
 cls:ExcCls K C
 no:findIn K (.ref C) f=some none
 hd:(clsIn K C).map (·.hasDict)=some true
section
variable {prog:Program} {w:World} {A:Around} {E:Value->Shared->Prop} {s:Shared} {K:Frag} {e C dx:Addr} {f:Str}
theorem own_find {M:Model} {h:Heap} {mA:Str->Option Value} {v:Value} (X:K.In h) (T:ExcFld K C f) (I:ExcD C e dx h) (N:h.Ns dx mA) (hv:mA f=some v):Looks M h (Builtin.ObjectAttr.find (.ref e) (.ref C) f) (.value v):=by
 obtain ⟨cd,hc⟩:∃ cd,clsIn K C=some cd:=by
  cases q:clsIn K C with
  | none=>have:=T.hd; rw [q] at this; cases this
  | some cd=>exact ⟨cd,rfl⟩
 have hd:cd.hasDict=true:=by
  have:=T.hd
  rw [hc] at this
  exact Option.some.inj this
 obtain ⟨o,he,ho,hdx,hn⟩:=I
 intro A Q E s k q
 have lc:=looks_clsIn (M:=M) X hc
 unfold Builtin.ObjectAttr.find
 refine wpAny_bind (looks_findIn (M:=M) X T.no A _ E s k ?_)
 unfold getOf dataDescriptor? ownThenClass inOwnDict ObjectAttr.ownDict
 refine wpAny_bind (wpAny_pure (wpAny_bind (wpAny_pure ?_)))
 refine wpAny_bind (wpAny_bind (wpAny_bind ?_))
 unfold loadHead
 refine wpAny_loadPart (k _ _ he) ?_
 have key:wpAny M A (instanceDict e false) (fun d s'=>d=some dx/\s'=s) E s:=by
  unfold instanceDict
  refine wpAny_bind (wpAny_loadPart (k _ _ he) ?_)
  rw [ho]
  refine wpAny_bind (lc A _ E s k ?_)
  simp only [hd,hdx,Bool.not_true,Bool.false_eq_true,if_false]
  exact wpAny_pure ⟨rfl,rfl⟩
 have key2:wpAny M A (instanceDict e false) (fun d s'=>wpAny M A (inDict f d) (fun r s''=>wpAny M A (match r with | some v=>do rule "getattr.instance-dict"; pure (Found.value v) | none=>do copiedAttributeGuard f (.ref e); byTheClass none none) Q E s'') E s') E s:=by
  refine wpAny_mono key (fun d s' z=>?_) fun _ _ z=>z
  obtain ⟨rfl,rfl⟩:=z
  unfold inDict
  refine wpAny_nsGet (let ⟨o',es,ep,a,b⟩:=N; ⟨o',es,ep,k _ _ a,b⟩) ?_
  rw [hv]
  exact wpAny_bind (wpAny_rule (wpAny_pure q))
 unfold notCls at hn
 split at hn
 ·cases hn
 ·rename_i hnc
  split
  ·rename_i c hc'
   exact absurd hc' (hnc c)
  ·exact key2
theorem own_entry {tk:Tok} {Q:PySem.Fin->Shared->Prop} {mA:Str->Option Value} {v:Value} (X:K.In s.heap) (T:ExcFld K C f) (I:ExcD C e dx s.heap) (N:s.heap.Ns dx mA) (hv:mA f=some v) (h:Q (.done (.ret v)) s) :
  wpAny (model prog w) A (Builtin.«object.__getattribute__» ⟨[.ref e,.str f tk],[]⟩) Q E s:=by
 obtain ⟨hp,gs,dr,t,os⟩:=s
 have l0:=I.exc.type (M:=model prog w)
 have l1:=own_find (M:=model prog w) X T I N hv
 unfold Builtin.«object.__getattribute__»
 repeat (first | with_reducible refine wpAny_call ?_ | lk)
 exact h
theorem own_field {Q:Value->Shared->Prop} {mA:Str->Option Value} {v:Value} (X:K.In s.heap) (T:ExcFld K C f) (I:ExcD C e dx s.heap) (N:s.heap.Ns dx mA) (hv:mA f=some v) (hh:handedOut v=pure v)
  (h:Q v { s with toks:=s.toks+1 }):wpAny (model prog w) A (getAttr (.ref e) f true) Q E s:=by
 obtain ⟨hp,gs,dr,t,os⟩:=s
 have l0:=I.exc.type (M:=model prog w)
 have l1:=looks_findIn (M:=model prog w) X T.cls.ga
 have l2:=looks_findIn (M:=model prog w) X T.cls.gt
 have l3:=looks_mroIn (M:=model prog w) X T.cls.be
 unfold getAttr getAttrBy
 refine wpAny_bind (wpAny_mkText (wpAny_holding (wpAny_bind (l0.at (wpAny_bind (l1.at ?_))))))
 dsimp only
 have ne:(Value.builtin "BaseException.__getattribute__" == Value.builtin "object.__getattribute__")=false:=by decide +kernel
 rw [if_neg (by rw [ne,Bool.and_false]; exact Bool.false_ne_true)]
 unfold getAttrByItsOwn hookBefore
 repeat (first | with_reducible refine wpAny_call ?_ | with_reducible refine wpAny_attempt ?_ | lk)
 have hk:builtinKind "BaseException.__getattribute__"=some .slot:=by decide +kernel
 have hsplit:splitId "BaseException.__getattribute__"=some ("BaseException","__getattribute__"):=by decide +kernel
 refine codeAny_call_builtin (by decide +kernel) F.entry_bexc_ga ?_
 have ha:=F.args_bexc_ga (.ref e) (.str f t)
 show wpAny _ _ (checkBuiltinCall "BaseException.__getattribute__" ⟨[.ref e,.str f t],[]⟩) _ _ _
 simp only [checkBuiltinCall,hk,hsplit]
 unfold isInstance
 refine wpAny_bind (wpAny_bind (l0.at (l3.at ?_)))
 simp only [Bool.not_true,Bool.false_eq_true,if_false]
 refine wpAny_of_eq (show _=pure () from ha) ?_
 refine wpAny_mono (own_entry (E:=fun _ _=>False) (Q:=fun fin s'=>fin=.done (.ret v)/\s'=⟨hp,gs,dr,t+1,os⟩) X T I N hv ⟨rfl,rfl⟩) (fun fin s' z=>?_) fun _ _ z=>z.elim
 obtain ⟨rfl,rfl⟩:=z
 exact wpAny_of_eq hh h
end
end L2
namespace L2
open PySem PySem.Spec PyProof.Rows PySem.W PySem.Calls Builtin Builtin.ObjectAttr
def onlyVE:List Value->Bool
 | .ref _ :: r=>onlyVE r
 | l=>l == bmVE
theorem refuse_VE (self:Value):∀ {l:List Value},onlyVE l=true->refuseLoop self "__setattr__" l=pure ()
 | .ref c :: r,e=>by rw [refuseLoop_ref]; exact refuse_VE self e
 | [],e=>by cases e
 | .type n :: r,e=>by
  have:(Value.type n :: r)=bmVE:=beq_iff_eq.mp e
  rw [this]
  exact PySem.F.store_ValueError.passes self
 | .none :: r,e=>by have:(Value.none :: r)=bmVE:=beq_iff_eq.mp e; cases this
 | .bool _ :: r,e=>by have:(_ :: r)=bmVE:=beq_iff_eq.mp e; cases this
 | .int _ _ :: r,e=>by have:(_ :: r)=bmVE:=beq_iff_eq.mp e; cases this
 | .str _ _ :: r,e=>by have:(_ :: r)=bmVE:=beq_iff_eq.mp e; cases this
 | .bytes _ _ :: r,e=>by have:(_ :: r)=bmVE:=beq_iff_eq.mp e; cases this
 | .float _ _ :: r,e=>by have:(_ :: r)=bmVE:=beq_iff_eq.mp e; cases this
 | .ellipsis :: r,e=>by have:(_ :: r)=bmVE:=beq_iff_eq.mp e; cases this
 | .notImplemented :: r,e=>by have:(_ :: r)=bmVE:=beq_iff_eq.mp e; cases this
 | .builtin _ :: r,e=>by have:(_ :: r)=bmVE:=beq_iff_eq.mp e; cases this
structure ExcSet (K:Frag) (C:Addr) (f:Str):Prop where
 fld:ExcFld K C f
 sa:findIn K (.ref C) "__setattr__"=some (some (.builtin "object.__setattr__"))
 over:(clsIn K C).any (fun cd=>onlyVE cd.mro)=true
section
variable {prog:Program} {w:World} {A:Around} {E:Value->Shared->Prop} {s:Shared} {K:Frag} {e C:Addr} {f:Str} {R:Result->Shared->Prop}
theorem exc_looks {M:Model} {h:Heap} {o:Obj} (he:h.get? e=some o) (hc:o.cls=.ref C):Looks M h (typeOf (.ref e)) (.ref C):=hc ▸ (Looks.ld he).andThen .now
theorem osaD {vs:Array Value} {sl:Array (Option Value)} {tk:Tok} {v:Value} (X:K.In s.heap) (T:ExcSet K C f) (he:s.heap.get? e=some ⟨.ref C,none,.fields vs,sl⟩)
  (h:∀ h',h'.get? e=some ⟨.ref C,some s.heap.objs.size,.fields vs,sl⟩->h'.Ns1 s.heap.objs.size (fun y=>if y=f then some v else none)->(∀ b o,b ≠ e->s.heap.get? b=some o->h'.get? b=some o)->R (.ok (.ret .none)) { s with heap:=h',toks:=s.toks+1 }) :
  codeAny (model prog w) A (.call (.builtin "object.__setattr__") ⟨[.ref e,.str f tk,v],[]⟩) R s:=by
 have SF:=PySem.F.store_object
 obtain ⟨cd,hc,ho⟩:=any_some T.over
 have hd:cd.hasDict=true:=by
  have:=T.fld.hd
  rw [hc] at this
  exact Option.some.inj this
 have l0:Looks (model prog w) s.heap (typeOf (.ref e)) (.ref C):=exc_looks he rfl
 have sub:Looks (model prog w) s.heap (isInstance (.ref e) (.type "object")) true:=l0.andThen (looks_mroIn X T.fld.cls.ob)
 refine codeAny_call_builtin SF.slot.plain SF.entry (@check_slot (model prog w) _ _ s "object.__setattr__" "object" "__setattr__" (.ref e) [.str f tk,v] [] _ SF.kind SF.split sub (SF.args (.ref e) (.str f tk) v) ?_)
 have hm:Looks (model prog w) s.heap (mroOf (.ref C)) cd.mro:=(looks_clsIn X hc).andThen .now
 rw [osa_eq,refuse_eq]
 refine wpAny_bind (wpAny_bind (l0.here (wpAny_bind (hm.here ?_))))
 rw [refuse_VE _ ho]
 refine wpAny_pure (wpAny_bind (l0.here (wpAny_bind ((looks_findIn X T.fld.no).here (wpAny_bind (wpAny_pure ?_))))))
 have ns:e ≠ s.heap.objs.size:=Nat.ne_of_lt (Heap.lt_size he)
 have h1:(s.heap.push { cls:=.type "dict",data:=.dict #[] }).get? e=some ⟨.ref C,none,.fields vs,sl⟩:=Heap.get?_push_of_some _ he
 show wpAny _ _ (storeInOwnDict (.ref e) (.ref C) (.str f tk) f v _) _ _ _
 unfold storeInOwnDict ownDictForStores instanceDict
 refine wpAny_bind (wpAny_pure (wpAny_bind (wpAny_bind (wpAny_loadPart he (wpAny_bind ((looks_clsIn X hc).here ?_))))))
 simp only [hd,Bool.not_true,Bool.false_eq_true,if_false,typeHasDict,Bool.or_self]
 refine wpAny_bind (wpAny_alloc' ?_)
 refine wpAny_bind (wpAny_update' h1 ?_)
 have gd:((s.heap.push { cls:=.type "dict",data:=.dict #[] }).update e fun o=>{ cls:=o.cls,dict:=some s.heap.objs.size,data:=o.data,slots:=o.slots }).get? s.heap.objs.size=some { cls:=.type "dict",data:=.dict #[] }:=
  (Heap.get?_update_ne _ _ _ _ (Ne.symm ns)).trans (Heap.get?_push_at rfl rfl)
 have nd:((s.heap.push { cls:=.type "dict",data:=.dict #[] }).update e fun o=>{ cls:=o.cls,dict:=some s.heap.objs.size,data:=o.data,slots:=o.slots }).Ns s.heap.objs.size (fun _=>none):=
  ⟨_,#[],_,gd,rfl,fun x hx=>absurd hx (by simp),fun _=>rfl⟩
 refine wpAny_pure ?_
 show wpAny _ _ (storeInDict s.heap.objs.size (.str f tk) f v) _ _ _
 unfold storeInDict newKeyGuard
 refine wpAny_bind (wpAny_pure (wpAny_bind (wpAny_nsSet1 (Heap.Ns1.of_empty nd) fun h' hn' hs=>?_)))
 obtain ⟨oD,esD,epD,hoD,hdD,hcD⟩:=hn'.count (Within.cons f v Within.nil)
 refine wpAny_bind (wpAny_lookBehind hoD (by rw [hdD]; exact pastItsLine_dict (Nat.le_trans hcD (by rw [List.length_cons,List.length_nil,sizeLine_eq]; omega))) ?_)
 refine wpAny_pure (h h' ((hs.2 e ns).trans (Heap.get?_update_self _ h1 rfl)) hn' fun b o nb hb=>?_)
 exact (hs.2 b (Nat.ne_of_lt (Heap.lt_size hb))).trans ((Heap.get?_update_ne _ _ _ _ nb).trans (Heap.get?_push_of_some _ hb))
theorem setD {vs:Array Value} {sl:Array (Option Value)} {v:Value} {Q:Unit->Shared->Prop} (X:K.In s.heap) (T:ExcSet K C f) (he:s.heap.get? e=some ⟨.ref C,none,.fields vs,sl⟩)
  (h:∀ h',h'.get? e=some ⟨.ref C,some s.heap.objs.size,.fields vs,sl⟩->h'.Ns1 s.heap.objs.size (fun y=>if y=f then some v else none)->(∀ b o,b ≠ e->s.heap.get? b=some o->h'.get? b=some o)->Q () { s with heap:=h',toks:=s.toks+1+1 }) :
  wpAny (model prog w) A (setAttr (.ref e) f v) Q E s:=by
 have l0:Looks (model prog w) s.heap (typeOf (.ref e)) (.ref C):=exc_looks he rfl
 refine wpAny_bind (wpAny_mkText (wpAny_bind (wpAny_bind (wpAny_bind (l0 _ _ _ _ (fun _ _ e=>e) (looks_findIn X T.sa _ _ _ _ (fun _ _ e=>e) (wpAny_holding ?_)))))))
 rw [PySem.F.store_object.slot.bind]
 refine wpAny_bind (wpAny_pure (wpAny_bind (wpAny_call ?_)))
 refine osaD (s:={ s with toks:=s.toks+1 }) X T he fun h' a b c=>?_
 exact wpAny_pure (wpAny_pure (h h' a b c))
end
end L2
namespace L2
open PySem PySem.Spec PyProof.Rows PySem.W PySem.Calls
def excInB (K:Frag) (C fI:Addr):Bool:=match K.lookup C with
 | some ⟨.type "type",_,.cls cd,sl⟩=>(match cd.mro,sl.toList with
  | .ref C' :: bm,[_,_,_,_,some (.builtin n),_]=>C' == C && n == "ValueError.__new__" && !cd.hasDel && tailIn K bmVE bm && nsOkIn K cd.ns && nsIn K cd.ns "__init__" == some (some (.ref fI))
  | _,_=>false)
 | _=>false
theorem ns_some_of {K:Frag} {h:Heap} {N:Addr} {mg:Str->Option Value} {n:Str} {v:Value} (X:K.In h) (G:h.Ns N mg) (e:nsIn K N n=some (some v)):mg n=some v:=by
 obtain ⟨o,es,ep,ho,hd,_,hf⟩:=G
 unfold nsIn at e
 split at e
 ·rename_i q
  have z:=(X _ _ q).symm.trans ho
  cases z
  cases hd
  split at e
  ·rename_i en fe
   have ev:en.val=v:=Option.some.inj (Option.some.inj e)
   rw [<- hf n,<- ev]
   show Option.map _ (Array.find? _ es)=_
   rw [<- Array.find?_toList,fe]
   rfl
  ·split at e <;> cases e
 ·cases e
theorem exc_objI {K:Frag} {h:Heap} {C fI:Addr} (X:K.In h) (q:excInB K C fI=true) :
  ∃ bm N nm qn bs hdct sn sub ab col dd k0 k1 k2 k3 k5 mN,h.get? C=some (excClassObj nm qn C N bs bm hdct sn sub ab col dd k0 k1 k2 k3 k5 "ValueError.__new__")/\h.Ns N mN/\mN "__init__"=some (.ref fI)/\OwnTail h bmVE bm:=by
 unfold excInB at q
 split at q
 ·rename_i dd cd sl ho
  split at q
  ·rename_i C' bm k0 k1 k2 k3 n k5 hm hs
   simp only [Bool.and_eq_true,beq_iff_eq,Bool.not_eq_true'] at q
   obtain ⟨⟨⟨⟨⟨c1,c2⟩,c3⟩,c4⟩,c5⟩,c6⟩:=q
   subst c1 c2
   obtain ⟨nm,bs,mro,ns,qn,hd,sn,sub,ab,col,del⟩:=cd
   dsimp only at hm c3 c5 c6
   subst hm c3
   obtain ⟨l⟩:=sl
   have hs':l=[k0,k1,k2,k3,some (.builtin "ValueError.__new__"),k5]:=hs
   subst hs'
   exact ⟨bm,ns,nm,qn,bs,hd,sn,sub,ab,col,dd,k0,k1,k2,k3,k5,_,X _ _ ho,.of_isNs (W.isNs_of_in X c5),ns_some_of X (.of_isNs (W.isNs_of_in X c5)) c6,W.tail_of_in X c4⟩
  ·cases q
 ·cases q
abbrev excNew (C t:Addr):Obj:={ cls:=.ref C,data:=.fields #[.ref t,.none,.none,.none,.bool false,.none] }
abbrev excLaid (C t dx:Addr):Obj:={ cls:=.ref C,dict:=some dx,data:=.fields #[.ref t,.none,.none,.none,.bool false,.none] }
section
variable {prog:Program} {w:World} {A:Around} {E:Value->Shared->Prop} {h:Heap} {g:Array GenState} {d:Drawn} {t:Nat} {os:OsState}
variable {nm q:Str} {C N:Addr} {bs bm:List Value} {hdct:Bool} {sn:List Str} {sub:List Value} {ab:Bool} {col:Option Bool} {dd:Option Addr} {k0 k1 k2 k3 k5:Option Value}
theorem type_initT (T:OwnTail h bmVE bm) {mN:Str->Option Value} {rest:List Value} {fI:Addr} {oI:Obj} {Q:Fin->Shared->Prop}
  (hC:h.get? C=some (excClassObj nm q C N bs bm hdct sn sub ab col dd k0 k1 k2 k3 k5 "ValueError.__new__")) (hn:h.Ns N mN) (hi:mN "__init__"=some (.ref fI)) (hfI:h.get? fI=some oI) (hfc:oI.cls=.type "function")
  (hq:wpAny (model prog w) A (call (.ref fI) (.ref (h.objs.size+1) :: rest)) (fun r s'=>r=.none/\Q (.done (.ret (.ref (h.objs.size+1)))) s') E
   ⟨(h.push { cls:=.type "tuple",data:=.seq rest.toArray }).push (excNew C h.objs.size),g,d,t,os⟩) (hrest:rest.length<=sizeLine) :
  wpAny (model prog w) A (Builtin.«type.__call__» ⟨.ref C :: rest,[]⟩) Q E ⟨h,g,d,t,os⟩:=by
 have BF:=PySem.F.excBase_ValueError
 have hB:bmVE.contains (.type "ValueError")=true:=by decide
 repeat (first | with_reducible refine wpAny_loadPart_at hC ?_ | with_reducible refine wpAny_madeBy_exc hC ?_ | wp_step)
 refine codeAny_call_builtin_code (Code.quiet_builtin _ BF.quiet) (wpAny_check_new_subU BF hB T hC (codeAny_exc_new_subU BF hB BF T hC ?_ hrest))
 show wpAny _ _ _ _ _ _
 have p1:∀ b o,h.get? b=some o->((h.push { cls:=.type "tuple",data:=.seq rest.toArray }).push (excNew C h.objs.size)).get? b=some o:=fun b o z=>Heap.get?_push_of_some _ (Heap.get?_push_of_some _ z)
 have C1:=p1 _ _ hC
 have f1:=p1 _ _ hfI
 have n1:((h.push { cls:=.type "tuple",data:=.seq rest.toArray }).push (excNew C h.objs.size)).Ns N mN:=let ⟨o,es,ep,z,r⟩:=hn; ⟨o,es,ep,p1 _ _ z,r⟩
 have g1:((h.push { cls:=.type "tuple",data:=.seq rest.toArray }).push (excNew C h.objs.size)).get? (h.objs.size+1)=some (excNew C h.objs.size):=by heap_get
 have cc:(Value.ref C :: bm).contains (.ref C)=true:=by simp
 have T1:=T.keeps p1
 unfold isInstance
 repeat (first | with_reducible refine wpAny_loadPart_at g1 ?_ | (with_reducible refine wpAny_isSubtype_exc C1 ?_; rw [cc]) | wp_step)
 show wpAny _ _ (typeLookup (.ref C) _) _ _ _
 refine wpAny_typeLookup_tail C1 n1 T1 BF.mroIs BF.init.lookup ?_
 rw [hi]
 refine wpAny_holding (wpAny_bind ?_)
 unfold bindSpecial
 refine wpAny_bind (wpAny_typeOf (T:="function") ⟨_,f1,hfc⟩ ?_)
 rw [if_pos (by decide)]
 refine wpAny_pure (wpAny_bind (wpAny_mono hq (fun r s' hr=>?_) fun _ _ x=>x))
 obtain ⟨rfl,z⟩:=hr
 wp_walk
 exact z
theorem call_initT (T:OwnTail h bmVE bm) {mN:Str->Option Value} {rest:List Value} {fI:Addr} {oI:Obj} {Q:Value->Shared->Prop}
  (hC:h.get? C=some (excClassObj nm q C N bs bm hdct sn sub ab col dd k0 k1 k2 k3 k5 "ValueError.__new__")) (hn:h.Ns N mN) (hi:mN "__init__"=some (.ref fI)) (hfI:h.get? fI=some oI) (hfc:oI.cls=.type "function")
  (hq:wpAny (model prog w) (A.under (.builtin "type.__call__" ⟨.ref C :: rest,[]⟩)) (call (.ref fI) (.ref (h.objs.size+1) :: rest)) (fun r s'=>r=.none/\Q (.ref (h.objs.size+1)) s') E
   ⟨(h.push { cls:=.type "tuple",data:=.seq rest.toArray }).push (excNew C h.objs.size),g,d,t,os⟩) (hrest:rest.length<=sizeLine) :
  wpAny (model prog w) A (call (.ref C) rest) Q E ⟨h,g,d,t,os⟩:=by
 have f1:=tc_lookup
 have f2:=tc_bind (.ref C)
 have hT:(⟨h,g,d,t,os⟩:Shared).TypeIs (.ref C) "type":=⟨_,hC,rfl⟩
 refine wpAny_call (codeAny_of_tree ?_)
 show wpAny _ _ (callAny (.ref C) _) _ _ _
 repeat (any_goals (first | assumption | with_reducible refine wpAny_loadPart_at hC ?_ | wp_step))
 refine ⟨rfl,codeAny_call_builtin_at (Code.quiet_builtin _ (by decide +kernel)) entry_typeCall (wpAny_check_type_call_sub hC (type_initT T hC hn hi hfI hfc ?_ hrest))⟩
 exact hq
theorem base_init (T:OwnTail h bmVE bm) {e a:Addr} {x:Value} {Q:Value->Shared->Prop} (hC:h.get? C=some (excClassObj nm q C N bs bm hdct sn sub ab col dd k0 k1 k2 k3 k5 "ValueError.__new__")) (he:h.get? e=some (excNew C a))
  (hq:∀ h',h'.get? e=some (excNew C h.objs.size)->(∀ b o,b ≠ e->h.get? b=some o->h'.get? b=some o)->Q .none ⟨h',g,d,t,os⟩) :
  wpAny (model prog w) A (call (.builtin "ValueError.__init__") [.ref e,x]) Q E ⟨h,g,d,t,os⟩:=by
 have BF:=PySem.F.excBase_ValueError
 refine wpAny_call (codeAny_call_builtin BF.init.plain BF.initEntry (wpAny_check_init_subU BF T hC he rfl ?_))
 wp_walk
 refine hq _ ?_ fun b o nb hb=>?_
 ·rw [Heap.get?_update_self _ (Heap.get?_push_of_some _ he) rfl]
  rfl
 ·rw [Heap.get?_update_other _ _ (Ne.symm nb)]
  exact Heap.get?_push_of_some _ hb
end
end L2
namespace L2
open PySem PySem.Spec PyProof.Rows PySem.W PySem.Calls
def ExcN (C e:Addr) (h:Heap):Prop:=∃ a,h.get? e=some (excNew C a)
def ExcL (C e dx:Addr) (h:Heap):Prop:=∃ a,h.get? e=some (excLaid C a dx)
theorem okN {P:Program} {w:World} {H:Hp} {h:Heap} {C e a:Addr} (he:h.get? e=some (excNew C a)):ObjOk P w H h e (.ext (ExcN C e)):=⟨⟨a,he⟩,⟨_,he⟩,fun _ _ ⟨b,z⟩ k=>⟨b,k _ z⟩⟩
theorem okL {P:Program} {w:World} {H:Hp} {h:Heap} {C e dx a:Addr} (he:h.get? e=some (excLaid C a dx)):ObjOk P w H h e (.ext (ExcL C e dx)):=⟨⟨a,he⟩,⟨_,he⟩,fun _ _ ⟨b,z⟩ k=>⟨b,k _ z⟩⟩
def tBI (K:Frag) (ta:TA):TE:=fun σ H Q=>ta σ H fun vs H1=>∃ e C fI x,vs=[.ref e,x]/\H1 e=some (.ext (ExcN C e))/\excInB K C fI=true/\Q .non (upd H1 e (.ext (ExcN C e)))
theorem callWith_B {M:Model} {A:Around} {K:Frag} {pos:Pos} {env:Env} {n:String} {first:List Value} {e:Expr} {rest:List Expr} {Q:Value->Shared->Prop} {E:Value->Shared->Prop} {s:Shared}
  (h:wpAny M A (spliced (backTo pos (starEach (e :: rest) env))) (fun vs s₁=>K.In s₁.heap/\wpAny M A (call (.builtin n) (first ++ vs)) Q E s₁) E s)
  (he:starEach (e :: rest) env=(false,eval e env) :: starEach rest env:=by rfl) (hplain:(backTo pos (starEach rest env)).any (·.1)=false:=by rfl) :
  wpAny M A (callWith pos (.builtin n) first (backTo pos (starEach (e :: rest) env)) []) Q E s:=by
 rw [he] at h ⊢
 exact W.callWith_of (by show ((false || (backTo pos (starEach rest env)).any (·.1)) || false)=false; rw [hplain]; rfl) (fun h (_:K.In h)=>⟨.machine,.inr (.inl rfl),.now⟩) (evalArgs_plain h)
section
variable {X:Cx}
theorem pe_baseInit {cn:Str} {B:Addr} {np ap pos:Pos} {a:Expr} {es:List Expr} {t:TA} {pl:Sem Bool} (hg:Gl X cn) (hm:X.mg cn=some (.ref B)) (h1:specialIn X.K (.ref B) "__getattribute__"=some (some (.builtin "type.__getattribute__")))
  (h2:readsIn X.K B (.type "type")=true) (h3:findCls X.K (.ref B) (.type "type") "__init__"=some (.val (.builtin "ValueError.__init__"))) (ha:PA X (a :: es) t)
  (hdb:(cn == ("__debug__":Str))=false:=by decide)
  (hst:starEach (a :: es) X.env=(false,eval a X.env) :: starEach es X.env:=by rfl) (hpl:(backTo pos (starEach es X.env)).any (·.1)=false:=by rfl)
  (ht:eval (.Call (.Attribute (.Name cn np) "__init__" ap) (a :: es) [] pos) X.env=(do
   let ov <- eval (.Name cn np) X.env
   standAt ap.atName
   let (f,first) <- holding [ov] (getMethod ov "__init__" pl)
   callWith pos f first (backTo pos (starEach (a :: es) X.env)) (backToKw pos (keywordEach [] X.env))):=by rfl) :
  PE X (.Call (.Attribute (.Name cn np) "__init__" ap) (a :: es) [] pos) (tBI X.K t):=by
 intro pins s σ H Q I h
 refine W.methodCall_KW (pl:=pl) (ld_glob I hg hm ?_ hdb) ht
 refine method_cls I.kIn h1 (cls_value I.kIn h2 h3 (by decide +kernel) ?_)
 have I':=I.tok (s.toks+1)
 refine callWith_B (K:=X.K) (first:=[]) (thn (ha pos pins _ σ H _ I' h) fun us s1 ⟨vs,H1,I1,r,q⟩=>⟨I1.kIn,?_⟩) hst hpl
 obtain ⟨e,C,fI,x,rfl,hH,hI,q⟩:=q
 obtain ⟨u1,u2,rfl,r1,r2⟩:=r.two
 obtain rfl:u1=Value.ref e:=r1
 obtain ⟨bm,Nn,nm,qn,bs,hdct,sn,sub,ab,col,dd,k0,k1,k2,k3,k5,mN,hC,hNs,hni,TL⟩:=exc_objI I1.kIn hI
 obtain ⟨⟨a0,he⟩,_,_⟩:=(show ObjOk X.prog X.w H1 s1.heap e (.ext (ExcN C e)) from I1.hok e _ hH)
 obtain ⟨hp,gs,dr,tk,os⟩:=s1
 show wpAny _ _ (call (.builtin "ValueError.__init__") [.ref e,u2]) _ _ _
 refine base_init TL hC he fun h' he' kp=>?_
 exact ⟨.non,_,I1.write (t':=tk) (x:=e) (e:=e) (by rw [hH]; exact True.intro) (.inl rfl) (fun b u nb z=>kp b u nb z) ⟨_,he'⟩ (okN he'),rfl,q⟩
def sXF (K:Frag) (ta tv:TE) (f:Str):TS:=fun D σ H=>tv σ H fun y H1=>ta σ H1 fun x H2=>∃ e C,x=.ref e/\H2 e=some (.ext (ExcN C e))/\ExcSet K C f/\∀ dx,H2 dx=none->D.nx σ (upd (upd H2 dx (.xd [(f,y)])) e (.ext (ExcL C e dx)))
theorem ps_excfld {o value:Expr} {f:Str} {pos pos':Pos} {ta tv:TE} (ha:PE X o ta) (hv:PE X value tv) (hs:swapsWith value (some (.Attribute o f pos')) pos.line X.env=pure false):PS X (.Assign [.Attribute o f pos'] value pos) (sXF X.K ta tv f):=by
 intro pins s σ H D I h
 refine plainObj_wpAny_Assign_Attribute (thn (hv pins s σ H _ I h) fun u s1 ⟨y,H1,I1,ry,q⟩=>thn (ha pins s1 σ H1 _ I1 q) fun ov s2 ⟨x,H2,I2,rx,e,C,ex,hH,T,q2⟩=>?_) hs
 subst ex
 obtain rfl:ov=Value.ref e:=rx
 obtain ⟨⟨a0,he⟩,_,_⟩:=(show ObjOk X.prog X.w H2 s2.heap e (.ext (ExcN C e)) from I2.hok e _ hH)
 refine setD I2.kIn T he fun h' he' ns kp=>?_
 obtain ⟨oD,es,ep,gD,dD⟩:=id ns
 have fr:H2 s2.heap.objs.size=none:=I2.hok.fresh (Nat.le_refl _)
 have ne:e ≠ s2.heap.objs.size:=Nat.ne_of_lt (Heap.lt_size he)
 have nfr:oD.isFreed=false:=by
  have:=(Heap.get?_some_iff.mp gD).2
  exact this
 have g1:(s2.heap.push oD).get? s2.heap.objs.size=some oD:=Heap.get?_push_size _ nfr
 have n1:(s2.heap.push oD).Ns1 s2.heap.objs.size (fun y=>if y=f then some u else none):=⟨oD,es,ep,g1,dD⟩
 have J:=I2.laid (a:=s2.heap.objs.size) (o:=.xd [(f,y)]) (h':=s2.heap.push oD) (t':=s2.toks) (fun b v z=>Heap.get?_push_of_some _ z) (Nat.le_refl _) ⟨_,n1,fun g=>by
  show RelO (List.lookup g [(f,y)]) (if g=f then some u else none)
  by_cases c:g=f
  ·subst c
   rw [if_pos rfl,List.lookup_cons_self]
   exact ry
  ·rw [if_neg c,List.lookup_cons]
   have:(g == f)=false:=by simpa using c
   rw [this]
   exact True.intro⟩
 have hH':(upd H2 s2.heap.objs.size (.xd [(f,y)])) e=some (.ext (ExcN C e)):=by rw [upd_ne ne]; exact hH
 have J2:=J.write (x:=e) (e:=e) (o:=.ext (ExcL C e s2.heap.objs.size)) (h':=h') (t':=s2.toks+1+1) (by rw [hH']; exact True.intro) (.inl rfl) (fun b v nb z=>by
  by_cases c:b=s2.heap.objs.size
  ·subst c
   have z':(s2.heap.push oD).get? s2.heap.objs.size=some v:=z
   rw [g1] at z'
   cases z'
   exact gD
  ·have z':(s2.heap.push oD).get? b=some v:=z
   rw [Heap.get?_push_ne _ _ _ c] at z'
   exact kp b v nb z') ⟨_,he'⟩ (okL he')
 exact ⟨σ,_,J2,q2 _ fr⟩
end
end L2
namespace L2
open PySem PySem.Spec PyProof.Rows PySem.W PySem.Calls
structure FlyX (P:Program) (w:World) (outer:List Env) (H:Hp) (s:Shared) (cls:Value) (dx ea:Addr) (B:Heap) (H':Hp) (s':Shared):Prop where
 os:s'.os=s.os
 bare:AllBare s'.gens
 un:Un (frs outer) [] H H' s.heap s'.heap
 hok:HOk P w H' s'.heap
 fly:FlyAt B outer ea cls (some dx) .none s'.heap
 frf:∀ b ∈ frs outer,H' b=none
 cov:∀ b o,s'.heap.get? b=some o->b ∉ frs outer->(H' b ≠ none\/∃ o',s.heap.get? b=some o')->B.get? b=some o
 he:H' ea=none
 hs:s.heap.get? ea=none
def XD (P:Program) (w:World):CXT:=fun outer H s E e s'=>∃ (ea:Addr) (cls:Value) (dx:Addr) (B:Heap) (H':Hp),e=.ref ea/\FlyX P w outer H s cls dx ea B H' s'/\E cls (some dx) H'
def without (H:Hp) (e:Addr):Hp:=fun b=>if b=e then none else H b
theorem without_ne {H:Hp} {e b:Addr} (h:b ≠ e):without H e b=H b:=if_neg h
theorem without_at {H:Hp} {e:Addr}:without H e e=none:=if_pos rfl
theorem without_some {H:Hp} {e b:Addr} {o:HO} (h:without H e b=some o):b ≠ e/\H b=some o:=by
 unfold without at h
 split at h
 ·cases h
 ·rename_i c; exact ⟨c,h⟩
section
variable {P:Program} {w:World} {K:W.Frag} {mg:Str->Option Value} {base:Heap} {N:List Str} {qual:Str} {scope:Scope} {f:Addr} {cd:Value} {A:Around} {outer:List Env} {s0 s1:Shared} {H0 H1:Hp} {E:XK}
 {pins:List (Addr × Obj)} {σ:St}
theorem raise_xeD {e C dx:Addr} (I:Inv (cxOf (XD P w) P w K mg base N qual scope f cd A outer s0 H0 E) pins σ H1 s1) (hH:H1 e=some (.ext (ExcL C e dx))) (h0:s0.heap.get? e=none) (hE:E (.ref C) (some dx) (without H1 e)) :
  (cxOf (XD P w) P w K mg base N qual scope f cd A outer s0 H0 E).xe (.ref e) s1:=by
 have st:s1.heap.FunFrames base (envOfC qual scope s0.heap.objs.size f cd :: outer):=I.stack
 have fz:∀ b ∈ frs (envOfC qual scope s0.heap.objs.size f cd :: outer),H1 b=none:=I.stkFree
 have sub:∀ b ∈ frs (envOfC qual scope s0.heap.objs.size f cd :: outer),b=(envOfC qual scope s0.heap.objs.size f cd).locals\/b ∈ frs outer:=fun b hb=>List.mem_cons.mp (I.stkSub b hb)
 have above:s0.heap.objs.size<=(envOfC qual scope s0.heap.objs.size f cd).locals:=I.ok.above
 have old:∀ b o,s0.heap.get? b=some o->b ∉ frs outer->b ∉ frs (envOfC qual scope s0.heap.objs.size f cd :: outer):=fun b o q nb z=>by
  rcases sub b z with z | z
  ·subst z
   exact absurd (Nat.lt_of_lt_of_le (Heap.lt_size q) above) (Nat.lt_irrefl _)
  ·exact nb z
 obtain ⟨⟨a,he⟩,_,_⟩:=(show ObjOk P w H1 s1.heap e (.ext (ExcL C e dx)) from I.hok e _ hH)
 show wpAny (model P w) (A.deeper (envOfC qual scope s0.heap.objs.size f cd)) (leaving (envOfC qual scope s0.heap.objs.size f cd) (.ref e)) _ _ _
 refine leaveFirstD (base:=W.hideAll s1.heap (e :: frs (envOfC qual scope s0.heap.objs.size f cd :: outer))) I.ok.frames (W.funFrames_hide st fun env' h' a ha=>List.mem_cons_of_mem _ (List.mem_filterMap.mpr ⟨env',h',ha⟩)) rfl he (fun b o q=>W.of_hideAll _ q) (W.hideAll_none _ (List.mem_cons_self ..)) rfl rfl rfl fun h'' fl ups=>?_
 have kept:∀ b o,s1.heap.get? b=some o->b ≠ e->b ∉ frs (envOfC qual scope s0.heap.objs.size f cd :: outer)->h''.get? b=some o:=fun b o q ne nb=>fl.stays b o (W.hideAll_get _ q fun z=>by
  rcases List.mem_cons.mp z with z | z
  ·exact ne z
  ·exact nb z)
 have u:Un (frs outer) [] H0 H1 s0.heap s1.heap:=I.base
 have u':Un (frs outer) [] H0 (without H1 e) s0.heap s1.heap:=⟨u.keep,u.slot,fun b o q n hx=>by
   by_cases c:b=e
   ·subst c; exact without_at
   ·rw [without_ne c]; exact u.free b o q n hx,u.there,fun b xs q=>by
   have z:=u.tups b xs q
   rw [without_ne fun c=>by subst c; rw [hH] at z; cases z]
   exact z,fun b o v q=>by
   have z:=u.frzs b o v q
   rw [without_ne fun c=>by subst c; rw [hH] at z; cases z]
   exact z,fun b ps q=>by
   obtain ⟨m,z⟩:=u.tbls b ps q
   exact ⟨m,by rw [without_ne fun c=>by subst c; rw [hH] at z; cases z]; exact z⟩⟩
 refine ⟨e,.ref C,dx,_,without H1 e,rfl,⟨I.os,I.bare,u'.onward (fun b o q nb old'=>?_) (fun b o q hb old'=>?_),fun c v hc=>?_,fl,fun b hb=>?_,fun b o q nb hc=>?_,without_at,h0⟩,hE⟩
 ·obtain ⟨o',q'⟩:=old'
  exact kept b o q (fun z=>by subst z; rw [h0] at q'; cases q') (old b o' q' nb)
 ·obtain ⟨_,o',ho',nf⟩:=st.mem (frs_tail hb)
  rw [q] at ho'; cases ho'
  exact ups b o q nf
 ·obtain ⟨ne,hc'⟩:=without_some hc
  have no:∀ b y,H1 b=some (.own y)->b ≠ e:=fun b y z c=>by subst c; rw [hH] at z; cases z
  refine (I.hok c v hc').stay (fun b o hb q=>?_) (fun b z=>by rw [without_ne (no b _ z)]; exact z) fun b xs z=>by
   rw [without_ne fun c=>by subst c; rw [hH] at z; cases z]
   exact z
  rcases hb with rfl | hb
  ·exact kept b o q ne fun z=>by rw [fz b z] at hc'; cases hc'
  ·exact kept b o q (no b _ hb) fun z=>by rw [fz b z] at hb; cases hb
 ·by_cases c:b=e
  ·subst c; exact without_at
  ·rw [without_ne c]; exact fz b (frs_tail hb)
 ·have key:∃ o1,s1.heap.get? b=some o1/\b ≠ e/\b ∉ frs (envOfC qual scope s0.heap.objs.size f cd :: outer):=by
   rcases hc with hc | ⟨o',q'⟩
   ·cases e1:without H1 e b with
    | none=>exact absurd e1 hc
    | some u1=>
     obtain ⟨ne,e2⟩:=without_some e1
     obtain ⟨o1,q1⟩:=(I.hok b u1 e2).there
     exact ⟨o1,q1,ne,fun z=>by rw [fz b z] at e2; cases e2⟩
   ·obtain ⟨o1,q1⟩:=u.there b o' q' (by simp)
    exact ⟨o1,q1,(fun z=>by subst z; rw [h0] at q'; cases q'),old b o' q' nb⟩
  obtain ⟨o1,q1,ne,n1⟩:=key
  have z:=kept b o1 q1 ne n1
  have q2:h''.get? b=some o:=q
  rw [q2] at z; cases z
  exact W.hideAll_get _ q1 fun z=>by
   rcases List.mem_cons.mp z with z | z
   ·exact ne z
   ·exact n1 z
theorem passD:Passes (XD P w) (cxOf (XD P w) P w K mg base N qual scope f cd A outer s0 H0 E) E:=by
 rintro pins σ H s e s' I ⟨ea,cls,dx,B,H',rfl,x,hE⟩
 have sub:∀ b ∈ frs (envOfC qual scope s0.heap.objs.size f cd :: outer),b=(envOfC qual scope s0.heap.objs.size f cd).locals\/b ∈ frs outer:=fun b hb=>List.mem_cons.mp (I.stkSub b hb)
 have above:s0.heap.objs.size<=(envOfC qual scope s0.heap.objs.size f cd).locals:=I.ok.above
 have oldT:∀ b o,s0.heap.get? b=some o->b ∈ frs (envOfC qual scope s0.heap.objs.size f cd :: outer)->b ∈ frs outer:=fun b o q z=>by
  rcases sub b z with z | z
  ·subst z
   exact absurd (Nat.lt_of_lt_of_le (Heap.lt_size q) above) (Nat.lt_irrefl _)
  ·exact z
 have x':FlyX P w (envOfC qual scope s0.heap.objs.size f cd :: outer) H s cls dx ea B H' s':=x
 have u0:Un (frs outer) [] H0 H s0.heap s.heap:=I.base
 have u:Un (frs outer) [] H0 H' s0.heap s'.heap:=u0.andThen x'.un oldT
 have h0:s0.heap.get? ea=none:=by
  cases q:s0.heap.get? ea with
  | none=>rfl
  | some o=>
   obtain ⟨o1,q1⟩:=u0.there ea o q (by simp)
   rw [x'.hs] at q1; cases q1
 show wpAny (model P w) (A.deeper (envOfC qual scope s0.heap.objs.size f cd)) (leaving (envOfC qual scope s0.heap.objs.size f cd) (.ref ea)) _ _ _
 refine leaveNextD I.ok.frames rfl x'.fly fun h' fl ups=>?_
 have kept:∀ b o,s'.heap.get? b=some o->b ∉ frs (envOfC qual scope s0.heap.objs.size f cd :: outer)->(H' b ≠ none\/∃ o',s.heap.get? b=some o')->h'.get? b=some o:=fun b o q nb hc=>fl.stays b o (x'.cov b o q nb hc)
 refine ⟨ea,cls,dx,B,H',rfl,⟨x'.os.trans I.os,x'.bare,u.onward (fun b o q nb old'=>?_) (fun b o q hb old'=>?_),x'.hok.onward fun b o hb q=>kept b o q (fun z=>hb (x'.frf b z)) (.inl hb),fl,fun b hb=>x'.frf b (frs_tail hb),fun b o q nb hc=>?_,x'.he,h0⟩,hE⟩
 ·obtain ⟨o',q'⟩:=old'
  obtain ⟨o1,q1⟩:=u0.there b o' q' (by simp)
  exact kept b o q (fun z=>nb (oldT b o' q' z)) (.inr ⟨o1,q1⟩)
 ·obtain ⟨_,o',ho',nf⟩:=x'.fly.frm.mem (frs_tail hb)
  rw [q] at ho'; cases ho'
  exact ups b o q nf
 ·have key:∃ o1,s'.heap.get? b=some o1/\b ∉ frs (envOfC qual scope s0.heap.objs.size f cd :: outer)/\(H' b ≠ none\/∃ o',s.heap.get? b=some o'):=by
   rcases hc with hc | ⟨o',q'⟩
   ·cases e1:H' b with
    | none=>exact absurd e1 hc
    | some u1=>
     obtain ⟨o1,q1⟩:=(x'.hok b u1 e1).there
     exact ⟨o1,q1,fun z=>hc (x'.frf b z),.inl (by rw [e1] at hc; exact hc)⟩
   ·obtain ⟨o1,q1⟩:=u.there b o' q' (by simp)
    obtain ⟨o2,q2⟩:=u0.there b o' q' (by simp)
    exact ⟨o1,q1,fun z=>nb (oldT b o' q' z),.inr ⟨o2,q2⟩⟩
  obtain ⟨o1,q1,n1,c1⟩:=key
  have z:=kept b o1 q1 n1 c1
  have q2:h'.get? b=some o:=q
  rw [q2] at z; cases z
  exact x'.cov b _ q1 n1 c1
theorem Fun.okD {x qual:Str} {st:Stmt} {f:Addr} {fd:FuncData} {N ps:List Str} {k:Nat} {sp:Sp} (F:Fun K x qual st f fd) (S:FnScope N ps (defScope st)) (len:∀ vs H Q E,sp vs H Q E->vs.length=ps.length)
  (hbody:∀ (cdv:Value) (A:Around) (outer:List Env) (s:Shared) (H:Hp) (vs:List V) (Q:VK) (E:XK),Room k (A.deeper (envOfC qual (defScope st) s.heap.objs.size f cdv))->sp vs H Q E ->
   ∃ t,PSs (cxOf (XD P w) P w K mg base N qual (defScope st) f cdv A outer s H E) (defBody st) t/\t { nx:=fun _ H'=>Q .non H',rt:=Q } (start N vs) H):FnOk P w K mg base (XD P w) (k+1) f fd ps sp:=by
 obtain ⟨oc,od,kV,doc,pm,an,cdv,ct,osl,rfl,lk,hcd⟩:=F.ex
 exact fn_of lk hcd S len fun A outer s H vs Q E hr hsp=>hbody cdv A outer s H vs Q E hr hsp
end
structure MkX (K:Frag) (C fI:Addr):Prop where
 ex:excInB K C fI=true
 fn:isFn K (.ref fI)=true
section
variable {X:Cx} {CX:CXT} {k:Nat} {fI C:Addr} {fd:FuncData} {ps:List Str} {sp:Sp} {E:XK}
theorem run_excmake {pins:List (Addr × Obj)} {σ:St} {H:Hp} {s:Shared} {us:List Value} {vs:List V} {QQ:Addr->Hp->Prop} (M:MkX X.K C fI) (F:FnOk X.prog X.w X.K X.mg X.base CX k fI fd ps sp) (hr:Room (k+1) X.A) (hb:Binds X.K fd ps [])
  (hx:Passes CX X E) (I:Inv X pins σ H s) (r:Vals vs us) (hz:us.length<=sizeLine)
  (h:∀ e,H e=none->sp (.ref e :: vs) (upd H e (.ext (ExcN C e))) (fun v H2=>v=.non/\QQ e H2) E) :
  wpAny (model X.prog X.w) X.A (call (.ref C) us) (fun v s'=>∃ e H',v=.ref e/\Inv X pins σ H' s'/\s.heap.get? e=none/\QQ e H') X.xe s:=by
 obtain ⟨bm,Nn,nm,qn,bs,hdct,sn,sub,ab,col,dd,k0,k1,k2,k3,k5,mN,hC,hNs,hni,TL⟩:=exc_objI I.kIn M.ex
 have ty:typeIn X.K (.ref fI)=some (.type "function"):=beq_iff_eq.mp M.fn
 obtain ⟨oI,lk,hfc⟩:∃ oI,X.K.lookup fI=some oI/\oI.cls=.type "function":=by
  have ty':(X.K.lookup fI).map (·.cls)=some (.type "function"):=ty
  cases q:X.K.lookup fI with
  | none=>rw [q] at ty'; cases ty'
  | some oI=>rw [q] at ty'; exact ⟨oI,rfl,Option.some.inj ty'⟩
 have hfI:=I.kIn _ _ lk
 have hq:=h (s.heap.objs.size+1) (I.hok.fresh (Nat.le_succ _))
 have nn:s.heap.get? (s.heap.objs.size+1)=none:=Heap.get?_none_of_le (Nat.le_succ _)
 have g1:((s.heap.push { cls:=.type "tuple",data:=.seq us.toArray }).push (excNew C s.heap.objs.size)).get? (s.heap.objs.size+1)=some (excNew C s.heap.objs.size):=by heap_get
 have I2:=I.laid (a:=s.heap.objs.size+1) (o:=.ext (ExcN C (s.heap.objs.size+1))) (h':=(s.heap.push { cls:=.type "tuple",data:=.seq us.toArray }).push (excNew C s.heap.objs.size)) (t':=s.toks)
  (fun b u q=>Heap.get?_push_of_some _ (Heap.get?_push_of_some _ q)) (Nat.le_succ _) (okN g1)
 have r2:Vals (V.ref (s.heap.objs.size+1) :: vs) (Value.ref (s.heap.objs.size+1) :: us):=.cons rfl r
 have hl:(Value.ref (s.heap.objs.size+1) :: us).length=ps.length:=by
  have e:=r2.length
  rw [F.len _ _ _ _ hq] at e
  exact e.symm
 have hb':=hb { s with heap:=(s.heap.push { cls:=.type "tuple",data:=.seq us.toArray }).push (excNew C s.heap.objs.size) } (Value.ref (s.heap.objs.size+1) :: us) I2.kIn (by rw [List.append_nil]; exact hl)
 rw [List.append_nil] at hb'
 obtain ⟨hp,gs,dr,tk,os⟩:=s
 refine call_initT TL hC hNs hni hfI hfc ?_ hz
 refine wpAny_call (codeAny_mono (F.run _ X.stack _ _ ⟨Value.ref (hp.objs.size+1) :: us,[]⟩ (Value.ref (hp.objs.size+1) :: us) _ _ E (hr.make C us []) (I2.env0.make C us []) hb' r2 hq) fun rr s' hq'=>?_)
 cases rr with
 | error e=>exact hx pins σ _ _ e s' I2 hq'
 | ok fl=>
  cases fl with
  | ret u=>
   obtain ⟨v,H',I3,rv,ev,q3⟩:=I2.after hq'
   subst ev
   exact ⟨rv,_,H',rfl,I3,nn,q3⟩
  | next=>exact False.elim hq'
  | brk=>exact False.elim hq'
  | cont=>exact False.elim hq'
end
end L2
namespace L2
open PySem PySem.Spec PyProof.Rows PySem.W PySem.Calls
section
variable {M:Model} {A:Around} {E:Value->Shared->Prop} {s:Shared} {env:Env}
variable {nm q:Str} {C N:Addr} {bs bm:List Value} {hdct:Bool} {sn:List Str} {sub:List Value} {ab:Bool} {col:Option Bool} {dd:Option Addr} {k0 k1 k2 k3 k5:Option Value}
theorem raise_laid {x:Sem Value} {Q:Flow->Shared->Prop} (hB:bm.contains (.type "BaseException")=true) (hh:A.handled=none)
  (h:wpAny M A x (fun v s1=>∃ e t dx,v=.ref e/\s1.heap.get? C=some (excClassObj nm q C N bs bm hdct sn sub ab col dd k0 k1 k2 k3 k5 "ValueError.__new__")/\s1.heap.get? e=some (excLaid C t dx)/\E (.ref e) s1) E s) :
  wpAny M A (raiseStmt env (some x) none) Q E s:=by
 have cB:(Value.ref C :: bm).contains (.type "BaseException")=true:=by rw [List.contains_cons,hB,Bool.or_true]
 unfold raiseStmt
 refine wpAny_bind (wpAny_mono h (fun v s1 z=>?_) fun _ _ y=>y)
 obtain ⟨e,t,dx,rfl,hC,he,hE⟩:=z
 obtain ⟨hp,g,d,tk,os⟩:=s1
 repeat (first | with_reducible refine wpAny_loadPart_at he ?_ | with_reducible refine wpAny_loadPart_at hC ?_ | (with_reducible refine wpAny_isSubtype_exc hC ?_; rw [cB]) | wp_step)
 exact wpAny_raiseNew_none hh hE
end
section
variable {prog:Program} {w:World} {A:Around} {E:Value->Shared->Prop} {s:Shared} {env:Env}
variable {nm q:Str} {C N:Addr} {bs bm:List Value} {hdct:Bool} {sn:List Str} {sub:List Value} {ab:Bool} {col:Option Bool} {dd:Option Addr} {k0 k1 k2 k3 k5:Option Value}
theorem Raise_laid {x:Str} {np cpos pos:Pos} {args:List Expr} {Q:Flow->Shared->Prop} (hB:bm.contains (.type "BaseException")=true) (hh:A.handled=none) (hp:(backTo cpos (starEach args env)).any (·.1)=false)
  (h:wpAny (model prog w) A (eval (.Name x np) env) (fun f s1=>f=.ref C/\wpAny (model prog w) A (evalArgs (.ref C) true (backTo cpos (starEach args env)) [])
   (fun a s2=>a.kw=[]/\s2.heap.get? C=some (excClassObj nm q C N bs bm hdct sn sub ab col dd k0 k1 k2 k3 k5 "ValueError.__new__") /\
    wpAny (model prog w) A (call (.ref C) a.pos) (fun v s3=>∃ e t dx,v=.ref e/\s3.heap.get? C=some (excClassObj nm q C N bs bm hdct sn sub ab col dd k0 k1 k2 k3 k5 "ValueError.__new__")/\s3.heap.get? e=some (excLaid C t dx)/\E (.ref e) s3) E s2) E s1) E s) :
  wpAny (model prog w) A (exec (.Raise (some (.Call (.Name x np) args [] cpos)) none pos) env) Q E s:=by
 rw [arm_exec_Raise]
 first
  | refine wpAny_bind (wpAny_standAt (raise_laid (C:=C) (nm:=nm) (q:=q) (N:=N) (bs:=bs) (bm:=bm) (hdct:=hdct) (sn:=sn) (sub:=sub) (ab:=ab) (col:=col) (dd:=dd) (k0:=k0) (k1:=k1) (k2:=k2) (k3:=k3) (k5:=k5) hB hh (wpAny_bind (wpAny_mono (wpAny_Call_ofName (wpAny_mono h (fun f s1 z=>?_) fun _ _ y=>y)) (fun v s3 z=>wpAny_bind (wpAny_standAt (wpAny_pure z))) fun _ _ y=>y))))
  | (simp only [evalOpt,Option.map]; refine wpAny_bind (wpAny_standAt (raise_laid (C:=C) (nm:=nm) (q:=q) (N:=N) (bs:=bs) (bm:=bm) (hdct:=hdct) (sn:=sn) (sub:=sub) (ab:=ab) (col:=col) (dd:=dd) (k0:=k0) (k1:=k1) (k2:=k2) (k3:=k3) (k5:=k5) hB hh (wpAny_bind (wpAny_mono (wpAny_Call_ofName (wpAny_mono h (fun f s1 z=>?_) fun _ _ y=>y)) (fun v s3 z=>wpAny_bind (wpAny_standAt (wpAny_pure z))) fun _ _ y=>y)))))
  | (refine wpAny_bind (wpAny_standAt (raise_laid (C:=C) (nm:=nm) (q:=q) (N:=N) (bs:=bs) (bm:=bm) (hdct:=hdct) (sn:=sn) (sub:=sub) (ab:=ab) (col:=col) (dd:=dd) (k0:=k0) (k1:=k1) (k2:=k2) (k3:=k3) (k5:=k5) hB hh ?_)); refine wpAny_bind (wpAny_mono (wpAny_Call_ofName (wpAny_mono h (fun f s1 z=>?_) fun _ _ y=>y)) (fun v s3 z=>wpAny_bind (wpAny_standAt (wpAny_pure z))) fun _ _ y=>y))
 obtain ⟨rfl,z⟩:=z
 unfold callWith
 refine wpAny_bind (wpAny_holding (wpAny_mono z (fun a s2 z2=>wpAny_bind (wpAny_standAt ?_)) fun _ _ y=>y))
 obtain ⟨ap,ak⟩:=a
 obtain ⟨hk,hC,z3⟩:=z2
 obtain rfl:ak=[]:=hk
 obtain ⟨hp',g,d,tk,os⟩:=s2
 simp only [hp]
 refine wpAny_bind (wpAny_keeperOf_exc hC ?_)
 refine wpAny_bind (wpAny_mono z3 (fun v s3 z4=>wpAny_bind (wpAny_holding (wpAny_point (wpAny_pure ?_)))) fun _ _ y=>y)
 exact z4
end
def tRaiseD (C:Addr) (sp:Sp) (E:XK) (ta:TA):TS:=fun _ σ H=>ta σ H fun vs H1=>vs.length<=sizeLine/\∀ e,H1 e=none->sp (.ref e :: vs) (upd H1 e (.ext (ExcN C e))) (fun v H2=>v=.non/\∃ dx,H2 e=some (.ext (ExcL C e dx))/\E (.ref C) (some dx) (without H2 e)) E0
section
variable {P:Program} {w:World} {K:W.Frag} {mg:Str->Option Value} {base:Heap} {N:List Str} {qual:Str} {scope:Scope} {f:Addr} {cd:Value} {A:Around} {outer:List Env} {s0:Shared} {H0:Hp} {E:XK}
 {x:Str} {C fI:Addr} {np cpos pos:Pos} {e:Expr} {es:List Expr} {t:TA} {k:Nat} {fd:FuncData} {ps:List Str} {sp:Sp}
theorem ps_raiseD (M:MkX K C fI) (F:FnOk P w K mg base CX0 k fI fd ps sp) (hr:Room (k+1) (cxOf (XD P w) P w K mg base N qual scope f cd A outer s0 H0 E).A) (hb:Binds K fd ps []) (hm:mg x=some (.ref C)) (hg:Gl (cxOf (XD P w) P w K mg base N qual scope f cd A outer s0 H0 E) x)
  (ha:PA (cxOf (XD P w) P w K mg base N qual scope f cd A outer s0 H0 E) (e :: es) t) (hdb:(x == ("__debug__":Str))=false:=by decide)
  (he:starEach (e :: es) (cxOf (XD P w) P w K mg base N qual scope f cd A outer s0 H0 E).env=(false,eval e (cxOf (XD P w) P w K mg base N qual scope f cd A outer s0 H0 E).env) :: starEach es (cxOf (XD P w) P w K mg base N qual scope f cd A outer s0 H0 E).env:=by rfl)
  (hpl:(backTo cpos (starEach es (cxOf (XD P w) P w K mg base N qual scope f cd A outer s0 H0 E).env)).any (·.1)=false:=by rfl) :
  PS (cxOf (XD P w) P w K mg base N qual scope f cd A outer s0 H0 E) (.Raise (some (.Call (.Name x np) (e :: es) [] cpos)) none pos) (tRaiseD C sp E t):=by
 intro pins s σ H D I h
 obtain ⟨bm,Nn,nm,qn,bs,hdct,sn,sub,ab,col,dd,k0,k1,k2,k3,k5,mN,hC,hN,hni,TL⟩:=exc_objI I.mod.kin M.ex
 have hpl':(backTo cpos (starEach (e :: es) (cxOf (XD P w) P w K mg base N qual scope f cd A outer s0 H0 E).env)).any (·.1)=false:=by
  rw [he]
  show (false || (backTo cpos (starEach es _)).any (·.1))=false
  rw [hpl]
  rfl
 refine Raise_laid (C:=C) (nm:=nm) (q:=qn) (N:=Nn) (bs:=bs) (bm:=bm) (hdct:=hdct) (sn:=sn) (sub:=sub) (ab:=ab) (col:=col) (dd:=dd) (k0:=k0) (k1:=k1) (k2:=k2) (k3:=k3) (k5:=k5)
  (TL.hasType PySem.F.excBase_ValueError.hasBase) (I.ok.hd rfl) hpl' (ld_glob I hg hm ⟨rfl,?_⟩ hdb)
 have h2:=ha cpos pins s σ H _ I h
 rw [he] at h2 ⊢
 refine Calls.evalArgs_plain (wpAny_mono h2 (fun us s1 ⟨vs,H1,I1,r,z,q⟩=>⟨rfl,I1.bk _ _ hC,?_⟩) fun _ _ y=>y)
 have xe0:Passes CX0 (cxOf (XD P w) P w K mg base N qual scope f cd A outer s0 H0 E) E0:=pass0
 refine wpAny_mono (run_excmake (QQ:=fun e H2=>∃ dx,H2 e=some (.ext (ExcL C e dx))/\E (.ref C) (some dx) (without H2 e)) M F hr hb xe0 I1 r (by rw [<- r.length]; exact z) q) (fun v s3 z3=>?_) fun _ _ y=>y
 obtain ⟨e',H',rfl,I3,nn,dx,hH,hE⟩:=z3
 obtain ⟨⟨a,hl⟩,_,_⟩:=(show ObjOk P w H' s3.heap e' (.ext (ExcL C e' dx)) from I3.hok e' _ hH)
 have h0:s0.heap.get? e'=none:=by
  cases q0:s0.heap.get? e' with
  | none=>rfl
  | some o=>
   have u0:Un (frs outer) [] H0 H1 s0.heap s1.heap:=I1.base
   obtain ⟨o1,q1⟩:=u0.there e' o q0 (by simp)
   rw [nn] at q1; cases q1
 exact ⟨e',a,dx,rfl,I3.bk _ _ hC,hl,raise_xeD I3 hH h0 hE⟩
end
end L2
namespace L2
open PySem PySem.Spec PyProof.Rows PySem.W PySem.Calls
section
variable {X:Cx} {pins:List (Addr × Obj)} {σ:St} {H H':Hp} {s s':Shared} {cls:Value} {ea C dx:Addr} {B h':Heap} {t':Nat}
theorem FlyX.unF (x:FlyX X.prog X.w X.stack H s cls dx ea B H' s') (k:B.StaysIn h') (ups:s'.heap.UpToSlots h'):Un (frs X.stack) [] H H' s.heap h':=
 x.un.onward (fun b o q nb old=>k b o (x.cov b o q nb (.inr old))) fun b o q hb old=>by
  obtain ⟨_,o',ho',nf⟩:=x.fly.frm.mem hb
  rw [q] at ho'; cases ho'
  exact ups b o q nf
theorem FlyX.hokF (x:FlyX X.prog X.w X.stack H s cls dx ea B H' s') (k:B.StaysIn h'):HOk X.prog X.w H' h':=
 x.hok.onward fun b o hb q=>k b o (x.cov b o q (fun z=>hb (x.frf b z)) (.inl hb))
theorem Inv.landed0 (I:Inv X pins σ H s) (x:FlyX X.prog X.w X.stack H s cls dx ea B H' s') (k:B.StaysIn h') (ups:s'.heap.UpToSlots h'):Inv X pins σ H' { s' with heap:=h',toks:=t' }:=
 I.call' (s':={ s' with heap:=h',toks:=t' }) (ch:=[]) x.os (x.unF k ups) (x.hokF k) x.bare fun b z=>absurd z (by simp)
theorem okD {P:Program} {w:World} {H:Hp} {h:Heap} {C e dx:Addr} (he:ExcD C e dx h):ObjOk P w H h e (.ext (ExcD C e dx)):=⟨he,let ⟨o,a,_⟩:=he; ⟨o,a⟩,fun _ _ ⟨o,a,b⟩ k=>⟨o,k _ a,b⟩⟩
end
def tTryTup (sp:Sp) (C:Addr) (c:Str) (iy i:Nat) (ta:TA) (ts:TS):TS:=fun D σ H=>ta σ H fun vs H1=>sp vs H1 (fun v H2=>∀ p,H2 p=none->D.nx (σ.set iy (some (.ref p))) (upd H2 p (.tup [.str c,v])))
 fun cls od H2=>∃ dx,od=some dx/\cls=.ref C/\∀ e,H2 e=none->ts (asEnds D i) (σ.set i (some (.ref e))) (upd H2 e (.ext (ExcD C e dx)))
section
variable {X:Cx} {k:Nat} {f C fI:Addr} {fd:FuncData} {ps:List Str} {sp:Sp} {g x n y c:Str} {p pos pos3 np hpos yp cp tp ap:Pos} {e:Expr} {es:List Expr} {t:TA} {ts:TS} {b₀:Stmt} {suite:List Stmt} {i iy:Nat} {cj tk}
end
def tXFld (K:Frag) (ta:TE) (f:Str):TE:=fun σ H Q=>ta σ H fun x H1=>∃ e C dx fs v,x=.ref e/\H1 e=some (.ext (ExcD C e dx))/\H1 dx=some (.xd fs)/\ExcFld K C f/\fs.lookup f=some v/\Q v H1
inductive TyY (K:W.Frag) (H:Hp):V->Value->Prop where
 | of {x:V} {t:Value} (h:TyX K H x t):TyY K H x t
 | exc {e C dx:Addr} (T:ExcCls K C) (h:H e=some (.ext (ExcD C e dx))):TyY K H (.ref e) (.ref C)
def rIsiY (K:W.Frag):List V->Hp->VK->Prop:=fun xs H Q=>∃ x c t b,xs=[x,c]/\((∃ a,c=.ref a)\/∃ n,c=.ty n)/\TyY K H x t/\W.kitOne K t (valOf c)=some b/\Q (.bl b) H
end L2
namespace L2
open PySem PySem.Spec PyProof.Rows PySem.W PySem.Calls
def HasI (P:Program) (w:World) (K:W.Frag) (mg:Str->Option Value) (base:Heap) (k:Nat) (f:Addr) (ps:List Str) (sp:Sp):Prop:=∃ fd:FuncData,FnOk P w K mg base CX0 k f fd ps sp/\Binds K fd ps []
def spIni (C:Addr) (f:Str):Sp:=fun vs H Q _=>∃ (e:Addr) (v:V),vs=[.ref e,v]/\H e=some (.ext (ExcN C e))/\∀ (dx:Addr) (H':Hp),H' e=some (.ext (ExcL C e dx))->H' dx=some (.xd [(f,v)])->(∀ b o,b ≠ e->H b=some o->H' b=some o)->Q .non H'
def spAloneD (C:Addr):Sp:=fun vs H Q _=>∃ e dx,vs=[.ref e]/\H e=some (.ext (ExcD C e dx))/\∀ H',Same H H'->Q (.bl true) H'
end L2
namespace L2
open PySem PySem.Spec PyProof.Rows
def StillH (A:Around) (H:Hp):Prop:=A.handled=none\/∃ e o u vs,A.handled=some (.ref e)/\H e=some (.frz o u)/\o.data=.fields vs/\vs[2]?=some .none
theorem Inv.stH {X:Cx} {pins:List (Addr × Obj)} {σ:St} {H:Hp} {s:Shared} (I:Inv X pins σ H s) (hc:X.still=true):StillH X.A H:=by
 rcases I.ok.hs hc with z | ⟨e,o,u,vs,hh,hm,r⟩
 ·exact .inl z
 ·exact .inr ⟨e,o,u,vs,hh,I.fzs _ hm,r⟩
theorem StillH.list {A:Around} {H:Hp} (h:StillH A H):∃ fz:List (Addr × Obj × HO),(∀ p ∈ fz,H p.1=some (.frz p.2.1 p.2.2))/\(A.handled=none\/∃ e o u vs,A.handled=some (.ref e)/\(e,o,u) ∈ fz/\o.data=.fields vs/\vs[2]?=some .none):=by
 rcases h with z | ⟨e,o,u,vs,hh,hm,r⟩
 ·exact ⟨[],(fun _ hp=>nomatch hp),.inl z⟩
 ·refine ⟨[(e,o,u)],fun p hp=>?_,.inr ⟨e,o,u,vs,hh,List.mem_singleton.mpr rfl,r⟩⟩
  rw [List.mem_singleton.mp hp]
  exact hm
structure FnOkS (P:Program) (w:World) (K:W.Frag) (mg:Str->Option Value) (base:Heap) (k:Nat) (f:Addr) (fd:FuncData) (ps:List Str) (sp:Sp):Prop where
 len:∀ vs H Q E,sp vs H Q E->vs.length=ps.length
 run:∀ (A:Around) (outer:List Env) (s:Shared) (H:Hp) (args:Args) (us:List Value) (vs:List V) (Q:VK) (E:XK),RoomQ k A->StillH A H->Env0 P w K mg base A outer s H->BindsTo s fd args (ps.zip us)->Vals vs us->sp vs H Q E ->
  codeAny (model P w) A (.call (.ref f) args) (CR CX0 outer P w H s Q E) s
def HasS (P:Program) (w:World) (K:W.Frag) (mg:Str->Option Value) (base:Heap) (k:Nat) (x:Str) (ps:List Str) (sp:Sp):Prop:=
 ∃ (f:Addr) (fd:FuncData),FnOkS P w K mg base k f fd ps sp/\Binds K fd ps []/\W.keepIn K (.ref f)=true/\mg x=some (.ref f)
def cxS (P:Program) (w:World) (K:W.Frag) (mg:Str->Option Value) (base:Heap) (N:List Str) (qual:Str) (scope:Scope) (f:Addr) (cd:Value) (A:Around) (outer:List Env) (s:Shared) (H:Hp) (fz:List (Addr × Obj × HO)):Cx:=
 { cxOf CX0 P w K mg base N qual scope f cd A outer s H E0 with calm:=false,fz:=fz,xe:=fun _ _=>False }
theorem inv_startS {P:Program} {w:World} {K:W.Frag} {mg:Str->Option Value} {base:Heap} {N ps:List Str} {qual:Str} {scope:Scope} {f:Addr} {cd:Value} {A:Around} {outer:List Env} {s s1:Shared} {H:Hp} {us:List Value} {vs:List V} {fz:List (Addr × Obj × HO)}
  (S:FnScope N ps scope) (e0:Env0 P w K mg base A outer s H) (hl:vs.length=ps.length) (r:Vals vs us) (hz:∀ p ∈ fz,H p.1=some (.frz p.2.1 p.2.2)) (hs:A.handled=none\/∃ e o u vs,A.handled=some (.ref e)/\(e,o,u) ∈ fz/\o.data=.fields vs/\vs[2]?=some .none)
  (x:InCallC s s.heap.objs.size (bindL (envOfC qual scope s.heap.objs.size f cd).kindOf (ps.zip us) fun _=>none) (cellsFrom (s.heap.objs.size+1) scope.names []) (bindC (envOfC qual scope s.heap.objs.size f cd).kindOf (ps.zip us) fun _=>none) s1) :
  Inv (cxS P w K mg base N qual scope f cd A outer s H fz) [] (start N vs) H s1:=by
 have e1:Env0 P w K mg base { A with handled:=none } outer s H:=⟨e0.frames,e0.mod,e0.bs,e0.bsz,e0.funs,e0.frf,e0.hok,e0.bare⟩
 have J:=inv_start (CX:=CX0) (E:=E0) (A:={ A with handled:=none }) S rfl e1 hl r x
 have ok:=J.ok
 exact ⟨⟨ok.mod,ok.kind,ok.glob,ok.blt,ok.above,ok.inj,ok.has,ok.cab,(fun h=>by cases h),(fun _=>hs),(show (A.deeper _).frames=some (_ :: outer) from Around.frames_deeper e0.frames),ok.stk,ok.exf,ok.bs,ok.bsz,ok.noex,ok.exfs,ok.funs,ok.frf⟩,
  hz,J.os,J.bare,J.base,J.loc,J.cell,J.free,J.freeC,J.pin,J.hok,J.len⟩
theorem fn_ofS {P:Program} {w:World} {K:W.Frag} {mg:Str->Option Value} {base:Heap} {k:Nat} {f:Addr} {name qual:Str} {params:Arguments} {body:List Stmt} {scope:Scope} {dV kV doc pm cdv ct oc:Value} {an od:Option Addr}
  {osl:Array (Option Value)} {N ps:List Str} {sp:Sp} (lk:K.lookup f=some ⟨oc,od,.func (W.fnOf name qual params body scope dV kV doc pm an cdv ct),osl⟩) (hcd:W.codeIn K cdv qual=true) (S:FnScope N ps scope)
  (len:∀ vs H Q E,sp vs H Q E->vs.length=ps.length)
  (hbody:∀ (A:Around) (outer:List Env) (s:Shared) (H:Hp) (fz:List (Addr × Obj × HO)) (vs:List V) (Q:VK) (E:XK),RoomQ k (A.deeper (envOfC qual scope s.heap.objs.size f cdv))->sp vs H Q E ->
   ∃ t,PSs (cxS P w K mg base N qual scope f cdv A outer s H fz) body t/\t { nx:=fun _ H'=>Q .non H',rt:=Q } (start N vs) H) :
  FnOkS P w K mg base (k+1) f (W.fnOf name qual params body scope dV kV doc pm an cdv ct) ps sp:=by
 refine ⟨len,fun A outer s H args us vs Q E hr hst e0 hb r hsp=>?_⟩
 obtain ⟨fz,hz,hs⟩:=hst.list
 have hl:=len _ _ _ _ hsp
 have KX:K.In s.heap:=e0.mod.kin.keeps fun b o e=>(e0.bs b o e).1
 have lim:s.heap.NoLimit:=e0.mod.nolimit.keeps fun b o e=>(e0.bs b o e).1
 have hkind:∀ y ∈ ps.zip us,scope.names.lookup y.1=some .local\/(scope.names.lookup y.1=some .cell/\((cellsFrom (s.heap.objs.size+1) scope.names []).lookup y.1).isSome=true):=fun ⟨n,v⟩ hy=>by
  rcases S.par n (List.of_mem_zip hy).1 with q | q
  ·exact .inl q
  ·exact .inr ⟨q,W.cellsFrom_some _ _ _ (.inl q)⟩
 have hdep:A.depth < recursionLimit:=by have:=hr.dp; omega
 refine codeAny_call_function hdep (KX _ _ lk) rfl S.co S.gen rfl (W.codeRec_of KX hcd) (hb _ _ _ _ ?_)
 refine wpAny_newFunctionEnv_cells S.kind hkind fun env he s1 x=>?_
 subst he
 refine ⟨lim.keeps x.toInCall.keep,codeAny_func ?_⟩
 obtain ⟨t,ht,hq⟩:=hbody A outer s H fz vs Q E (hr.deeper _) hsp
 have I:Inv (cxS P w K mg base N qual scope f cdv A outer s H fz) [] (start N vs) H s1:=inv_startS S e0 hl r hz hs x
 refine wpAny_mono (ht [] s1 (start N vs) H _ I hq) (fun fl s' hs=>?_) fun e s' hs=>False.elim hs
 have fin:∀ {σ':St} {H':Hp} {v:V} {u:Value},Inv (cxS P w K mg base N qual scope f cdv A outer s H fz) [] σ' H' s'->RelV v u->Q v H'->CE outer P w H s Q u s':=
  fun {σ' H' v u} J rv q=>⟨v,H',J.os,J.bare,J.base,J.hok,rv,q⟩
 cases fl with
 | ret u=>
  obtain ⟨v,σ',H',J,rv,q⟩:=hs
  exact fin J rv q
 | next=>
  obtain ⟨σ',H',J,q⟩:=hs
  exact fin (v:=V.non) (u:=Value.none) J rfl q
 | brk=>
  obtain ⟨_,_,_,q⟩:=hs
  exact False.elim q
 | cont=>
  obtain ⟨_,_,_,q⟩:=hs
  exact False.elim q
section
variable {P:Program} {w:World} {K:W.Frag} {mg:Str->Option Value} {base:Heap}
theorem Fun.okS {x qual:Str} {st:Stmt} {f:Addr} {fd:FuncData} {N ps:List Str} {k:Nat} {sp:Sp} (F:Fun K x qual st f fd) (S:FnScope N ps (defScope st)) (len:∀ vs H Q E,sp vs H Q E->vs.length=ps.length)
  (hbody:∀ (cdv:Value) (A:Around) (outer:List Env) (s:Shared) (H:Hp) (fz:List (Addr × Obj × HO)) (vs:List V) (Q:VK) (E:XK),RoomQ k (A.deeper (envOfC qual (defScope st) s.heap.objs.size f cdv))->sp vs H Q E ->
   ∃ t,PSs (cxS P w K mg base N qual (defScope st) f cdv A outer s H fz) (defBody st) t/\t { nx:=fun _ H'=>Q .non H',rt:=Q } (start N vs) H):FnOkS P w K mg base (k+1) f fd ps sp:=by
 obtain ⟨oc,od,kV,doc,pm,an,cdv,ct,osl,rfl,lk,hcd⟩:=F.ex
 exact fn_ofS lk hcd S len fun A outer s H fz vs Q E hr hsp=>hbody cdv A outer s H fz vs Q E hr hsp
end
section
variable {X:Cx} {k:Nat} {f:Addr} {fd:FuncData} {ps:List Str} {sp:Sp} {dvs:List V} {ds:List Value} {x:Str} {p pos:Pos} {e:Expr} {es:List Expr} {t:TA}
theorem pe_callS (F:FnOkS X.prog X.w X.K X.mg X.base k f fd ps sp) (hr:RoomQ k X.A) (hc:X.still=true) (hg:Gl X x) (hm:X.mg x=some (.ref f)) (hk:W.keepIn X.K (.ref f)=true) (hb:Binds X.K fd ps ds) (hd:Vals dvs ds)
  (ha:PA X (e :: es) t) (hdb:(x == ("__debug__":Str))=false:=by decide) (he:starEach (e :: es) X.env=(false,eval e X.env) :: starEach es X.env:=by rfl) (hpl:(backTo pos (starEach es X.env)).any (·.1)=false:=by rfl) :
  PE X (.Call (.Name x p) (e :: es) [] pos) (tCall sp dvs E0 t):=by
 intro pins s σ H Q I h
 refine wpAny_Call_Name_kw (ld_glob I hg hm ?_ hdb)
 refine W.callWith_K (h₀:=X.base) I.ok.mod.kin hk (thn (ha pos pins s σ H _ I h) fun us s1 ⟨vs,H1,I1,r,q⟩=>⟨I1.kIn,?_⟩) he hpl
 have r2:Vals (vs ++ dvs) (us ++ ds):=r.append hd
 have hl:(us ++ ds).length=ps.length:=by rw [<- r2.length]; exact F.len _ _ _ _ q
 refine wpAny_call (codeAny_mono (F.run X.A X.stack s1 H1 ⟨us,[]⟩ (us ++ ds) (vs ++ dvs) Q E0 hr (I1.stH hc) I1.env0 (hb s1 us I1.kIn hl) r2 q) fun r s' hq=>?_)
 cases r with
 | error e=>exact False.elim hq
 | ok fl=>
  cases fl with
  | ret u=>exact I1.after hq
  | next=>exact False.elim hq
  | brk=>exact False.elim hq
  | cont=>exact False.elim hq
end
abbrev Cx.markS (X:Cx) (e:Addr) (o:Obj) (u:HO):Cx:={ X with A:=X.A.mark (some (.ref e)),calm:=false,still:=true,fz:=(e,o,u) :: X.fz,xe:=fun _ _=>False }
section
variable {X:Cx} {pins:List (Addr × Obj)} {σ:St} {H H':Hp} {s s':Shared} {e:Addr} {o:Obj} {u:HO} {vs:Array Value}
theorem Inv.markS (I:Inv X pins σ H s) (h:H e=some (.frz o u)) (hd:o.data=.fields vs) (h2:vs[2]?=some .none):Inv (X.markS e o u) pins σ H s:=
 have ok:=I.ok
 ⟨⟨ok.mod,ok.kind,ok.glob,ok.blt,ok.above,ok.inj,ok.has,ok.cab,(fun h=>by cases h),(fun _=>.inr ⟨e,o,u,vs,rfl,List.mem_cons_self ..,hd,h2⟩),ok.frames,ok.stk,ok.exf,ok.bs,ok.bsz,ok.noex,ok.exfs,ok.funs,ok.frf⟩,
  fun p hp=>(List.mem_cons.mp hp).elim (fun z=>by rw [z]; exact h) (I.fzs p),I.os,I.bare,I.base,I.loc,I.cell,I.free,I.freeC,I.pin,I.hok,I.len⟩
theorem Inv.unmarkS (ok:X.Ok) (I:Inv (X.markS e o u) pins σ H s):Inv X pins σ H s:=⟨ok,fun p hp=>I.fzs p (List.mem_cons_of_mem _ hp),I.os,I.bare,I.base,I.loc,I.cell,I.free,I.freeC,I.pin,I.hok,I.len⟩
end
end L2
namespace L2
open PySem PySem.Spec PyProof.Rows PySem.W PySem.Calls
def Mat (P:Program) (w:World) (K:Frag) (C D:Addr) (b:Bool):Prop:=∀ (A:Around) (h:Heap) (g:Array GenState) (d:Drawn) (t:Nat) (os:OsState) (ea:Addr) (ob:Obj) (Q:Bool->Shared->Prop) (E:Value->Shared->Prop),
 K.In h->h.get? ea=some ob->ob.cls=.ref C->Q b ⟨h,g,d,t,os⟩->wpAny (model P w) A (excMatches (.ref ea) (.ref D)) Q E ⟨h,g,d,t,os⟩
theorem mat_self {P:Program} {w:World} {K:Frag} {C fI:Addr} (hq:excInB K C fI=true):Mat P w K C C true:=by
 intro A h g d t os ea ob Q E X hob hc q
 obtain ⟨bm,Nn,nm,qn,bs,hdct,sn,sub,ab,col,dd,k0,k1,k2,k3,k5,mN,hC,hNs,hni,TL⟩:=exc_objI X hq
 exact wpAny_excMatches_sub_self hC hob hc (TL.hasType PySem.F.excBase_ValueError.hasBase) q
theorem mat_selfF {P:Program} {w:World} {K:Frag} {C:Addr} (hq:W.excIn K C bmVE "ValueError.__new__"=true):Mat P w K C C true:=by
 intro A h g d t os ea ob Q E X hob hc q
 obtain ⟨bm,Nn,nm,qn,bs,hdct,sn,sub,ab,col,dd,k0,k1,k2,k3,k5,mN,hC,hNs,hni,TL⟩:=exc_obj X hq
 exact wpAny_excMatches_sub_self hC hob hc (TL.hasType PySem.F.excBase_ValueError.hasBase) q
section
variable {X:Cx} {pins:List (Addr × Obj)} {σ:St} {H H':Hp} {s s':Shared} {cls:Value} {ea C dx:Addr} {B h':Heap} {t':Nat}
theorem Inv.landedS (I:Inv X pins σ H s) (x:FlyX X.prog X.w X.stack H s (.ref C) dx ea B H' s') {l:List Env} {fl:Value} (f2:FlyAt B l ea (.ref C) (some dx) fl h') (ups:s'.heap.UpToSlots h') :
  ∃ (oe:Obj) (vs:Array Value),oe.data=.fields vs/\vs[2]?=some .none/\Inv X pins σ (upd H' ea (.frz oe (.ext (ExcD C ea dx)))) { s' with heap:=h',toks:=t' }:=by
 obtain ⟨oe,vs,_,_,_,he,⟨hc,hx⟩,hd,_,h2,_⟩:=f2.tr
 have at_:ExcD C ea dx h':=⟨oe,he,hc,hx,by unfold W.notCls; rw [hd]⟩
 exact ⟨oe,vs,hd,h2,I.call' (s':={ s' with heap:=h',toks:=t' }) (ch:=[]) x.os ((x.unF f2.stays ups).more x.hs x.he) ((x.hokF f2.stays).more x.he ⟨he,okD at_⟩) x.bare fun b z=>absurd z (by simp)⟩
theorem handle_S {D:Ends} {ts:TS} {x n:Str} {np hpos:Pos} {b₀:Stmt} {suite:List Stmt} {rest:List ExceptHandler} {i:Nat} {Dc:Addr} (I:Inv X pins σ H s) (fly:FlyX X.prog X.w X.stack H s (.ref C) dx ea B H' s') (hst:X.stack=X.env :: X.outer) (hf:X.env.frame=some X.env.locals)
  (hm:X.mg x=some (.ref Dc)) (hg:Gl X x) (hmat:Mat X.prog X.w X.K C Dc true) (hN:X.N.Nodup) (hi:X.N[i]?=some n) (hk:X.env.scope.names.lookup n=some .local)
  (hsu:∀ o u,PSs (X.markS ea o u) (b₀ :: suite) ts) (h:∀ o,ts (asEnds D i) (σ.set i (some (.ref ea))) (upd H' ea (.frz o (.ext (ExcD C ea dx))))) (hdb:(x == ("__debug__":Str))=false) :
  wpAny (model X.prog X.w) X.A (noteFrame (.ref ea) X.env) (fun _ s₂=>wpAny (model X.prog X.w) X.A (setFlight (.ref ea) none) (fun _ s₃=>
   wpAny (model X.prog X.w) X.A (handleBy (.ref ea) X.env (.ExceptHandler (some (.Name x np)) (some n) (b₀ :: suite) hpos :: rest)) (SP X pins D) X.xe s₃) X.xe s₂) X.xe s':=by
 obtain ⟨hp,gs,dr,tk,os⟩:=s'
 have fr:X.A.frames=some (X.env :: X.outer):=by rw [<- hst]; exact I.ok.frames
 have fl:FlyAt B (X.env :: X.outer) ea (.ref C) (some dx) .none hp:=by rw [<- hst]; exact fly.fly
 refine noteNextD fr hf fl fun h4 held4 u4=>?_
 refine landD held4 fun h5 fl5 u5=>?_
 have I5:Inv X pins σ H' ⟨h5,gs,dr,tk,os⟩:=I.landed0 (t':=tk) fly fl5.stays (u4.trans u5)
 obtain ⟨ob,hob,hobc,_⟩:=fl5.there
 refine wpAny_handleBy_cons (codeAny_handlers_test (ld_glob (I5.marked ea) hg hm ?_ hdb)) (by intro q; cases q)
 refine hmat _ _ _ _ _ _ _ _ _ _ I5.kIn hob hobc ?_
 refine codeAny_handlers_suite_as ?_
 refine landD fl5 fun h6 fl6 u6=>?_
 obtain ⟨oe,vs,hd,h2,I6⟩:=I.landedS (t':=tk) fly fl6 ((u4.trans u5).trans u6)
 refine store_ok (X:=X.markS ea oe (.ext (ExcD C ea dx))) (i:=i) (v:=.ref ea) (I6.markS upd_same hd h2) hN hi (.inl hk) rfl (fun s7 I7=>?_) (.inr hk)
 refine wpAny_mono (hsu _ _ pins s7 _ _ _ I7 (h oe)) (fun fw s8 q=>?_) fun _ _ z=>False.elim z
 cases fw with
 | next=>
  obtain ⟨σ2,H2,J,q⟩:=q
  exact unbind_ok (J.unmarkS I.ok) hN hi hk fun s9 J9=>⟨_,_,J9,q⟩
 | ret v=>
  obtain ⟨v',σ2,H2,J,r,q⟩:=q
  exact unbind_ok (J.unmarkS I.ok) hN hi hk fun s9 J9=>⟨v',_,_,J9,r,q⟩
 | brk=>
  obtain ⟨σ2,H2,J,q⟩:=q
  exact unbind_ok (J.unmarkS I.ok) hN hi hk fun s9 J9=>⟨_,_,J9,q⟩
 | cont=>
  obtain ⟨σ2,H2,J,q⟩:=q
  exact unbind_ok (J.unmarkS I.ok) hN hi hk fun s9 J9=>⟨_,_,J9,q⟩
end
def tTryD (sp:Sp) (C:Addr) (i:Nat) (ta:TA) (ts:TS):TS:=fun D σ H=>ta σ H fun vs H1=>sp vs H1 (fun _ H2=>D.nx σ H2)
 fun cls od H2=>∃ dx,od=some dx/\cls=.ref C/\∀ e o,H2 e=none->ts (asEnds D i) (σ.set i (some (.ref e))) (upd H2 e (.frz o (.ext (ExcD C e dx))))
section
variable {X:Cx} {k:Nat} {f C Dc:Addr} {fd:FuncData} {ps:List Str} {sp:Sp} {g x n:Str} {p pos pos2 pos3 np hpos:Pos} {e:Expr} {es:List Expr} {t:TA} {ts:TS} {b₀:Stmt} {suite:List Stmt} {i:Nat}
end
def tXFldS (K:Frag) (ta:TE) (f:Str):TE:=fun σ H Q=>ta σ H fun x H1=>∃ e C dx fs v,x=.ref e/\Rd H1 e (.ext (ExcD C e dx))/\H1 dx=some (.xd fs)/\ExcFld K C f/\fs.lookup f=some v/\Q v H1
theorem pe_xfldS {X:Cx} {e:Expr} {f:Str} {pos:Pos} {ta:TE} (K:W.Frag) (he:PE X e ta) (hb:attributeBase e f X.env (eval e X.env)=eval e X.env:=by rfl) (hK:X.K=K:=by rfl):PE X (.Attribute e f pos) (tXFldS K ta f):=by
 subst hK
 intro pins s σ H Q I h
 refine attr_of hb (thn (he pins s σ H _ I h) fun u s1 ⟨x,H1,I1,rx,ea,C,dx,fs,v,ex,h1,h2,T,l,q⟩=>?_)
 subst ex
 obtain rfl:u=Value.ref ea:=rx
 obtain ⟨at_,_,_⟩:=h1.ok I1.hok
 obtain ⟨mA,ns,r⟩:=(show ObjOk X.prog X.w H1 s1.heap dx (.xd fs) from I1.hok dx _ h2)
 obtain ⟨u,hu,ru⟩:=RelO.some_of (v:=v) (o:=mA f) (by rw [<- l]; exact r f)
 exact own_field I1.kIn T at_ ns.ns hu (W.handedOut_of (handed_of ru)) ⟨v,H1,I1.tok _,ru,q⟩
inductive TyS (K:W.Frag) (H:Hp):V->Value->Prop where
 | of {x:V} {t:Value} (h:TyX K H x t):TyS K H x t
 | exc {e C dx:Addr} (T:ExcCls K C) (h:Rd H e (.ext (ExcD C e dx))):TyS K H (.ref e) (.ref C)
def rIsiS (K:W.Frag):List V->Hp->VK->Prop:=fun xs H Q=>∃ x c t b,xs=[x,c]/\((∃ a,c=.ref a)\/∃ n,c=.ty n)/\TyS K H x t/\W.kitOne K t (valOf c)=some b/\Q (.bl b) H
theorem call_isiS {X:Cx} {K:W.Frag} (hK:X.K=K):CallR X (.builtin "isinstance") (rIsiS K):=by
 subst hK
 intro pins s σ H xs us Q I rv h
 obtain ⟨x,c,t,b,rfl,hc,ty,e,q⟩:=h
 cases ty with
 | of ty=>exact call_isi pins s σ H _ us Q I rv ⟨x,c,t,b,rfl,hc,ty,e,q⟩
 | @exc ea C dx T he=>
  obtain ⟨u,uc,rfl,ru,rc⟩:=rv.two
  have huc:uc=valOf c:=by
   rcases hc with ⟨a,rfl⟩ | ⟨n,rfl⟩
   ·exact rc
   ·exact rc
  subst huc
  have ru':u=Value.ref ea:=ru
  subst ru'
  obtain ⟨p,_,_⟩:=he.ok I.hok
  exact W.kia_one (kitx_exc T) I.kIn p.exc e (fun z=>nomatch z) fun tk=>⟨.bl b,H,I.tok tk,rfl,q⟩
end L2
namespace L2
open PySem PySem.Spec PyProof.Rows PySem.W PySem.Calls
def XB (P:Program) (w:World):CXT:=fun outer H s E e s'=>XD P w outer H s E e s'\/XF P w outer H s E e s'
theorem FnOk.up {P:Program} {w:World} {K:Frag} {mg:Str->Option Value} {base:Heap} {CX CX':CXT} {k:Nat} {f:Addr} {fd:FuncData} {ps:List Str} {sp:Sp} (F:FnOk P w K mg base CX k f fd ps sp) (hi:∀ outer H s E e s',CX outer H s E e s'->CX' outer H s E e s'):FnOk P w K mg base CX' k f fd ps sp:=
 ⟨F.len,fun A outer s H args us vs Q E hr e0 hb hv hs=>codeAny_mono (F.run A outer s H args us vs Q E hr e0 hb hv hs) fun r s' h=>by
  cases r with
  | ok fl=>cases fl <;> exact h
  | error e=>exact hi _ _ _ _ _ _ h⟩
section
variable {P:Program} {w:World} {K:W.Frag} {mg:Str->Option Value} {base:Heap} {N:List Str} {qual:Str} {scope:Scope} {f:Addr} {cd:Value} {A:Around} {outer:List Env} {s0:Shared} {H0:Hp} {E:XK} {CX CX':CXT} {st:Stmt} {t:TS}
theorem PS.up (h:PS (cxOf CX P w K mg base N qual scope f cd A outer s0 H0 E) st t) (hi:∀ outer H s E e s',CX outer H s E e s'->CX' outer H s E e s'):PS (cxOf CX' P w K mg base N qual scope f cd A outer s0 H0 E) st t:=fun pins s σ H D I hw=>
 wpAny_mono (h pins s σ H D (I.wish _) hw) (fun _ _ q=>q.unwish) fun e s' z=>wpAny_mono z (fun _ s'' y=>hi _ _ _ _ _ _ y) fun e' s'' y=>hi _ _ _ _ _ _ y
theorem passB:Passes (XB P w) (cxOf (XB P w) P w K mg base N qual scope f cd A outer s0 H0 E) E:=by
 rintro pins σ H s e s' I (h | h)
 ·have z:=passD (E:=E) pins σ H s e s' (I.wish _) h
  exact wpAny_mono z (fun _ s'' y=>.inl y) fun e' s'' y=>.inl y
 ·have z:=passX (E:=E) pins σ H s e s' (I.wish _) h
  exact wpAny_mono z (fun _ s'' y=>.inr y) fun e' s'' y=>.inr y
theorem Fun.okB {x qual:Str} {st:Stmt} {f:Addr} {fd:FuncData} {N ps:List Str} {k:Nat} {sp:Sp} (F:Fun K x qual st f fd) (S:FnScope N ps (defScope st)) (len:∀ vs H Q E,sp vs H Q E->vs.length=ps.length)
  (hbody:∀ (cdv:Value) (A:Around) (outer:List Env) (s:Shared) (H:Hp) (vs:List V) (Q:VK) (E:XK),Room k (A.deeper (envOfC qual (defScope st) s.heap.objs.size f cdv))->sp vs H Q E ->
   ∃ t,PSs (cxOf (XB P w) P w K mg base N qual (defScope st) f cdv A outer s H E) (defBody st) t/\t { nx:=fun _ H'=>Q .non H',rt:=Q } (start N vs) H):FnOk P w K mg base (XB P w) (k+1) f fd ps sp:=by
 obtain ⟨oc,od,kV,doc,pm,an,cdv,ct,osl,rfl,lk,hcd⟩:=F.ex
 exact fn_of lk hcd S len fun A outer s H vs Q E hr hsp=>hbody cdv A outer s H vs Q E hr hsp
end
theorem tail_of_mro {K:Frag} {h:Heap} {C:Addr} {v:Value} (X:K.In h) (q:W.excIn K C bmVE "ValueError.__new__"=true) (em:W.mroIn K C v=some false) :
  ∃ bm N nm qn bs hdct sn sub ab col dd k0 k1 k2 k3 k5,h.get? C=some (excClassObj nm qn C N bs bm hdct sn sub ab col dd k0 k1 k2 k3 k5 "ValueError.__new__")/\(Value.ref C :: bm).contains v=false:=by
 unfold W.excIn at q
 split at q
 ·rename_i dd cd sl ho
  split at q
  ·rename_i C' bm k0 k1 k2 k3 n k5 hm hs
   have hin:cd.mro.contains v=false:=by
    unfold W.mroIn W.clsIn at em
    rw [ho] at em
    obtain ⟨cd',a,b⟩:=Option.bind_eq_some_iff.mp em
    cases a
    split at b
    ·cases b
    ·exact Option.some.inj b
   rw [hm] at hin
   simp only [Bool.and_eq_true,beq_iff_eq,Bool.not_eq_true'] at q
   obtain ⟨⟨⟨⟨⟨c1,c2⟩,c3⟩,c4⟩,c5⟩,c6⟩:=q
   subst c1 c2
   obtain ⟨nm,bs,mro,ns,qn,hd,sn,sub,ab,col,del⟩:=cd
   dsimp only at hm c3 c5 c6
   subst hm c3
   obtain ⟨l⟩:=sl
   have hs':l=[k0,k1,k2,k3,some (.builtin "ValueError.__new__"),k5]:=hs
   subst hs'
   exact ⟨bm,ns,nm,qn,bs,hd,sn,sub,ab,col,dd,k0,k1,k2,k3,k5,X _ _ ho,hin⟩
  ·cases q
 ·cases q
section
variable {M:Model} {A:Around} {E:Value->Shared->Prop}
variable {nm q nm' q':Str} {C N D N':Addr} {bs bm bs' bm':List Value} {hdct hdct':Bool} {sn sn':List Str} {sub sub':List Value} {ab ab':Bool} {col col':Option Bool} {dd dd':Option Addr} {k0 k1 k2 k3 k5 j0 j1 j2 j3 j5:Option Value} {newId newId':String}
theorem excMatches_not {h:Heap} {g:Array GenState} {d:Drawn} {t:Nat} {os:OsState} {e:Addr} {oe:Obj} {Q:Bool->Shared->Prop}
  (hC:h.get? C=some (excClassObj nm q C N bs bm hdct sn sub ab col dd k0 k1 k2 k3 k5 newId)) (hD:h.get? D=some (excClassObj nm' q' D N' bs' bm' hdct' sn' sub' ab' col' dd' j0 j1 j2 j3 j5 newId')) (he:h.get? e=some oe) (hcls:oe.cls=.ref C)
  (hbase:bm'.contains (.type "BaseException")=true) (hcC:(Value.ref C :: bm).contains (.ref D)=false)
  (hq:Q false ⟨h,g,d,t,os⟩):wpAny M A (excMatches (.ref e) (.ref D)) Q E ⟨h,g,d,t,os⟩:=by
 have hcB:(Value.ref D :: bm').contains (.type "BaseException")=true:=by rw [List.contains_cons,hbase,Bool.or_true]
 have f:=tc_notTuple
 unfold excMatches
 repeat (first | (with_reducible refine wpAny_loadPart_at he ?_; rw [hcls]) | with_reducible refine wpAny_loadPart_at hD ?_ | with_reducible refine wpAny_loadPart_at hC ?_ | (with_reducible refine wpAny_isSubtype_exc hD ?_; rw [hcB]) | (with_reducible refine wpAny_isSubtype_exc hC ?_; rw [hcC]) | wp_step)
 exact hq
end
theorem mat_no {P:Program} {w:World} {K:Frag} {C D fI:Addr} (hq:W.excIn K C bmVE "ValueError.__new__"=true) (hqD:excInB K D fI=true) (hcd:W.mroIn K C (.ref D)=some false):Mat P w K C D false:=by
 intro A h g d t os ea ob Q E X hob hc q
 obtain ⟨bm,Nn,nm,qn,bs,hdct,sn,sub,ab,col,dd,k0,k1,k2,k3,k5,hC,hin⟩:=tail_of_mro X hq hcd
 obtain ⟨bm',Nn',nm',qn',bs',hdct',sn',sub',ab',col',dd',j0,j1,j2,j3,j5,mN',hD,hNs',hni',TL'⟩:=exc_objI X hqD
 exact excMatches_not hC hD hob hc (TL'.hasType PySem.F.excBase_ValueError.hasBase) hin q
section
variable {X:Cx} {pins:List (Addr × Obj)} {σ:St} {H H':Hp} {s s':Shared} {cls a0:Value} {ea C:Addr} {B h':Heap} {t':Nat}
end
def tTry2 (sp:Sp) (C1 C2:Addr) (iy i:Nat) (ta:TA) (ts1 ts2:TS):TS:=fun D σ H=>ta σ H fun vs H1=>sp vs H1 (fun v H2=>D.nx (σ.set iy (some v)) H2)
 fun cls od H2=>(∃ dx,od=some dx/\cls=.ref C1/\∀ e o,H2 e=none->ts1 (asEnds D i) (σ.set i (some (.ref e))) (upd H2 e (.frz o (.ext (ExcD C1 e dx)))))\/(od=none/\cls=.ref C2/\∀ e,H2 e=none->ts2 (asEnds D i) (σ.set i (some (.ref e))) (upd H2 e (.ext (ExcAt C2 e))))
section
variable {X:Cx} {k:Nat} {f C1 C2 fI:Addr} {fd:FuncData} {ps:List Str} {sp:Sp} {g x1 x2 n y:Str} {p pos pos3 np1 hpos1 np2 hpos2 yp ap:Pos} {e:Expr} {es:List Expr} {t:TA} {ts1 ts2:TS} {b1 b2:Stmt} {su1 su2:List Stmt} {i iy:Nat}
end
end L2
namespace L2
open PySem PySem.Spec PyProof.Rows PySem.W PySem.Calls
def tTryU (sp:Sp) (C1 C2 C3:Addr) (iy i:Nat) (ta:TA) (ts1 ts2:TS):TS:=fun D σ H=>ta σ H fun vs H1=>sp vs H1 (fun v H2=>D.nx (σ.set iy (some v)) H2)
 fun cls od H2=>(∃ dx,od=some dx/\cls=.ref C1/\∀ e o,H2 e=none->ts1 (asEnds D i) (σ.set i (some (.ref e))) (upd H2 e (.frz o (.ext (ExcD C1 e dx)))))\/(od=none/\∃ C,(C=C2\/C=C3)/\cls=.ref C/\∀ e,H2 e=none->ts2 (asEnds D i) (σ.set i (some (.ref e))) (upd H2 e (.ext (ExcAt C e))))
section
variable {X:Cx} {k:Nat} {f C1 C2 C3 Dc fI:Addr} {fd:FuncData} {ps:List Str} {sp:Sp} {g x n y:Str} {p pos pos3 np hpos yp ap:Pos} {e:Expr} {es:List Expr} {t:TA} {ts1 ts2:TS} {b₀:Stmt} {suite:List Stmt} {i iy:Nat}
end
def Cau (H:Hp) (e C:Addr):Prop:=(∃ dx,Rd H e (.ext (ExcD C e dx)))\/H e=some (.ext (ExcAt C e))
theorem Cau.ty {K:W.Frag} {H:Hp} {e C:Addr} (h:Cau H e C) (T:ExcCls K C):TyS K H (.ref e) (.ref C):=h.elim (fun ⟨_,r⟩=>.exc T r) fun r=>.of (.exc T r)
theorem Rd.same {H H':Hp} {e:Addr} {u:HO} (h:Rd H e u) (g:Same H H'):Rd H' e u:=h.elim (fun r=>.inl (g _ _ r)) fun ⟨o,r⟩=>.inr ⟨o,g _ _ r⟩
theorem Cau.same {H H':Hp} {e C:Addr} (h:Cau H e C) (g:Same H H'):Cau H' e C:=h.elim (fun ⟨dx,r⟩=>.inl ⟨dx,r.same g⟩) fun r=>.inr (g _ _ r)
def tIsiS (C0:Addr) (bs:List Bool):TA:=fun σ H Q=>∃ a,σ[0]?=some (some (V.ref a))/\Cau H a C0/\Q (bs.map V.bl) H
theorem pa_isiS {X:Cx} {C0:Addr} (T:ExcCls X.K C0) (h1:X.N[0]?=some ("_law_e":Str)) (h2:Vis X.env.scope "_law_e") (h3:Gl X "isinstance") (h4:X.mg "isinstance"=none) (hb:bootBuiltins "isinstance"=some (.builtin "isinstance")) {es:List Expr} {bs:List Bool} (h:IsiE X C0 es bs):PA X es (tIsiS C0 bs):=by
 induction h with
 | nil=>
  intro pos pins s σ H Q I q
  obtain ⟨a,e1,e2,q⟩:=q
  exact pa_nil pos pins s σ H Q I q
 | @cons x C b p p2 p3 p4 es bs h5 h6 h7 k h ih=>
  intro pos pins s σ H Q I q
  obtain ⟨a,e1,e2,q⟩:=q
  have z:=pa_cons (e:=.Call (.Name "isinstance" p) [.Name "_law_e" p2,.Name x p3] [] p4) (pe_callB (call_isiS rfl) h3 h4 hb (pa_cons (pv 0 h1 h2) (pa_cons (pe_glob (v:=V.ref C) h5 h6 rfl h7) pa_nil))) ih
  exact z pos pins s σ H Q I ⟨_,e1,_,_,_,_,rfl,.inl ⟨_,rfl⟩,e2.ty T,k,a,e1,e2,q⟩
end L2
namespace L2
open PySem PySem.Spec PyProof.Rows PySem.W PySem.Calls
abbrev TB:=(Hp->Prop)->XK->St->Hp->Prop
def PTry (X:Cx) (sts:List Stmt) (t:TB):Prop:=∀ (pins:List (Addr × Obj)) (s:Shared) (σ:St) (H:Hp) (N:Hp->Prop) (EX:XK),Inv X pins σ H s->t N EX σ H ->
 wpAny (model X.prog X.w) X.A (execs sts X.env) (fun fl s'=>fl=.next/\∃ H',Inv X pins σ H' s'/\N H') (fun ex s'=>∃ s1 H1,Inv X pins σ H1 s1/\XB X.prog X.w X.stack H1 s1 EX ex s') s
section
variable {X:Cx} {k:Nat} {f:Addr} {fd:FuncData} {ps:List Str} {sp:Sp} {g:Str} {p pos pos2:Pos} {e:Expr} {es:List Expr} {ta:TA}
theorem ptry_call (F:FnOk X.prog X.w X.K X.mg X.base (XB X.prog X.w) k f fd ps sp) (hr:Room k X.A) (hgf:Gl X g) (hmf:X.mg g=some (.ref f)) (hkf:W.keepIn X.K (.ref f)=true) (hb:Binds X.K fd ps []) (ha:PA X.nox (e :: es) ta)
  (hdf:(g == ("__debug__":Str))=false:=by decide) (he:starEach (e :: es) X.env=(false,eval e X.env) :: starEach es X.env:=by rfl) (hpl:(backTo pos (starEach es X.env)).any (·.1)=false:=by rfl)
  (hsw:swapsWith (.Call (.Name g p) (e :: es) [] pos) none pos2.line X.env=pure false:=by rfl) :
  PTry X [.Expr (.Call (.Name g p) (e :: es) [] pos) pos2] (fun N EX σ H=>ta σ H fun vs H1=>sp vs H1 (fun _ H2=>N H2) EX):=by
 intro pins s σ H N EX I h
 refine wpAny_execs_cons (wpAny_Expr_any (Q:=fun f s₁=>match f with | .next=>wpAny (model X.prog X.w) X.A (execs [] X.env) _ _ s₁ | f=>_) ?_ I.quiet hsw)
 refine wpAny_Call_Name_kw (ld_glob I hgf hmf ?_ hdf)
 refine W.callWith_K (h₀:=X.base) I.ok.mod.kin hkf (wpAny_mono (ha pos pins s σ H _ (I.wish _) h) (fun us s1 ⟨vs,H1,I1,r,q⟩=>⟨I1.unwish.kIn,?_⟩) fun _ _ z=>z.elim) he hpl
 have J:=I1.unwish
 have hl:us.length=ps.length:=by rw [<- r.length]; exact F.len _ _ _ _ q
 have hb':=hb s1 us J.kIn (by rw [List.append_nil]; exact hl)
 rw [List.append_nil] at hb'
 refine wpAny_call (codeAny_mono (F.run X.A X.stack s1 H1 ⟨us,[]⟩ us vs _ _ hr J.env0 hb' r q) fun rr s' hq'=>?_)
 cases rr with
 | error ex=>exact ⟨s1,H1,J,hq'⟩
 | ok fl=>
  cases fl with
  | ret u=>
   obtain ⟨v,H2,I2,r2,q2⟩:=J.after hq'
   exact wpAny_execs_nil ⟨rfl,H2,I2,q2⟩
  | next=>exact False.elim hq'
  | brk=>exact False.elim hq'
  | cont=>exact False.elim hq'
theorem ptry_if {c:Expr} {a b:List Stmt} {tc:TT} {t u:TB} (hc:PT X.nox c tc) (ha:PTry X a t) (hb:PTry X b u):PTry X [.If c a b pos] (fun N EX σ H=>tc σ H fun d H1=>if d=true then t N EX σ H1 else u N EX σ H1):=by
 intro pins s σ H N EX I h
 refine wpAny_execs_cons (wpAny_If (wpAny_mono (hc pins s σ H _ (I.wish _) h) (fun d s1 ⟨H1,I1,q1⟩=>?_) fun _ _ z=>z.elim))
 have J:=I1.unwish
 cases d with
 | true=>
  refine wpAny_mono (ha pins s1 σ H1 N EX J q1) (fun fl s' q=>?_) fun ex s' q=>q
  obtain ⟨rfl,q⟩:=q
  exact wpAny_execs_nil ⟨rfl,q⟩
 | false=>
  refine wpAny_mono (hb pins s1 σ H1 N EX J q1) (fun fl s' q=>?_) fun ex s' q=>q
  obtain ⟨rfl,q⟩:=q
  exact wpAny_execs_nil ⟨rfl,q⟩
end
theorem mat_noN {P:Program} {w:World} {K:Frag} {C D:Addr} (hq:W.excIn K C bmVE "ValueError.__new__"=true) (hqD:W.excIn K D bmVE "ValueError.__new__"=true) (hcd:W.mroIn K C (.ref D)=some false):Mat P w K C D false:=by
 intro A h g d t os ea ob Q E X hob hc q
 obtain ⟨bm,Nn,nm,qn,bs,hdct,sn,sub,ab,col,dd,k0,k1,k2,k3,k5,hC,hin⟩:=tail_of_mro X hq hcd
 obtain ⟨bm',Nn',nm',qn',bs',hdct',sn',sub',ab',col',dd',j0,j1,j2,j3,j5,mN',hD,hNs',hni',TL'⟩:=exc_obj X hqD
 exact excMatches_not hC hD hob hc (TL'.hasType PySem.F.excBase_ValueError.hasBase) hin q
inductive Skips (X:Cx) (C:Addr):List ExceptHandler->Prop where
 | nil:Skips X C []
 | cons {x n:Str} {D:Addr} {np hpos:Pos} {su:List Stmt} {rest:List ExceptHandler} (hm:X.mg x=some (.ref D)) (hg:Gl X x) (hmat:Mat X.prog X.w X.K C D false) (hdb:(x == ("__debug__":Str))=false) (r:Skips X C rest):Skips X C (.ExceptHandler (some (.Name x np)) (some n) su hpos :: rest)
section
variable {X:Cx} {pins:List (Addr × Obj)} {σ:St} {H H':Hp} {s s':Shared} {a0:Value} {ea C:Addr} {B:Heap}
theorem handle_asL {D:Ends} {ts:TS} {x n:Str} {np hpos:Pos} {b₀:Stmt} {suite:List Stmt} {pre post:List ExceptHandler} {i:Nat} (I:Inv X pins σ H s) (fly:Fly X.prog X.w X.stack H s (.ref C) a0 ea B H' s') (hst:X.stack=X.env :: X.outer) (hf:X.env.frame=some X.env.locals)
  (sk:Skips X C pre) (hm:X.mg x=some (.ref C)) (hg:Gl X x) (hq:W.excIn X.K C bmVE "ValueError.__new__"=true) (hN:X.N.Nodup) (hi:X.N[i]?=some n) (hk:X.env.scope.names.lookup n=some .local)
  (hsu:PSs (X.marked ea) (b₀ :: suite) ts) (h:ts (asEnds D i) (σ.set i (some (.ref ea))) (upd H' ea (.ext (ExcAt C ea)))) (hdb:(x == ("__debug__":Str))=false) :
  wpAny (model X.prog X.w) X.A (noteFrame (.ref ea) X.env) (fun _ s₂=>wpAny (model X.prog X.w) X.A (setFlight (.ref ea) none) (fun _ s₃=>
   wpAny (model X.prog X.w) X.A (handleBy (.ref ea) X.env (pre ++ .ExceptHandler (some (.Name x np)) (some n) (b₀ :: suite) hpos :: post)) (SP X pins D) X.xe s₃) X.xe s₂) X.xe s':=by
 obtain ⟨hp,gs,dr,tk,os⟩:=s'
 have fr:X.A.frames=some (X.env :: X.outer):=by rw [<- hst]; exact I.ok.frames
 have fl:Heap.FlyingW B (X.env :: X.outer) ea (.ref C) a0 hp:=by rw [<- hst]; exact fly.fly
 refine wpAny_looks_onW fr hf fl fun h4 held4 u4=>?_
 refine wpAny_landsW held4 fun h5 fl5 u5=>?_
 have I5:Inv X pins σ H' ⟨h5,gs,dr,tk,os⟩:=I.landed (t':=tk) fly fl5.1 (u4.trans u5)
 obtain ⟨ob,hob,hobc⟩:=fl5.there
 induction sk with
 | nil=>
  rw [List.nil_append]
  refine wpAny_handleBy_cons (codeAny_handlers_test (ld_glob (I5.marked ea) hg hm ?_ hdb)) (by intro q; cases q)
  refine mat_selfF hq _ _ _ _ _ _ _ _ _ _ I5.kIn hob hobc ?_
  refine codeAny_handlers_suite_as ?_
  refine lands_againW fl5 fun h6 fl6 u6=>?_
  have I6:Inv X pins σ (upd H' ea (.ext (ExcAt C ea))) ⟨h6,gs,dr,tk,os⟩:=I.landedE (t':=tk) fly fl6 ((u4.trans u5).trans u6)
  refine store_ok (X:=X.marked ea) (i:=i) (v:=.ref ea) (I6.marked ea) hN hi (.inl hk) rfl (fun s7 I7=>?_) (.inr hk)
  refine wpAny_mono (hsu pins s7 _ _ _ I7 h) (fun fw s8 q=>?_) fun _ _ z=>False.elim z
  cases fw with
  | next=>
   obtain ⟨σ2,H2,J,q⟩:=q
   exact unbind_ok (J.unmarked I.ok) hN hi hk fun s9 J9=>⟨_,_,J9,q⟩
  | ret v=>
   obtain ⟨v',σ2,H2,J,r,q⟩:=q
   exact unbind_ok (J.unmarked I.ok) hN hi hk fun s9 J9=>⟨v',_,_,J9,r,q⟩
  | brk=>
   obtain ⟨σ2,H2,J,q⟩:=q
   exact unbind_ok (J.unmarked I.ok) hN hi hk fun s9 J9=>⟨_,_,J9,q⟩
  | cont=>
   obtain ⟨σ2,H2,J,q⟩:=q
   exact unbind_ok (J.unmarked I.ok) hN hi hk fun s9 J9=>⟨_,_,J9,q⟩
 | cons hm1 hg1 hmat1 hdb1 r ih=>
  rw [List.cons_append]
  refine wpAny_handleBy_cons (codeAny_handlers_test (ld_glob (I5.marked ea) hg1 hm1 ?_ hdb1)) (by intro q; cases q)
  refine hmat1 _ _ _ _ _ _ _ _ _ _ I5.kIn hob hobc ?_
  exact ih
end
section
variable {X:Cx} {C1 C2 C3 C4 fI:Addr} {x1 x2 x3 x4 n:Str} {np1 hp1 np2 hp2 np3 hp3 np4 hp4 pos:Pos} {tb:TB} {ts1 ts2 ts3 ts4:TS} {b1 b2 b3 b4:Stmt} {su1 su2 su3 su4 body:List Stmt} {i:Nat}
def exF (C:Addr) (i:Nat) (ts:TS) (D:Ends) (σ:St) (cls:Value) (od:Option Addr) (H2:Hp):Prop:=∃ dx,od=some dx/\cls=.ref C/\∀ e o,H2 e=none->ts (asEnds D i) (σ.set i (some (.ref e))) (upd H2 e (.frz o (.ext (ExcD C e dx))))
def exN (C:Addr) (i:Nat) (ts:TS) (D:Ends) (σ:St) (cls:Value) (od:Option Addr) (H2:Hp):Prop:=od=none/\cls=.ref C/\∀ e,H2 e=none->ts (asEnds D i) (σ.set i (some (.ref e))) (upd H2 e (.ext (ExcAt C e)))
def tTry4 (C1 C2 C3 C4:Addr) (i:Nat) (tb:TB) (ts1 ts2 ts3 ts4:TS):TS:=fun D σ H=>tb (fun H'=>D.nx σ H') (fun cls od H2=>exF C1 i ts1 D σ cls od H2\/exN C2 i ts2 D σ cls od H2\/exN C3 i ts3 D σ cls od H2\/exN C4 i ts4 D σ cls od H2) σ H
theorem ps_try4 (hb:PTry X body tb) (hm1:X.mg x1=some (.ref C1)) (hg1:Gl X x1) (hq1:excInB X.K C1 fI=true)
  (hm2:X.mg x2=some (.ref C2)) (hg2:Gl X x2) (hq2:W.excIn X.K C2 bmVE "ValueError.__new__"=true) (hm3:X.mg x3=some (.ref C3)) (hg3:Gl X x3) (hq3:W.excIn X.K C3 bmVE "ValueError.__new__"=true) (hm4:X.mg x4=some (.ref C4)) (hg4:Gl X x4) (hq4:W.excIn X.K C4 bmVE "ValueError.__new__"=true)
  (m21:Mat X.prog X.w X.K C2 C1 false) (m31:Mat X.prog X.w X.K C3 C1 false) (m32:Mat X.prog X.w X.K C3 C2 false) (m41:Mat X.prog X.w X.K C4 C1 false) (m42:Mat X.prog X.w X.K C4 C2 false) (m43:Mat X.prog X.w X.K C4 C3 false)
  (hN:X.N.Nodup) (hi:X.N[i]?=some n) (hk:X.env.scope.names.lookup n=some .local)
  (hsu1:∀ ea o u,PSs (X.markS ea o u) (b1 :: su1) ts1) (hsu2:∀ ea,PSs (X.marked ea) (b2 :: su2) ts2) (hsu3:∀ ea,PSs (X.marked ea) (b3 :: su3) ts3) (hsu4:∀ ea,PSs (X.marked ea) (b4 :: su4) ts4)
  (hst:X.stack=X.env :: X.outer:=by rfl) (hf:X.env.frame=some X.env.locals:=by rfl)
  (hd1:(x1 == ("__debug__":Str))=false:=by decide) (hd2:(x2 == ("__debug__":Str))=false:=by decide) (hd3:(x3 == ("__debug__":Str))=false:=by decide) (hd4:(x4 == ("__debug__":Str))=false:=by decide) :
  PS X (.Try body [.ExceptHandler (some (.Name x1 np1)) (some n) (b1 :: su1) hp1,.ExceptHandler (some (.Name x2 np2)) (some n) (b2 :: su2) hp2,.ExceptHandler (some (.Name x3 np3)) (some n) (b3 :: su3) hp3,.ExceptHandler (some (.Name x4 np4)) (some n) (b4 :: su4) hp4] [] [] pos) (tTry4 C1 C2 C3 C4 i tb ts1 ts2 ts3 ts4):=by
 intro pins s σ H D I h
 refine wpAny_Try_except (wpAny_mono (hb pins s σ H _ _ I h) (fun fl s' q=>?_) fun ex s' q=>?_)
 ·obtain ⟨rfl,H',I',q⟩:=q
  exact wpAny_execs_nil ⟨σ,H',I',q⟩
 ·obtain ⟨s1,H1,J,q⟩:=q
  rcases q with ⟨ea,cls,dx,B,H',rfl,fly,hh⟩ | ⟨ea,cls,a0,B,H',rfl,fly,hh⟩
  ·rcases hh with ⟨dx',hdx,hcl,hh⟩ | ⟨hdx,_⟩ | ⟨hdx,_⟩ | ⟨hdx,_⟩
   ·cases hdx
    subst hcl
    exact handle_S J fly hst hf hm1 hg1 (mat_self hq1) hN hi hk (hsu1 ea) (fun o=>hh ea o fly.he) hd1
   ·cases hdx
   ·cases hdx
   ·cases hdx
  ·rcases hh with ⟨dx',hdx,_⟩ | ⟨_,hcl,hh⟩ | ⟨_,hcl,hh⟩ | ⟨_,hcl,hh⟩
   ·cases hdx
   ·subst hcl
    exact handle_asL (pre:=[_]) J fly hst hf (.cons hm1 hg1 m21 hd1 .nil) hm2 hg2 hq2 hN hi hk (hsu2 ea) (hh ea fly.new.2) hd2
   ·subst hcl
    exact handle_asL (pre:=[_,_]) J fly hst hf (.cons hm1 hg1 m31 hd1 (.cons hm2 hg2 m32 hd2 .nil)) hm3 hg3 hq3 hN hi hk (hsu3 ea) (hh ea fly.new.2) hd3
   ·subst hcl
    exact handle_asL (pre:=[_,_,_]) J fly hst hf (.cons hm1 hg1 m41 hd1 (.cons hm2 hg2 m42 hd2 (.cons hm3 hg3 m43 hd3 .nil))) hm4 hg4 hq4 hN hi hk (hsu4 ea) (hh ea fly.new.2) hd4
end
end L2
namespace L2
open PySem PySem.Spec PyProof.Rows
inductive PairsE:List Expr->List (Int × Int)->Prop where
 | nil:PairsE [] []
 | cons {a b:Int} {j1 j2:Nat} {p1 p2 pos:Pos} {c:Nat} {es:List Expr} {ns:List (Int × Int)} (h:PairsE es ns):PairsE (.Tuple [.Constant (.int a) j1 p1,.Constant (.int b) j2 p2] c pos :: es) ((a,b) :: ns)
def tPrsE (ns:List (Int × Int)):TA:=fun _ H Q=>∀ (rs:List Addr) (H':Hp),Same H H'->Paired (fun (r:Addr) (x:Int × Int)=>H' r=some (.tup [.int x.1,.int x.2])) rs ns->Q (rs.map V.ref) H'
theorem pa_pairs {X:Cx} {es:List Expr} {ns:List (Int × Int)} (h:PairsE es ns):PA X es (tPrsE ns):=by
 induction h with
 | nil=>exact fun pos pins s σ H Q I h=>pa_nil pos pins s σ H Q I (h [] H (Same.refl _) .nil)
 | cons h ih=>
  intro pos pins s σ H Q I h
  refine pa_cons (pe_tup (pa_cons pe_int (pa_cons pe_int pa_nil))) ih rfl pos pins s σ H Q I ⟨?_,fun p np rs H' g hp=>h (p :: rs) H' ((same_new np _).trans g) (.cons (g p _ upd_same) hp)⟩
  show 2<=sizeLine
  decide
def fTg:Stmt->Expr
 | .For t _ _ _ _=>t
 | _=>.Constant .none 0 ⟨0,0,0,0⟩
def fBd:Stmt->List Stmt
 | .For _ _ b _ _=>b
 | _=>[]
def fOe:Stmt->List Stmt
 | .For _ _ _ o _=>o
 | _=>[]
def iTs:Stmt->Expr
 | .If t _ _ _=>t
 | _=>.Constant .none 0 ⟨0,0,0,0⟩
def iBd:Stmt->List Stmt
 | .If _ b _ _=>b
 | _=>[]
def iOe:Stmt->List Stmt
 | .If _ _ o _=>o
 | _=>[]
end L2
namespace K54
open PySem L2
def top (i:Nat):Stmt:=PySem.Challenge.pw_conicplaces_k54_points_refused.main.body.getD i (.Pass ⟨0,0,0,0⟩)
abbrev s_shares_of:Stmt:=top 18
abbrev s_row_less:Stmt:=top 19
abbrev s_root_of:Stmt:=top 20
abbrev s_above_root:Stmt:=top 21
abbrev s_worth_of:Stmt:=top 24
abbrev s_size_of:Stmt:=top 25
abbrev s_lowest_point:Stmt:=top 26
abbrev s_vertex_of:Stmt:=top 27
abbrev s_refuse_flat:Stmt:=top 28
abbrev s_slopes_of:Stmt:=top 29
abbrev s_turned_by:Stmt:=top 30
abbrev s_added:Stmt:=top 31
abbrev s_stretched:Stmt:=top 32
abbrev s_row_product:Stmt:=top 33
abbrev s_crossing_of:Stmt:=top 34
abbrev s_crossings_of:Stmt:=top 35
abbrev s_point_by:Stmt:=top 38
abbrev s_led_to:Stmt:=top 39
abbrev s_numbers_of:Stmt:=top 40
abbrev s_point_on:Stmt:=top 41
abbrev s_last_of:Stmt:=top 42
abbrev s_corners_on:Stmt:=top 44
abbrev s_off_curve:Stmt:=top 45
abbrev s_line_met:Stmt:=top 47
abbrev s_cell_at:Stmt:=top 49
abbrev s_shared:Stmt:=top 50
abbrev s_lowest:Stmt:=top 51
abbrev s_beside:Stmt:=top 52
abbrev s_dot:Stmt:=top 53
abbrev s_rows:Stmt:=top 54
abbrev s_form:Stmt:=top 55
abbrev s_spot:Stmt:=top 56
abbrev s_worth:Stmt:=top 57
abbrev s_cross:Stmt:=top 58
abbrev s_is_spot:Stmt:=top 59
abbrev s_times:Stmt:=top 60
abbrev s_pair:Stmt:=top 61
abbrev s_alone:Stmt:=top 62
abbrev s_vertex:Stmt:=top 63
abbrev s_told:Stmt:=top 64
abbrev s_off:Stmt:=top 65
abbrev s_due:Stmt:=top 66
abbrev s_flat:Stmt:=top 67
abbrev s_drawn:Stmt:=top 68
abbrev s_law:Stmt:=top 69
abbrev s_init_Flat:Stmt:=inClass (top 10) 0
structure Adr where
 (ce c0 c1 c2 c3 c4 c5 c6 c7 c8 c9 c10 c11 c12 c13 c14 iFlat gAXES gAXES_0 gAXES_1 gAXES_2 gWAYS gWAYS_0 gWAYS_1 gWAYS_2:Addr)
structure Txt (K:W.Frag) (mg:Str->Option Value) (t:Adr):Prop where
 m_CurveError:mg "CurveError"=some (.ref t.ce)
 m_NoNumber:mg "NoNumber"=some (.ref t.c0)
 m_NoBack:mg "NoBack"=some (.ref t.c1)
 m_NoJoin:mg "NoJoin"=some (.ref t.c2)
 m_NoSign:mg "NoSign"=some (.ref t.c3)
 m_NotPlain:mg "NotPlain"=some (.ref t.c4)
 m_NoPlace:mg "NoPlace"=some (.ref t.c5)
 m_BadPlace:mg "BadPlace"=some (.ref t.c6)
 m_NoVertex:mg "NoVertex"=some (.ref t.c7)
 m_Flat:mg "Flat"=some (.ref t.c8)
 m_OffCurve:mg "OffCurve"=some (.ref t.c9)
 m_NoPair:mg "NoPair"=some (.ref t.c10)
 m_NoLine:mg "NoLine"=some (.ref t.c11)
 m_NoText:mg "NoText"=some (.ref t.c12)
 m_NoRow:mg "NoRow"=some (.ref t.c13)
 m_NoName:mg "NoName"=some (.ref t.c14)
 i_ce:W.kitOne K (.ref t.c8) (.ref t.ce)=some true
 i_0:W.kitOne K (.ref t.c8) (.ref t.c0)=some false
 i_1:W.kitOne K (.ref t.c8) (.ref t.c1)=some false
 i_2:W.kitOne K (.ref t.c8) (.ref t.c2)=some false
 i_3:W.kitOne K (.ref t.c8) (.ref t.c3)=some false
 i_4:W.kitOne K (.ref t.c8) (.ref t.c4)=some false
 i_5:W.kitOne K (.ref t.c8) (.ref t.c5)=some false
 i_6:W.kitOne K (.ref t.c8) (.ref t.c6)=some false
 i_7:W.kitOne K (.ref t.c8) (.ref t.c7)=some false
 i_8:W.kitOne K (.ref t.c8) (.ref t.c8)=some true
 i_9:W.kitOne K (.ref t.c8) (.ref t.c9)=some false
 i_10:W.kitOne K (.ref t.c8) (.ref t.c10)=some false
 i_11:W.kitOne K (.ref t.c8) (.ref t.c11)=some false
 i_12:W.kitOne K (.ref t.c8) (.ref t.c12)=some false
 i_13:W.kitOne K (.ref t.c8) (.ref t.c13)=some false
 i_14:W.kitOne K (.ref t.c8) (.ref t.c14)=some false
 i_ve:W.kitOne K (.ref t.c8) (.type "ValueError")=some true
 e0:(W.clsIn K t.c8).isSome=true
 e1:W.findIn K (.ref t.c8) "__getattribute__"=some (some (.builtin "BaseException.__getattribute__"))
 e2:W.findIn K (.ref t.c8) "__getattr__"=some none
 e3:W.findIn K (.ref t.c8) "__class__"=some (some (.builtin "object.__class__"))
 e4:W.specialIn K (.builtin "object.__class__") "__get__"=some (some (.builtin "getset_descriptor.__get__"))
 e5:W.takesIn K (.builtin "object.__class__")=some true
 e6:W.mroIn K t.c8 (.type "object")=some true
 e7:W.mroIn K t.c8 (.type "BaseException")=some true
 x_Flat:excInB K t.c8 t.iFlat=true
 xf_Flat:W.isFn K (.ref t.iFlat)=true
 xn_Flat:W.findIn K (.ref t.c8) "vertex"=some none
 xd_Flat:(W.clsIn K t.c8).map (·.hasDict)=some true
 xs_Flat:W.findIn K (.ref t.c8) "__setattr__"=some (some (.builtin "object.__setattr__"))
 xo_Flat:(W.clsIn K t.c8).any (fun cd=>onlyVE cd.mro)=true
 i_ce_2:W.kitOne K (.ref t.c9) (.ref t.ce)=some true
 i_0_2:W.kitOne K (.ref t.c9) (.ref t.c0)=some false
 i_1_2:W.kitOne K (.ref t.c9) (.ref t.c1)=some false
 i_2_2:W.kitOne K (.ref t.c9) (.ref t.c2)=some false
 i_3_2:W.kitOne K (.ref t.c9) (.ref t.c3)=some false
 i_4_2:W.kitOne K (.ref t.c9) (.ref t.c4)=some false
 i_5_2:W.kitOne K (.ref t.c9) (.ref t.c5)=some false
 i_6_2:W.kitOne K (.ref t.c9) (.ref t.c6)=some false
 i_7_2:W.kitOne K (.ref t.c9) (.ref t.c7)=some false
 i_8_2:W.kitOne K (.ref t.c9) (.ref t.c8)=some false
 i_9_2:W.kitOne K (.ref t.c9) (.ref t.c9)=some true
 i_10_2:W.kitOne K (.ref t.c9) (.ref t.c10)=some false
 i_11_2:W.kitOne K (.ref t.c9) (.ref t.c11)=some false
 i_12_2:W.kitOne K (.ref t.c9) (.ref t.c12)=some false
 i_13_2:W.kitOne K (.ref t.c9) (.ref t.c13)=some false
 i_14_2:W.kitOne K (.ref t.c9) (.ref t.c14)=some false
 i_ve_2:W.kitOne K (.ref t.c9) (.type "ValueError")=some true
 e0_2:(W.clsIn K t.c9).isSome=true
 e1_2:W.findIn K (.ref t.c9) "__getattribute__"=some (some (.builtin "BaseException.__getattribute__"))
 e2_2:W.findIn K (.ref t.c9) "__getattr__"=some none
 e3_2:W.findIn K (.ref t.c9) "__class__"=some (some (.builtin "object.__class__"))
 e4_2:W.specialIn K (.builtin "object.__class__") "__get__"=some (some (.builtin "getset_descriptor.__get__"))
 e5_2:W.takesIn K (.builtin "object.__class__")=some true
 e6_2:W.mroIn K t.c9 (.type "object")=some true
 e7_2:W.mroIn K t.c9 (.type "BaseException")=some true
 x_OffCurve:W.excIn K t.c9 bmVE "ValueError.__new__"=true
 i_ce_3:W.kitOne K (.ref t.c10) (.ref t.ce)=some true
 i_0_3:W.kitOne K (.ref t.c10) (.ref t.c0)=some false
 i_1_3:W.kitOne K (.ref t.c10) (.ref t.c1)=some false
 i_2_3:W.kitOne K (.ref t.c10) (.ref t.c2)=some false
 i_3_3:W.kitOne K (.ref t.c10) (.ref t.c3)=some false
 i_4_3:W.kitOne K (.ref t.c10) (.ref t.c4)=some false
 i_5_3:W.kitOne K (.ref t.c10) (.ref t.c5)=some false
 i_6_3:W.kitOne K (.ref t.c10) (.ref t.c6)=some false
 i_7_3:W.kitOne K (.ref t.c10) (.ref t.c7)=some false
 i_8_3:W.kitOne K (.ref t.c10) (.ref t.c8)=some false
 i_9_3:W.kitOne K (.ref t.c10) (.ref t.c9)=some false
 i_10_3:W.kitOne K (.ref t.c10) (.ref t.c10)=some true
 i_11_3:W.kitOne K (.ref t.c10) (.ref t.c11)=some false
 i_12_3:W.kitOne K (.ref t.c10) (.ref t.c12)=some false
 i_13_3:W.kitOne K (.ref t.c10) (.ref t.c13)=some false
 i_14_3:W.kitOne K (.ref t.c10) (.ref t.c14)=some false
 i_ve_3:W.kitOne K (.ref t.c10) (.type "ValueError")=some true
 e0_3:(W.clsIn K t.c10).isSome=true
 e1_3:W.findIn K (.ref t.c10) "__getattribute__"=some (some (.builtin "BaseException.__getattribute__"))
 e2_3:W.findIn K (.ref t.c10) "__getattr__"=some none
 e3_3:W.findIn K (.ref t.c10) "__class__"=some (some (.builtin "object.__class__"))
 e4_3:W.specialIn K (.builtin "object.__class__") "__get__"=some (some (.builtin "getset_descriptor.__get__"))
 e5_3:W.takesIn K (.builtin "object.__class__")=some true
 e6_3:W.mroIn K t.c10 (.type "object")=some true
 e7_3:W.mroIn K t.c10 (.type "BaseException")=some true
 x_NoPair:W.excIn K t.c10 bmVE "ValueError.__new__"=true
 i_ce_4:W.kitOne K (.ref t.c11) (.ref t.ce)=some true
 i_0_4:W.kitOne K (.ref t.c11) (.ref t.c0)=some false
 i_1_4:W.kitOne K (.ref t.c11) (.ref t.c1)=some false
 i_2_4:W.kitOne K (.ref t.c11) (.ref t.c2)=some false
 i_3_4:W.kitOne K (.ref t.c11) (.ref t.c3)=some false
 i_4_4:W.kitOne K (.ref t.c11) (.ref t.c4)=some false
 i_5_4:W.kitOne K (.ref t.c11) (.ref t.c5)=some false
 i_6_4:W.kitOne K (.ref t.c11) (.ref t.c6)=some false
 i_7_4:W.kitOne K (.ref t.c11) (.ref t.c7)=some false
 i_8_4:W.kitOne K (.ref t.c11) (.ref t.c8)=some false
 i_9_4:W.kitOne K (.ref t.c11) (.ref t.c9)=some false
 i_10_4:W.kitOne K (.ref t.c11) (.ref t.c10)=some false
 i_11_4:W.kitOne K (.ref t.c11) (.ref t.c11)=some true
 i_12_4:W.kitOne K (.ref t.c11) (.ref t.c12)=some false
 i_13_4:W.kitOne K (.ref t.c11) (.ref t.c13)=some false
 i_14_4:W.kitOne K (.ref t.c11) (.ref t.c14)=some false
 i_ve_4:W.kitOne K (.ref t.c11) (.type "ValueError")=some true
 e0_4:(W.clsIn K t.c11).isSome=true
 e1_4:W.findIn K (.ref t.c11) "__getattribute__"=some (some (.builtin "BaseException.__getattribute__"))
 e2_4:W.findIn K (.ref t.c11) "__getattr__"=some none
 e3_4:W.findIn K (.ref t.c11) "__class__"=some (some (.builtin "object.__class__"))
 e4_4:W.specialIn K (.builtin "object.__class__") "__get__"=some (some (.builtin "getset_descriptor.__get__"))
 e5_4:W.takesIn K (.builtin "object.__class__")=some true
 e6_4:W.mroIn K t.c11 (.type "object")=some true
 e7_4:W.mroIn K t.c11 (.type "BaseException")=some true
 x_NoLine:W.excIn K t.c11 bmVE "ValueError.__new__"=true
 y1:W.specialIn K (.ref t.ce) "__getattribute__"=some (some (.builtin "type.__getattribute__"))
 y2:W.readsIn K t.ce (.type "type")=true
 y3:W.findCls K (.ref t.ce) (.type "type") "__init__"=some (.val (.builtin "ValueError.__init__"))
 x_CurveError:W.excIn K t.ce bmVE "ValueError.__new__"=true
 u_Flat:W.mroIn K t.c8 (.ref t.ce)=some true
 u_OffCurve:W.mroIn K t.c9 (.ref t.ce)=some true
 u_NoPair:W.mroIn K t.c10 (.ref t.ce)=some true
 u_NoLine:W.mroIn K t.c11 (.ref t.ce)=some true
 n_OF:W.mroIn K t.c9 (.ref t.c8)=some false
 n_PF:W.mroIn K t.c10 (.ref t.c8)=some false
 n_PO:W.mroIn K t.c10 (.ref t.c9)=some false
 n_LF:W.mroIn K t.c11 (.ref t.c8)=some false
 n_LO:W.mroIn K t.c11 (.ref t.c9)=some false
 n_LP:W.mroIn K t.c11 (.ref t.c10)=some false
 m_AXES:mg "AXES"=some (.ref t.gAXES)
 k_AXES:TupK K t.gAXES [.ref t.gAXES_0,.ref t.gAXES_1,.ref t.gAXES_2]
 k_AXES_0:TupK K t.gAXES_0 [.int 1,.int 0,.int 0]
 k_AXES_1:TupK K t.gAXES_1 [.int 0,.int 1,.int 0]
 k_AXES_2:TupK K t.gAXES_2 [.int 0,.int 0,.int 1]
 m_WAYS:mg "WAYS"=some (.ref t.gWAYS)
 k_WAYS:TupK K t.gWAYS [.ref t.gWAYS_0,.ref t.gWAYS_1,.ref t.gWAYS_2]
 k_WAYS_0:TupK K t.gWAYS_0 [.int 1,.int 2]
 k_WAYS_1:TupK K t.gWAYS_1 [.int 0,.int 2]
 k_WAYS_2:TupK K t.gWAYS_2 [.int 0,.int 1]
 i_ib:W.kitOne K (.type "int") (.type "bool")=some false
 z_isinstance:mg "isinstance"=none
 z_int:mg "int"=none
 z_bool:mg "bool"=none
 z_len:mg "len"=none
 z_range:mg "range"=none
 z_tuple:mg "tuple"=none
 z_all:mg "all"=none
 z_abs:mg "abs"=none
 z_any:mg "any"=none
 z_sum:mg "sum"=none
 z_zip:mg "zip"=none
 z_max:mg "max"=none
 z_list:mg "list"=none
 z_set:mg "set"=none
 z_sorted:mg "sorted"=none
 z_ValueError:mg "ValueError"=none
theorem Txt.exc {K:W.Frag} {mg:Str->Option Value} {t:Adr} (T:Txt K mg t):ExcCls K t.c8:=⟨T.e0,T.e1,T.e2,T.e3,T.e4,T.e5,T.e6,T.e7⟩
theorem Txt.exc_2 {K:W.Frag} {mg:Str->Option Value} {t:Adr} (T:Txt K mg t):ExcCls K t.c9:=⟨T.e0_2,T.e1_2,T.e2_2,T.e3_2,T.e4_2,T.e5_2,T.e6_2,T.e7_2⟩
theorem Txt.exc_3 {K:W.Frag} {mg:Str->Option Value} {t:Adr} (T:Txt K mg t):ExcCls K t.c10:=⟨T.e0_3,T.e1_3,T.e2_3,T.e3_3,T.e4_3,T.e5_3,T.e6_3,T.e7_3⟩
theorem Txt.exc_4 {K:W.Frag} {mg:Str->Option Value} {t:Adr} (T:Txt K mg t):ExcCls K t.c11:=⟨T.e0_4,T.e1_4,T.e2_4,T.e3_4,T.e4_4,T.e5_4,T.e6_4,T.e7_4⟩
theorem Txt.mk_Flat {K:W.Frag} {mg:Str->Option Value} {t:Adr} (T:Txt K mg t):MkX K t.c8 t.iFlat:=⟨T.x_Flat,T.xf_Flat⟩
theorem Txt.fld_Flat {K:W.Frag} {mg:Str->Option Value} {t:Adr} (T:Txt K mg t):ExcFld K t.c8 "vertex":=⟨T.exc,T.xn_Flat,T.xd_Flat⟩
theorem Txt.set_Flat {K:W.Frag} {mg:Str->Option Value} {t:Adr} (T:Txt K mg t):ExcSet K t.c8 "vertex":=⟨T.fld_Flat,T.xs_Flat,T.xo_Flat⟩
theorem b_isi:bootBuiltins "isinstance"=some (.builtin "isinstance"):=by decide +kernel
theorem b_int:bootBuiltins "int"=some (.type "int"):=by decide +kernel
theorem b_bool:bootBuiltins "bool"=some (.type "bool"):=by decide +kernel
theorem b_tuple:bootBuiltins "tuple"=some (.type "tuple"):=by decide +kernel
theorem b_all:bootBuiltins "all"=some (.builtin "all"):=by decide +kernel
theorem b_abs:bootBuiltins "abs"=some (.builtin "abs"):=by decide +kernel
theorem b_any:bootBuiltins "any"=some (.builtin "any"):=by decide +kernel
theorem b_sum:bootBuiltins "sum"=some (.builtin "sum"):=by decide +kernel
theorem b_max:bootBuiltins "max"=some (.builtin "max"):=by decide +kernel
theorem b_list:bootBuiltins "list"=some (.type "list"):=by decide +kernel
theorem b_set:bootBuiltins "set"=some (.type "set"):=by decide +kernel
theorem b_sorted:bootBuiltins "sorted"=some (.builtin "sorted"):=by decide +kernel
theorem b_ValueError:bootBuiltins "ValueError"=some (.type "ValueError"):=by decide +kernel
theorem byL1 {P:List Value->Prop} (h:∀ a0:Value,P [a0]):∀ us:List Value,us.length=1->P us:=fun us hl=>match us,hl with | [a0],_=>h a0
theorem byL2 {P:List Value->Prop} (h:∀ a0 a1:Value,P [a0,a1]):∀ us:List Value,us.length=2->P us:=fun us hl=>match us,hl with | [a0,a1],_=>h a0 a1
theorem byL3 {P:List Value->Prop} (h:∀ a0 a1 a2:Value,P [a0,a1,a2]):∀ us:List Value,us.length=3->P us:=fun us hl=>match us,hl with | [a0,a1,a2],_=>h a0 a1 a2
theorem byL4 {P:List Value->Prop} (h:∀ a0 a1 a2 a3:Value,P [a0,a1,a2,a3]):∀ us:List Value,us.length=4->P us:=fun us hl=>match us,hl with | [a0,a1,a2,a3],_=>h a0 a1 a2 a3
theorem byL6 {P:List Value->Prop} (h:∀ a0 a1 a2 a3 a4 a5:Value,P [a0,a1,a2,a3,a4,a5]):∀ us:List Value,us.length=6->P us:=fun us hl=>match us,hl with | [a0,a1,a2,a3,a4,a5],_=>h a0 a1 a2 a3 a4 a5
theorem byL7 {P:List Value->Prop} (h:∀ a0 a1 a2 a3 a4 a5 a6:Value,P [a0,a1,a2,a3,a4,a5,a6]):∀ us:List Value,us.length=7->P us:=fun us hl=>match us,hl with | [a0,a1,a2,a3,a4,a5,a6],_=>h a0 a1 a2 a3 a4 a5 a6
theorem iteDF {c A B:Prop} [Decidable c] (hc:¬ c) (h:B):if decide c=true then A else B:=by
 rw [decide_eq_false hc]
 exact iteF h
theorem iteDT {c A B:Prop} [Decidable c] (hc:c) (h:A):if decide c=true then A else B:=by
 rw [decide_eq_true hc]
 exact iteT h
theorem neT {c:Prop} [Decidable c] (h:(!decide c)=true):¬ c:=by
 intro z
 rw [decide_eq_true z] at h
 cases h
theorem neF {c:Prop} [Decidable c] (h:¬ (!decide c)=true):c:=by
 by_cases z:c
 ·exact z
 ·exact absurd (by rw [decide_eq_false z]; rfl) h
@[irreducible] def Rt:Nat:=2^500
@[irreducible] def Lm:Nat:=2^1000
theorem Lm_eq:Lm=2^1000:=by unfold Lm; rfl
theorem Lm_pos:1<=Lm:=by rw [Lm_eq]; decide +kernel
theorem Lm_bits {x:Int} (h:x.natAbs<=8*Lm):Builtin.Int.intBits x<=1004:=intBits_le_iff.mpr (Nat.lt_of_le_of_lt h (by rw [Lm_eq]; decide +kernel))
theorem Lm_log {x:Int} (h:x.natAbs<=8*Lm):x.natAbs.log2 < 9000:=Nat.lt_of_lt_of_le (log2_lt_of (k:=1004) (Nat.lt_of_le_of_lt h (by rw [Lm_eq]; decide +kernel)) (by decide)) (by decide)
theorem mulL {a b:Int} (ha:a.natAbs<=8*Lm) (hb:b.natAbs<=8*Lm):IntMulOk a b:=IntMulOk.of_le (Lm_bits ha) (Lm_bits hb) (by decide)
theorem fdiv_rest (a b:Int):a - a.fdiv b*b=a.fmod b:=by rw [Int.fmod_def,Int.mul_comm]
def spRow:Sp:=fun vs H Q _=>∃ (pa pb:Addr) (x s t y u v k:Int),vs=[.ref pa,.ref pb,.int k]/\H pa=some (.tup [.int x,.int s,.int t])/\H pb=some (.tup [.int y,.int u,.int v])/\IntMulOk k y/\IntMulOk k u/\IntMulOk k v /\
 ∀ (p:Addr) (H':Hp),Same H H'->H' p=some (.tup [.int (x - k*y),.int (s - k*u),.int (t - k*v)])->Q (.ref p) H'
def spShares:Sp:=fun vs H Q _=>∃ (x y:Int),vs=[.int x,.int y]/\x.natAbs<=Lm/\y.natAbs<=Lm /\
 ∀ (p:Addr) (H':Hp) (g s t:Int),Same H H'->H' p=some (.tup [.int g,.int s,.int t])->0<=g->g=s*x+t*y->(∃ k,x=k*g)->(∃ k,y=k*g)->s.natAbs<=8*Lm->t.natAbs<=8*Lm->Q (.ref p) H'
theorem hu64_of {A:Around} {k:Nat} (hr:Room k A):A.units+64 < cLine:=by
 have:=hr.un
 omega
open Sm Lw Pn
theorem okB {x y:Int} (hx:Bd 4000 x) (hy:Bd 4000 y):IntMulOk x y:=
 IntMulOk.of_le (m:=4001) (n:=4001) (intBits_le_iff.mpr (Nat.lt_of_le_of_lt hx (Nat.pow_lt_pow_right (by decide) (by decide)))) (intBits_le_iff.mpr (Nat.lt_of_le_of_lt hy (Nat.pow_lt_pow_right (by decide) (by decide)))) (by decide)
theorem okM {j k:Nat} {x y:Int} (hx:Bd j x) (hy:Bd k y) (h1:j<=4000:=by omega) (h2:k<=4000:=by omega):IntMulOk x y:=okB (hx.mono h1) (hy.mono h2)
theorem ok2 {y:Int}:IntMulOk 2 y:=IntMulOk.of_left (intBits_le_64 (by decide) (by decide))
abbrev v3 (P:P3):List V:=[.int P.x,.int P.y,.int P.z]
abbrev t3 (P:P3):HO:=.tup (v3 P)
abbrev l3 (P:P3):HO:=.lst (v3 P)
def S3 (H:Hp) (p:Addr) (P:P3):Prop:=H p=some (t3 P)
def S6 (H:Hp) (p:Addr) (Q:F6):Prop:=H p=some (.tup [.int Q.a,.int Q.b,.int Q.c,.int Q.d,.int Q.e,.int Q.f])
def ST (H:Hp) (p:Addr) (t:T3):Prop:=∃ r0 r1 r2:Addr,H p=some (.tup [.ref r0,.ref r1,.ref r2])/\S3 H r0 t.r0/\S3 H r1 t.r1/\S3 H r2 t.r2
def LT (H:Hp) (p:Addr) (t:T3):Prop:=∃ r0 r1 r2:Addr,H p=some (.lst [.ref r0,.ref r1,.ref r2])/\S3 H r0 t.r0/\S3 H r1 t.r1/\S3 H r2 t.r2
theorem LT.mono {H H':Hp} {p:Addr} {t:T3} (g:Same H H') (h:LT H p t):LT H' p t:=by
 obtain ⟨r0,r1,r2,h0,h1,h2,h3⟩:=h
 exact ⟨r0,r1,r2,g _ _ h0,g _ _ h1,g _ _ h2,g _ _ h3⟩
def vmul:V->V->V
 | .int a,.int b=>.int (a*b)
 | _,_=>.non
def Sq3 (H:Hp) (p:Addr) (x y z:Int):Prop:=H p=some (.tup [.int x,.int y,.int z])
def In3 (M:Int) (x y z:Int):Prop:=(-M<=x/\x<=M)/\(-M<=y/\y<=M)/\(-M<=z/\z<=M)
def NZ (x y z:Int):Prop:=x ≠ 0\/y ≠ 0\/z ≠ 0
@[irreducible] def Top:Int:=2^900
theorem Top_eq:Top=2^900:=by unfold Top; rfl
theorem Top_Lm:Top<=Lm:=by rw [Top_eq,Lm_eq]; decide +kernel
theorem bd_top {x:Int} (h:Bd 900 x):-Top<=x/\x<=Top:=by
 have e:Top=((2^900:Nat):Int):=by rw [Top_eq]; decide +kernel
 unfold Bd at h
 rw [e]
 generalize (2:Nat)^900=N at h
 omega
theorem in3_of {P:P3} (h:BP 900 P):In3 Top P.x P.y P.z:=⟨bd_top h.x,bd_top h.y,bd_top h.z⟩
theorem in3_abs {x y z:Int} (h:In3 Top x y z):x.natAbs<=Lm/\y.natAbs<=Lm/\z.natAbs<=Lm:=by
 have:=Top_Lm
 unfold In3 at h
 omega
theorem bd_div {k:Nat} {x d:Int} (hd:d ≠ 0) (h:Bd k (d*x)):Bd k x:=by
 unfold Bd at *
 rw [Int.natAbs_mul] at h
 exact Nat.le_trans (Nat.le_mul_of_pos_left _ (by omega)) h
theorem bp_div {k:Nat} {P:P3} {d:Int} (hd:d ≠ 0) (h:BP k (tm d P)):BP k P:=⟨bd_div hd h.x,bd_div hd h.y,bd_div hd h.z⟩
theorem bp_tm {j k:Nat} {P:P3} {d:Int} (h:Bd j d) (hP:BP k P):BP (j+k) (tm d P):=⟨h.mul hP.x,h.mul hP.y,h.mul hP.z⟩
theorem bd_neg {k:Nat} {x:Int} (h:Bd k x):Bd k (-x):=by
 unfold Bd at *
 rw [Int.natAbs_neg]
 exact h
theorem bp_ad {k:Nat} {P R:P3} (h:BP k P) (h2:BP k R):BP (k+1) (ad P R):=⟨h.x.add h2.x,h.y.add h2.y,h.z.add h2.z⟩
def st (P:P3) (m:Int):P3:=⟨P.x*m,P.y*m,P.z*m⟩
theorem st_eq (P:P3) (m:Int):st P m=tm m P:=by
 simp only [st,tm,P3.mk.injEq]
 exact ⟨Int.mul_comm _ _,Int.mul_comm _ _,Int.mul_comm _ _⟩
theorem b4:Bd 2 4:=by unfold Bd; decide
theorem bd0 {k:Nat}:Bd k 0:=by
 unfold Bd
 exact Nat.zero_le _
theorem bd1 {k:Nat}:Bd k 1:=by
 unfold Bd
 exact Nat.one_le_two_pow
theorem bp_dr {k:Nat} {P:P3} {m n:Int} (hm:Bd k m) (hn:Bd k n):BP k (dr P m n):=by
 unfold dr
 split
 ·exact ⟨hm,hn,bd0⟩
 ·split
  ·exact ⟨hm,bd0,hn⟩
  ·exact ⟨bd0,hm,hn⟩
def lst (P:P3):Int:=if P.z ≠ 0 then 2 else if P.y ≠ 0 then 1 else 0
def cmp (P:P3):Nat->Int
 | 0=>P.x
 | 1=>P.y
 | _=>P.z
theorem at3 {P:P3} {k:Nat} (hk:k < 3):atI (v3 P) (0+(k:Int))=some (.int (cmp P k)):=by
 obtain rfl | rfl | rfl:k=0\/k=1\/k=2:=by omega
 ·rfl
 ·rfl
 ·rfl
def nzAt (P:P3):V->Bool
 | .int k=>!decide (V.int (cmp P k.toNat)=V.int 0)
 | _=>false
def lasts (P:P3):List Int:=((if P.x ≠ 0 then [0] else []) ++ if P.y ≠ 0 then [1] else []) ++ if P.z ≠ 0 then [2] else []
theorem lasts_eq (P:P3):(((List.range 3).map fun (i:Nat)=>V.int (0+(i:Int))).filter (nzAt P)).map id=(lasts P).map V.int:=by
 have e:((List.range 3).map fun (i:Nat)=>V.int (0+(i:Int)))=[.int 0,.int 1,.int 2]:=rfl
 rw [e]
 have k:∀ n:Int,(!decide (V.int n=V.int 0))=decide (n ≠ 0):=fun n=>by
  by_cases h:n=0
  ·subst h
   simp
  ·simp [h,decide_eq_false (fun z:V.int n=V.int 0=>h (V.int.inj z))]
 have n0:nzAt P (.int 0)=decide (P.x ≠ 0):=k P.x
 have n1:nzAt P (.int 1)=decide (P.y ≠ 0):=k P.y
 have n2:nzAt P (.int 2)=decide (P.z ≠ 0):=k P.z
 rw [List.filter_cons,List.filter_cons,List.filter_cons,List.filter_nil,n0,n1,n2]
 unfold lasts
 by_cases h1:P.x=0 <;> by_cases h2:P.y=0 <;> by_cases h3:P.z=0 <;> simp [h1,h2,h3]
theorem lasts_ne {P:P3} (h:N3 P):lasts P ≠ []:=by
 unfold lasts
 unfold N3 at h
 by_cases h1:P.x=0 <;> by_cases h2:P.y=0 <;> by_cases h3:P.z=0 <;> simp [h1,h2,h3] <;> omega
theorem lasts_max {P:P3} {m:Int} (h:m ∈ lasts P) (h2:∀ n ∈ lasts P,n<=m):m=lst P:=by
 unfold lasts at h h2
 unfold lst
 by_cases c1:P.x=0 <;> by_cases c2:P.y=0 <;> by_cases c3:P.z=0 <;> simp [c1,c2,c3] at*<;> omega
inductive Gen (ns:List Int):Int->Prop where
 | zero:Gen ns 0
 | mem {n:Int}:n ∈ ns->Gen ns n
 | sub {a b:Int}:Gen ns a->Gen ns b->Gen ns (a - b)
 | mul (k:Int) {a:Int}:Gen ns a->Gen ns (k*a)
theorem Gen.rest {ns:List Int} {f o:Int} (h:Gen ns f) (h2:Gen ns o):Gen ns (f % o):=by
 have h3:=Int.emod_add_mul_ediv f o
 have h4:f % o=f - f / o*o:=by rw [Int.mul_comm (f / o) o]; omega
 rw [h4]
 exact h.sub (h2.mul _)
theorem Gen.neg {ns:List Int} {f:Int} (h:Gen ns f):Gen ns (-f):=by
 have:=h.mul (-1)
 rw [show (-1)*f=-f by omega] at this
 exact this
theorem Gen.three {x y z g:Int} (h:Gen [x,y,z] g):∃ u v w:Int,u*x+v*y+w*z=g:=by
 induction h with
 | zero=>exact ⟨0,0,0,by omega⟩
 | mem hn=>
  simp only [List.mem_cons,List.not_mem_nil,or_false] at hn
  rcases hn with rfl | rfl | rfl
  ·exact ⟨1,0,0,by omega⟩
  ·exact ⟨0,1,0,by omega⟩
  ·exact ⟨0,0,1,by omega⟩
 | sub _ _ h1 h2=>
  obtain ⟨u,v,w,e⟩:=h1
  obtain ⟨u',v',w',e'⟩:=h2
  exact ⟨u - u',v - v',w - w',by rw [<- e,<- e']; grind⟩
 | mul k _ h1=>
  obtain ⟨u,v,w,e⟩:=h1
  exact ⟨k*u,k*v,k*w,by rw [<- e]; grind⟩
def fstL:List Int->Int
 | []=>0
 | n :: ns=>if n ≠ 0 then n else fstL ns
theorem fstL_mem:∀ {ns:List Int},fstL ns ≠ 0->fstL ns ∈ ns
 | [],h=>absurd rfl h
 | n :: ns,h=>by
  unfold fstL at *
  by_cases c:n=0
  ·rw [if_neg (by omega)] at *
   exact List.mem_cons_of_mem _ (fstL_mem h)
  ·rw [if_pos c]
   exact List.mem_cons_self ..
theorem get3 {x y z:Int} {i:Nat} {v:V} (h:[V.int x,.int y,.int z][i]?=some v):∃ n,v=.int n/\[x,y,z][i]?=some n:=by
 match i,h with
 | 0,h=>exact ⟨x,(Option.some.inj h).symm,rfl⟩
 | 1,h=>exact ⟨y,(Option.some.inj h).symm,rfl⟩
 | 2,h=>exact ⟨z,(Option.some.inj h).symm,rfl⟩
theorem step_dvd {f o d:Int} (h1:d ∣ o) (h2:d ∣ f % o):d ∣ f/\d ∣ o:=⟨by
 rw [<- Int.emod_add_mul_ediv f o]
 exact Int.dvd_add h2 (Int.dvd_trans h1 (Int.dvd_mul_right _ _)),h1⟩
def d3 (P:P3):PyData:=.tuple [.int P.x,.int P.y,.int P.z]
theorem DA3 {H:Hp} {p:Addr} {P:P3} (h:S3 H p P):DA H (.ref p) (d3 P):=.tup h (.cons .int (.cons .int (.cons .int .nil)))
theorem eqv3 (P R:P3):PyData.eqv (d3 P) (d3 R)=decide (P=R):=by
 have e:PyData.eqv (d3 P) (d3 R)=((P.x == R.x) && ((P.y == R.y) && ((P.z == R.z) && true))):=rfl
 rw [e]
 by_cases h:P=R
 ·subst h
  simp
 ·rw [decide_eq_false h]
  by_cases h1:P.x=R.x
  ·by_cases h2:P.y=R.y
   ·by_cases h3:P.z=R.z
    ·exact absurd (P3.ext' ⟨h1,h2,h3⟩) h
    ·simp [h3]
   ·simp [h2]
  ·simp [h1]
def spRp:Sp:=fun vs H Q _=>∃ (p q:Addr) (r s:P3),vs=[.ref p,.ref q]/\S3 H p r/\S3 H q s/\BP 2000 r/\BP 2000 s/\Q (.int (rp r s)) H
def spTb:Sp:=fun vs H Q _=>∃ (p q:Addr) (t:T3) (P:P3),vs=[.ref p,.ref q]/\ST H p t/\S3 H q P/\BT 2000 t/\BP 2000 P/\∀ (r:Addr) (H':Hp),Same H H'->H r=none->S3 H' r (tb t P)->Q (.ref r) H'
def spSl:Sp:=fun vs H Q _=>∃ (p:Addr) (F:F6),vs=[.ref p]/\S6 H p F/\∀ (r:Addr) (H':Hp),Same H H'->ST H' r (sl F)->Q (.ref r) H'
def spWo:Sp:=fun vs H Q _=>∃ (p q:Addr) (F:F6) (P:P3),vs=[.ref p,.ref q]/\S6 H p F/\S3 H q P/\BF 600 F/\BP 600 P/\∀ H',Same H H'->Q (.int (wo F P)) H'
def spCr:Sp:=fun vs H Q _=>∃ (p q:Addr) (r s:P3),vs=[.ref p,.ref q]/\S3 H p r/\S3 H q s/\BP 900 r/\BP 900 s/\∀ (z:Addr) (H':Hp),Same H H'->S3 H' z (cr r s)->Q (.ref z) H'
def spSize:Sp:=fun vs H Q _=>∃ (p:Addr) (F:F6),vs=[.ref p]/\S6 H p F/\BF 600 F/\Q (.int (sz F)) H
def spFlat:Sp:=fun vs H Q _=>∃ (p:Addr) (F:F6),vs=[.ref p]/\S6 H p F/\BF 600 F/\sz F ≠ 0/\Q .non H
def spAdd:Sp:=fun vs H Q _=>∃ (p q:Addr) (P R:P3),vs=[.ref p,.ref q]/\S3 H p P/\S3 H q R/\∀ (z:Addr) (H':Hp),Same H H'->S3 H' z (ad P R)->Q (.ref z) H'
def spStr (K:W.Frag):Sp:=fun vs H Q _=>∃ (p:Addr) (P:P3) (m:Int),vs=[.ref p,.int m]/\SqT K H p (v3 P)/\BP 900 P/\Bd 900 m/\∀ (z:Addr) (H':Hp),Same H H'->S3 H' z (st P m)->Q (.ref z) H'
def spLast:Sp:=fun vs H Q _=>∃ (p:Addr) (P:P3),vs=[.ref p]/\S3 H p P/\N3 P/\∀ H',Same H H'->Q (.int (lst P)) H'
def spLowest:Sp:=fun vs H Q _=>∃ (p:Addr) (x y z:Int),vs=[.ref p]/\Sq3 H p x y z/\In3 Top x y z/\NZ x y z /\
 ∀ (r:Addr) (H':Hp) (a b c d:Int),Same H H'->Sq3 H' r a b c->One3 a b c->Pos3 a b c->d ≠ 0->x=d*a->y=d*b->z=d*c->Q (.ref r) H'
def spOn:Sp:=fun vs H Q _=>∃ (q p:Addr) (F:F6) (P R:P3) (d:Int),vs=[.ref q,.ref p]/\S6 H q F/\S3 H p P/\P=tm d R/\d ≠ 0/\L3 R/\wo F R=0/\BF 600 F/\BP 600 P/\∀ (r:Addr) (H':Hp),Same H H'->S3 H' r R->Q (.ref r) H'
def spLed:Sp:=fun vs H Q _=>∃ (q p:Addr) (F:F6) (P:P3) (m n:Int),vs=[.ref q,.ref p,.int m,.int n]/\S6 H q F/\S3 H p P/\L3 P/\BF 100 F/\BP 130 P/\Bd 262 m/\Bd 262 n/\∀ (r:Addr) (H':Hp),Same H H'->S3 H' r (mk F P (dr P m n))->Q (.ref r) H'
def spBy:Sp:=fun vs H Q _=>∃ (q p:Addr) (F:F6) (P' P:P3) (d m n:Int),vs=[.ref q,.ref p,.int m,.int n]/\S6 H q F/\S3 H p P'/\P'=tm d P/\d ≠ 0/\L3 P/\wo F P=0/\sz F ≠ 0/\(m ≠ 0\/n ≠ 0)/\BF 100 F/\BP 130 P'/\Bd 262 m/\Bd 262 n /\
 ∀ (r:Addr) (H':Hp) (R:P3),Same H H'->S3 H' r R->(Bd 20 m->Bd 20 n->BP 600 R)->Rgt F P (dr P m n) R->Q (.ref r) H'
def spNums (K:W.Frag):Sp:=fun vs H Q _=>∃ (q p o:Addr) (F:F6) (P' P R' R:P3) (d e:Int),vs=[.ref q,.ref p,.ref o]/\S6 H q F/\S3 H p P'/\S3 H o R'/\P'=tm d P/\d ≠ 0/\L3 P/\wo F P=0/\R'=tm e R/\e ≠ 0/\L3 R/\wo F R=0/\sz F ≠ 0/\BF 100 F/\BP 130 P'/\BP 600 R' /\
 ∀ (r:Addr) (H':Hp) (D:P3) (d':Int),Same H H'->H' r=some (.tup [.int (nm1 P D),.int (nm2 P D)])->L3 D->d' ≠ 0->cr (ln F P R) (ax P)=tm d' D->(BP 130 R->BP 262 D)->Q (.ref r) H'
def spCrK (K:W.Frag):Sp:=fun vs H Q _=>∃ (p q:Addr) (r s:P3),vs=[.ref p,.ref q]/\SqT K H p (v3 r)/\SqT K H q (v3 s)/\BP 900 r/\BP 900 s/\∀ (z:Addr) (H':Hp),Same H H'->S3 H' z (cr r s)->Q (.ref z) H'
theorem bd_cr2 {j k:Nat} {r s:P3} (h:BP j r) (p:BP k s):BP (j+k+1) (cr r s):=⟨(h.y.mul p.z).sub (h.z.mul p.y),(h.z.mul p.x).sub (h.x.mul p.z),(h.x.mul p.y).sub (h.y.mul p.x)⟩
theorem bp_ax {k:Nat} {l:P3} (P:P3) (h:BP k l):BP k (cr l (ax P)):=by
 have e:∀ {x:Int},Bd k x->Bd k (-x):=bd_neg
 unfold ax
 split
 ·refine ⟨?_,?_,?_⟩ <;> simp only [cr]
  ·rw [show l.y*1 - l.z*0=l.y by omega]; exact h.y
  ·rw [show l.z*0 - l.x*1=-l.x by omega]; exact e h.x
  ·rw [show l.x*0 - l.y*0=0 by omega]; exact bd0
 ·split
  ·refine ⟨?_,?_,?_⟩ <;> simp only [cr]
   ·rw [show l.y*0 - l.z*1=-l.z by omega]; exact e h.z
   ·rw [show l.z*0 - l.x*0=0 by omega]; exact bd0
   ·rw [show l.x*1 - l.y*0=l.x by omega]; exact h.x
  ·refine ⟨?_,?_,?_⟩ <;> simp only [cr]
   ·rw [show l.y*0 - l.z*0=0 by omega]; exact bd0
   ·rw [show l.z*1 - l.x*0=l.z by omega]; exact h.z
   ·rw [show l.x*0 - l.y*1=-l.y by omega]; exact e h.y
def spShared:Sp:=fun vs H Q _=>∃ (p:Addr) (b:Bool) (ns:List Int),vs=[.ref p]/\H p=some (Ho b (ns.map V.int))/\∀ g:Int,0<=g->(∀ n ∈ ns,g ∣ n)->Gen ns g->Q (.int g) H
def fdv (e:Int):V->V
 | .int n=>.int (n.fdiv e)
 | v=>v
def spLow:Sp:=fun vs H Q _=>∃ (p:Addr) (b:Bool) (ns:List Int),vs=[.ref p]/\H p=some (Ho b (ns.map V.int))/\ns.length<=9/\(∀ n ∈ ns,Bd 900 n)/\fstL ns ≠ 0/\∀ (r:Addr) (H':Hp) (e:Int),Same H H'->H' r=some (.tup ((ns.map V.int).map (fdv e)))->e ≠ 0->(∀ n ∈ ns,e ∣ n)->Gen ns e->(0 < e ↔ 0 < fstL ns)->Q (.ref r) H'
def spRows (K:W.Frag):Sp:=fun vs H Q _=>∃ (a:Addr) (ns:List Int) (w G:Int),vs=[.ref a,.int 1,.int w,.int G]/\SqL K H a (ns.map V.int)/\0<=G/\G<=1000000000/\∀ (p:Addr) (H':Hp) (t:T3),Same H H'->LT H' p t->BT 30 t->me t ≠ 0->Q (.ref p) H'
def spForm:Sp:=fun vs H Q _=>∃ (p:Addr) (t:T3) (c:Int),vs=[.ref p,.int c]/\LT H p t/\BT 30 t/\Bd 20 c/\∀ (r:Addr) (H':Hp),Same H H'->S6 H' r (fm t c)->Q (.ref r) H'
def spSpot:Sp:=fun vs H Q _=>∃ (p:Addr) (t:T3) (s u:Int),vs=[.ref p,.int s,.int u]/\LT H p t/\BT 30 t/\me t ≠ 0/\Bd 21 s/\Bd 21 u/\∀ (r:Addr) (H':Hp) (R:P3),Same H H'->S3 H' r R->L3 R->BP 105 R->(∀ c,wo (fm t c) R=0)->Q (.ref r) H'
def spLw:Sp:=fun vs H Q _=>∃ (p q:Addr) (F:F6) (P:P3),vs=[.ref p,.ref q]/\S6 H p F/\S3 H q P/\BF 600 F/\BP 900 P/\Q (.int (lw F P)) H
def spCross:Sp:=fun vs H Q _=>∃ (p q r:Addr) (F:F6) (P R:P3),vs=[.ref p,.ref q,.ref r]/\S6 H p F/\S3 H q P/\S3 H r R/\BF 600 F/\BP 600 P/\BP 600 R/\∀ H',Same H H'->Q (.int (bl F P R)) H'
def spIsSpot:Sp:=fun vs H Q _=>∃ (p:Addr) (P:P3),vs=[.ref p]/\S3 H p P/\L3 P/\BP 900 P/\∀ H',Same H H'->Q (.bl true) H'
def tv (c:Int):Int:=[1,1,1,-1,2,-3,6,1000003].getD (c % 8).toNat 0
theorem tv_at (c:Int):atI [V.int 1,.int 1,.int 1,.int (0 - 1),.int 2,.int (0 - 3),.int 6,.int (10^Int.toNat 6+3)] (c % 8)=some (.int (tv c))/\tv c ≠ 0/\Bd 20 (tv c):=by
 unfold tv
 have h:c % 8=0\/c % 8=1\/c % 8=2\/c % 8=3\/c % 8=4\/c % 8=5\/c % 8=6\/c % 8=7:=by omega
 rcases h with e | e | e | e | e | e | e | e <;> rw [e]
 all_goals exact ⟨rfl,by decide,by unfold Bd; decide⟩
def spTimes:Sp:=fun vs H Q _=>∃ c:Int,vs=[.int c]/\∀ H',Same H H'->Q (.int (tv c)) H'
theorem at4 (a b c d k:Int) (h0:0<=k) (h1:k < 4):∃ m,atI [V.int a,.int b,.int c,.int d] k=some (.int m)/\(m=a\/m=b\/m=c\/m=d):=by
 have h:k=0\/k=1\/k=2\/k=3:=by omega
 rcases h with e | e | e | e <;> subst e
 ·exact ⟨a,rfl,.inl rfl⟩
 ·exact ⟨b,rfl,.inr (.inl rfl)⟩
 ·exact ⟨c,rfl,.inr (.inr (.inl rfl))⟩
 ·exact ⟨d,rfl,.inr (.inr (.inr rfl))⟩
theorem mod_in {n M:Int} (h:0<=M):-M<=n % (2*M+1) - M/\n % (2*M+1) - M<=M:=by
 have:=Int.emod_nonneg n (show 2*M+1 ≠ 0 by omega)
 have:=Int.emod_lt_of_pos n (show 0 < 2*M+1 by omega)
 omega
theorem bd20 {x:Int} (h:-1000000<=x/\x<=1000000):Bd 20 x:=by
 unfold Bd
 have:(2:Nat)^20=1048576:=by decide
 omega
theorem bd30 {x:Int} (h:-1000000000<=x/\x<=1000000000):Bd 30 x:=by
 unfold Bd
 have:(2:Nat)^30=1073741824:=by decide
 omega
def spPair:Sp:=fun vs H Q _=>∃ x y w:Int,vs=[.int x,.int y,.int w]/\∀ (p:Addr) (H':Hp) (s u:Int),Same H H'->H' p=some (.tup [.int s,.int u])->Bd 20 s->Bd 20 u->Q (.ref p) H'
def spWay:Sp:=fun vs H Q _=>∃ (p:Addr) (P:P3) (m n:Int),vs=[.ref p,.int m,.int n]/\S3 H p P/\∀ (r:Addr) (H':Hp),Same H H'->S3 H' r (dr P m n)->Q (.ref r) H'
def spRight:Sp:=fun vs H Q _=>∃ (f q p:Addr) (F:F6) (P R:P3) (m n:Int),vs=[.ref f,.ref q,.ref p,.int m,.int n]/\S3 H f R/\S6 H q F/\S3 H p P/\BF 100 F/\BP 130 P/\BP 600 R/\Bd 20 m/\Bd 20 n/\Rgt F P (dr P m n) R/\∀ H',Same H H'->Q (.bl true) H'
theorem bf_fm {t:T3} {c:Int} (h:BT 30 t) (hc:Bd 20 c):BF 100 (fm t c):=by
 have d:∀ {x y z w:Int},Bd 30 x->Bd 30 y->Bd 30 z->Bd 30 w->Bd 100 (c*(x*y - z*w)):=fun a b e f=>(hc.mul ((a.mul b).sub (e.mul f))).mono (by decide)
 have e:∀ {x y z w u v:Int},Bd 30 x->Bd 30 y->Bd 30 z->Bd 30 w->Bd 30 u->Bd 30 v->Bd 100 (c*(x*y+z*w - 2*u*v)):=fun a b e f g i=>(hc.mul (((a.mul b).add (e.mul f)).sub ((bd_two g).mul i))).mono (by decide)
 exact ⟨d h.r0.x h.r2.x h.r1.x h.r1.x,d h.r0.y h.r2.y h.r1.y h.r1.y,d h.r0.z h.r2.z h.r1.z h.r1.z,e h.r0.y h.r2.z h.r0.z h.r2.y h.r1.y h.r1.z,e h.r0.x h.r2.z h.r0.z h.r2.x h.r1.x h.r1.z,e h.r0.x h.r2.y h.r0.y h.r2.x h.r1.x h.r1.y⟩
theorem bp_sp {t:T3} {s u:Int} (h:BT 30 t) (hs:Bd 21 s) (hu:Bd 21 u):BP 105 (sp t s u):=by
 have c12:=bd_cr h.r1 h.r2
 have c20:=bd_cr h.r2 h.r0
 have c01:=bd_cr h.r0 h.r1
 have k:∀ {p q r:Int},Bd (30+30+1) p->Bd (30+30+1) q->Bd (30+30+1) r->Bd 105 (sp1 s u p q r):=fun a b c=>
  (((((hs.mul hs).mul a).add ((hs.mul hu).mul b)).add (((hu.mul hu).mul c).mono (by decide))).mono (by decide))
 exact ⟨k c12.x c20.x c01.x,k c12.y c20.y c01.y,k c12.z c20.z c01.z⟩
def nz:V->Bool
 | .int n=>!decide (V.int n=V.int 0)
 | _=>false
def fst3 (x y z:Int):Int:=if x ≠ 0 then x else if y ≠ 0 then y else z
theorem nz_t {n:Int} (h:n ≠ 0):nz (.int n)=true:=by
 show (!decide (V.int n=V.int 0))=true
 rw [decide_eq_false (fun z=>h (V.int.inj z))]
 rfl
theorem nz_f {n:Int} (h:n=0):nz (.int n)=false:=by
 subst h
 show (!decide (V.int 0=V.int 0))=false
 rw [decide_eq_true rfl]
 rfl
theorem at0 {α:Type} {v:α} {l:List α}:atI (v :: l) (0:Int)=some v:=by
 have:atI (v :: l) ((0:Nat):Int)=some v:=atI_nat rfl
 exact this
theorem fst_ok {x y z:Int} (h:NZ x y z):atI (([V.int x,.int y,.int z].filter nz).map id) (0:Int)=some (.int (fst3 x y z)):=by
 unfold fst3
 by_cases h1:x ≠ 0
 ·rw [if_pos h1,List.filter_cons,nz_t h1,if_pos rfl]
  exact at0
 ·rw [if_neg h1,List.filter_cons,nz_f (Decidable.not_not.mp h1),if_neg Bool.false_ne_true]
  by_cases h2:y ≠ 0
  ·rw [if_pos h2,List.filter_cons,nz_t h2,if_pos rfl]
   exact at0
  ·rw [if_neg h2,List.filter_cons,nz_f (Decidable.not_not.mp h2),if_neg Bool.false_ne_true,List.filter_cons,nz_t (show z ≠ 0 by unfold NZ at h; omega),if_pos rfl]
   exact at0
theorem pos_of {x y z a b c d:Int} (hd:d ≠ 0) (hx:x=d*a) (hy:y=d*b) (hz:z=d*c) (n:NZ x y z) (h:(0 < d/\0 < fst3 x y z)\/(d < 0/\fst3 x y z < 0)):Pos3 a b c:=by
 have key:∀ {x a:Int},x=d*a->((x=0 ↔ a=0)/\((0 < d/\0 < x)\/(d < 0/\x < 0)->0 < a)):=by
  intro x a e
  subst e
  refine ⟨⟨fun z=>?_,fun z=>by rw [z,Int.mul_zero]⟩,fun z=>?_⟩
  ·rcases Int.mul_eq_zero.mp z with w | w
   ·exact absurd w hd
   ·exact w
  ·rcases z with ⟨h1,h2⟩ | ⟨h1,h2⟩
   ·exact Int.pos_of_mul_pos_left (by rw [Int.mul_comm]; exact h2) h1
   ·have h3:0 < (-d)*a:=by rw [Int.neg_mul]; omega
    exact Int.pos_of_mul_pos_left (by rw [Int.mul_comm]; exact h3) (show 0 < -d by omega)
 obtain ⟨x1,x2⟩:=key hx
 obtain ⟨y1,y2⟩:=key hy
 obtain ⟨z1,z2⟩:=key hz
 unfold fst3 at h
 unfold Pos3
 unfold NZ at n
 by_cases c1:x=0
 ·rw [if_neg (by omega)] at h
  by_cases c2:y=0
  ·rw [if_neg (by omega)] at h
   exact .inr (.inr ⟨x1.mp c1,y1.mp c2,z2 h⟩)
  ·rw [if_pos c2] at h
   exact .inr (.inl ⟨x1.mp c1,y2 h⟩)
 ·rw [if_pos c1] at h
  exact .inl (x2 h)
theorem fst_nz {x y z:Int} (h:NZ x y z):fst3 x y z ≠ 0:=by
 unfold fst3
 unfold NZ at h
 split
 ·assumption
 ·split
  ·assumption
  ·omega
theorem gcd_le {g s t x y k1 k2:Int} (hx:x.natAbs<=Lm) (hy:y.natAbs<=Lm) (eg:g=s*x+t*y) (e1:x=k1*g) (e2:y=k2*g):g.natAbs<=Lm:=by
 by_cases h1:x=0
 ·by_cases h2:y=0
  ·subst h1 h2
   rw [Int.mul_zero,Int.mul_zero] at eg
   subst eg
   exact Nat.zero_le _
  ·refine Nat.le_trans (Nat.le_of_dvd (by omega) (Int.natAbs_dvd_natAbs.mpr ⟨k2,?_⟩)) hy
   rw [Int.mul_comm]
   exact e2
 ·refine Nat.le_trans (Nat.le_of_dvd (by omega) (Int.natAbs_dvd_natAbs.mpr ⟨k1,?_⟩)) hx
  rw [Int.mul_comm]
  exact e1
theorem iteFE {b:Bool} {A B:Prop} (h:b=false) (hB:B):if b=true then A else B:=by
 subst h
 exact iteF hB
theorem bd_cmp {k:Nat} {P:P3} (h:BP k P) (j:Nat):Bd k (cmp P j):=match j with
 | 0=>h.x
 | 1=>h.y
 | n+2=>h.z
theorem bd_get {k:Nat} {P:P3} {i:Nat} {n:Int} (hP:BP k P) (h:[P.x,P.y,P.z][i]?=some n):Bd k n:=by
 match i,h with
 | 0,h=>cases h; exact hP.x
 | 1,h=>cases h; exact hP.y
 | 2,h=>cases h; exact hP.z
 | n+3,h=>cases h
theorem okc {c n:Int} (h:Bd 20 c):IntMulOk c n:=by
 unfold Bd at h
 have e:(2:Nat)^20=1048576:=by decide
 exact IntMulOk.of_left (intBits_le_64 (by omega) (by omega))
def vtm (c:Int):V->V
 | .int n=>.int (c*n)
 | v=>v
def vmt (c:Int):V->V
 | .int n=>.int (n*c)
 | v=>v
theorem me_stairs (a b c:Int):me ⟨⟨1,a,b⟩,⟨0,1,c⟩,⟨0,0,1⟩⟩ ≠ 0:=by
 simp only [me,rp,cr]
 omega
theorem tm_one (P:P3):P=tm 1 P:=P3.ext' ⟨(Int.one_mul _).symm,(Int.one_mul _).symm,(Int.one_mul _).symm⟩
theorem first_ok:∀ {ns:List Int},fstL ns ≠ 0->∃ ms:List Int,((ns.map V.int).filter nz).map id=(fstL ns :: ms).map V.int
 | [],h=>absurd rfl h
 | n :: ns,h=>by
  unfold fstL at *
  by_cases c:n=0
  ·rw [if_neg (by omega)] at *
   rw [List.map_cons,List.filter_cons,nz_f c,if_neg Bool.false_ne_true]
   exact first_ok h
  ·rw [if_pos c] at *
   rw [List.map_cons,List.filter_cons,nz_t c,if_pos rfl]
   refine ⟨ns.filter fun n=>nz (.int n),?_⟩
   rw [List.map_id,List.map_cons,List.filter_map]
   rfl
theorem fst3_eq (x y z:Int):fstL [x,y,z]=fst3 x y z:=by
 unfold fst3
 simp only [fstL]
 split
 ·rfl
 ·split
  ·rfl
  ·split
   ·rfl
   ·omega
theorem n3_fst {P:P3} (h:N3 P):fstL [P.x,P.y,P.z] ≠ 0:=by
 rw [fst3_eq]
 exact fst_nz h
theorem low3 {P:P3} {e:Int} (n3:N3 P) (e0:e ≠ 0) (hd:∀ n ∈ [P.x,P.y,P.z],e ∣ n) (hg:Gen [P.x,P.y,P.z] e) (hs:0 < e ↔ 0 < fstL [P.x,P.y,P.z]):L3 ⟨P.x.fdiv e,P.y.fdiv e,P.z.fdiv e⟩/\P=tm e ⟨P.x.fdiv e,P.y.fdiv e,P.z.fdiv e⟩:=by
 obtain ⟨o,qx,qy,qz⟩:=low_ok e0 (hd _ (by simp)) (hd _ (by simp)) (hd _ (by simp)) hg.three
 have fz:=fst_nz n3
 rw [fst3_eq] at hs
 exact ⟨⟨o,pos_of e0 qx qy qz n3 (by omega)⟩,P3.ext' ⟨qx,qy,qz⟩⟩
theorem bp_mem {k:Nat} {P:P3} (h:BP k P):∀ n ∈ [P.x,P.y,P.z],Bd k n:=by
 intro n hn
 simp only [List.mem_cons,List.not_mem_nil,or_false] at hn
 rcases hn with rfl | rfl | rfl
 ·exact h.x
 ·exact h.y
 ·exact h.z
theorem getI {ns:List Int} {i:Nat} {v:V} (h:(ns.map V.int)[i]?=some v):∃ n,v=.int n/\ns[i]?=some n/\n ∈ ns:=by
 rw [List.getElem?_map] at h
 cases e:ns[i]? with
 | none=>rw [e] at h; cases h
 | some n=>rw [e] at h; exact ⟨n,(Option.some.inj h).symm,rfl,List.mem_of_getElem? e⟩
def rowOf (t:T3):Nat->P3
 | 0=>t.r0
 | 1=>t.r1
 | _=>t.r2
theorem _root_.L2.SqT.up {K:W.Frag} {H H':Hp} {a:Addr} {xs:List V} (e:Same H H') (h:SqT K H a xs):SqT K H' a xs:=by
 rcases h with (h | ⟨o,h⟩) | h
 ·exact .inl (.inl (e _ _ h))
 ·exact .inl (.inr ⟨o,e _ _ h⟩)
 ·exact .inr h
theorem callK_anyT {X:Cx} {K:W.Frag} (hK:X.K=K) (hc:X.calm=true):CallR X (.builtin "any") (fun xs H Q=>∃ (l:Addr) (ns:List Int),xs=[.ref l]/\SqT K H l (ns.map V.int)/\Q (.bl (ns.any (· != 0))) H):=by
 subst hK
 exact call_anyT hc
theorem putS {H H':Hp} {p:Addr} {o:HO} (g:Same H H') (n:H p=none):Same H (upd H' p o):=fun b u z=>by
 rw [upd_ne (ne_of_none z n)]
 exact g b u z
def STK (K:W.Frag) (H:Hp) (p:Addr) (t:T3):Prop:=∃ r0 r1 r2:Addr,SqT K H p [.ref r0,.ref r1,.ref r2]/\SqT K H r0 (v3 t.r0)/\SqT K H r1 (v3 t.r1)/\SqT K H r2 (v3 t.r2)
theorem STK.up {K:W.Frag} {H H':Hp} {p:Addr} {t:T3} (e:Same H H') (h:STK K H p t):STK K H' p t:=by
 obtain ⟨r0,r1,r2,h0,h1,h2,h3⟩:=h
 exact ⟨r0,r1,r2,h0.up e,h1.up e,h2.up e,h3.up e⟩
theorem STK.of {K:W.Frag} {H:Hp} {p:Addr} {t:T3} (h:ST H p t):STK K H p t:=by
 obtain ⟨r0,r1,r2,h0,h1,h2,h3⟩:=h
 exact ⟨r0,r1,r2,SqT.of h0,SqT.of h1,SqT.of h2,SqT.of h3⟩
inductive Tus (H:Hp):List V->List P3->Prop where
 | nil:Tus H [] []
 | cons {r:Addr} {P:P3} {vs:List V} {Ps:List P3}:S3 H r P->Tus H vs Ps->Tus H (.ref r :: vs) (P :: Ps)
theorem Tus.mono {H H':Hp} {vs:List V} {Ps:List P3} (g:Same H H') (h:Tus H vs Ps):Tus H' vs Ps:=by
 induction h with
 | nil=>exact .nil
 | cons h _ ih=>exact .cons (g _ _ h) ih
theorem Tus.put {H:Hp} {vs:List V} {Ps:List P3} {l:Addr} {zs:List V} {o:HO} (h:Tus H vs Ps) (hl:H l=some (.lst zs)):Tus (upd H l o) vs Ps:=by
 induction h with
 | nil=>exact .nil
 | @cons r P vs Ps h _ ih=>
  refine .cons ?_ ih
  have ne:r ≠ l:=fun w=>by
   subst w
   have h':H r=some (t3 P):=h
   rw [hl] at h'
   cases h'
  show upd H l o r=_
  rw [upd_ne ne]
  exact h
theorem Tus.app {H:Hp} {vs ws:List V} {Ps Rs:List P3} (h:Tus H vs Ps) (k:Tus H ws Rs):Tus H (vs ++ ws) (Ps ++ Rs):=by
 induction h with
 | nil=>exact k
 | cons h _ ih=>exact .cons h ih
theorem Tus.len {H:Hp} {vs:List V} {Ps:List P3} (h:Tus H vs Ps):vs.length=Ps.length:=by
 induction h with
 | nil=>rfl
 | cons _ _ ih=>simp [ih]
theorem Tus.get {H:Hp} {vs:List V} {Ps:List P3} (h:Tus H vs Ps):∀ {i:Nat} {v:V},vs[i]?=some v->∃ r P,v=.ref r/\Ps[i]?=some P/\S3 H r P:=by
 induction h with
 | nil=>intro i v e; cases e
 | @cons r P vs Ps h _ ih=>
  intro i v e
  cases i with
  | zero=>exact ⟨r,P,(Option.some.inj e).symm,rfl,h⟩
  | succ i=>exact ih e
noncomputable def nzH (H:Hp) (v:V):Bool:=@decide (∃ r P,v=.ref r/\S3 H r P/\N3 P) (Classical.propDecidable _)
theorem s3_inj {H:Hp} {r:Addr} {P R:P3} (h:S3 H r P) (k:S3 H r R):P=R:=by
 have e:some (t3 P)=some (t3 R):=h.symm.trans k
 injection e with e
 injection e with e
 have e1:=(List.cons.inj e).1
 have e2:=(List.cons.inj (List.cons.inj e).2).1
 have e3:=(List.cons.inj (List.cons.inj (List.cons.inj e).2).2).1
 exact P3.ext' ⟨V.int.inj e1,V.int.inj e2,V.int.inj e3⟩
theorem nzH_at {H:Hp} {r:Addr} {P:P3} (h:S3 H r P):nzH H (.ref r)=nzb P:=by
 rw [Bool.eq_iff_iff]
 unfold nzH
 rw [@decide_eq_true_iff _ (Classical.propDecidable _),nzb_iff]
 constructor
 ·rintro ⟨r',R,e,hR,n⟩
  cases e
  rw [s3_inj h hR]
  exact n
 ·intro n
  exact ⟨r,P,rfl,h,n⟩
theorem any3 (P:P3):([P.x,P.y,P.z].any (· != 0))=nzb P:=by
 unfold nzb
 by_cases h1:P.x=0 <;> by_cases h2:P.y=0 <;> by_cases h3:P.z=0 <;> simp [h1,h2,h3]
theorem Tus.first {H:Hp} {vs:List V} {Ps:List P3} {v:P3} (h:Tus H vs Ps) (e:(Ps.filter nzb).head?=some v):∃ r rest,(vs.filter (nzH H)).map id=.ref r :: rest/\S3 H r v:=by
 induction h with
 | nil=>cases e
 | @cons r P vs Ps h _ ih=>
  rw [List.filter_cons] at e
  rw [List.filter_cons,nzH_at h]
  cases c:nzb P with
  | true=>
   rw [c,if_pos rfl] at e
   rw [if_pos rfl]
   have:P=v:=Option.some.inj e
   subst this
   exact ⟨r,_,rfl,h⟩
  | false=>
   rw [c,if_neg Bool.false_ne_true] at e
   rw [if_neg Bool.false_ne_true]
   exact ih e
def rw3 (t:T3):List P3:=[t.r0,t.r1,t.r2]
def spCrs (K:W.Frag):Sp:=fun vs H Q _=>∃ (p q:Addr) (t u:T3),vs=[.ref p,.ref q]/\STK K H p t/\STK K H q u/\BT 420 t/\BT 420 u/\∀ (l:Addr) (H':Hp) (ws:List V),Same H H'->H' l=some (.lst ws)->Tus H' ws (crs (rw3 t) (rw3 u))->Q (.ref l) H'
theorem rowK {K:W.Frag} {H:Hp} {r0 r1 r2:Addr} {t:T3} {k:Nat} (h0:SqT K H r0 (v3 t.r0)) (h1:SqT K H r1 (v3 t.r1)) (h2:SqT K H r2 (v3 t.r2)) (b:BT k t) {i:Nat} {v:V} (e:[V.ref r0,.ref r1,.ref r2][i]?=some v):∃ z P,v=.ref z/\(rw3 t)[i]?=some P/\SqT K H z (v3 P)/\BP k P:=by
 match i,e with
 | 0,e=>exact ⟨r0,t.r0,(Option.some.inj e).symm,rfl,h0,b.r0⟩
 | 1,e=>exact ⟨r1,t.r1,(Option.some.inj e).symm,rfl,h1,b.r1⟩
 | 2,e=>exact ⟨r2,t.r2,(Option.some.inj e).symm,rfl,h2,b.r2⟩
 | n+3,e=>cases e
def axT:T3:=⟨⟨1,0,0⟩,⟨0,1,0⟩,⟨0,0,1⟩⟩
def spVx (C:Addr):Sp:=fun vs H Q E=>∃ (p:Addr) (F:F6),vs=[.ref p]/\S6 H p F/\BF 400 F/\(sz F ≠ 0->E (.ref C) none H)/\(sz F=0->∀ (r:Addr) (H':Hp) (R:P3),Same H H'->S3 H' r R->L3 R->BP 900 R->tb (sl F) R=⟨0,0,0⟩->Q (.ref r) H')
theorem tb_tm0 {F:F6} {d:Int} {R:P3} (hd:d ≠ 0) (h:tb (sl F) (tm d R)=⟨0,0,0⟩):tb (sl F) R=⟨0,0,0⟩:=by
 have e:∀ r:P3,rp r (tm d R)=d*rp r R:=fun r=>by
  simp only [rp,tm]
  grind
 simp only [tb,e,P3.mk.injEq] at h ⊢
 exact ⟨mul_cancel h.1 hd,mul_cancel h.2.1 hd,mul_cancel h.2.2 hd⟩
theorem le_sq {g:Int} (h:1<=g):g<=g*g:=by
 have:=Int.mul_le_mul_of_nonneg_right h (show 0<=g by omega)
 omega
theorem _root_.L2.SqT.put {K:W.Frag} {H:Hp} {a l:Addr} {xs zs:List V} {o:HO} (h:SqT K H a xs) (hl:H l=some (.lst zs)):SqT K (upd H l o) a xs:=by
 rcases h with (h | ⟨c,h⟩) | h
 ·have ne:a ≠ l:=fun w=>by subst w; rw [hl] at h; cases h
  exact .inl (.inl (by rw [upd_ne ne]; exact h))
 ·have ne:a ≠ l:=fun w=>by subst w; rw [hl] at h; cases h
  exact .inl (.inr ⟨c,by rw [upd_ne ne]; exact h⟩)
 ·exact .inr h
theorem _root_.L2.SqL.up {K:W.Frag} {H H':Hp} {a:Addr} {xs:List V} (e:Same H H') (h:SqL K H a xs):SqL K H' a xs:=by
 rcases h with (h | ⟨o,h⟩) | h
 ·exact .inl (.inl (e _ _ h))
 ·exact .inl (.inr ⟨o,e _ _ h⟩)
 ·exact .inr h
theorem _root_.L2.Sq.up {K:W.Frag} {H H':Hp} {b:Bool} {a:Addr} {xs:List V} (e:Same H H') (h:Sq K H b a xs):Sq K H' b a xs:=by
 cases b
 ·exact SqT.up e h
 ·exact SqL.up e h
theorem ixb {K:W.Frag} {H:Hp} {b:Bool} {p:Addr} {xs:List V} {i:Int} {v:V} {Q:VK} (h:Sq K H b p xs) (e:atI xs i=some v) (q:Q v H):rIx K (.ref p) (.int i) H Q:=by
 cases b
 ·exact .inr (.inl ⟨p,xs,i,v,rfl,rfl,h,e,q⟩)
 ·exact .inl ⟨p,xs,i,v,rfl,rfl,h,e,q⟩
inductive TuK (K:W.Frag) (H:Hp):List V->List P3->Prop where
 | nil:TuK K H [] []
 | cons {r:Addr} {P:P3} {vs:List V} {Ps:List P3}:SqT K H r (v3 P)->TuK K H vs Ps->TuK K H (.ref r :: vs) (P :: Ps)
theorem TuK.mono {K:W.Frag} {H H':Hp} {vs:List V} {Ps:List P3} (g:Same H H') (h:TuK K H vs Ps):TuK K H' vs Ps:=by
 induction h with
 | nil=>exact .nil
 | cons h _ ih=>exact .cons (h.up g) ih
theorem TuK.put {K:W.Frag} {H:Hp} {vs:List V} {Ps:List P3} {l:Addr} {zs:List V} {o:HO} (h:TuK K H vs Ps) (hl:H l=some (.lst zs)):TuK K (upd H l o) vs Ps:=by
 induction h with
 | nil=>exact .nil
 | cons h _ ih=>exact .cons (h.put hl) ih
theorem TuK.app {K:W.Frag} {H:Hp} {vs ws:List V} {Ps Rs:List P3} (h:TuK K H vs Ps) (k:TuK K H ws Rs):TuK K H (vs ++ ws) (Ps ++ Rs):=by
 induction h with
 | nil=>exact k
 | cons h _ ih=>exact .cons h ih
theorem TuK.len {K:W.Frag} {H:Hp} {vs:List V} {Ps:List P3} (h:TuK K H vs Ps):vs.length=Ps.length:=by
 induction h with
 | nil=>rfl
 | cons _ _ ih=>rw [List.length_cons,List.length_cons,ih]
theorem TuK.get {K:W.Frag} {H:Hp} {vs:List V} {Ps:List P3} (h:TuK K H vs Ps):∀ {i:Nat} {v:V},vs[i]?=some v->∃ r P,v=.ref r/\Ps[i]?=some P/\SqT K H r (v3 P):=by
 induction h with
 | nil=>intro i v e; cases e
 | @cons r P vs Ps h _ ih=>
  intro i v e
  match i,e with
  | 0,e=>exact ⟨r,P,(Option.some.inj e).symm,rfl,h⟩
  | i+1,e=>exact ih (i:=i) (by simpa using e)
theorem comp_seqR {K:W.Frag} {b:Bool} {a:Addr} {xs:List V} {te:TE} {σ:V->St} {H:Hp} {Q:VK} (hn:xs.length < sizeLine) (hK:∀ H',Same H H'->Sq K H' b a xs) (R:Nat->List V->Hp->Prop) (R0:∀ p,H p=none->R 0 [] (upd H p (.lst [])))
  (he:∀ (i:Nat) (x:V) (vs:List V) (H':Hp) (acc:Addr) (Q':VK),xs[i]?=some x->Same H H'->H acc=none->H' acc=some (.lst vs)->R i vs H'->vs.length=i->(∀ y H2,Same H' H2->R (i+1) (vs ++ [y]) (upd H2 acc (.lst (vs ++ [y])))->Q' y H2)->te (σ x) H' Q')
  (q:∀ p H' vs,Same H H'->H p=none->H' p=some (.lst vs)->vs.length=xs.length->R xs.length vs H'->Q (.ref p) H'):CompEnd (Itb K b a) Q H te σ:=by
 cases b with
 | true=>exact comp_listR hn hK R R0 he q
 | false=>exact comp_tupR hn hK R R0 he q
theorem compIf_listI {K:W.Frag} {a:Addr} {xs:List V} {tc:TT} {te:TE} {σ:V->St} {H:Hp} {Q:VK} (hn:xs.length < sizeLine) (b:Nat->Bool) (hK:∀ H',Same H H'->SqL K H' a xs) (R:Nat->List V->Prop) (R0:R 0 [])
  (Rt:∀ i x vs,xs[i]?=some x->b i=true->R i vs->R (i+1) (vs ++ [x])) (Rf:∀ i x vs,xs[i]?=some x->b i=false->R i vs->R (i+1) vs)
  (ht:∀ (i:Nat) (x:V) (H':Hp) (Q':Bool->Hp->Prop),xs[i]?=some x->Same H H'->(∀ H2,Same H' H2->Q' (b i) H2)->tc (σ x) H' Q')
  (he:∀ (i:Nat) (x:V) (H':Hp) (Q':VK),xs[i]?=some x->Same H H'->(∀ H2,Same H' H2->Q' x H2)->te (σ x) H' Q')
  (q:∀ a H' vs,Same H H'->H a=none->H' a=some (.lst vs)->R xs.length vs->Q (.ref a) H'):CompIfEnd (Itl K a) Q H tc te σ:=by
 intro acc hacc
 refine ⟨fun i m H' vs=>i<=xs.length/\m=xs.length - i/\Same H H'/\H' acc=some (.lst vs)/\vs.length<=i/\R i vs,⟨xs.length,Nat.zero_le _,by simp,same_new hacc _,upd_same,Nat.le_refl _,R0⟩,?_⟩
 rintro i m H' vs ⟨hi,rfl,g,ha,hv,r⟩
 refine ⟨ha,?_⟩
 by_cases h:i=xs.length
 ·subst h
  exact .inl ⟨⟨xs,hK _ g,Nat.le_refl _⟩,q acc H' vs g hacc ha r⟩
 ·have hlt:i < xs.length:=by omega
  refine .inr ⟨⟨xs,xs[i],hK _ g,by simp [hlt]⟩,by omega,?_⟩
  rintro x H2 ⟨rfl,hx⟩
  have ex:=hx xs (hK _ g)
  refine ht i x _ _ ex g fun H3 g3=>?_
  cases e:b i with
  | true=>exact iteT (he i x _ _ ex (g.trans g3) fun H4 g4=>⟨g4 _ _ (g3 _ _ ha),xs.length - (i+1),by omega,by omega,rfl,same_upd (g.trans (g3.trans g4)) hacc,upd_same,by simp; omega,Rt i x vs ex e r⟩)
  | false=>exact iteF ⟨xs.length - (i+1),by omega,by omega,rfl,g.trans g3,g3 _ _ ha,by omega,Rf i x vs ex e r⟩
def spRpK (K:W.Frag):Sp:=fun vs H Q _=>∃ (p q:Addr) (r s:P3),vs=[.ref p,.ref q]/\S3 H p r/\SqT K H q (v3 s)/\BP 2000 r/\BP 2000 s/\Q (.int (rp r s)) H
def spTbK (K:W.Frag):Sp:=fun vs H Q _=>∃ (p q:Addr) (t:T3) (P:P3),vs=[.ref p,.ref q]/\ST H p t/\SqT K H q (v3 P)/\BT 2000 t/\BP 2000 P/\∀ (r:Addr) (H':Hp),Same H H'->H r=none->S3 H' r (tb t P)->Q (.ref r) H'
def spWoK (K:W.Frag):Sp:=fun vs H Q _=>∃ (p q:Addr) (F:F6) (P:P3),vs=[.ref p,.ref q]/\S6 H p F/\SqT K H q (v3 P)/\BF 600 F/\BP 600 P/\∀ H',Same H H'->Q (.int (wo F P)) H'
def spAddK (K:W.Frag):Sp:=fun vs H Q _=>∃ (p q:Addr) (P R:P3),vs=[.ref p,.ref q]/\SqT K H p (v3 P)/\SqT K H q (v3 R)/\∀ (z:Addr) (H':Hp),Same H H'->S3 H' z (ad P R)->Q (.ref z) H'
def spLowS (K:W.Frag):Sp:=fun vs H Q _=>∃ (b:Bool) (p:Addr) (x y z:Int),vs=[.ref p]/\Sq K H b p [.int x,.int y,.int z]/\In3 Top x y z/\NZ x y z /\
 ∀ (r:Addr) (H':Hp) (a b c d:Int),Same H H'->Sq3 H' r a b c->One3 a b c->Pos3 a b c->d ≠ 0->x=d*a->y=d*b->z=d*c->Q (.ref r) H'
theorem newton_step {n g:Int} (n0:0<=n) (g0:0<=g) (hg:n < g*g):0 < g/\0<=(g+n.fdiv g) / 2/\(g+n.fdiv g) / 2 < g/\n < ((g+n.fdiv g) / 2+1)*((g+n.fdiv g) / 2+1):=by
 have gp:0 < g:=by
  rcases (show g=0\/0 < g by omega) with h | h
  ·subst h; omega
  ·exact h
 have e:n=g*n.fdiv g+n.fmod g:=by rw [Int.fmod_def]; omega
 have r0:=Int.fmod_nonneg_of_pos n gp
 have r1:=Int.fmod_lt_of_pos n gp
 generalize n.fdiv g=q at e ⊢
 generalize n.fmod g=r at e r0 r1
 have q0:0<=q:=by
  rcases Int.lt_or_le q 0 with h | h
  ·have:=Int.mul_le_mul_of_nonneg_left (show q<=-1 by omega) (Int.le_of_lt gp)
   omega
  ·exact h
 have q1:q < g:=by
  rcases Int.lt_or_le q g with h | h
  ·exact h
  ·have:=Int.mul_le_mul_of_nonneg_left h (Int.le_of_lt gp)
   omega
 have sqn:∀ a:Int,0<=a*a:=fun a=>by
  rcases Int.le_total 0 a with h | h
  ·exact Int.mul_nonneg h h
  ·exact Int.mul_nonneg_of_nonpos_of_nonpos h h
 refine ⟨gp,by omega,by omega,?_⟩
 have hn:n < g*(q+1):=by
  have:g*(q+1)=g*q+g:=by rw [Int.mul_add,Int.mul_one]
  omega
 have h2:g+q+1<=2*((g+q) / 2+1):=by omega
 generalize (g+q) / 2+1=c at h2 ⊢
 have k:=sqn (g - (q+1))
 have h3:(g+q+1)*(g+q+1)<=(2*c)*(2*c):=Int.mul_le_mul h2 h2 (by omega) (by omega)
 grind
theorem root_uniq {g r:Int} (h0:0<=g) (h1:g*g<=r*r) (h2:r*r < (g+1)*(g+1)) (r0:0<=r):g=r:=by
 rcases Int.lt_trichotomy g r with h | h | h
 ·have:=Int.mul_le_mul (show g+1<=r by omega) (show g+1<=r by omega) (by omega) (by omega)
  omega
 ·exact h
 ·have:=Int.mul_le_mul (show r+1<=g by omega) (show r+1<=g by omega) (by omega) (by omega)
  grind
def spOff (K:W.Frag):Sp:=fun vs H Q _=>∃ (b:Bool) (q p:Addr) (F:F6) (us:List V) (Ps:List P3),vs=[.ref q,.ref p]/\S6 H q F/\Sq K H b p us/\TuK K H us Ps/\Ps.length<=3/\BF 300 F/\(∀ P ∈ Ps,BP 300 P)/\(∃ v,offF F Ps=some v) /\
 ∀ (r:Addr) (H':Hp) (v:P3),Same H H'->SqT K H' r (v3 v)->offF F Ps=some v->Q (.ref r) H'
theorem bp_offs {k:Nat} {Ps:List P3} (h:∀ P ∈ Ps,BP k P) {v:P3} (hv:v ∈ offs Ps):BP (k+1) v:=by
 rcases List.mem_append.mp hv with m | m
 ·exact (h v m).mono'
 ·obtain ⟨a,ha,m⟩:=List.mem_flatMap.mp m
  obtain ⟨b,hb,rfl⟩:=List.mem_map.mp m
  exact bp_ad (h a ha) (h b hb)
def OffR (K:W.Frag) (H:Hp) (F:F6) (Vs:List P3) (i:Nat) (vs:List V):Prop:=match (Vs.take i).find? fun v=>wo F v != 0 with
 | none=>vs=[]
 | some v=>∃ r rest,vs=.ref r :: rest/\SqT K H r (v3 v)
def offB (F:F6) (Vs:List P3) (i:Nat):Bool:=match Vs[i]? with
 | none=>false
 | some v=>wo F v != 0
theorem offB_at {F:F6} {Vs:List P3} {i:Nat} {v:P3} (h:Vs[i]?=some v):offB F Vs i=(wo F v != 0):=by
 unfold offB
 rw [h]
theorem OffR.zero {K:W.Frag} {H:Hp} {F:F6} {Vs:List P3}:OffR K H F Vs 0 []:=by
 unfold OffR
 simp
theorem OffR.step {K:W.Frag} {H:Hp} {F:F6} {Vs:List P3} {i:Nat} {vs:List V} {r:Addr} {P:P3} (hP:Vs[i]?=some P) (hr:SqT K H r (v3 P)) (h:OffR K H F Vs i vs):(offB F Vs i=true->OffR K H F Vs (i+1) (vs ++ [.ref r]))/\(offB F Vs i=false->OffR K H F Vs (i+1) vs):=by
 rw [offB_at hP]
 unfold OffR at *
 rw [List.take_succ,hP,List.find?_append]
 cases e:(Vs.take i).find? fun v=>wo F v != 0 with
 | some v=>
  rw [e] at h
  obtain ⟨r',rest,rfl,h'⟩:=h
  exact ⟨fun _=>⟨r',rest ++ [.ref r],rfl,h'⟩,fun _=>⟨r',rest,rfl,h'⟩⟩
 | none=>
  rw [e] at h
  subst h
  refine ⟨fun c=>?_,fun c=>?_⟩
  ·simp only [Option.none_or,Option.toList,List.find?_cons,c]
   exact ⟨r,[],rfl,hr⟩
  ·simp only [Option.none_or,Option.toList,List.find?_cons,c,List.find?_nil]
theorem axs_bp {k:Nat}:∀ P ∈ axs,BP k P:=by
 intro P h
 simp only [axs,List.mem_cons,List.not_mem_nil,or_false] at h
 rcases h with rfl | rfl | rfl
 ·exact ⟨bd1,bd0,bd0⟩
 ·exact ⟨bd0,bd1,bd0⟩
 ·exact ⟨bd0,bd0,bd1⟩
theorem wo_n3 {F:F6} {v:P3} (h:wo F v ≠ 0):N3 v:=by
 apply Classical.byContradiction
 intro c
 rw [n3_not c] at h
 simp [wo] at h
theorem n3_nz {v:P3} (h:N3 v):NZ v.x v.y v.z:=h
@[irreducible] def TopR:Int:=2^1500
theorem TopR_eq:TopR=2^1500:=by unfold TopR; rfl
theorem bd_topR {x:Int} (h:Bd 1500 x):x<=TopR:=by
 have e:TopR=((2^1500:Nat):Int):=by rw [TopR_eq]; decide +kernel
 unfold Bd at h
 rw [e]
 generalize (2:Nat)^1500=N at h
 omega
theorem bits_top {g:Int} (h0:0<=g) (h:g<=2*TopR+1):g.natAbs < 2^1600:=by
 have e:TopR=((2^1500:Nat):Int):=by rw [TopR_eq]; decide +kernel
 have k:2*2^1500+1 < 2^1600:=by decide +kernel
 rw [e] at h
 generalize (2:Nat)^1500=N at h k
 generalize (2:Nat)^1600=M at k
 omega
def spAbove:Sp:=fun vs H Q _=>∃ n,vs=[.int n]/\0<=n/\n<=TopR/\∀ g:Int,0<=g->g<=2*n+1->n < g*g->Q (.int g) H
def spRootF:Sp:=fun vs H Q _=>∃ n:Int,vs=[.int n]/\0<=n/\n<=TopR/\∀ g:Int,0<=g->g*g<=n->n < (g+1)*(g+1)->Q (.int g) H
theorem bd_rt2 {k:Nat} {n g:Int} (h0:0<=g) (h:g*g<=n) (hn:Bd (k+k) n):Bd k g:=by
 unfold Bd at *
 have h1:g.natAbs*g.natAbs<=2^k*2^k:=by
  rw [<- Nat.pow_add]
  have:(g*g).natAbs=g.natAbs*g.natAbs:=Int.natAbs_mul ..
  have:=Int.mul_nonneg h0 h0
  omega
 rcases Nat.lt_or_ge (2^k) g.natAbs with c | c
 ·have:=Nat.mul_lt_mul'' c c
  omega
 ·exact c
inductive Tu (H:Hp):List V->List P3->Prop where
 | nil:Tu H [] []
 | cons {r:Addr} {P:P3} {vs:List V} {Ps:List P3}:S3 H r P->Tu H vs Ps->Tu H (.ref r :: vs) (P :: Ps)
theorem lex3 (P R:P3):HT.lexLt [P.x,P.y,P.z] [R.x,R.y,R.z]=true ↔ lt3 P R:=by
 unfold lt3
 simp only [HT.lexLt]
 by_cases h1:P.x=R.x
 ·rw [if_pos h1]
  by_cases h2:P.y=R.y
  ·rw [if_pos h2]
   by_cases h3:P.z=R.z
   ·rw [if_pos h3]
    simp
    omega
   ·rw [if_neg h3]
    simp
    omega
  ·rw [if_neg h2]
   simp
   omega
 ·rw [if_neg h1]
  simp
  omega
def spCorL:Sp:=fun vs H Q _=>∃ (q lr:Addr) (F:F6) (l:P3),vs=[.ref q,.ref lr]/\S6 H q F/\S3 H lr l/\BF 100 F/\BP 170 l/\N3 l/\sz F ≠ 0 /\
 ∀ (r r1 r2:Addr) (H':Hp) (R S:P3),Same H H'->H' r=some (.tup [.ref r1,.ref r2])->S3 H' r1 R->S3 H' r2 S->Bas F l R S->BP 172 R->BP 446 S->Q (.ref r) H'
def EndAt (F:F6) (R S:P3) (r:Int) (P:P3):Prop:=L3 P/\BP 900 P/\∃ e,e ≠ 0/\ad (tm r R) (tm (wo F R) S)=tm e P
def TwoEnds (F:F6) (R S:P3) (r:Int) (i:Nat) (ws:List V) (H:Hp):Prop:=
 (i=0->ws=[])/\(i=1->∃ z P,ws=[.ref z]/\S3 H z P/\EndAt F R S r P)/\(i=2->∃ z z' P P',ws=[.ref z,.ref z']/\S3 H z P/\S3 H z' P'/\EndAt F R S r P/\EndAt F R S (-r) P')
theorem S3.put {H:Hp} {r l:Addr} {P:P3} {zs:List V} {o:HO} (h:S3 H r P) (hl:H l=some (.lst zs)):S3 (upd H l o) r P:=by
 have ne:r ≠ l:=fun w=>by
  subst w
  unfold S3 at h
  rw [hl] at h
  cases h
 unfold S3
 rw [upd_ne ne]
 exact h
theorem met_one {F:F6} {l R S P P':P3} {r:Int} (B:Bas F l R S) (hr:r*r=sqr F R S) (h:EndAt F R S r P) (h':EndAt F R S (-r) P') (e:P=P'):Met F l [P]:=by
 obtain ⟨lP,bP,d,hd,q⟩:=h
 obtain ⟨lP',bP',d',hd',q'⟩:=h'
 have r0:=(B.same hd hd' lP lP' q q').mp e
 refine .one ((B.sq hr).2.mpr r0) fun X=>?_
 rw [B.two hr lP lP' hd hd' q q' X,<- e]
 simp
theorem met_two {F:F6} {l R S P P':P3} {r:Int} (B:Bas F l R S) (hr:r*r=sqr F R S) (h:EndAt F R S r P) (h':EndAt F R S (-r) P') (lt:lt3 P P'\/lt3 P' P):(lt3 P P'->Met F l [P,P'])/\(lt3 P' P->Met F l [P',P]):=by
 obtain ⟨lP,bP,d,hd,q⟩:=h
 obtain ⟨lP',bP',d',hd',q'⟩:=h'
 have ne:gq F l ≠ 0:=fun z=>by
  have e:=(B.same hd hd' lP lP' q q').mpr ((B.sq hr).2.mp z)
  subst e
  rcases lt with lt | lt <;> exact lt3_irr _ lt
 have two:=B.two hr lP lP' hd hd' q q'
 refine ⟨fun lt=>.two (B.sq hr).1 ne lt two,fun lt=>.two (B.sq hr).1 ne lt fun X=>?_⟩
 rw [two X,or_comm]
theorem new_none {H H':Hp} {r:Addr} (g:Same H H') (n:H' r=none):H r=none:=by
 cases e:H r with
 | none=>rfl
 | some o=>have:=g _ _ e; rw [n] at this; cases this
def spVx0:Sp:=fun vs H Q _=>∃ (p:Addr) (F:F6),vs=[.ref p]/\S6 H p F/\BF 400 F/\sz F=0/\(sz F=0->∀ (r:Addr) (H':Hp) (R:P3),Same H H'->S3 H' r R->L3 R->BP 900 R->tb (sl F) R=⟨0,0,0⟩->Q (.ref r) H')
def FlatE (C:Addr) (F:F6) (H:Hp) (E:XK):Prop:=∀ (dx r:Addr) (H':Hp) (R:P3),Same H H'->H' dx=some (.xd [("vertex",.ref r)])->S3 H' r R->L3 R->BP 900 R->tb (sl F) R=⟨0,0,0⟩->E (.ref C) (some dx) H'
def spRfX (C:Addr):Sp:=fun vs H Q E=>∃ (p:Addr) (F:F6),vs=[.ref p]/\S6 H p F/\BF 400 F/\(sz F ≠ 0->Q .non H)/\(sz F=0->FlatE C F H E)
def vmk (k:Int):V->V
 | .int n=>.int (k*n)
 | _=>.non
def spOnX (C:Addr):Sp:=fun vs H Q E=>∃ (q p:Addr) (F:F6) (P:P3),vs=[.ref q,.ref p]/\S6 H q F/\S3 H p P/\BF 600 F/\BP 600 P /\
 (∀ (R:P3) (d:Int) (r:Addr) (H':Hp),N3 P->wo F P=0->P=tm d R->d ≠ 0->L3 R->Same H H'->S3 H' r R->Q (.ref r) H')/\(¬ (N3 P/\wo F P=0)->∀ H',Same H H'->E (.ref C) none H')
instance {P:P3}:Decidable (N3 P):=by unfold N3; infer_instance
theorem nz_any {P:P3}:([P.x,P.y,P.z].any (· != 0))=decide (N3 P):=by
 unfold N3
 by_cases h:P.x ≠ 0\/P.y ≠ 0\/P.z ≠ 0
 ·rw [decide_eq_true h]
  simp
  omega
 ·rw [decide_eq_false h]
  simp
  omega
def OffE (C:Addr) (H:Hp) (E:XK):Prop:=∀ H',Same H H'->E (.ref C) none H'
def spByX (C1 C2 C3:Addr):Sp:=fun vs H Q E=>∃ (q p:Addr) (F:F6) (P:P3) (m n:Int),vs=[.ref q,.ref p,.int m,.int n]/\S6 H q F/\S3 H p P/\BF 100 F/\BP 130 P/\Bd 20 m/\Bd 20 n/\(sz F=0->FlatE C1 F H E)/\(sz F ≠ 0->¬ (N3 P/\wo F P=0)->OffE C2 H E)/\(sz F ≠ 0->N3 P/\wo F P=0->m=0/\n=0->OffE C3 H E)/\(sz F ≠ 0->N3 P/\wo F P=0->¬ (m=0/\n=0)->∀ (r:Addr) (H':Hp),Same H H'->Q (.ref r) H')
def spNumX (C1 C2:Addr):Sp:=fun vs H Q E=>∃ (q p o:Addr) (F:F6) (P R:P3),vs=[.ref q,.ref p,.ref o]/\S6 H q F/\S3 H p P/\S3 H o R/\BF 100 F/\BP 130 P/\BP 130 R/\(sz F=0->FlatE C1 F H E)/\(sz F ≠ 0->¬ (N3 P/\wo F P=0)->OffE C2 H E)/\(sz F ≠ 0->N3 P/\wo F P=0->¬ (N3 R/\wo F R=0)->OffE C2 H E)/\(sz F ≠ 0->N3 P/\wo F P=0->N3 R/\wo F R=0->∀ (r:Addr) (H':Hp),Same H H'->Q (.ref r) H')
def spMetX (C1 C4:Addr):Sp:=fun vs H Q E=>∃ (q lr:Addr) (F:F6) (l:P3),vs=[.ref q,.ref lr]/\S6 H q F/\S3 H lr l/\BF 100 F/\BP 170 l/\(sz F=0->FlatE C1 F H E)/\(sz F ≠ 0->¬ N3 l->OffE C4 H E)/\(sz F ≠ 0->N3 l->∀ (r:Addr) (H':Hp),Same H H'->Q (.ref r) H')
theorem hu64q_of {A:Around} {k:Nat} (hr:RoomQ k A):A.units+64 < cLine:=by
 have:=hr.un
 omega
def spAl4 (C8 C9 C10 C11:Addr):Sp:=fun vs H Q _=>∃ e C:Addr,vs=[.ref e]/\(C=C8\/C=C9\/C=C10\/C=C11)/\Cau H e C/\∀ H',Same H H'->Q (.bl true) H'
def spVt54:Sp:=fun vs H Q _=>∃ (p r:Addr) (F:F6) (R:P3),vs=[.ref p,.ref r]/\S6 H p F/\S3 H r R/\BF 400 F/\BP 900 R/\L3 R/\tb (sl F) R=⟨0,0,0⟩/\∀ H',Same H H'->Q (.bl true) H'
def Okp (F:F6) (P:P3):Prop:=N3 P/\wo F P=0
instance {F:F6} {P:P3}:Decidable (Okp F P):=by unfold Okp; infer_instance
def dueS (k:Int) (F:F6) (P R:P3) (m n:Int) (l:P3):Str:=if sz F=0 then "flat" else if k < 2/\¬ Okp F P then "off" else if k=0/\m=0/\n=0 then "pair" else if k=1/\¬ Okp F R then "off" else if k=2/\¬ N3 l then "line" else ""
def spOff54:Sp:=fun vs H Q _=>∃ (q p:Addr) (F:F6) (P:P3),vs=[.ref q,.ref p]/\S6 H q F/\S3 H p P/\BF 100 F/\BP 130 P/\∀ H',Same H H'->Q (.bl (decide (¬ Okp F P))) H'
def Args54 (H:Hp) (q p o pp lr:Addr) (F:F6) (P R:P3) (m n:Int) (l:P3):Prop:=S6 H q F/\S3 H p P/\S3 H o R/\H pp=some (.tup [.int m,.int n])/\S3 H lr l/\BF 100 F/\BP 130 P/\BP 130 R/\Bd 20 m/\Bd 20 n/\BP 10 l
def spTold54:Sp:=fun vs H Q _=>∃ (k:Int) (q p o pp lr:Addr) (F:F6) (P R:P3) (m n:Int) (l:P3),vs=[.int k,.ref q,.ref p,.ref o,.ref pp,.ref lr]/\(k=0\/k=1\/k=2)/\Args54 H q p o pp lr F P R m n l/\∀ H',Same H H'->Q (.str (dueS k F P R m n l)) H'
def spDue54:Sp:=fun vs H Q _=>∃ (k:Int) (q p o pp lr:Addr) (F:F6) (P R:P3) (m n:Int) (l:P3),vs=[.int k,.bl (decide (sz F=0)),.ref q,.ref p,.ref o,.ref pp,.ref lr]/\(k=0\/k=1\/k=2)/\Args54 H q p o pp lr F P R m n l/\∀ H',Same H H'->Q (.str (dueS k F P R m n l)) H'
theorem Args54.mono {H H':Hp} {q p o pp lr:Addr} {F:F6} {P R:P3} {m n:Int} {l:P3} (g:Same H H') (h:Args54 H q p o pp lr F P R m n l):Args54 H' q p o pp lr F P R m n l:=
 let ⟨a,b,c,d,e,r⟩:=h; ⟨g _ _ a,g _ _ b,g _ _ c,g _ _ d,g _ _ e,r⟩
def spDr54 (K:W.Frag):Sp:=fun vs H Q _=>∃ (a pr:Addr) (ns:List Int) (k w:Int) (t:T3),vs=[.ref a,.int k,.ref pr,.int w]/\SqL K H a (ns.map V.int)/\0<=k/\LT H pr t/\BT 30 t/\me t ≠ 0/\∀ (r:Addr) (H':Hp) (P:P3),Same H H'->S3 H' r P->BP 130 P->Q (.ref r) H'
def fl1 (t:T3):F6:=⟨t.r0.x*t.r1.x,t.r0.y*t.r1.y,t.r0.z*t.r1.z,t.r0.y*t.r1.z+t.r0.z*t.r1.y,t.r0.x*t.r1.z+t.r0.z*t.r1.x,t.r0.x*t.r1.y+t.r0.y*t.r1.x⟩
def fl2 (t:T3) (b:Int):F6:=⟨t.r0.x*t.r0.x+b*t.r2.x*t.r2.x,t.r0.y*t.r0.y+b*t.r2.y*t.r2.y,t.r0.z*t.r0.z+b*t.r2.z*t.r2.z,2*b*t.r2.y*t.r2.z+2*t.r0.y*t.r0.z,2*b*t.r2.x*t.r2.z+2*t.r0.x*t.r0.z,2*b*t.r2.x*t.r2.y+2*t.r0.x*t.r0.y⟩
theorem sz_fl1 (t:T3):sz (fl1 t)=0:=by
 simp only [sz,fl1]
 grind
theorem sz_fl2 (t:T3) (b:Int):sz (fl2 t b)=0:=by
 simp only [sz,fl2]
 grind
theorem bf_fl1 {t:T3} (h:BT 30 t):BF 100 (fl1 t):=
 have m:∀ {x y:Int},Bd 30 x->Bd 30 y->Bd 100 (x*y):=fun a b=>(a.mul b).mono (by decide)
 have s:∀ {x y z w:Int},Bd 30 x->Bd 30 y->Bd 30 z->Bd 30 w->Bd 100 (x*y+z*w):=fun a b c d=>((a.mul b).add (c.mul d)).mono (by decide)
 ⟨m h.r0.x h.r1.x,m h.r0.y h.r1.y,m h.r0.z h.r1.z,s h.r0.y h.r1.z h.r0.z h.r1.y,s h.r0.x h.r1.z h.r0.z h.r1.x,s h.r0.x h.r1.y h.r0.y h.r1.x⟩
theorem bf_fl2 {t:T3} {b:Int} (h:BT 30 t) (hb:Bd 4 b):BF 100 (fl2 t b):=
 have m:∀ {x y:Int},Bd 30 x->Bd 30 y->Bd 100 (x*x+b*y*y):=fun a c=>(((a.mul a).mono (by decide:30+30<=64)).add ((hb.mul c).mul c)).mono (by decide)
 have s:∀ {x y z w:Int},Bd 30 x->Bd 30 y->Bd 30 z->Bd 30 w->Bd 100 (2*b*x*y+2*z*w):=fun a c d e=>((((bd_two hb).mul a).mul c).add (((bd_two d).mul e).mono (by decide))).mono (by decide)
 ⟨m h.r0.x h.r2.x,m h.r0.y h.r2.y,m h.r0.z h.r2.z,s h.r2.y h.r2.z h.r0.y h.r0.z,s h.r2.x h.r2.z h.r0.x h.r0.z,s h.r2.x h.r2.y h.r0.x h.r0.y⟩
def spFlat54:Sp:=fun vs H Q _=>∃ (p:Addr) (t:T3) (w:Int),vs=[.ref p,.int w]/\LT H p t/\BT 30 t/\∀ (r:Addr) (H':Hp) (F:F6),Same H H'->S6 H' r F->sz F=0->BF 100 F->Q (.ref r) H'
def byv (c:Int):Int:=[0,1,-1,2,-3,7,0,1].getD (c % 8).toNat 0
theorem byv_at (c:Int):atI [V.int 0,.int 1,.int (0 - 1),.int 2,.int (0 - 3),.int 7,.int 0,.int 1] (c % 8)=some (.int (byv c))/\Bd 4 (byv c):=by
 unfold byv
 have h:c % 8=0\/c % 8=1\/c % 8=2\/c % 8=3\/c % 8=4\/c % 8=5\/c % 8=6\/c % 8=7:=by omega
 rcases h with e | e | e | e | e | e | e | e <;> rw [e]
 all_goals exact ⟨rfl,by unfold Bd; decide⟩
def kj3 (i:Nat):Nat × Nat:=match i with
 | 0=>(1,2)
 | 1=>(0,2)
 | _=>(0,1)
def Sx (l:Addr) (H H':Hp):Prop:=∀ b o,b ≠ l->H b=some o->H' b=some o
def c1f (t:T3) (i:Nat):Int:=cmp t.r0 (kj3 i).1*cmp t.r1 (kj3 i).2+cmp t.r0 (kj3 i).2*cmp t.r1 (kj3 i).1
def c2f (t:T3) (b:Int) (i:Nat):Int:=2*b*cmp t.r2 (kj3 i).1*cmp t.r2 (kj3 i).2+2*cmp t.r0 (kj3 i).1*cmp t.r0 (kj3 i).2
theorem at3' {P:P3} {k:Nat} (hk:k < 3):atI (v3 P) (k:Int)=some (.int (cmp P k)):=by
 have:=at3 (P:=P) hk
 rwa [Int.zero_add] at this
section
variable {P:Program} {w:World} {K:W.Frag} {mg:Str->Option Value} {base:Heap} {t:Adr}
theorem sc_shares_of:FnScope ["one","other","upper","lower","below"] ["one","other"] (defScope s_shares_of):=⟨rfl,rfl,rfl,by decide +kernel,rfl,by decide +kernel,by decide +kernel⟩
theorem sc_row_less:FnScope ["row","taken","times"] ["row","taken","times"] (defScope s_row_less):=⟨rfl,rfl,rfl,by decide +kernel,rfl,by decide +kernel,by decide +kernel⟩
theorem sc_root_of:FnScope ["number","guess"] ["number"] (defScope s_root_of):=⟨rfl,rfl,rfl,by decide +kernel,rfl,by decide +kernel,by decide +kernel⟩
theorem sc_above_root:FnScope ["number","guess"] ["number"] (defScope s_above_root):=⟨rfl,rfl,rfl,by decide +kernel,rfl,by decide +kernel,by decide +kernel⟩
theorem sc_worth_of:FnScope ["Q","P","products"] ["Q","P"] (defScope s_worth_of):=⟨rfl,rfl,rfl,by decide +kernel,rfl,by decide +kernel,by decide +kernel⟩
theorem sc_size_of:FnScope ["Q"] ["Q"] (defScope s_size_of):=⟨rfl,rfl,rfl,by decide +kernel,rfl,by decide +kernel,by decide +kernel⟩
theorem sc_lowest_point:FnScope ["P","divisor"] ["P"] (defScope s_lowest_point):=⟨rfl,rfl,rfl,by decide +kernel,rfl,by decide +kernel,by decide +kernel⟩
theorem sc_vertex_of:FnScope ["Q","slopes","crossings"] ["Q"] (defScope s_vertex_of):=⟨rfl,rfl,rfl,by decide +kernel,rfl,by decide +kernel,by decide +kernel⟩
theorem sc_refuse_flat:FnScope ["Q"] ["Q"] (defScope s_refuse_flat):=⟨rfl,rfl,rfl,by decide +kernel,rfl,by decide +kernel,by decide +kernel⟩
theorem sc_slopes_of:FnScope ["Q"] ["Q"] (defScope s_slopes_of):=⟨rfl,rfl,rfl,by decide +kernel,rfl,by decide +kernel,by decide +kernel⟩
theorem sc_turned_by:FnScope ["table","P"] ["table","P"] (defScope s_turned_by):=⟨rfl,rfl,rfl,by decide +kernel,rfl,by decide +kernel,by decide +kernel⟩
theorem sc_added:FnScope ["one","other"] ["one","other"] (defScope s_added):=⟨rfl,rfl,rfl,by decide +kernel,rfl,by decide +kernel,by decide +kernel⟩
theorem sc_stretched:FnScope ["P","times"] ["P","times"] (defScope s_stretched):=⟨rfl,rfl,rfl,by decide +kernel,rfl,by decide +kernel,by decide +kernel⟩
theorem sc_row_product:FnScope ["row","P"] ["row","P"] (defScope s_row_product):=⟨rfl,rfl,rfl,by decide +kernel,rfl,by decide +kernel,by decide +kernel⟩
theorem sc_crossing_of:FnScope ["one","other"] ["one","other"] (defScope s_crossing_of):=⟨rfl,rfl,rfl,by decide +kernel,rfl,by decide +kernel,by decide +kernel⟩
theorem sc_crossings_of:FnScope ["lines","others","crossings","one"] ["lines","others"] (defScope s_crossings_of):=⟨rfl,rfl,rfl,by decide +kernel,rfl,by decide +kernel,by decide +kernel⟩
theorem sc_point_by:FnScope ["Q","P","m","n","start"] ["Q","P","m","n"] (defScope s_point_by):=⟨rfl,rfl,rfl,by decide +kernel,rfl,by decide +kernel,by decide +kernel⟩
theorem sc_led_to:FnScope ["Q","start","m","n","ways","direction","slope"] ["Q","start","m","n"] (defScope s_led_to):=⟨rfl,rfl,rfl,by decide +kernel,rfl,by decide +kernel,by decide +kernel⟩
theorem sc_numbers_of:FnScope ["Q","P","other","start","end","line","last","ways","direction"] ["Q","P","other"] (defScope s_numbers_of):=⟨rfl,rfl,rfl,by decide +kernel,rfl,by decide +kernel,by decide +kernel⟩
theorem sc_point_on:FnScope ["Q","P"] ["Q","P"] (defScope s_point_on):=⟨rfl,rfl,rfl,by decide +kernel,rfl,by decide +kernel,by decide +kernel⟩
theorem sc_last_of:FnScope ["point"] ["point"] (defScope s_last_of):=⟨rfl,rfl,rfl,by decide +kernel,rfl,by decide +kernel,by decide +kernel⟩
theorem sc_corners_on:FnScope ["Q","line","first"] ["Q","line"] (defScope s_corners_on):=⟨rfl,rfl,rfl,by decide +kernel,rfl,by decide +kernel,by decide +kernel⟩
theorem sc_off_curve:FnScope ["Q","points","tried","one"] ["Q","points"] (defScope s_off_curve):=⟨rfl,rfl,rfl,by decide +kernel,rfl,by decide +kernel,by decide +kernel⟩
theorem sc_line_met:FnScope ["Q","line","corners","worth","square","root","end"] ["Q","line"] (defScope s_line_met):=⟨rfl,rfl,rfl,by decide +kernel,rfl,by decide +kernel,by decide +kernel⟩
theorem sc_cell_at:FnScope ["_law_script","_law_k"] ["_law_script","_law_k"] (defScope s_cell_at):=⟨rfl,rfl,rfl,by decide +kernel,rfl,by decide +kernel,by decide +kernel⟩
theorem sc_shared:FnScope ["_law_numbers","_law_found","_law_number","_law_rest"] ["_law_numbers"] (defScope s_shared):=⟨rfl,rfl,rfl,by decide +kernel,rfl,by decide +kernel,by decide +kernel⟩
theorem sc_lowest:FnScope ["_law_numbers","_law_share","_law_first"] ["_law_numbers"] (defScope s_lowest):=⟨rfl,rfl,rfl,by decide +kernel,rfl,by decide +kernel,by decide +kernel⟩
theorem sc_beside:FnScope ["_law_one","_law_other","_law_x","_law_y"] ["_law_one","_law_other"] (defScope s_beside):=⟨rfl,rfl,rfl,by decide +kernel,rfl,by decide +kernel,by decide +kernel⟩
theorem sc_dot:FnScope ["_law_one","_law_other"] ["_law_one","_law_other"] (defScope s_dot):=⟨rfl,rfl,rfl,by decide +kernel,rfl,by decide +kernel,by decide +kernel⟩
theorem sc_rows:FnScope ["_law_script","_law_start","_law_way","_law_great","_law_most","_law_cells","_law_some","_law_rows_here"] ["_law_script","_law_start","_law_way","_law_great"] (defScope s_rows):=⟨rfl,rfl,rfl,by decide +kernel,rfl,by decide +kernel,by decide +kernel⟩
theorem sc_form:FnScope ["_law_rows_here","_law_times_here","_law_found","_law_one","_law_two","_law_three","_law_k","_law_j","_law_both"] ["_law_rows_here","_law_times_here"] (defScope s_form):=⟨rfl,rfl,rfl,by decide +kernel,rfl,by decide +kernel,by decide +kernel⟩
theorem sc_spot:FnScope ["_law_rows_here","_law_s","_law_t","_law_sides","_law_found","_law_j","_law_one","_law_two","_law_three","_law_total"] ["_law_rows_here","_law_s","_law_t"] (defScope s_spot):=⟨rfl,rfl,rfl,by decide +kernel,rfl,by decide +kernel,by decide +kernel⟩
theorem sc_worth:FnScope ["_law_form_here","_law_spot_here","_law_total","_law_a","_law_b","_law_c","_law_d","_law_e","_law_f","_law_x","_law_y","_law_z"] ["_law_form_here","_law_spot_here"] (defScope s_worth):=⟨rfl,rfl,rfl,by decide +kernel,rfl,by decide +kernel,by decide +kernel⟩
theorem sc_is_spot:FnScope ["_law_found"] ["_law_found"] (defScope s_is_spot):=⟨rfl,rfl,rfl,by decide +kernel,rfl,by decide +kernel,by decide +kernel⟩
theorem sc_times:FnScope ["_law_cell"] ["_law_cell"] (defScope s_times):=⟨rfl,rfl,rfl,by decide +kernel,rfl,by decide +kernel,by decide +kernel⟩
theorem sc_pair:FnScope ["_law_one","_law_other","_law_way","_law_most","_law_s","_law_t"] ["_law_one","_law_other","_law_way"] (defScope s_pair):=⟨rfl,rfl,rfl,by decide +kernel,rfl,by decide +kernel,by decide +kernel⟩
theorem sc_alone:FnScope ["_law_e","_law_found"] ["_law_e"] (defScope s_alone):=⟨rfl,rfl,rfl,by decide +kernel,rfl,by decide +kernel,by decide +kernel⟩
theorem sc_vertex:FnScope ["_law_form_here","_law_spot_here","_law_a","_law_b","_law_c","_law_d","_law_e","_law_f","_law_x","_law_y","_law_z"] ["_law_form_here","_law_spot_here"] (defScope s_vertex):=⟨rfl,rfl,rfl,by decide +kernel,rfl,by decide +kernel,by decide +kernel⟩
theorem sc_told:FnScope ["_law_deed","_law_form_here","_law_spot_here","_law_other","_law_pair_here","_law_line","_law_told_here","_law_e"] ["_law_deed","_law_form_here","_law_spot_here","_law_other","_law_pair_here","_law_line"] (defScope s_told):=⟨rfl,rfl,rfl,by decide +kernel,rfl,by decide +kernel,by decide +kernel⟩
theorem sc_off:FnScope ["_law_form_here","_law_spot_here"] ["_law_form_here","_law_spot_here"] (defScope s_off):=⟨rfl,rfl,rfl,by decide +kernel,rfl,by decide +kernel,by decide +kernel⟩
theorem sc_due:FnScope ["_law_deed","_law_flat_here","_law_form_here","_law_spot_here","_law_other","_law_pair_here","_law_line"] ["_law_deed","_law_flat_here","_law_form_here","_law_spot_here","_law_other","_law_pair_here","_law_line"] (defScope s_due):=⟨rfl,rfl,rfl,by decide +kernel,rfl,by decide +kernel,by decide +kernel⟩
theorem sc_flat:FnScope ["_law_rows_here","_law_way","_law_by","_law_found","_law_one","_law_two","_law_three","_law_k","_law_j","_law_both"] ["_law_rows_here","_law_way"] (defScope s_flat):=⟨rfl,rfl,rfl,by decide +kernel,rfl,by decide +kernel,by decide +kernel⟩
theorem sc_drawn:FnScope ["_law_script","_law_at","_law_rows_here","_law_way","_law_first","_law_second","_law_spot_here","_law_s","_law_t","_law_x","_law_y","_law_z"] ["_law_script","_law_at","_law_rows_here","_law_way"] (defScope s_drawn):=⟨rfl,rfl,rfl,by decide +kernel,rfl,by decide +kernel,by decide +kernel⟩
theorem sc_law:FnScope ["_law_script","_law_way","_law_rows_here","_law_flat_here","_law_form_here","_law_spot_here","_law_other","_law_pair_here","_law_line","_law_deed","_law_due_here"] ["_law_script"] (defScope s_law):=⟨rfl,rfl,rfl,by decide +kernel,rfl,by decide +kernel,by decide +kernel⟩
theorem sc_init_Flat:FnScope ["self","vertex"] ["self","vertex"] (defScope s_init_Flat):=⟨rfl,rfl,rfl,by decide +kernel,rfl,by decide +kernel,by decide +kernel⟩
theorem ok_cell_at {f:Addr} {fd:FuncData} (F:Fun K "_law_cell_at" "_law_cell_at" s_cell_at f fd) (T:Txt K mg t) :FnOk P w K mg base CX0 1 f fd ["_law_script","_law_k"] (spCell K):=by
 refine F.ok sc_cell_at (fun vs H Q E h=>?_) (fun cdv A outer s H vs Q E hr h=>?_)
 ·obtain ⟨a,ns,k,rfl,_⟩:=h
  rfl
 obtain ⟨a,ns,k,rfl,hS,h0,q⟩:=h
 refine ⟨_,pss_cons (ps_if (pt_cmpR op_lt (pv 1) (pe_callB call_len_seq rfl T.z_len PySem.boot_len (pa_cons (pv 0) pa_nil)) (nomark _)) (pss_one (ps_ret (pe_ix ix_list (pv 0) (pv 1) (fun _ _=>rfl)))) pss_nil)
  (pss_one (ps_ret pe_int)),?_⟩
 refine ⟨_,rfl,_,rfl,a,_,rfl,.inl hS,_,_,rfl,rfl,_,rfl,?_⟩
 refine ite2 (fun c=>?_) (fun c=>?_)
 ·exact ⟨_,rfl,_,rfl,a,_,_,_,rfl,rfl,hS,cell_in h0 (decT c),q⟩
 ·have e:=cell_out (decF c) h0
  rw [e] at q
  exact q
theorem ok_row_less {f:Addr} {fd:FuncData} (F:Fun K "row_less" "row_less" s_row_less f fd) (T:Txt K mg t) :FnOk P w K mg base CX0 1 f fd ["row","taken","times"] (spRow):=by
 refine F.ok sc_row_less (fun vs H Q E h=>?_) (fun cdv A outer s H vs Q E hr h=>?_)
 ·obtain ⟨_,_,_,_,_,_,_,_,_,rfl,_⟩:=h
  rfl
 obtain ⟨pa,pb,x,s',t',y,u,v,k,rfl,ha,hb,m1,m2,m3,q⟩:=h
 refine ⟨_,pss_one (ps_ret (pe_tup (pa_cons (pe_op op_sub (pe_ix ix_tup (pv 0) pe_int (fun _ _=>rfl)) (pe_op op_mulG (pv 2) (pe_ix ix_tup (pv 1) pe_int (fun _ _=>rfl)))) (pa_cons (pe_op op_sub (pe_ix ix_tup (pv 0) pe_int (fun _ _=>rfl)) (pe_op op_mulG (pv 2) (pe_ix ix_tup (pv 1) pe_int (fun _ _=>rfl)))) (pa_cons (pe_op op_sub (pe_ix ix_tup (pv 0) pe_int (fun _ _=>rfl)) (pe_op op_mulG (pv 2) (pe_ix ix_tup (pv 1) pe_int (fun _ _=>rfl)))) pa_nil))))),?_⟩
 exact ⟨_,rfl,pa,_,_,_,rfl,rfl,SqT.of ha,rfl,_,rfl,_,rfl,pb,_,_,_,rfl,rfl,SqT.of hb,rfl,_,_,rfl,rfl,m1,_,_,rfl,rfl,
  _,rfl,pa,_,_,_,rfl,rfl,SqT.of ha,rfl,_,rfl,_,rfl,pb,_,_,_,rfl,rfl,SqT.of hb,rfl,_,_,rfl,rfl,m2,_,_,rfl,rfl,
  _,rfl,pa,_,_,_,rfl,rfl,SqT.of ha,rfl,_,rfl,_,rfl,pb,_,_,_,rfl,rfl,SqT.of hb,rfl,_,_,rfl,rfl,m3,_,_,rfl,rfl,
  (by show 3<=sizeLine; decide),fun p np=>q p _ (same_new np _) upd_same⟩
theorem ok_shares_of {f:Addr} {fd:FuncData} (F:Fun K "shares_of" "shares_of" s_shares_of f fd) (T:Txt K mg t) (H_row_less:Has P w K mg base CX0 1 "row_less" ["row","taken","times"] (spRow)):FnOk P w K mg base CX0 2 f fd ["one","other"] (spShares):=by
 obtain ⟨f_row_less,d_row_less,G_row_less,b_row_less,k_row_less,m_row_less⟩:=H_row_less
 refine F.ok sc_shares_of (fun vs H Q E h=>?_) (fun cdv A outer s H vs Q E hr h=>?_)
 ·obtain ⟨x,y,rfl,_⟩:=h
  rfl
 obtain ⟨x,y,rfl,hx,hy,q⟩:=h
 have hr_row_less:=hr.mono (show 1<=1 by decide)
 refine ⟨_,pss_cons (ps_set (i:=2) sc_shares_of.nd rfl (Or.inl rfl) (pe_tup (pa_cons (pv 0) (pa_cons pe_int (pa_cons pe_int pa_nil)))))
  (pss_cons (ps_set (i:=3) sc_shares_of.nd rfl (Or.inl rfl) (pe_tup (pa_cons (pv 1) (pa_cons pe_int (pa_cons pe_int pa_nil)))))
  (pss_cons (ps_while PassesOwn.never (pt_cmpR op_ne (pe_ix ix_tup (pv 3) pe_int (fun _ _=>rfl)) pe_int (nomark _)) (pss_cons (ps_set (i:=4) sc_shares_of.nd rfl (Or.inl rfl) (pe_call G_row_less hr_row_less rfl m_row_less k_row_less b_row_less .nil pass0 (pa_cons (pv 2) (pa_cons (pv 3) (pa_cons (pe_op op_fdivL (pe_ix ix_tup (pv 2) pe_int (fun _ _=>rfl)) (pe_ix ix_tup (pv 3) pe_int (fun _ _=>rfl))) pa_nil)))))
  (pss_cons (ps_set (i:=2) sc_shares_of.nd rfl (Or.inl rfl) (pv 3))
  (pss_one (ps_set (i:=3) sc_shares_of.nd rfl (Or.inl rfl) (pv 4))))))
  (pss_cons (ps_if (pt_cmpR op_lt (pe_ix ix_tup (pv 2) pe_int (fun _ _=>rfl)) pe_int (nomark _)) (pss_one (ps_ret (pe_tup (pa_cons (pe_un un_neg (pe_ix ix_tup (pv 2) pe_int (fun _ _=>rfl))) (pa_cons (pe_un un_neg (pe_ix ix_tup (pv 2) pe_int (fun _ _=>rfl))) (pa_cons (pe_un un_neg (pe_ix ix_tup (pv 2) pe_int (fun _ _=>rfl))) pa_nil)))))) pss_nil)
  (pss_one (ps_ret (pv 2)))))),?_⟩
 have B4:((x.natAbs:Int)+2*y.natAbs+1).natAbs<=4*Lm:=by
  have:=Lm_pos
  omega
 have sz0:=Sh.sz_start (x:=x) (y:=y)
 generalize ((x.natAbs:Int)+2*y.natAbs+1)=B at B4 sz0
 refine ⟨_,rfl,(by show 3<=sizeLine; decide),fun p1 n1=>?_⟩
 refine ⟨_,rfl,(by show 3<=sizeLine; decide),fun p2 n2=>?_⟩
 refine ⟨fun m σ H'=>∃ (pa pb:Addr) (a s t b u v:Int) (be:Option V),σ=[some (.int x),some (.int y),some (.ref pa),some (.ref pb),be]/\Same H H'/\H' pa=some (.tup [.int a,.int s,.int t])/\H' pb=some (.tup [.int b,.int u,.int v]) /\
  Sh.Rows x y a s t b u v/\Sh.Sz B a s t b u v/\m=b.natAbs,⟨_,p1,p2,_,_,_,_,_,_,none,rfl,(same_new n1 _).trans (same_new n2 _),same_new n2 _ _ _ upd_same,upd_same,Sh.rows_start x y,sz0,rfl⟩,?_⟩
 clear sz0 n1 n2 p1 p2
 rintro m σ H1 ⟨pa,pb,a,s',t',b,u,v,be,rfl,g,ha,hb,rws,sz,rfl⟩
 refine ⟨_,rfl,pb,_,_,_,rfl,rfl,SqT.of hb,rfl,rfl,_,rfl,?_⟩
 refine ite2 (fun c=>?_) (fun c=>?_)
 ·have b0:b ≠ 0:=fun z=>neT c (congrArg V.int z)
  have sz':=Sh.sz_turn sz b0 (a.fdiv b) (a.fmod b) (Sh.quot a b) rfl
  have rw':=Sh.rows_turn rws (a.fdiv b)
  rw [fdiv_rest] at rw'
  have qs:(a.fdiv b).natAbs<=8*Lm:=by
   have e:a.fdiv b*b=a - a.fmod b:=by have:=fdiv_rest a b; omega
   have h1:(a.fdiv b).natAbs<=(a.fdiv b*b).natAbs:=by
    rw [Int.natAbs_mul]
    exact Nat.le_mul_of_pos_right _ (by omega)
   rw [e] at h1
   have h2:=sz.a0
   have h3:=sz'.b0
   omega
  refine ⟨fun σ' H2=>∃ pc:Addr,σ'=[some (.int x),some (.int y),some (.ref pb),some (.ref pc),some (.ref pc)]/\Same H1 H2/\H2 pc=some (.tup [.int (a - a.fdiv b*b),.int (s' - a.fdiv b*u),.int (t' - a.fdiv b*v)]),?_,?_⟩
  ·rintro σ' H2 ⟨pc,rfl,g2,hc⟩
   rw [fdiv_rest] at hc
   exact ⟨(a.fmod b).natAbs,Sh.fmod_abs b0,pb,pc,b,u,v,_,_,_,_,rfl,g.trans g2,g2 _ _ hb,hc,rw',sz',rfl⟩
  ·have z1:=sz.b0
   have z2:=sz.u0
   have z3:=sz.v0
   refine ⟨_,rfl,_,rfl,_,rfl,pa,_,_,_,rfl,rfl,SqT.of ha,rfl,_,rfl,pb,_,_,_,rfl,rfl,SqT.of hb,rfl,_,_,rfl,rfl,⟨b0,Lm_log (by omega)⟩,
    pa,pb,a,s',t',b,u,v,_,rfl,ha,hb,mulL qs (by omega),mulL qs (by omega),mulL qs (by omega),fun pc H2 g2 hc=>?_⟩
   exact ⟨_,rfl,_,rfl,pc,rfl,g2,hc⟩
 ·have b0:b=0:=int_inj (neF c)
  obtain ⟨e1,⟨k1,e2⟩,⟨k2,e3⟩⟩:=Sh.rows_end rws b0
  have z2:=sz.s0
  have z3:=sz.t0
  refine ⟨_,rfl,pa,_,_,_,rfl,rfl,SqT.of ha,rfl,_,_,rfl,rfl,_,rfl,?_⟩
  refine ite2 (fun c=>?_) (fun c=>?_)
  ·have a0:a < 0:=decT c
   refine ⟨_,rfl,pa,_,_,_,rfl,rfl,SqT.of ha,rfl,_,rfl,_,rfl,pa,_,_,_,rfl,rfl,SqT.of ha,rfl,_,rfl,_,rfl,pa,_,_,_,rfl,rfl,SqT.of ha,rfl,_,rfl,(by show 3<=sizeLine; decide),fun p np=>?_⟩
   exact q p _ (-a) (-s') (-t') (g.trans (same_new np _)) upd_same (by omega) (by rw [Int.neg_mul,Int.neg_mul]; omega) ⟨-k1,by rw [Int.neg_mul_neg]; exact e2⟩ ⟨-k2,by rw [Int.neg_mul_neg]; exact e3⟩ (by omega) (by omega)
  ·have a0:¬ a < 0:=decF c
   exact ⟨_,rfl,q pa H1 a s' t' g ha (by omega) e1 ⟨k1,e2⟩ ⟨k2,e3⟩ (by omega) (by omega)⟩
theorem ok_slopes_of {f:Addr} {fd:FuncData} (F:Fun K "slopes_of" "slopes_of" s_slopes_of f fd) (T:Txt K mg t) :FnOk P w K mg base CX0 1 f fd ["Q"] (spSl):=by
 refine F.ok sc_slopes_of (fun vs H Q E h=>?_) (fun cdv A outer s H vs Q E hr h=>?_)
 ·obtain ⟨_,_,rfl,_⟩:=h
  rfl
 obtain ⟨p,F,rfl,hp,q⟩:=h
 unfold S6 at hp
 refine ⟨_,pss_one (ps_ret (pe_tup (pa_cons (pe_tup (pa_cons (pe_op op_mulG pe_int (pe_ix ix_tup (pv 0) pe_int (fun _ _=>rfl))) (pa_cons (pe_ix ix_tup (pv 0) pe_int (fun _ _=>rfl)) (pa_cons (pe_ix ix_tup (pv 0) pe_int (fun _ _=>rfl)) pa_nil)))) (pa_cons (pe_tup (pa_cons (pe_ix ix_tup (pv 0) pe_int (fun _ _=>rfl)) (pa_cons (pe_op op_mulG pe_int (pe_ix ix_tup (pv 0) pe_int (fun _ _=>rfl))) (pa_cons (pe_ix ix_tup (pv 0) pe_int (fun _ _=>rfl)) pa_nil)))) (pa_cons (pe_tup (pa_cons (pe_ix ix_tup (pv 0) pe_int (fun _ _=>rfl)) (pa_cons (pe_ix ix_tup (pv 0) pe_int (fun _ _=>rfl)) (pa_cons (pe_op op_mulG pe_int (pe_ix ix_tup (pv 0) pe_int (fun _ _=>rfl))) pa_nil)))) pa_nil))))),?_⟩
 refine ⟨_,rfl,p,_,_,_,rfl,rfl,SqT.of hp,rfl,_,_,rfl,rfl,ok2,_,rfl,p,_,_,_,rfl,rfl,SqT.of hp,rfl,_,rfl,p,_,_,_,rfl,rfl,SqT.of hp,rfl,(by show 3<=sizeLine; decide),fun p1 n1=>?_⟩
 have h1:=same_new n1 (t3 (sl F).r0) _ _ hp
 refine ⟨_,rfl,p,_,_,_,rfl,rfl,SqT.of h1,rfl,_,rfl,p,_,_,_,rfl,rfl,SqT.of h1,rfl,_,_,rfl,rfl,ok2,_,rfl,p,_,_,_,rfl,rfl,SqT.of h1,rfl,(by show 3<=sizeLine; decide),fun p2 n2=>?_⟩
 have h2:=same_new n2 (t3 (sl F).r1) _ _ h1
 refine ⟨_,rfl,p,_,_,_,rfl,rfl,SqT.of h2,rfl,_,rfl,p,_,_,_,rfl,rfl,SqT.of h2,rfl,_,rfl,p,_,_,_,rfl,rfl,SqT.of h2,rfl,_,_,rfl,rfl,ok2,(by show 3<=sizeLine; decide),fun p3 n3=>⟨(by show 3<=sizeLine; decide),fun p4 n4=>?_⟩⟩
 have g3:=same_new n3 (t3 (sl F).r2)
 have g4:=same_new n4 (.tup [.ref p1,.ref p2,.ref p3])
 exact q p4 _ ((same_new n1 _).trans ((same_new n2 _).trans (g3.trans g4))) ⟨p1,p2,p3,upd_same,g4 _ _ (g3 _ _ (same_new n2 _ _ _ upd_same)),g4 _ _ (g3 _ _ upd_same),g4 _ _ upd_same⟩
theorem ok_size_of {f:Addr} {fd:FuncData} (F:Fun K "size_of" "size_of" s_size_of f fd) (T:Txt K mg t) :FnOk P w K mg base CX0 1 f fd ["Q"] (spSize):=by
 refine F.ok sc_size_of (fun vs H Q E h=>?_) (fun cdv A outer s H vs Q E hr h=>?_)
 ·obtain ⟨_,_,rfl,_⟩:=h
  rfl
 obtain ⟨p,F,rfl,hp,bf,q⟩:=h
 unfold S6 at hp
 refine ⟨_,pss_one (ps_ret (pe_op op_sub (pe_op op_sub (pe_op op_sub (pe_op op_add (pe_op op_mulG (pe_op op_mulG (pe_op op_mulG pe_int (pe_ix ix_tup (pv 0) pe_int (fun _ _=>rfl))) (pe_ix ix_tup (pv 0) pe_int (fun _ _=>rfl))) (pe_ix ix_tup (pv 0) pe_int (fun _ _=>rfl))) (pe_op op_mulG (pe_op op_mulG (pe_ix ix_tup (pv 0) pe_int (fun _ _=>rfl)) (pe_ix ix_tup (pv 0) pe_int (fun _ _=>rfl))) (pe_ix ix_tup (pv 0) pe_int (fun _ _=>rfl)))) (pe_op op_mulG (pe_op op_mulG (pe_ix ix_tup (pv 0) pe_int (fun _ _=>rfl)) (pe_ix ix_tup (pv 0) pe_int (fun _ _=>rfl))) (pe_ix ix_tup (pv 0) pe_int (fun _ _=>rfl)))) (pe_op op_mulG (pe_op op_mulG (pe_ix ix_tup (pv 0) pe_int (fun _ _=>rfl)) (pe_ix ix_tup (pv 0) pe_int (fun _ _=>rfl))) (pe_ix ix_tup (pv 0) pe_int (fun _ _=>rfl)))) (pe_op op_mulG (pe_op op_mulG (pe_ix ix_tup (pv 0) pe_int (fun _ _=>rfl)) (pe_ix ix_tup (pv 0) pe_int (fun _ _=>rfl))) (pe_ix ix_tup (pv 0) pe_int (fun _ _=>rfl))))),?_⟩
 exact ⟨_,rfl,p,_,_,_,rfl,rfl,SqT.of hp,rfl,_,_,rfl,rfl,okM b4 bf.a,_,rfl,p,_,_,_,rfl,rfl,SqT.of hp,rfl,_,_,rfl,rfl,okM (b4.mul bf.a) bf.b,_,rfl,p,_,_,_,rfl,rfl,SqT.of hp,rfl,_,_,rfl,rfl,okM ((b4.mul bf.a).mul bf.b) bf.c,
  _,rfl,p,_,_,_,rfl,rfl,SqT.of hp,rfl,_,rfl,p,_,_,_,rfl,rfl,SqT.of hp,rfl,_,_,rfl,rfl,okM bf.d bf.e,_,rfl,p,_,_,_,rfl,rfl,SqT.of hp,rfl,_,_,rfl,rfl,okM (bf.d.mul bf.e) bf.f,_,_,rfl,rfl,
  _,rfl,p,_,_,_,rfl,rfl,SqT.of hp,rfl,_,rfl,p,_,_,_,rfl,rfl,SqT.of hp,rfl,_,_,rfl,rfl,okM bf.a bf.d,_,rfl,p,_,_,_,rfl,rfl,SqT.of hp,rfl,_,_,rfl,rfl,okM (bf.a.mul bf.d) bf.d,_,_,rfl,rfl,
  _,rfl,p,_,_,_,rfl,rfl,SqT.of hp,rfl,_,rfl,p,_,_,_,rfl,rfl,SqT.of hp,rfl,_,_,rfl,rfl,okM bf.b bf.e,_,rfl,p,_,_,_,rfl,rfl,SqT.of hp,rfl,_,_,rfl,rfl,okM (bf.b.mul bf.e) bf.e,_,_,rfl,rfl,
  _,rfl,p,_,_,_,rfl,rfl,SqT.of hp,rfl,_,rfl,p,_,_,_,rfl,rfl,SqT.of hp,rfl,_,_,rfl,rfl,okM bf.c bf.f,_,rfl,p,_,_,_,rfl,rfl,SqT.of hp,rfl,_,_,rfl,rfl,okM (bf.c.mul bf.f) bf.f,_,_,rfl,rfl,q⟩
theorem ok_crossing_of {f:Addr} {fd:FuncData} (F:Fun K "crossing_of" "crossing_of" s_crossing_of f fd) (T:Txt K mg t) :FnOk P w K mg base CX0 1 f fd ["one","other"] (spCrK K):=by
 refine F.ok sc_crossing_of (fun vs H Q E h=>?_) (fun cdv A outer s H vs Q E hr h=>?_)
 ·obtain ⟨_,_,_,_,rfl,_⟩:=h
  rfl
 obtain ⟨p,q',r,s',rfl,hp,hq,br,bs,q⟩:=h
 refine ⟨_,pss_one (ps_ret (pe_tup (pa_cons (pe_op op_sub (pe_op op_mulG (pe_ix ix_tup (pv 0) pe_int (fun _ _=>rfl)) (pe_ix ix_tup (pv 1) pe_int (fun _ _=>rfl))) (pe_op op_mulG (pe_ix ix_tup (pv 0) pe_int (fun _ _=>rfl)) (pe_ix ix_tup (pv 1) pe_int (fun _ _=>rfl)))) (pa_cons (pe_op op_sub (pe_op op_mulG (pe_ix ix_tup (pv 0) pe_int (fun _ _=>rfl)) (pe_ix ix_tup (pv 1) pe_int (fun _ _=>rfl))) (pe_op op_mulG (pe_ix ix_tup (pv 0) pe_int (fun _ _=>rfl)) (pe_ix ix_tup (pv 1) pe_int (fun _ _=>rfl)))) (pa_cons (pe_op op_sub (pe_op op_mulG (pe_ix ix_tup (pv 0) pe_int (fun _ _=>rfl)) (pe_ix ix_tup (pv 1) pe_int (fun _ _=>rfl))) (pe_op op_mulG (pe_ix ix_tup (pv 0) pe_int (fun _ _=>rfl)) (pe_ix ix_tup (pv 1) pe_int (fun _ _=>rfl)))) pa_nil))))),?_⟩
 exact ⟨_,rfl,p,_,_,_,rfl,rfl,hp,rfl,_,rfl,q',_,_,_,rfl,rfl,hq,rfl,_,_,rfl,rfl,okM br.y bs.z,_,rfl,p,_,_,_,rfl,rfl,hp,rfl,_,rfl,q',_,_,_,rfl,rfl,hq,rfl,_,_,rfl,rfl,okM br.z bs.y,_,_,rfl,rfl,_,rfl,p,_,_,_,rfl,rfl,hp,rfl,_,rfl,q',_,_,_,rfl,rfl,hq,rfl,_,_,rfl,rfl,okM br.z bs.x,_,rfl,p,_,_,_,rfl,rfl,hp,rfl,_,rfl,q',_,_,_,rfl,rfl,hq,rfl,_,_,rfl,rfl,okM br.x bs.z,_,_,rfl,rfl,_,rfl,p,_,_,_,rfl,rfl,hp,rfl,_,rfl,q',_,_,_,rfl,rfl,hq,rfl,_,_,rfl,rfl,okM br.x bs.y,_,rfl,p,_,_,_,rfl,rfl,hp,rfl,_,rfl,q',_,_,_,rfl,rfl,hq,rfl,_,_,rfl,rfl,okM br.y bs.x,_,_,rfl,rfl,(by show 3<=sizeLine; decide),fun z nz=>q z _ (same_new nz _) upd_same⟩
theorem ok_stretched {f:Addr} {fd:FuncData} (F:Fun K "stretched" "stretched" s_stretched f fd) (T:Txt K mg t) :FnOk P w K mg base CX0 1 f fd ["P","times"] (spStr K):=by
 refine F.ok sc_stretched (fun vs H Q E h=>?_) (fun cdv A outer s H vs Q E hr h=>?_)
 ·obtain ⟨_,_,_,rfl,_⟩:=h
  rfl
 obtain ⟨p,P',m,rfl,hp,bp,bm,q⟩:=h
 refine ⟨_,pss_one (ps_ret (pe_tup (pa_cons (pe_op op_mulG (pe_ix ix_tup (pv 0) pe_int (fun _ _=>rfl)) (pv 1)) (pa_cons (pe_op op_mulG (pe_ix ix_tup (pv 0) pe_int (fun _ _=>rfl)) (pv 1)) (pa_cons (pe_op op_mulG (pe_ix ix_tup (pv 0) pe_int (fun _ _=>rfl)) (pv 1)) pa_nil))))),?_⟩
 exact ⟨_,rfl,p,_,_,_,rfl,rfl,hp,rfl,_,rfl,_,_,rfl,rfl,okM bp.x bm,_,rfl,p,_,_,_,rfl,rfl,hp,rfl,_,rfl,_,_,rfl,rfl,okM bp.y bm,_,rfl,p,_,_,_,rfl,rfl,hp,rfl,_,rfl,_,_,rfl,rfl,okM bp.z bm,(by show 3<=sizeLine; decide),fun z nz=>q z _ (same_new nz _) upd_same⟩
theorem ok_last_of {f:Addr} {fd:FuncData} (F:Fun K "last_of" "last_of" s_last_of f fd) (T:Txt K mg t) :FnOk P w K mg base CX0 1 f fd ["point"] (spLast):=by
 refine F.ok sc_last_of (fun vs H Q E h=>?_) (fun cdv A outer s H vs Q E hr h=>?_)
 ·obtain ⟨_,_,rfl,_⟩:=h
  rfl
 obtain ⟨p,P',rfl,hp,n3,q⟩:=h
 unfold S3 at hp
 refine ⟨_,pss_one (ps_ret (pe_callB (call_maxL rfl) rfl T.z_max b_max (pa_cons (pe_compIfC rfl (CompScope.gen (cl:=[("point",_)]) ["point"] [0] [(".0",.local),("place",.local),("point",.cell)] rfl (by decide +kernel) (by decide +kernel) rfl rfl (by intro p hp; simp only [List.mem_cons,List.not_mem_nil,or_false] at hp; rcases hp with rfl <;> rfl) rfl (by intro p hp h; simp only [List.mem_cons,List.not_mem_nil,or_false] at hp; rcases hp with rfl | rfl | rfl <;> first | rfl | (rcases h with h | h <;> cases h)) (by decide) (by decide +kernel) rfl (by intro p hp; simp only [List.zip_cons_cons,List.zip_nil_left,List.mem_cons,List.not_mem_nil,or_false] at hp; rcases hp with rfl <;> exact ⟨rfl,rfl⟩)) (pi_range1 rfl T.z_range (pa_cons pe_int pa_nil)) (fun C s0 H0 fp pins=>pt_cmpR op_ne (pe_ix (ixK_tup (K:=K) rfl) (pv 1) (pv 0) (fun _ _=>rfl)) pe_int (nomark _)) (fun C s0 H0 fp pins=>pv 0)) pa_nil))),?_⟩
 refine ⟨3,rfl,by decide,by decide,compIf_three (nzAt P') id ?_ ?_ ?_⟩
 ·intro i H' Q' hi g k
  exact ⟨_,rfl,_,rfl,p,_,_,_,rfl,rfl,SqT.of (g _ _ hp),at3 hi,rfl,_,rfl,by
   have kk:=k H' (Same.refl _)
   have e:nzAt P' (.int (0+(i:Int)))=!decide (V.int (cmp P' i)=V.int 0):=by
    show (!decide (V.int (cmp P' (0+(i:Int)).toNat)=V.int 0))=_
    rw [show (0+(i:Int)).toNat=i by omega]
   rw [e] at kk
   exact kk⟩
 ·intro i H' Q' hi e g k
  exact ⟨_,rfl,k _ (Same.refl _)⟩
 ·intro l H' g h0 hl
  rw [lasts_eq] at hl
  exact ⟨l,lasts P',rfl,hl,lasts_ne n3,fun m h1 h2=>by rw [lasts_max h1 h2]; exact q _ g⟩
theorem ok_shared {f:Addr} {fd:FuncData} (F:Fun K "_law_shared" "_law_shared" s_shared f fd) (T:Txt K mg t) :FnOkS P w K mg base 1 f fd ["_law_numbers"] (spShared):=by
 refine F.okS sc_shared (fun vs H Q E h=>?_) (fun cdv A outer s H fz vs Q E hr h=>?_)
 ·obtain ⟨_,_,_,rfl,_⟩:=h
  rfl
 obtain ⟨p,b,ns,rfl,hp,q⟩:=h
 refine ⟨_,pss_cons (ps_set (i:=1) sc_shared.nd rfl (Or.inl rfl) pe_int)
  (pss_cons (ps_for PassesOwn.never rfl (pi_seq (pv 0)) (pg_name (i:=2) sc_shared.nd rfl (Or.inl rfl)) (pss_cons (ps_set (i:=3) sc_shared.nd rfl (Or.inl rfl) (pe_callB call_abs rfl T.z_abs b_abs (pa_cons (pv 2) pa_nil)))
  (pss_one (ps_while PassesOwn.never (pt_cmpR op_ne (pv 3) pe_int (nomark _)) (pss_one (ps_par (i:=1) (j:=3) rfl sc_shared.nd rfl rfl (by decide) rfl rfl (pa_cons (pv 3) (pa_cons (pe_op op_mod (pv 1) (pv 3)) pa_nil)) rfl))))))
  (pss_one (ps_ret (pv 1)))),?_⟩
 refine ⟨_,rfl,p,b,ns.map V.int,rfl,Sq.of hp,for_seq (xs:=ns.map V.int) (fun i σ H'=>∃ (g:Int) (nh ot:Option V),σ=[some (.ref p),some (.int g),nh,ot]/\H=H'/\0<=g/\Gen ns g/\∀ n ∈ ns.take i,g ∣ n) ⟨0,none,none,rfl,rfl,by decide,.zero,fun n hn=>by cases hn⟩ ?_ ?_ ?_⟩
 ·rintro i σ H' hi ⟨g,nh,ot,rfl,rfl,_⟩
  exact Sq.of hp
 ·rintro i v σ H' hv ⟨g,nh,ot,rfl,rfl,g0,gc,hd⟩
  obtain ⟨n,rfl,hn,nm⟩:=getI hv
  refine ⟨_,rfl,n,rfl,?_⟩
  refine ⟨fun m σ H'=>∃ (f o:Int),σ=[some (.ref p),some (.int f),some (.int n),some (.int o)]/\H=H'/\0<=f/\0<=o/\Gen ns f/\Gen ns o/\(∀ d:Int,d ∣ f->d ∣ o->d ∣ g/\d ∣ n)/\m=o.toNat,⟨_,g,_,rfl,rfl,g0,?_,gc,?_,fun d d1 d2=>⟨d1,?_⟩,rfl⟩,?_⟩
  ·show 0<=(if n < 0 then -n else n)
   split <;> omega
  ·show Gen ns (if n < 0 then -n else n)
   split
   ·exact (Gen.mem nm).neg
   ·exact .mem nm
  ·have d2':d ∣ (if n < 0 then -n else n):=d2
   split at d2'
   ·exact Int.dvd_neg.mp d2'
   ·exact d2'
  rintro m σ H1 ⟨f,o',rfl,rfl,f0,o0,fc,oc,hd2,rfl⟩
  refine ⟨_,rfl,rfl,_,rfl,ite2 (fun c=>?_) (fun c=>?_)⟩
  ·have on:o' ≠ 0:=fun zz=>neT c (congrArg V.int zz)
   have op:0 < o':=by omega
   have r0:=Int.emod_nonneg f on
   have r1:=Int.emod_lt_of_pos f op
   refine ⟨fun σ' H2=>σ'=[some (.ref p),some (.int o'),some (.int n),some (.int (f % o'))]/\H=H2,?_,?_⟩
   ·rintro σ' H2 ⟨rfl,rfl⟩
    exact ⟨(f % o').toNat,by omega,o',f % o',rfl,rfl,o0,r0,oc,fc.rest oc,fun d d1 d2=>(fun z=>hd2 d z.1 z.2) (step_dvd d1 d2),rfl⟩
   ·exact ⟨_,rfl,_,rfl,_,rfl,_,_,rfl,rfl,op,_,_,rfl,rfl,rfl⟩
  ·have on:o'=0:=int_inj (neF c)
   subst on
   obtain ⟨w1,w2⟩:=hd2 f (Int.dvd_refl f) (Int.dvd_zero f)
   refine ⟨f,_,_,rfl,rfl,f0,fc,fun w hw=>?_⟩
   rw [List.take_succ,hn] at hw
   rcases List.mem_append.mp hw with z | z
   ·exact Int.dvd_trans w1 (hd w z)
   ·have:w=n:=by simpa using z
    rw [this]
    exact w2
 ·rintro σ H' ⟨g,nh,ot,rfl,rfl,g0,gc,hd⟩
  rw [List.length_map,List.take_length] at hd
  exact ⟨_,rfl,q g g0 hd gc⟩
theorem ok_lowest {f:Addr} {fd:FuncData} (F:Fun K "_law_lowest" "_law_lowest" s_lowest f fd) (T:Txt K mg t) (H_shared:HasS P w K mg base 1 "_law_shared" ["_law_numbers"] (spShared)):FnOkS P w K mg base 2 f fd ["_law_numbers"] (spLow):=by
 obtain ⟨f_shared,d_shared,G_shared,b_shared,k_shared,m_shared⟩:=H_shared
 refine F.okS sc_lowest (fun vs H Q E h=>?_) (fun cdv A outer s H fz vs Q E hr h=>?_)
 ·obtain ⟨_,_,_,rfl,_⟩:=h
  rfl
 obtain ⟨p,b,ns,rfl,hp,l9,bn,fz,q⟩:=h
 have hr_shared:=hr.mono (show 1<=1 by decide)
 have hu64:=hu64q_of hr
 have fm':=fstL_mem fz
 refine ⟨_,pss_cons (ps_set (i:=1) sc_lowest.nd rfl (Or.inr rfl) (pe_callS G_shared hr_shared rfl rfl m_shared k_shared b_shared .nil (pa_cons (pv 0) pa_nil)))
  (pss_cons (ps_setCI (k:=2) sc_lowest.nd rfl (Or.inl rfl) rfl rfl (CompScope.gen (cl:=[]) [] [] [(".0",.local),("_law_number",.local)] rfl (by decide +kernel) (by decide +kernel) rfl rfl (by intro p hp; cases hp) rfl (by intro p hp h; simp only [List.mem_cons,List.not_mem_nil,or_false] at hp; rcases hp with rfl | rfl <;> first | rfl | (rcases h with h | h <;> cases h)) (by decide) (by decide +kernel) rfl (by intro p hp; cases hp)) (pi_seq (pv 0)) (fun C s0 H0 fp pins=>pt_cmpR op_ne (pv 0) pe_int (nomark _)) (fun C s0 H0 fp pins=>pv 0) (Or.inl rfl))
  (pss_cons (ps_if (pt_cmpR (op_eqD hu64) (pv 2) (pe_lst pa_nil) (nomark _)) (pss_one (ps_ret (pe_callTy call_tuple_of rfl T.z_tuple b_tuple (pa_cons (pv 0) pa_nil)))) pss_nil)
  (pss_cut (ps_if (pt_cmpR op_lt (pe_ix ix_list (pv 2) pe_int (fun _ _=>rfl)) pe_int (nomark _)) (pss_one (ps_set (i:=1) sc_lowest.nd rfl (Or.inr rfl) (pe_op op_sub pe_int (pv 1)))) pss_nil)
  (pss_one (ps_ret (pe_callTy call_tuple_of rfl T.z_tuple b_tuple (pa_cons (pe_compC rfl (CompScope.gen (cl:=[("_law_share",_)]) ["_law_share"] [1] [(".0",.local),("_law_one",.local),("_law_share",.cell)] rfl (by decide +kernel) (by decide +kernel) rfl rfl (by intro p hp; simp only [List.mem_cons,List.not_mem_nil,or_false] at hp; rcases hp with rfl <;> rfl) rfl (by intro p hp h; simp only [List.mem_cons,List.not_mem_nil,or_false] at hp; rcases hp with rfl | rfl | rfl <;> first | rfl | (rcases h with h | h <;> cases h)) (by decide) (by decide +kernel) rfl (by intro p hp; simp only [List.zip_cons_cons,List.zip_nil_left,List.mem_cons,List.not_mem_nil,or_false] at hp; rcases hp with rfl <;> exact ⟨rfl,rfl⟩)) (pi_seq (pv 0)) (fun C s0 H0 fp pins=>pe_op op_fdivL (pv 0) (pv 1))) pa_nil))))))),?_⟩
 refine ⟨_,rfl,p,b,ns,rfl,hp,fun s g0 gd gc=>?_⟩
 have s0:s ≠ 0:=fun z=>by
  subst z
  exact fz (Int.zero_dvd.mp (gd _ fm'))
 have sb:s.natAbs<=Lm:=by
  have h1:=bd_top (bn _ fm')
  have h2:=Top_Lm
  have h3:=Nat.le_of_dvd (by omega) (Int.natAbs_dvd_natAbs.mpr (gd _ fm'))
  omega
 have l9':(ns.map V.int).length < sizeLine:=by
  rw [List.length_map]
  exact Nat.lt_of_le_of_lt l9 (by decide)
 refine ⟨_,rfl,p,b,ns.map V.int,rfl,Sq.of hp,compIf_seqF (xs:=ns.map V.int) l9' nz id (fun H' g=>Sq.of (g _ _ hp)) ?_ ?_ ?_⟩
 ·intro i v H' Q' hv g k
  obtain ⟨n,rfl,_⟩:=getI hv
  exact ⟨_,rfl,rfl,_,rfl,k _ (Same.refl _)⟩
 ·intro i v H' Q' hv e g k
  exact ⟨_,rfl,k _ (Same.refl _)⟩
 intro l H1 g1 _ hl
 obtain ⟨ms,em⟩:=first_ok fz
 rw [em] at hl
 refine ⟨_,rfl,(by show 0<=sizeLine; decide),fun le ne=>?_⟩
 have gl:=same_new ne (.lst [])
 have hl2:=gl _ _ hl
 refine ⟨_,_,.lst hl2 (DAs.ints (fstL ns :: ms)),.lst upd_same .nil,W.ke_shaped_ints _,rfl,_,rfl,iteFE rfl ?_⟩
 refine ⟨fun σ' H'=>∃ e:Int,σ'=[some (.ref p),some (.int e),some (.ref l)]/\Same H H'/\((e=s/\0 < fstL ns)\/(e=-s/\fstL ns < 0)),?_,?_⟩
 ·refine ⟨_,rfl,l,_,_,_,rfl,rfl,SqL.of hl2,at0,_,_,rfl,rfl,_,rfl,ite2 (fun c=>?_) (fun c=>?_)⟩
  ·have c':=decT c
   exact ⟨_,rfl,_,_,rfl,rfl,0 - s,rfl,g1.trans gl,.inr ⟨by omega,c'⟩⟩
  ·have c':=decF c
   exact ⟨s,rfl,g1.trans gl,.inl ⟨rfl,by omega⟩⟩
 rintro _ H3 ⟨e,rfl,g3,he⟩
 have hp3:=g3 _ _ hp
 have en:e ≠ 0:=by omega
 have be:e.natAbs<=Lm:=by omega
 refine ⟨_,rfl,p,b,ns.map V.int,rfl,Sq.of hp3,comp_seqF (xs:=ns.map V.int) l9' (fdv e) (fun H' g=>Sq.of (g _ _ hp3)) ?_ ?_⟩
 ·intro i v H' Q' hv g k
  obtain ⟨n,rfl,_⟩:=getI hv
  exact ⟨_,rfl,_,rfl,_,_,rfl,rfl,⟨en,Lm_log (by omega)⟩,k _ (Same.refl _)⟩
 intro l4 H4 g4 _ hl4
 refine ⟨l4,_,rfl,.inl ⟨SqL.of hl4,fun r nr=>?_⟩⟩
 refine q r _ e (g3.trans (g4.trans (same_new nr _))) upd_same en (fun n hn=>?_) ?_ (by omega)
 ·rcases he with ⟨z,_⟩ | ⟨z,_⟩ <;> rw [z]
  ·exact gd n hn
  ·exact Int.neg_dvd.mpr (gd n hn)
 ·rcases he with ⟨z,_⟩ | ⟨z,_⟩ <;> rw [z]
  ·exact gc
  ·exact gc.neg
theorem ok_beside {f:Addr} {fd:FuncData} (F:Fun K "_law_beside" "_law_beside" s_beside f fd) (T:Txt K mg t) :FnOk P w K mg base CX0 1 f fd ["_law_one","_law_other"] (spCr):=by
 refine F.ok sc_beside (fun vs H Q E h=>?_) (fun cdv A outer s H vs Q E hr h=>?_)
 ·obtain ⟨_,_,_,_,rfl,_⟩:=h
  rfl
 obtain ⟨p,q',r,s',rfl,hp,hq,br,bs,q⟩:=h
 unfold S3 at hp hq
 refine ⟨_,pss_cons (ps_set (i:=2) sc_beside.nd rfl (Or.inl rfl) (pe_op op_sub (pe_op op_mulG (pe_ix ix_tup (pv 0) pe_int (fun _ _=>rfl)) (pe_ix ix_tup (pv 1) pe_int (fun _ _=>rfl))) (pe_op op_mulG (pe_ix ix_tup (pv 0) pe_int (fun _ _=>rfl)) (pe_ix ix_tup (pv 1) pe_int (fun _ _=>rfl)))))
  (pss_cons (ps_set (i:=3) sc_beside.nd rfl (Or.inl rfl) (pe_op op_sub (pe_op op_mulG (pe_ix ix_tup (pv 0) pe_int (fun _ _=>rfl)) (pe_ix ix_tup (pv 1) pe_int (fun _ _=>rfl))) (pe_op op_mulG (pe_ix ix_tup (pv 0) pe_int (fun _ _=>rfl)) (pe_ix ix_tup (pv 1) pe_int (fun _ _=>rfl)))))
  (pss_one (ps_ret (pe_tup (pa_cons (pv 2) (pa_cons (pv 3) (pa_cons (pe_op op_sub (pe_op op_mulG (pe_ix ix_tup (pv 0) pe_int (fun _ _=>rfl)) (pe_ix ix_tup (pv 1) pe_int (fun _ _=>rfl))) (pe_op op_mulG (pe_ix ix_tup (pv 0) pe_int (fun _ _=>rfl)) (pe_ix ix_tup (pv 1) pe_int (fun _ _=>rfl)))) pa_nil))))))),?_⟩
 refine ⟨_,rfl,p,_,_,_,rfl,rfl,SqT.of hp,rfl,_,rfl,q',_,_,_,rfl,rfl,SqT.of hq,rfl,_,_,rfl,rfl,okM br.y bs.z,_,rfl,p,_,_,_,rfl,rfl,SqT.of hp,rfl,_,rfl,q',_,_,_,rfl,rfl,SqT.of hq,rfl,_,_,rfl,rfl,okM br.z bs.y,_,_,rfl,rfl,?_⟩
 refine ⟨_,rfl,p,_,_,_,rfl,rfl,SqT.of hp,rfl,_,rfl,q',_,_,_,rfl,rfl,SqT.of hq,rfl,_,_,rfl,rfl,okM br.z bs.x,_,rfl,p,_,_,_,rfl,rfl,SqT.of hp,rfl,_,rfl,q',_,_,_,rfl,rfl,SqT.of hq,rfl,_,_,rfl,rfl,okM br.x bs.z,_,_,rfl,rfl,?_⟩
 exact ⟨_,rfl,_,rfl,_,rfl,p,_,_,_,rfl,rfl,SqT.of hp,rfl,_,rfl,q',_,_,_,rfl,rfl,SqT.of hq,rfl,_,_,rfl,rfl,okM br.x bs.y,_,rfl,p,_,_,_,rfl,rfl,SqT.of hp,rfl,_,rfl,q',_,_,_,rfl,rfl,SqT.of hq,rfl,_,_,rfl,rfl,okM br.y bs.x,_,_,rfl,rfl,(by show 3<=sizeLine; decide),fun z nz=>q z _ (same_new nz _) upd_same⟩
theorem ok_dot {f:Addr} {fd:FuncData} (F:Fun K "_law_dot" "_law_dot" s_dot f fd) (T:Txt K mg t) :FnOk P w K mg base CX0 1 f fd ["_law_one","_law_other"] (spRp):=by
 refine F.ok sc_dot (fun vs H Q E h=>?_) (fun cdv A outer s H vs Q E hr h=>?_)
 ·obtain ⟨_,_,_,_,rfl,_⟩:=h
  rfl
 obtain ⟨p,q',r,s',rfl,hp,hq,br,bs,q⟩:=h
 unfold S3 at hp hq
 refine ⟨_,pss_one (ps_ret (pe_op op_add (pe_op op_add (pe_op op_mulG (pe_ix ix_tup (pv 0) pe_int (fun _ _=>rfl)) (pe_ix ix_tup (pv 1) pe_int (fun _ _=>rfl))) (pe_op op_mulG (pe_ix ix_tup (pv 0) pe_int (fun _ _=>rfl)) (pe_ix ix_tup (pv 1) pe_int (fun _ _=>rfl)))) (pe_op op_mulG (pe_ix ix_tup (pv 0) pe_int (fun _ _=>rfl)) (pe_ix ix_tup (pv 1) pe_int (fun _ _=>rfl))))),?_⟩
 exact ⟨_,rfl,p,_,_,_,rfl,rfl,SqT.of hp,rfl,_,rfl,q',_,_,_,rfl,rfl,SqT.of hq,rfl,_,_,rfl,rfl,okM br.x bs.x,_,rfl,p,_,_,_,rfl,rfl,SqT.of hp,rfl,_,rfl,q',_,_,_,rfl,rfl,SqT.of hq,rfl,_,_,rfl,rfl,okM br.y bs.y,_,_,rfl,rfl,_,rfl,p,_,_,_,rfl,rfl,SqT.of hp,rfl,_,rfl,q',_,_,_,rfl,rfl,SqT.of hq,rfl,_,_,rfl,rfl,okM br.z bs.z,_,_,rfl,rfl,q⟩
theorem ok_rows {f:Addr} {fd:FuncData} (F:Fun K "_law_rows" "_law_rows" s_rows f fd) (T:Txt K mg t) (H_cell_at:Has P w K mg base CX0 1 "_law_cell_at" ["_law_script","_law_k"] (spCell K)) (H_dot:Has P w K mg base CX0 1 "_law_dot" ["_law_one","_law_other"] (spRp)) (H_beside:Has P w K mg base CX0 1 "_law_beside" ["_law_one","_law_other"] (spCr)):FnOk P w K mg base CX0 2 f fd ["_law_script","_law_start","_law_way","_law_great"] (spRows K):=by
 obtain ⟨f_cell_at,d_cell_at,G_cell_at,b_cell_at,k_cell_at,m_cell_at⟩:=H_cell_at
 obtain ⟨f_dot,d_dot,G_dot,b_dot,k_dot,m_dot⟩:=H_dot
 obtain ⟨f_beside,d_beside,G_beside,b_beside,k_beside,m_beside⟩:=H_beside
 refine F.ok sc_rows (fun vs H Q E h=>?_) (fun cdv A outer s H vs Q E hr h=>?_)
 ·obtain ⟨_,_,_,_,rfl,_⟩:=h
  rfl
 obtain ⟨a,ns,w,G,rfl,hS,G0,G1,q⟩:=h
 have hr_cell_at:=hr.mono (show 1<=1 by decide)
 have hr_dot:=hr.mono (show 1<=1 by decide)
 have hr_beside:=hr.mono (show 1<=1 by decide)
 refine ⟨_,pss_cons (ps_set (i:=4) sc_rows.nd rfl (Or.inr rfl) (pe_ix ix_list (pe_lst (pa_cons pe_int (pa_cons pe_int (pa_cons (pe_op op_pow pe_int pe_int) (pa_cons (pv 3) pa_nil))))) (pe_op op_mod (pv 2) pe_int) (fun _ _=>rfl)))
  (pss_cons (ps_setC0 (k:=5) sc_rows.nd rfl (Or.inl rfl) rfl rfl (CompScope.gen (cl:=[("_law_start",_),("_law_script",_)]) ["_law_script","_law_start"] [0,1] [(".0",.local),("_law_k",.local),("_law_cell_at",.globalImplicit),("_law_script",.cell),("_law_start",.cell)] rfl (by decide +kernel) (by decide +kernel) rfl rfl (by intro p hp; simp only [List.mem_cons,List.not_mem_nil,or_false] at hp; rcases hp with rfl | rfl <;> rfl) rfl (by intro p hp h; simp only [List.mem_cons,List.not_mem_nil,or_false] at hp; rcases hp with rfl | rfl | rfl | rfl | rfl <;> first | rfl | (rcases h with h | h <;> cases h)) (by decide) (by decide +kernel) rfl (by intro p hp; simp only [List.zip_cons_cons,List.zip_nil_left,List.mem_cons,List.not_mem_nil,or_false] at hp; rcases hp with rfl | rfl <;> exact ⟨rfl,rfl⟩)) (pi_range1 rfl T.z_range (pa_cons pe_int pa_nil)) (fun C s0 H0 fp pins=>pe_op op_add (pe_call G_cell_at hr_cell_at rfl m_cell_at k_cell_at b_cell_at .nil pass0 (pa_cons (pv 1) (pa_cons (pe_op op_add (pv 2) (pv 0)) pa_nil))) (pe_op op_mulG (pe_op op_mulG pe_int (pv 0)) (pv 0))) (Or.inl rfl))
  (pss_cons (ps_setC0 (k:=6) sc_rows.nd rfl (Or.inl rfl) rfl rfl (CompScope.gen (cl:=[("_law_most",_)]) ["_law_most"] [4] [(".0",.local),("_law_cell",.local),("_law_most",.cell)] rfl (by decide +kernel) (by decide +kernel) rfl rfl (by intro p hp; simp only [List.mem_cons,List.not_mem_nil,or_false] at hp; rcases hp with rfl <;> rfl) rfl (by intro p hp h; simp only [List.mem_cons,List.not_mem_nil,or_false] at hp; rcases hp with rfl | rfl | rfl <;> first | rfl | (rcases h with h | h <;> cases h)) (by decide) (by decide +kernel) rfl (by intro p hp; simp only [List.zip_cons_cons,List.zip_nil_left,List.mem_cons,List.not_mem_nil,or_false] at hp; rcases hp with rfl <;> exact ⟨rfl,rfl⟩)) (pi_list (pv 5)) (fun C s0 H0 fp pins=>pe_op op_mod (pe_op op_mulG (pv 0) (pe_op op_pow pe_int pe_int)) (pe_op op_add (pe_op op_mulG pe_int (pv 1)) pe_int)) (Or.inl rfl))
  (pss_cons (ps_setC0 (k:=6) sc_rows.nd rfl (Or.inl rfl) rfl rfl (CompScope.gen (cl:=[("_law_most",_)]) ["_law_most"] [4] [(".0",.local),("_law_number",.local),("_law_most",.cell)] rfl (by decide +kernel) (by decide +kernel) rfl rfl (by intro p hp; simp only [List.mem_cons,List.not_mem_nil,or_false] at hp; rcases hp with rfl <;> rfl) rfl (by intro p hp h; simp only [List.mem_cons,List.not_mem_nil,or_false] at hp; rcases hp with rfl | rfl | rfl <;> first | rfl | (rcases h with h | h <;> cases h)) (by decide) (by decide +kernel) rfl (by intro p hp; simp only [List.zip_cons_cons,List.zip_nil_left,List.mem_cons,List.not_mem_nil,or_false] at hp; rcases hp with rfl <;> exact ⟨rfl,rfl⟩)) (pi_list (pv 6)) (fun C s0 H0 fp pins=>pe_op op_sub (pv 0) (pv 1)) (Or.inl rfl))
  (pss_cons (ps_set (i:=7) sc_rows.nd rfl (Or.inl rfl) (pe_lst (pa_cons (pe_callTy call_tuple_of rfl T.z_tuple b_tuple (pa_cons (pe_slice sl_list (pv 6) po_none (po_some pe_int)) pa_nil)) (pa_cons (pe_callTy call_tuple_of rfl T.z_tuple b_tuple (pa_cons (pe_slice sl_list (pv 6) (po_some pe_int) (po_some pe_int)) pa_nil)) (pa_cons (pe_callTy call_tuple_of rfl T.z_tuple b_tuple (pa_cons (pe_slice sl_list (pv 6) (po_some pe_int) po_none) pa_nil)) pa_nil)))))
  (pss_cut (ps_if (PW.pt (pw_or (pt_cmpR op_eq (pe_op op_mod (pe_op op_fdiv (pv 2) pe_int) pe_int) pe_int (nomark _)) (pw_or1 (pt_cmpR op_eq (pe_call G_dot hr_dot rfl m_dot k_dot b_dot .nil pass0 (pa_cons (pe_ix ix_list (pv 7) pe_int (fun _ _=>rfl)) (pa_cons (pe_call G_beside hr_beside rfl m_beside k_beside b_beside .nil pass0 (pa_cons (pe_ix ix_list (pv 7) pe_int (fun _ _=>rfl)) (pa_cons (pe_ix ix_list (pv 7) pe_int (fun _ _=>rfl)) pa_nil))) pa_nil))) pe_int (nomark _))))) (pss_one (ps_set (i:=7) sc_rows.nd rfl (Or.inl rfl) (pe_lst (pa_cons (pe_tup (pa_cons pe_int (pa_cons (pe_ix ix_list (pv 6) pe_int (fun _ _=>rfl)) (pa_cons (pe_ix ix_list (pv 6) pe_int (fun _ _=>rfl)) pa_nil)))) (pa_cons (pe_tup (pa_cons pe_int (pa_cons pe_int (pa_cons (pe_ix ix_list (pv 6) pe_int (fun _ _=>rfl)) pa_nil)))) (pa_cons (pe_tup (pa_cons pe_int (pa_cons pe_int (pa_cons pe_int pa_nil)))) pa_nil)))))) pss_nil)
  (pss_one (ps_ret (pv 7)))))))),?_⟩
 refine ⟨_,_,rfl,rfl,⟨by decide,by decide,by decide⟩,_,rfl,(by show 4<=sizeLine; decide),fun p1 n1=>?_⟩
 obtain ⟨m,em,hm⟩:=at4 2 4 (10^Int.toNat 3) G (w % 4) (by omega) (by omega)
 have m1:0<=m/\m<=1000000000:=by
  have e3:(10:Int)^Int.toNat 3=1000:=by decide
  omega
 have g1:=same_new n1 (.lst [.int 2,.int 4,.int (10^Int.toNat 3),.int G])
 have hS1:=g1.seq hS
 refine ⟨_,rfl,_,_,rfl,rfl,(by show (0:Int) < 4; decide),p1,_,_,_,rfl,rfl,SqL.of upd_same,em,?_⟩
 refine ⟨9,rfl,by decide,by decide,comp_range 9 (by decide) (fun i vs H'=>∃ ms:List Int,vs=ms.map V.int/\ms.length=i) (fun p hp=>⟨[],rfl,rfl⟩) ?_ ?_⟩
 ·rintro i vs H' acc Q' hi g h0 h1 ⟨ms,rfl,hl⟩ _ k
  exact ⟨_,rfl,_,rfl,_,rfl,_,_,rfl,rfl,a,ns,_,rfl,g.seq hS1,by omega,_,rfl,_,_,rfl,rfl,IntMulOk.of_left (intBits_le_64 (by decide) (by decide)),_,rfl,_,_,rfl,rfl,IntMulOk.of_right (intBits_le_64 (by omega) (by omega)),_,_,rfl,rfl,k _ _ (Same.refl _) ⟨ms ++ [ns.getD (1+(0+(i:Int))).toNat 0+5*(0+(i:Int))*(0+(i:Int))],by rw [List.map_append]; rfl,by rw [List.length_append,hl]; rfl⟩⟩
 rintro p2 H2 vs g2 _ hp2 _ ⟨ms,rfl,hl2⟩
 refine ⟨_,rfl,p2,rfl,⟨_,SqL.of hp2⟩,comp_listR (xs:=ms.map V.int) (by rw [List.length_map,hl2]; decide) (fun H' g=>SqL.of (g _ _ hp2)) (fun i vs H'=>∃ ss:List Int,vs=ss.map V.int/\ss.length=i/\∀ x ∈ ss,0<=x/\x<=2*m) (fun p hp=>⟨[],rfl,rfl,fun x hx=>by cases hx⟩) ?_ ?_⟩
 ·rintro i v vs H' acc Q' hv g h0 ha ⟨ss,rfl,hl,hb⟩ _ k
  obtain ⟨n,_,rfl⟩:=List.mem_map.mp (List.mem_of_getElem? hv)
  refine ⟨_,rfl,_,_,rfl,rfl,⟨by decide,by decide,by decide⟩,_,_,rfl,rfl,IntMulOk.of_right (intBits_le_64 (by decide) (by decide)),_,rfl,_,_,rfl,rfl,ok2,_,_,rfl,rfl,_,_,rfl,rfl,(by show (0:Int) < 2*m+1; omega),k _ _ (Same.refl _) ⟨ss ++ [n*15485867^Int.toNat 2 % (2*m+1)],by rw [List.map_append]; rfl,by rw [List.length_append,hl]; rfl,fun x hx=>?_⟩⟩
  rcases List.mem_append.mp hx with z | z
  ·exact hb x z
  ·cases List.mem_singleton.mp z
   have:=mod_in (n:=n*15485867^Int.toNat 2) m1.1
   omega
 rintro p3 H3 vs g3 _ hp3 _ ⟨ss,rfl,hl3,hb3⟩
 rw [List.length_map,hl2] at hl3
 refine ⟨_,rfl,p3,rfl,⟨_,SqL.of hp3⟩,comp_listR (xs:=ss.map V.int) (by rw [List.length_map,hl3]; decide) (fun H' g=>SqL.of (g _ _ hp3)) (fun i vs H'=>∃ us:List Int,vs=us.map V.int/\us.length=i/\∀ x ∈ us,Bd 30 x) (fun p hp=>⟨[],rfl,rfl,fun x hx=>by cases hx⟩) ?_ ?_⟩
 ·rintro i v vs H' acc Q' hv g h0 ha ⟨us,rfl,hl,hb⟩ _ k
  obtain ⟨n,nm,rfl⟩:=List.mem_map.mp (List.mem_of_getElem? hv)
  refine ⟨_,rfl,_,rfl,_,_,rfl,rfl,k _ _ (Same.refl _) ⟨us ++ [n - m],by rw [List.map_append]; rfl,by rw [List.length_append,hl]; rfl,fun x hx=>?_⟩⟩
  rcases List.mem_append.mp hx with z | z
  ·exact hb x z
  ·cases List.mem_singleton.mp z
   have:=hb3 n nm
   exact bd30 (by omega)
 rintro p4 H4 vs g4 _ hp4 _ ⟨us,rfl,hl4,hb4⟩
 rw [List.length_map,hl3] at hl4
 obtain ⟨u0,u1,u2,u3,u4,u5,u6,u7,u8,rfl⟩:∃ u0 u1 u2 u3 u4 u5 u6 u7 u8,us=[u0,u1,u2,u3,u4,u5,u6,u7,u8]:=by
  match us,hl4 with
  | [u0,u1,u2,u3,u4,u5,u6,u7,u8],_=>exact ⟨u0,u1,u2,u3,u4,u5,u6,u7,u8,rfl⟩
 have b0:=hb4 u0 (by simp)
 have b1:=hb4 u1 (by simp)
 have b2:=hb4 u2 (by simp)
 have b3:=hb4 u3 (by simp)
 have b4':=hb4 u4 (by simp)
 have b5:=hb4 u5 (by simp)
 have b6:=hb4 u6 (by simp)
 have b7:=hb4 u7 (by simp)
 have b8:=hb4 u8 (by simp)
 clear hb4 hl4
 have hp4':H4 p4=some (.lst [.int u0,.int u1,.int u2,.int u3,.int u4,.int u5,.int u6,.int u7,.int u8]):=hp4
 have gH:=g1.trans (g2.trans (g3.trans g4))
 refine ⟨_,rfl,_,rfl,p4,_,rfl,SqL.of hp4',fun c0 k0=>⟨c0,_,rfl,.inl ⟨SqL.of upd_same,fun r0 j0=>?_⟩⟩⟩
 have f0:=(same_new k0 (.lst [.int u0,.int u1,.int u2])).trans (same_new j0 (t3 ⟨u0,u1,u2⟩))
 have e0:S3 (upd (upd H4 c0 (.lst [.int u0,.int u1,.int u2])) r0 (t3 ⟨u0,u1,u2⟩)) r0 ⟨u0,u1,u2⟩:=upd_same
 have hp5:=f0 _ _ hp4'
 refine ⟨_,rfl,_,rfl,_,rfl,p4,_,rfl,SqL.of hp5,fun c1 k1=>⟨c1,_,rfl,.inl ⟨SqL.of upd_same,fun r1 j1=>?_⟩⟩⟩
 have f1:=(same_new k1 (.lst [.int u3,.int u4,.int u5])).trans (same_new j1 (t3 ⟨u3,u4,u5⟩))
 have e1:=same_new j1 (t3 ⟨u3,u4,u5⟩)
 have e1':S3 (upd (upd (upd (upd H4 c0 (.lst [.int u0,.int u1,.int u2])) r0 (t3 ⟨u0,u1,u2⟩)) c1 (.lst [.int u3,.int u4,.int u5])) r1 (t3 ⟨u3,u4,u5⟩)) r1 ⟨u3,u4,u5⟩:=upd_same
 have hp6:=f1 _ _ hp5
 refine ⟨_,rfl,_,rfl,p4,_,rfl,SqL.of hp6,fun c2 k2=>⟨c2,_,rfl,.inl ⟨SqL.of upd_same,fun r2 j2=>?_⟩⟩⟩
 have f2:=(same_new k2 (.lst [.int u6,.int u7,.int u8])).trans (same_new j2 (t3 ⟨u6,u7,u8⟩))
 refine ⟨(by show 3<=sizeLine; decide),fun pl nl=>?_⟩
 have f3:=same_new nl (.lst [.ref r0,.ref r1,.ref r2])
 have w0:=f3 _ _ (f2 _ _ (f1 _ _ e0))
 have w1:=f3 _ _ (f2 _ _ e1')
 have w2:=f3 r2 (t3 ⟨u6,u7,u8⟩) upd_same
 have hp7:=f3 _ _ (f2 _ _ hp6)
 have gA:=gH.trans (f0.trans (f1.trans (f2.trans f3)))
 refine ⟨fun σ' H'=>∃ (pr:Addr) (t:T3),σ'=[some (.ref a),some (.int 1),some (.int w),some (.int G),some (.int m),some (.ref p2),some (.ref p4),some (.ref pr)]/\Same H H'/\LT H' pr t/\BT 30 t/\me t ≠ 0,?_,?_⟩
 ·have fin:=upd_same (H:=upd (upd (upd (upd (upd (upd H4 c0 (.lst [.int u0,.int u1,.int u2])) r0 (t3 ⟨u0,u1,u2⟩)) c1 (.lst [.int u3,.int u4,.int u5])) r1 (t3 ⟨u3,u4,u5⟩)) c2 (.lst [.int u6,.int u7,.int u8])) r2 (t3 ⟨u6,u7,u8⟩)) (a:=pl) (o:=.lst [.ref r0,.ref r1,.ref r2])
  refine ⟨_,rfl,_,_,rfl,rfl,⟨by decide,by decide⟩,_,_,rfl,rfl,(by show (0:Int) < 4; decide),rfl,_,rfl,ite2 (fun c=>?_) (fun c=>?_)⟩
  ·refine iteT ⟨_,rfl,p4,_,_,_,rfl,rfl,SqL.of hp7,rfl,_,rfl,p4,_,_,_,rfl,rfl,SqL.of hp7,rfl,(by show 3<=sizeLine; decide),fun s0 y0=>?_⟩
   have z0:=same_new y0 (t3 ⟨1,u0,u1⟩)
   refine ⟨_,rfl,p4,_,_,_,rfl,rfl,SqL.of (z0 _ _ hp7),rfl,(by show 3<=sizeLine; decide),fun s1 y1=>⟨(by show 3<=sizeLine; decide),fun s2 y2=>⟨(by show 3<=sizeLine; decide),fun s3 y3=>?_⟩⟩⟩
   have z1:=same_new y1 (t3 ⟨0,1,u2⟩)
   have z2:=same_new y2 (t3 ⟨0,0,1⟩)
   have z3:=same_new y3 (.lst [.ref s0,.ref s1,.ref s2])
   exact ⟨s3,⟨⟨1,u0,u1⟩,⟨0,1,u2⟩,⟨0,0,1⟩⟩,rfl,gA.trans (z0.trans (z1.trans (z2.trans z3))),⟨s0,s1,s2,upd_same,z3 _ _ (z2 _ _ (z1 _ _ upd_same)),z3 _ _ (z2 _ _ upd_same),z3 _ _ upd_same⟩,⟨⟨bd1,b0,b1⟩,⟨bd0,bd1,b2⟩,⟨bd0,bd0,bd1⟩⟩,me_stairs _ _ _⟩
  ·refine ⟨_,rfl,pl,_,_,_,rfl,rfl,SqL.of fin,rfl,_,rfl,pl,_,_,_,rfl,rfl,SqL.of fin,rfl,_,rfl,pl,_,_,_,rfl,rfl,SqL.of fin,rfl,r1,r2,⟨u3,u4,u5⟩,⟨u6,u7,u8⟩,rfl,w1,w2,BP.mono' (j:=30) ⟨b3,b4',b5⟩,BP.mono' (j:=30) ⟨b6,b7,b8⟩,fun x H6 g6 hx=>?_⟩
   refine ⟨r0,x,⟨u0,u1,u2⟩,_,rfl,g6 _ _ w0,hx,BP.mono' (j:=30) ⟨b0,b1,b2⟩,(bd_cr (k:=30) ⟨b3,b4',b5⟩ ⟨b6,b7,b8⟩).mono',rfl,_,rfl,ite2 (fun c=>?_) (fun c=>?_)⟩
   ·refine ⟨_,rfl,p4,_,_,_,rfl,rfl,SqL.of (g6 _ _ hp7),rfl,_,rfl,p4,_,_,_,rfl,rfl,SqL.of (g6 _ _ hp7),rfl,(by show 3<=sizeLine; decide),fun s0 y0=>?_⟩
    have z0:=same_new y0 (t3 ⟨1,u0,u1⟩)
    refine ⟨_,rfl,p4,_,_,_,rfl,rfl,SqL.of (z0 _ _ (g6 _ _ hp7)),rfl,(by show 3<=sizeLine; decide),fun s1 y1=>⟨(by show 3<=sizeLine; decide),fun s2 y2=>⟨(by show 3<=sizeLine; decide),fun s3 y3=>?_⟩⟩⟩
    have z1:=same_new y1 (t3 ⟨0,1,u2⟩)
    have z2:=same_new y2 (t3 ⟨0,0,1⟩)
    have z3:=same_new y3 (.lst [.ref s0,.ref s1,.ref s2])
    exact ⟨s3,⟨⟨1,u0,u1⟩,⟨0,1,u2⟩,⟨0,0,1⟩⟩,rfl,gA.trans (g6.trans (z0.trans (z1.trans (z2.trans z3)))),⟨s0,s1,s2,upd_same,z3 _ _ (z2 _ _ (z1 _ _ upd_same)),z3 _ _ (z2 _ _ upd_same),z3 _ _ upd_same⟩,⟨⟨bd1,b0,b1⟩,⟨bd0,bd1,b2⟩,⟨bd0,bd0,bd1⟩⟩,me_stairs _ _ _⟩
   ·have c':me ⟨⟨u0,u1,u2⟩,⟨u3,u4,u5⟩,⟨u6,u7,u8⟩⟩ ≠ 0:=fun z=>decF c (congrArg V.int z)
    exact ⟨pl,⟨⟨u0,u1,u2⟩,⟨u3,u4,u5⟩,⟨u6,u7,u8⟩⟩,rfl,gA.trans g6,⟨r0,r1,r2,g6 _ _ fin,g6 _ _ w0,g6 _ _ w1,g6 _ _ w2⟩,⟨⟨b0,b1,b2⟩,⟨b3,b4',b5⟩,⟨b6,b7,b8⟩⟩,c'⟩
 rintro _ H8 ⟨pr,t',rfl,g8,hL,bt,mt⟩
 exact ⟨_,rfl,q pr H8 t' g8 hL bt mt⟩
theorem ok_form {f:Addr} {fd:FuncData} (F:Fun K "_law_form" "_law_form" s_form f fd) (T:Txt K mg t) :FnOk P w K mg base CX0 1 f fd ["_law_rows_here","_law_times_here"] (spForm):=by
 refine F.ok sc_form (fun vs H Q E h=>?_) (fun cdv A outer s H vs Q E hr h=>?_)
 ·obtain ⟨_,_,_,rfl,_⟩:=h
  rfl
 obtain ⟨p,t',c,rfl,hL,bt,bc,q⟩:=h
 obtain ⟨r0,r1,r2,hp,h0,h1,h2⟩:=hL
 refine ⟨_,pss_cons (ps_asg (pv 0) (pg_lst rfl (pgs_cons (pg_name (i:=3) sc_form.nd rfl (Or.inr rfl)) (pgs_cons (pg_name (i:=4) sc_form.nd rfl (Or.inr rfl)) (pgs_cons (pg_name (i:=5) sc_form.nd rfl (Or.inr rfl)) pgs_nil)))))
  (pss_cons (ps_setC0 (k:=2) sc_form.nd rfl (Or.inl rfl) rfl rfl (CompScope.gen (cl:=[("_law_two",_),("_law_three",_),("_law_one",_)]) ["_law_one","_law_three","_law_two"] [3,5,4] [(".0",.local),("_law_k",.local),("_law_one",.cell),("_law_three",.cell),("_law_two",.cell)] rfl (by decide +kernel) (by decide +kernel) rfl rfl (by intro p hp; simp only [List.mem_cons,List.not_mem_nil,or_false] at hp; rcases hp with rfl | rfl | rfl <;> rfl) rfl (by intro p hp h; simp only [List.mem_cons,List.not_mem_nil,or_false] at hp; rcases hp with rfl | rfl | rfl | rfl | rfl <;> first | rfl | (rcases h with h | h <;> cases h)) (by decide) (by decide +kernel) rfl (by intro p hp; simp only [List.zip_cons_cons,List.zip_nil_left,List.mem_cons,List.not_mem_nil,or_false] at hp; rcases hp with rfl | rfl | rfl <;> exact ⟨rfl,rfl⟩)) (pi_range1 rfl T.z_range (pa_cons pe_int pa_nil)) (fun C s0 H0 fp pins=>pe_op op_sub (pe_op op_mulG (pe_ix (ixK_tup (K:=K) rfl) (pv 1) (pv 0) (fun _ _=>rfl)) (pe_ix (ixK_tup (K:=K) rfl) (pv 2) (pv 0) (fun _ _=>rfl))) (pe_op op_mulG (pe_ix (ixK_tup (K:=K) rfl) (pv 3) (pv 0) (fun _ _=>rfl)) (pe_ix (ixK_tup (K:=K) rfl) (pv 3) (pv 0) (fun _ _=>rfl)))) (Or.inl rfl))
  (pss_cons (ps_for PassesOwn.never rfl (pi_list (pe_lst (pa_cons (pe_tup (pa_cons pe_int (pa_cons pe_int pa_nil))) (pa_cons (pe_tup (pa_cons pe_int (pa_cons pe_int pa_nil))) (pa_cons (pe_tup (pa_cons pe_int (pa_cons pe_int pa_nil))) pa_nil))))) (pg_tup rfl (pgs_cons (pg_name (i:=6) sc_form.nd rfl (Or.inl rfl)) (pgs_cons (pg_name (i:=7) sc_form.nd rfl (Or.inl rfl)) pgs_nil))) (pss_cons (ps_set (i:=8) sc_form.nd rfl (Or.inl rfl) (pe_op op_add (pe_op op_mulG (pe_ix ix_tup (pv 3) (pv 6) (fun _ _=>rfl)) (pe_ix ix_tup (pv 5) (pv 7) (fun _ _=>rfl))) (pe_op op_mulG (pe_ix ix_tup (pv 3) (pv 7) (fun _ _=>rfl)) (pe_ix ix_tup (pv 5) (pv 6) (fun _ _=>rfl)))))
  (pss_one (ps_expr (pe_bm PySem.F.plainAttrs_list PySem.F.slot_list_append PySem.F.type_list_append mt_append (pv 2) (pa_cons (pe_op op_sub (pv 8) (pe_op op_mulG (pe_op op_mulG pe_int (pe_ix ix_tup (pv 4) (pv 6) (fun _ _=>rfl))) (pe_ix ix_tup (pv 4) (pv 7) (fun _ _=>rfl)))) pa_nil))))))
  (pss_one (ps_ret (pe_callTy call_tuple_of rfl T.z_tuple b_tuple (pa_cons (pe_compC rfl (CompScope.gen (cl:=[("_law_times_here",_)]) ["_law_times_here"] [1] [(".0",.local),("_law_number",.local),("_law_times_here",.cell)] rfl (by decide +kernel) (by decide +kernel) rfl rfl (by intro p hp; simp only [List.mem_cons,List.not_mem_nil,or_false] at hp; rcases hp with rfl <;> rfl) rfl (by intro p hp h; simp only [List.mem_cons,List.not_mem_nil,or_false] at hp; rcases hp with rfl | rfl | rfl <;> first | rfl | (rcases h with h | h <;> cases h)) (by decide) (by decide +kernel) rfl (by intro p hp; simp only [List.zip_cons_cons,List.zip_nil_left,List.mem_cons,List.not_mem_nil,or_false] at hp; rcases hp with rfl <;> exact ⟨rfl,rfl⟩)) (pi_list (pv 2)) (fun C s0 H0 fp pins=>pe_op op_mulG (pv 1) (pv 0))) pa_nil)))))),?_⟩
 refine ⟨_,rfl,p,_,rfl,SqL.of hp,rfl,_,_,rfl,_,_,rfl,_,_,rfl,rfl,?_⟩
 refine ⟨3,rfl,by decide,by decide,comp_rangeF 3 (by decide) (fun j=>.int (cmp t'.r0 j*cmp t'.r2 j - cmp t'.r1 j*cmp t'.r1 j)) ?_ ?_⟩
 ·intro j H' Q' hj g k
  exact ⟨_,rfl,_,rfl,r0,_,_,_,rfl,rfl,SqT.of (g _ _ h0),at3 hj,_,rfl,_,rfl,r2,_,_,_,rfl,rfl,SqT.of (g _ _ h2),at3 hj,_,_,rfl,rfl,okM (bd_cmp bt.r0 j) (bd_cmp bt.r2 j),_,rfl,_,rfl,r1,_,_,_,rfl,rfl,SqT.of (g _ _ h1),at3 hj,_,rfl,_,rfl,r1,_,_,_,rfl,rfl,SqT.of (g _ _ h1),at3 hj,_,_,rfl,rfl,okM (bd_cmp bt.r1 j) (bd_cmp bt.r1 j),_,_,rfl,rfl,k _ (Same.refl _)⟩
 intro l H1 g1 nl hl
 refine ⟨(by show 2<=sizeLine; decide),fun m0 k0=>⟨(by show 2<=sizeLine; decide),fun m1 k1=>⟨(by show 2<=sizeLine; decide),fun m2 k2=>⟨(by show 3<=sizeLine; decide),fun m3 k3=>?_⟩⟩⟩⟩
 have f0:=same_new k0 (.tup [.int 1,.int 2])
 have f1:=same_new k1 (.tup [.int 0,.int 2])
 have f2:=same_new k2 (.tup [.int 0,.int 1])
 have f3:=same_new k3 (.lst [.ref m0,.ref m1,.ref m2])
 have w0:=f3 _ _ (f2 _ _ (f1 m0 _ upd_same))
 have w1:=f3 _ _ (f2 m1 _ upd_same)
 have w2:=f3 m2 _ upd_same
 have hl1:=f2 _ _ (f1 _ _ (f0 _ _ hl))
 have ne3:m3 ≠ l:=Ne.symm (ne_of_none hl1 k3)
 have ne0:m0 ≠ l:=Ne.symm (ne_of_none hl k0)
 have ne1:m1 ≠ l:=Ne.symm (ne_of_none (f0 _ _ hl) k1)
 have ne2:m2 ≠ l:=Ne.symm (ne_of_none (f1 _ _ (f0 _ _ hl)) k2)
 have gf:=g1.trans (f0.trans (f1.trans (f2.trans f3)))
 refine ⟨m3,rfl,⟨_,SqL.of upd_same⟩,for_list (xs:=[.ref m0,.ref m1,.ref m2]) (fun i σ H'=>∃ (kk jj bb:Option V),σ=[some (.ref p),some (.int c),some (.ref l),some (.ref r0),some (.ref r1),some (.ref r2),kk,jj,bb]/\Same H H'/\H' m0=some (.tup [.int 1,.int 2])/\H' m1=some (.tup [.int 0,.int 2])/\H' m2=some (.tup [.int 0,.int 1])/\H' m3=some (.lst [.ref m0,.ref m1,.ref m2]) /\
  H' l=some (.lst (([t'.r0.x*t'.r2.x - t'.r1.x*t'.r1.x,t'.r0.y*t'.r2.y - t'.r1.y*t'.r1.y,t'.r0.z*t'.r2.z - t'.r1.z*t'.r1.z] ++ [t'.r0.y*t'.r2.z+t'.r0.z*t'.r2.y - 2*t'.r1.y*t'.r1.z,t'.r0.x*t'.r2.z+t'.r0.z*t'.r2.x - 2*t'.r1.x*t'.r1.z,t'.r0.x*t'.r2.y+t'.r0.y*t'.r2.x - 2*t'.r1.x*t'.r1.y].take i).map V.int))) ⟨none,none,none,rfl,gf,w0,w1,w2,upd_same,f3 _ _ hl1⟩ ?_ ?_ ?_⟩
 ·rintro i σ H' hi ⟨_,_,_,_,_,_,_,_,h3,_⟩
  exact SqL.of h3
 ·rintro i x σ H' hx ⟨kk,jj,bb,rfl,g,e0,e1,e2,e3,el⟩
  have q0:=g _ _ h0
  have q1:=g _ _ h1
  have q2:=g _ _ h2
  have keep:∀ (o:HO),Same H (upd H' l o)/\(upd H' l o) m0=some (.tup [.int 1,.int 2])/\(upd H' l o) m1=some (.tup [.int 0,.int 2])/\(upd H' l o) m2=some (.tup [.int 0,.int 1])/\(upd H' l o) m3=some (.lst [.ref m0,.ref m1,.ref m2]):=fun o=>
   ⟨same_upd g nl,by rw [upd_ne ne0]; exact e0,by rw [upd_ne ne1]; exact e1,by rw [upd_ne ne2]; exact e2,by rw [upd_ne ne3]; exact e3⟩
  match i,hx with
  | 0,hx=>
   cases hx
   refine ⟨m0,_,rfl,SqT.of e0,rfl,_,_,rfl,_,_,rfl,rfl,?_⟩
   refine ⟨_,rfl,_,rfl,r0,_,_,_,rfl,rfl,SqT.of q0,rfl,_,rfl,_,rfl,r2,_,_,_,rfl,rfl,SqT.of q2,rfl,_,_,rfl,rfl,okM bt.r0.y bt.r2.z,_,rfl,_,rfl,r0,_,_,_,rfl,rfl,SqT.of q0,rfl,_,rfl,_,rfl,r2,_,_,_,rfl,rfl,SqT.of q2,rfl,_,_,rfl,rfl,okM bt.r0.z bt.r2.y,_,_,rfl,rfl,?_⟩
   refine ⟨_,rfl,.inl ⟨rfl,_,SqL.of el⟩,_,rfl,_,rfl,_,rfl,r1,_,_,_,rfl,rfl,SqT.of q1,rfl,_,_,rfl,rfl,ok2,_,rfl,_,rfl,r1,_,_,_,rfl,rfl,SqT.of q1,rfl,_,_,rfl,rfl,okM (bd_two bt.r1.y) bt.r1.z,_,_,rfl,rfl,l,_,_,rfl,rfl,el,(by show 3 < sizeLine; decide),?_⟩
   obtain ⟨a1,a2,a3,a4,a5⟩:=keep (.lst [.int (t'.r0.x*t'.r2.x - t'.r1.x*t'.r1.x),.int (t'.r0.y*t'.r2.y - t'.r1.y*t'.r1.y),.int (t'.r0.z*t'.r2.z - t'.r1.z*t'.r1.z),.int (t'.r0.y*t'.r2.z+t'.r0.z*t'.r2.y - 2*t'.r1.y*t'.r1.z)])
   exact ⟨_,_,_,rfl,a1,a2,a3,a4,a5,upd_same⟩
  | 1,hx=>
   cases hx
   refine ⟨m1,_,rfl,SqT.of e1,rfl,_,_,rfl,_,_,rfl,rfl,?_⟩
   refine ⟨_,rfl,_,rfl,r0,_,_,_,rfl,rfl,SqT.of q0,rfl,_,rfl,_,rfl,r2,_,_,_,rfl,rfl,SqT.of q2,rfl,_,_,rfl,rfl,okM bt.r0.x bt.r2.z,_,rfl,_,rfl,r0,_,_,_,rfl,rfl,SqT.of q0,rfl,_,rfl,_,rfl,r2,_,_,_,rfl,rfl,SqT.of q2,rfl,_,_,rfl,rfl,okM bt.r0.z bt.r2.x,_,_,rfl,rfl,?_⟩
   refine ⟨_,rfl,.inl ⟨rfl,_,SqL.of el⟩,_,rfl,_,rfl,_,rfl,r1,_,_,_,rfl,rfl,SqT.of q1,rfl,_,_,rfl,rfl,ok2,_,rfl,_,rfl,r1,_,_,_,rfl,rfl,SqT.of q1,rfl,_,_,rfl,rfl,okM (bd_two bt.r1.x) bt.r1.z,_,_,rfl,rfl,l,_,_,rfl,rfl,el,(by show 4 < sizeLine; decide),?_⟩
   obtain ⟨a1,a2,a3,a4,a5⟩:=keep (.lst [.int (t'.r0.x*t'.r2.x - t'.r1.x*t'.r1.x),.int (t'.r0.y*t'.r2.y - t'.r1.y*t'.r1.y),.int (t'.r0.z*t'.r2.z - t'.r1.z*t'.r1.z),.int (t'.r0.y*t'.r2.z+t'.r0.z*t'.r2.y - 2*t'.r1.y*t'.r1.z),.int (t'.r0.x*t'.r2.z+t'.r0.z*t'.r2.x - 2*t'.r1.x*t'.r1.z)])
   exact ⟨_,_,_,rfl,a1,a2,a3,a4,a5,upd_same⟩
  | 2,hx=>
   cases hx
   refine ⟨m2,_,rfl,SqT.of e2,rfl,_,_,rfl,_,_,rfl,rfl,?_⟩
   refine ⟨_,rfl,_,rfl,r0,_,_,_,rfl,rfl,SqT.of q0,rfl,_,rfl,_,rfl,r2,_,_,_,rfl,rfl,SqT.of q2,rfl,_,_,rfl,rfl,okM bt.r0.x bt.r2.y,_,rfl,_,rfl,r0,_,_,_,rfl,rfl,SqT.of q0,rfl,_,rfl,_,rfl,r2,_,_,_,rfl,rfl,SqT.of q2,rfl,_,_,rfl,rfl,okM bt.r0.y bt.r2.x,_,_,rfl,rfl,?_⟩
   refine ⟨_,rfl,.inl ⟨rfl,_,SqL.of el⟩,_,rfl,_,rfl,_,rfl,r1,_,_,_,rfl,rfl,SqT.of q1,rfl,_,_,rfl,rfl,ok2,_,rfl,_,rfl,r1,_,_,_,rfl,rfl,SqT.of q1,rfl,_,_,rfl,rfl,okM (bd_two bt.r1.x) bt.r1.y,_,_,rfl,rfl,l,_,_,rfl,rfl,el,(by show 5 < sizeLine; decide),?_⟩
   obtain ⟨a1,a2,a3,a4,a5⟩:=keep (.lst [.int (t'.r0.x*t'.r2.x - t'.r1.x*t'.r1.x),.int (t'.r0.y*t'.r2.y - t'.r1.y*t'.r1.y),.int (t'.r0.z*t'.r2.z - t'.r1.z*t'.r1.z),.int (t'.r0.y*t'.r2.z+t'.r0.z*t'.r2.y - 2*t'.r1.y*t'.r1.z),.int (t'.r0.x*t'.r2.z+t'.r0.z*t'.r2.x - 2*t'.r1.x*t'.r1.z),.int (t'.r0.x*t'.r2.y+t'.r0.y*t'.r2.x - 2*t'.r1.x*t'.r1.y)])
   exact ⟨_,_,_,rfl,a1,a2,a3,a4,a5,upd_same⟩
  | n+3,hx=>cases hx
 ·rintro σ H' ⟨kk,jj,bb,rfl,g,_,_,_,_,el⟩
  refine ⟨_,rfl,l,rfl,⟨_,SqL.of el⟩,comp_listF (SqL.of el) (by show 6 < sizeLine; decide) (vtm c) (fun H2 g2=>SqL.of (g2 _ _ el)) ?_ ?_⟩
  ·intro i v H2 Q2 hv g2 k
   obtain ⟨n,hn,rfl⟩:=List.mem_map.mp (List.mem_of_getElem? hv)
   exact ⟨_,rfl,_,rfl,_,_,rfl,rfl,okc bc,k _ (Same.refl _)⟩
  ·intro l4 H4 g4 _ hl4
   exact ⟨l4,_,rfl,.inl ⟨SqL.of hl4,fun z nz=>q z _ (g.trans (g4.trans (same_new nz _))) upd_same⟩⟩
theorem ok_spot {f:Addr} {fd:FuncData} (F:Fun K "_law_spot" "_law_spot" s_spot f fd) (T:Txt K mg t) (H_beside:Has P w K mg base CX0 1 "_law_beside" ["_law_one","_law_other"] (spCr)) (H_lowest:HasS P w K mg base 2 "_law_lowest" ["_law_numbers"] (spLow)):FnOk P w K mg base CX0 3 f fd ["_law_rows_here","_law_s","_law_t"] (spSpot):=by
 obtain ⟨f_beside,d_beside,G_beside,b_beside,k_beside,m_beside⟩:=H_beside
 obtain ⟨f_lowest,d_lowest,G_lowest,b_lowest,k_lowest,m_lowest⟩:=H_lowest
 refine F.ok sc_spot (fun vs H Q E h=>?_) (fun cdv A outer s H vs Q E hr h=>?_)
 ·obtain ⟨_,_,_,_,rfl,_⟩:=h
  rfl
 obtain ⟨p,t',s1,u,rfl,hL,bt,mt,bs1,bu,q⟩:=h
 have hr_beside:=hr.mono (show 1<=2 by decide)
 have hr_lowest:=hr.q.mono (show 2<=2 by decide)
 obtain ⟨r0,r1,r2,hp,h0,h1,h2⟩:=hL
 refine ⟨_,pss_cut (ps_if (PW.pt (pw_and (pt_cmpR op_eq (pv 1) pe_int (nomark _)) (pw_and1 (pt_cmpR op_eq (pv 2) pe_int (nomark _))))) (pss_one (ps_set (i:=1) sc_spot.nd rfl (Or.inl rfl) pe_int)) pss_nil)
  (pss_cons (ps_asg (pv 0) (pg_lst rfl (pgs_cons (pg_name (i:=6) sc_spot.nd rfl (Or.inl rfl)) (pgs_cons (pg_name (i:=7) sc_spot.nd rfl (Or.inl rfl)) (pgs_cons (pg_name (i:=8) sc_spot.nd rfl (Or.inl rfl)) pgs_nil)))))
  (pss_cons (ps_set (i:=3) sc_spot.nd rfl (Or.inl rfl) (pe_lst (pa_cons (pe_call G_beside hr_beside rfl m_beside k_beside b_beside .nil pass0 (pa_cons (pv 7) (pa_cons (pv 8) pa_nil))) (pa_cons (pe_call G_beside hr_beside rfl m_beside k_beside b_beside .nil pass0 (pa_cons (pv 8) (pa_cons (pv 6) pa_nil))) (pa_cons (pe_call G_beside hr_beside rfl m_beside k_beside b_beside .nil pass0 (pa_cons (pv 6) (pa_cons (pv 7) pa_nil))) pa_nil)))))
  (pss_cons (ps_set (i:=4) sc_spot.nd rfl (Or.inl rfl) (pe_lst pa_nil))
  (pss_cons (ps_for PassesOwn.never rfl (pi_range1 rfl T.z_range (pa_cons pe_int pa_nil)) (pg_name (i:=5) sc_spot.nd rfl (Or.inl rfl)) (pss_cons (ps_set (i:=9) sc_spot.nd rfl (Or.inl rfl) (pe_op op_add (pe_op op_mulG (pe_op op_mulG (pv 1) (pv 1)) (pe_ix ix_tup (pe_ix ix_list (pv 3) pe_int (fun _ _=>rfl)) (pv 5) (fun _ _=>rfl))) (pe_op op_mulG (pe_op op_mulG (pv 1) (pv 2)) (pe_ix ix_tup (pe_ix ix_list (pv 3) pe_int (fun _ _=>rfl)) (pv 5) (fun _ _=>rfl)))))
  (pss_one (ps_expr (pe_bm PySem.F.plainAttrs_list PySem.F.slot_list_append PySem.F.type_list_append mt_append (pv 4) (pa_cons (pe_op op_add (pv 9) (pe_op op_mulG (pe_op op_mulG (pv 2) (pv 2)) (pe_ix ix_tup (pe_ix ix_list (pv 3) pe_int (fun _ _=>rfl)) (pv 5) (fun _ _=>rfl)))) pa_nil))))))
  (pss_one (ps_ret (pe_callS G_lowest hr_lowest rfl rfl m_lowest k_lowest b_lowest .nil (pa_cons (pv 4) pa_nil)))))))),?_⟩
 refine ⟨fun σ' H'=>∃ s:Int,σ'=[some (.ref p),some (.int s),some (.int u),none,none,none,none,none,none,none]/\H=H'/\Bd 21 s/\(s ≠ 0\/u ≠ 0),?_,?_⟩
 ·refine ⟨_,rfl,rfl,_,rfl,ite2 (fun c=>?_) (fun c=>?_)⟩
  ·refine ⟨_,rfl,rfl,_,rfl,ite2 (fun c=>?_) (fun c=>?_)⟩
   ·exact ⟨1,rfl,rfl,bd1,.inl (by decide)⟩
   ·exact ⟨s1,rfl,rfl,bs1,.inr fun z=>decF c (congrArg V.int z)⟩
  ·exact iteF ⟨s1,rfl,rfl,bs1,.inl fun z=>decF c (congrArg V.int z)⟩
 rintro _ _ ⟨s,rfl,rfl,bs,su⟩
 refine ⟨_,rfl,p,_,rfl,SqL.of hp,rfl,_,_,rfl,_,_,rfl,_,_,rfl,rfl,?_⟩
 refine ⟨_,rfl,_,rfl,r1,r2,_,_,rfl,h1,h2,bt.r1.mono',bt.r2.mono',fun z0 H1 g1 e0=>?_⟩
 refine ⟨_,rfl,_,rfl,r2,r0,_,_,rfl,g1 _ _ h2,g1 _ _ h0,bt.r2.mono',bt.r0.mono',fun z1 H2 g2 e1=>?_⟩
 refine ⟨_,rfl,_,rfl,r0,r1,_,_,rfl,g2 _ _ (g1 _ _ h0),g2 _ _ (g1 _ _ h1),bt.r0.mono',bt.r1.mono',fun z2 H3 g3 e2=>?_⟩
 refine ⟨(by show 3<=sizeLine; decide),fun sd nsd=>⟨(by show 0<=sizeLine; decide),fun l nl=>?_⟩⟩
 have f1:=same_new nsd (.lst [.ref z0,.ref z1,.ref z2])
 have f2:=same_new nl (.lst [])
 have g13:=g1.trans (g2.trans g3)
 have c12:=bd_cr bt.r1 bt.r2
 have c20:=bd_cr bt.r2 bt.r0
 have c01:=bd_cr bt.r0 bt.r1
 have nlH:H l=none:=g13.free (f1.free nl)
 have v0:=f2 _ _ (f1 _ _ (g3 _ _ (g2 _ _ e0)))
 have v1:=f2 _ _ (f1 _ _ (g3 _ _ e1))
 have v2:=f2 _ _ (f1 _ _ e2)
 have vs:=f2 sd (.lst [.ref z0,.ref z1,.ref z2]) upd_same
 have nes:sd ≠ l:=ne_of_none upd_same nl
 have ne0:z0 ≠ l:=ne_of_none (f1 _ _ (g3 _ _ (g2 _ _ e0))) nl
 have ne1:z1 ≠ l:=ne_of_none (f1 _ _ (g3 _ _ e1)) nl
 have ne2:z2 ≠ l:=ne_of_none (f1 _ _ e2) nl
 refine ⟨3,rfl,by decide,by decide,for_range (fun i σ H'=>∃ (jj tt:Option V),σ=[some (.ref p),some (.int s),some (.int u),some (.ref sd),some (.ref l),jj,some (.ref r0),some (.ref r1),some (.ref r2),tt]/\Same H H'/\H' sd=some (.lst [.ref z0,.ref z1,.ref z2])/\S3 H' z0 (cr t'.r1 t'.r2)/\S3 H' z1 (cr t'.r2 t'.r0)/\S3 H' z2 (cr t'.r0 t'.r1) /\
  H' l=some (.lst ((List.range i).map fun j=>V.int (sp1 s u (cmp (cr t'.r1 t'.r2) j) (cmp (cr t'.r2 t'.r0) j) (cmp (cr t'.r0 t'.r1) j))))) ⟨none,none,rfl,g13.trans (f1.trans f2),vs,v0,v1,v2,upd_same⟩ ?_ ?_⟩
 ·rintro i σ H' hi ⟨jj,tt,rfl,g,hs,w0,w1,w2,hl⟩
  have bss:=bs.mul bs
  have bsu:=bs.mul bu
  have buu:=bu.mul bu
  refine ⟨_,rfl,_,rfl,_,_,rfl,rfl,okM bs bs,_,rfl,sd,_,_,_,rfl,rfl,SqL.of hs,rfl,_,rfl,z0,_,_,_,rfl,rfl,SqT.of w0,at3 hi,_,_,rfl,rfl,okM bss (bd_cmp c12 i),_,rfl,_,rfl,_,_,rfl,rfl,okM bs bu,_,rfl,sd,_,_,_,rfl,rfl,SqL.of hs,rfl,_,rfl,z1,_,_,_,rfl,rfl,SqT.of w1,at3 hi,_,_,rfl,rfl,okM bsu (bd_cmp c20 i),_,_,rfl,rfl,?_⟩
  refine ⟨_,rfl,.inl ⟨rfl,_,SqL.of hl⟩,_,rfl,_,rfl,_,rfl,_,_,rfl,rfl,okM bu bu,_,rfl,sd,_,_,_,rfl,rfl,SqL.of hs,rfl,_,rfl,z2,_,_,_,rfl,rfl,SqT.of w2,at3 hi,_,_,rfl,rfl,okM buu (bd_cmp c01 i),_,_,rfl,rfl,l,_,_,rfl,rfl,hl,?_,?_⟩
  ·rw [List.length_map,List.length_range]
   exact Nat.lt_of_lt_of_le hi (by decide)
  refine ⟨_,_,rfl,same_upd g nlH,by rw [upd_ne nes]; exact hs,?_,?_,?_,?_⟩
  ·show (upd H' l _) z0=_
   rw [upd_ne ne0]
   exact w0
  ·show (upd H' l _) z1=_
   rw [upd_ne ne1]
   exact w1
  ·show (upd H' l _) z2=_
   rw [upd_ne ne2]
   exact w2
  ·rw [List.range_succ,List.map_append]
   exact upd_same
 ·rintro σ H' ⟨jj,tt,rfl,g,hs,w0,w1,w2,hl⟩
  have hl':H' l=some (Ho true ([(sp t' s u).x,(sp t' s u).y,(sp t' s u).z].map V.int)):=hl
  have n3:=sp_nz mt su
  have bS:=bp_sp bt bs bu
  have wS:=fun c=>wo_sp t' c s u
  generalize sp t' s u=S at hl' n3 bS wS
  refine ⟨_,rfl,l,true,_,rfl,hl',by show 3<=9; decide,bp_mem (bS.mono' (k:=900)),n3_fst n3,fun r H4 e g4 h4 e0 hd hg hs=>?_⟩
  obtain ⟨lR,eP⟩:=low3 n3 e0 hd hg hs
  refine q r H4 ⟨S.x.fdiv e,S.y.fdiv e,S.z.fdiv e⟩ (g.trans g4) h4 lR (bp_div e0 ?_) fun c=>wo_of_tm e0 ?_
  ·rw [<- eP]
   exact bS
  ·rw [<- eP]
   exact wS c
theorem ok_is_spot {f:Addr} {fd:FuncData} (F:Fun K "_law_is_spot" "_law_is_spot" s_is_spot f fd) (T:Txt K mg t) (H_lowest:HasS P w K mg base 2 "_law_lowest" ["_law_numbers"] (spLow)):FnOkS P w K mg base 3 f fd ["_law_found"] (spIsSpot):=by
 obtain ⟨f_lowest,d_lowest,G_lowest,b_lowest,k_lowest,m_lowest⟩:=H_lowest
 refine F.okS sc_is_spot (fun vs H Q E h=>?_) (fun cdv A outer s H fz vs Q E hr h=>?_)
 ·obtain ⟨_,_,rfl,_⟩:=h
  rfl
 obtain ⟨p,P',rfl,hp,low,bp,q⟩:=h
 have hr_lowest:=hr.mono (show 2<=2 by decide)
 have hu64:=hu64q_of hr
 have n3:=low.n3
 refine ⟨_,pss_cons (ps_if (PW.pt (pw_or (pt_not (pt_val (pe_callB call_isi rfl T.z_isinstance b_isi (pa_cons (pv 0) (pa_cons (pe_bltn (v:=.ty "tuple") rfl T.z_tuple b_tuple rfl) pa_nil))) (fun _=>rfl))) (pw_or (pt_cmpR op_ne (pe_callB call_len_seq rfl T.z_len PySem.boot_len (pa_cons (pv 0) pa_nil)) pe_int (nomark _)) (pw_or1 (pt_cmpR (op_eqD hu64) (pv 0) (pe_tup (pa_cons pe_int (pa_cons pe_int (pa_cons pe_int pa_nil)))) (nomark _)))))) (pss_one (ps_ret pe_bl)) pss_nil)
  (pss_cons (ps_if (pt_not (pt_val (pe_callB (call_all rfl) rfl T.z_all b_all (pa_cons (pe_compC rfl (CompScope.gen (cl:=[]) [] [] [(".0",.local),("_law_one",.local),("isinstance",.globalImplicit),("int",.globalImplicit),("bool",.globalImplicit)] rfl (by decide +kernel) (by decide +kernel) rfl rfl (by intro p hp; cases hp) rfl (by intro p hp h; simp only [List.mem_cons,List.not_mem_nil,or_false] at hp; rcases hp with rfl | rfl | rfl | rfl | rfl <;> first | rfl | (rcases h with h | h <;> cases h)) (by decide) (by decide +kernel) rfl (by intro p hp; cases hp)) (pi_tup (pv 0)) (fun C s0 H0 fp pins=>pe_and (pe_callB (callK_isi rfl) rfl T.z_isinstance b_isi (pa_cons (pv 0) (pa_cons (pe_bltn (v:=.ty "int") rfl T.z_int b_int rfl) pa_nil))) (pe_one (pe_not (pe_callB (callK_isi rfl) rfl T.z_isinstance b_isi (pa_cons (pv 0) (pa_cons (pe_bltn (v:=.ty "bool") rfl T.z_bool b_bool rfl) pa_nil))))))) pa_nil)) (fun _=>rfl))) (pss_one (ps_ret pe_bl)) pss_nil)
  (pss_one (ps_ret (pe_cmpR (op_eqD hu64) (pe_callS G_lowest hr_lowest rfl rfl m_lowest k_lowest b_lowest .nil (pa_cons (pv 0) pa_nil)) (pv 0) (nomark _))))),?_⟩
 have hp':H p=some (.tup [.int P'.x,.int P'.y,.int P'.z]):=hp
 refine ⟨_,rfl,_,_,_,_,rfl,.inr ⟨_,rfl⟩,.of (.tup hp'),rfl,_,rfl,iteF ?_⟩
 refine ⟨_,rfl,p,_,rfl,.inr (SqT.of hp'),rfl,_,rfl,iteNS rfl ?_⟩
 refine ⟨_,rfl,(by show 3<=sizeLine; decide),fun z nz=>?_⟩
 have gz:=same_new nz (t3 ⟨0,0,0⟩)
 have hpz:S3 (upd H z (t3 ⟨0,0,0⟩)) p P':=gz _ _ hp
 have hzz:S3 (upd H z (t3 ⟨0,0,0⟩)) z ⟨0,0,0⟩:=upd_same
 refine ⟨_,_,DA3 hpz,DA3 hzz,rfl,rfl,_,rfl,iteFE ?_ ?_⟩
 ·rw [eqv3]
  refine decide_eq_false fun e=>?_
  rw [e] at n3
  unfold N3 at n3
  simp at n3
 refine ⟨_,rfl,p,rfl,⟨_,SqT.of hpz⟩,comp_tupF (xs:=v3 P') (SqT.of hpz) (by show 3 < sizeLine; decide) (fun _=>.bl true) (fun H' g=>SqT.of (g _ _ hpz)) ?_ ?_⟩
 ·intro i v H' Q' hv g k
  obtain ⟨n,rfl,_⟩:=get3 hv
  exact ⟨_,rfl,_,_,_,_,rfl,.inr ⟨_,rfl⟩,.of (.int _),rfl,_,rfl,iteT ⟨_,rfl,_,_,_,_,rfl,.inr ⟨_,rfl⟩,.of (.int _),T.i_ib,_,rfl,k _ (Same.refl _)⟩⟩
 intro l H2 g2 _ hl
 refine ⟨l,[true,true,true],rfl,hl,_,rfl,iteF ?_⟩
 have hp2:S3 H2 p P':=g2 _ _ hpz
 refine ⟨_,rfl,p,false,[P'.x,P'.y,P'.z],rfl,hp2,by show 3<=9; decide,bp_mem bp,n3_fst n3,fun r H3 e g3 h3' e0 hd hg hs=>?_⟩
 obtain ⟨lR,eP⟩:=low3 n3 e0 hd hg hs
 have h3:S3 H3 r ⟨P'.x.fdiv e,P'.y.fdiv e,P'.z.fdiv e⟩:=h3'
 have eR:=low_tm (d:=e) (e:=1) lR low e0 (eP.symm.trans (tm_one P'))
 rw [eR] at h3
 refine ⟨_,rfl,_,_,DA3 h3,DA3 (g3 _ _ hp2),rfl,rfl,?_⟩
 have fin:Q (.bl (PyData.eqv (d3 P') (d3 P'))) H3:=by
  rw [eqv3,decide_eq_true rfl]
  exact q _ (gz.trans (g2.trans g3))
 exact fin
theorem ok_times {f:Addr} {fd:FuncData} (F:Fun K "_law_times" "_law_times" s_times f fd) (T:Txt K mg t) :FnOk P w K mg base CX0 1 f fd ["_law_cell"] (spTimes):=by
 refine F.ok sc_times (fun vs H Q E h=>?_) (fun cdv A outer s H vs Q E hr h=>?_)
 ·obtain ⟨_,rfl,_⟩:=h
  rfl
 obtain ⟨c,rfl,q⟩:=h
 refine ⟨_,pss_one (ps_ret (pe_ix ix_list (pe_lst (pa_cons pe_int (pa_cons pe_int (pa_cons pe_int (pa_cons (pe_op op_sub pe_int pe_int) (pa_cons pe_int (pa_cons (pe_op op_sub pe_int pe_int) (pa_cons pe_int (pa_cons (pe_op op_add (pe_op op_pow pe_int pe_int) pe_int) pa_nil))))))))) (pe_op op_mod (pv 0) pe_int) (fun _ _=>rfl))),?_⟩
 refine ⟨_,_,rfl,rfl,_,_,rfl,rfl,_,_,rfl,rfl,⟨by decide,by decide,by decide⟩,_,_,rfl,rfl,(by show 8<=sizeLine; decide),fun p hp=>?_⟩
 exact ⟨_,rfl,_,_,rfl,rfl,(by show (0:Int) < 8; decide),p,_,_,_,rfl,rfl,SqL.of upd_same,(tv_at c).1,q _ (same_new hp _)⟩
theorem ok_pair {f:Addr} {fd:FuncData} (F:Fun K "_law_pair" "_law_pair" s_pair f fd) (T:Txt K mg t) :FnOk P w K mg base CX0 1 f fd ["_law_one","_law_other","_law_way"] (spPair):=by
 refine F.ok sc_pair (fun vs H Q E h=>?_) (fun cdv A outer s H vs Q E hr h=>?_)
 ·obtain ⟨_,_,_,rfl,_⟩:=h
  rfl
 obtain ⟨x,y,w,rfl,q⟩:=h
 refine ⟨_,pss_cons (ps_set (i:=3) sc_pair.nd rfl (Or.inl rfl) (pe_ix ix_list (pe_lst (pa_cons pe_int (pa_cons pe_int (pa_cons pe_int (pa_cons (pe_op op_pow pe_int pe_int) pa_nil))))) (pe_op op_mod (pv 2) pe_int) (fun _ _=>rfl)))
  (pss_cons (ps_set (i:=4) sc_pair.nd rfl (Or.inl rfl) (pe_op op_sub (pe_op op_mod (pe_op op_mulG (pv 0) (pe_op op_pow pe_int pe_int)) (pe_op op_add (pe_op op_mulG pe_int (pv 3)) pe_int)) (pv 3)))
  (pss_cons (ps_set (i:=5) sc_pair.nd rfl (Or.inl rfl) (pe_op op_sub (pe_op op_mod (pe_op op_mulG (pv 1) (pe_op op_pow pe_int pe_int)) (pe_op op_add (pe_op op_mulG pe_int (pv 3)) pe_int)) (pv 3)))
  (pss_one (ps_ret (pe_tup (pa_cons (pv 4) (pa_cons (pv 5) pa_nil))))))),?_⟩
 refine ⟨_,_,rfl,rfl,⟨by decide,by decide,by decide⟩,(by show 4<=sizeLine; decide),fun p hp=>?_⟩
 obtain ⟨m,em,hm⟩:=at4 3 3 40 (10^Int.toNat 6) (w % 4) (by omega) (by omega)
 have m1:0<=m/\m<=1000000:=by
  have e6:(10:Int)^Int.toNat 6=1000000:=by decide
  omega
 refine ⟨_,rfl,_,_,rfl,rfl,(by show (0:Int) < 4; decide),p,_,_,_,rfl,rfl,SqL.of upd_same,em,?_⟩
 refine ⟨_,rfl,_,_,rfl,rfl,⟨by decide,by decide,by decide⟩,_,_,rfl,rfl,IntMulOk.of_right (intBits_le_64 (by decide) (by decide)),_,rfl,_,_,rfl,rfl,ok2,_,_,rfl,rfl,_,_,rfl,rfl,(by show (0:Int) < 2*m+1; omega),_,rfl,_,_,rfl,rfl,?_⟩
 refine ⟨_,rfl,_,_,rfl,rfl,⟨by decide,by decide,by decide⟩,_,_,rfl,rfl,IntMulOk.of_right (intBits_le_64 (by decide) (by decide)),_,rfl,_,_,rfl,rfl,ok2,_,_,rfl,rfl,_,_,rfl,rfl,(by show (0:Int) < 2*m+1; omega),_,rfl,_,_,rfl,rfl,?_⟩
 have k:∀ n:Int,Bd 20 (n % (2*m+1) - m):=fun n=>bd20 (by have:=mod_in (n:=n) m1.1; omega)
 exact ⟨_,rfl,_,rfl,(by show 2<=sizeLine; decide),fun r nr=>q r _ _ _ ((same_new hp _).trans (same_new nr _)) upd_same (k _) (k _)⟩
theorem ok_row_product {f:Addr} {fd:FuncData} (F:Fun K "row_product" "row_product" s_row_product f fd) (T:Txt K mg t) :FnOk P w K mg base CX0 1 f fd ["row","P"] (spRpK K):=by
 refine F.ok sc_row_product (fun vs H Q E h=>?_) (fun cdv A outer s H vs Q E hr h=>?_)
 ·obtain ⟨_,_,_,_,rfl,_⟩:=h
  rfl
 obtain ⟨p,q',r,s',rfl,hp,hq,br,bs,q⟩:=h
 unfold S3 at hp
 refine ⟨_,pss_one (ps_ret (pe_op op_add (pe_op op_add (pe_op op_mulG (pe_ix ix_tup (pv 0) pe_int (fun _ _=>rfl)) (pe_ix ix_tup (pv 1) pe_int (fun _ _=>rfl))) (pe_op op_mulG (pe_ix ix_tup (pv 0) pe_int (fun _ _=>rfl)) (pe_ix ix_tup (pv 1) pe_int (fun _ _=>rfl)))) (pe_op op_mulG (pe_ix ix_tup (pv 0) pe_int (fun _ _=>rfl)) (pe_ix ix_tup (pv 1) pe_int (fun _ _=>rfl))))),?_⟩
 exact ⟨_,rfl,p,_,_,_,rfl,rfl,SqT.of hp,rfl,_,rfl,q',_,_,_,rfl,rfl,hq,rfl,_,_,rfl,rfl,okM br.x bs.x,_,rfl,p,_,_,_,rfl,rfl,SqT.of hp,rfl,_,rfl,q',_,_,_,rfl,rfl,hq,rfl,_,_,rfl,rfl,okM br.y bs.y,_,_,rfl,rfl,_,rfl,p,_,_,_,rfl,rfl,SqT.of hp,rfl,_,rfl,q',_,_,_,rfl,rfl,hq,rfl,_,_,rfl,rfl,okM br.z bs.z,_,_,rfl,rfl,q⟩
theorem ok_turned_by {f:Addr} {fd:FuncData} (F:Fun K "turned_by" "turned_by" s_turned_by f fd) (T:Txt K mg t) (H_row_product:Has P w K mg base CX0 1 "row_product" ["row","P"] (spRpK K)):FnOk P w K mg base CX0 2 f fd ["table","P"] (spTbK K):=by
 obtain ⟨f_row_product,d_row_product,G_row_product,b_row_product,k_row_product,m_row_product⟩:=H_row_product
 refine F.ok sc_turned_by (fun vs H Q E h=>?_) (fun cdv A outer s H vs Q E hr h=>?_)
 ·obtain ⟨_,_,_,_,rfl,_⟩:=h
  rfl
 obtain ⟨p,q',t',P',rfl,ht,hq,bt,bp,q⟩:=h
 have hr_row_product:=hr.mono (show 1<=1 by decide)
 obtain ⟨r0,r1,r2,hp,h0,h1,h2⟩:=ht
 refine ⟨_,pss_one (ps_ret (pe_tup (pa_cons (pe_call G_row_product hr_row_product rfl m_row_product k_row_product b_row_product .nil pass0 (pa_cons (pe_ix ix_tup (pv 0) pe_int (fun _ _=>rfl)) (pa_cons (pv 1) pa_nil))) (pa_cons (pe_call G_row_product hr_row_product rfl m_row_product k_row_product b_row_product .nil pass0 (pa_cons (pe_ix ix_tup (pv 0) pe_int (fun _ _=>rfl)) (pa_cons (pv 1) pa_nil))) (pa_cons (pe_call G_row_product hr_row_product rfl m_row_product k_row_product b_row_product .nil pass0 (pa_cons (pe_ix ix_tup (pv 0) pe_int (fun _ _=>rfl)) (pa_cons (pv 1) pa_nil))) pa_nil))))),?_⟩
 exact ⟨_,rfl,p,_,_,_,rfl,rfl,SqT.of hp,rfl,_,rfl,r0,q',_,_,rfl,h0,hq,bt.r0,bp,_,rfl,p,_,_,_,rfl,rfl,SqT.of hp,rfl,_,rfl,r1,q',_,_,rfl,h1,hq,bt.r1,bp,_,rfl,p,_,_,_,rfl,rfl,SqT.of hp,rfl,_,rfl,r2,q',_,_,rfl,h2,hq,bt.r2,bp,(by show 3<=sizeLine; decide),fun z nz=>q z _ (same_new nz _) nz upd_same⟩
theorem ok_worth_of {f:Addr} {fd:FuncData} (F:Fun K "worth_of" "worth_of" s_worth_of f fd) (T:Txt K mg t) :FnOk P w K mg base CX0 1 f fd ["Q","P"] (spWoK K):=by
 refine F.ok sc_worth_of (fun vs H Q E h=>?_) (fun cdv A outer s H vs Q E hr h=>?_)
 ·obtain ⟨_,_,_,_,rfl,_⟩:=h
  rfl
 obtain ⟨p,q',F,P',rfl,hp,hq,bf,bp,q⟩:=h
 unfold S6 at hp
 refine ⟨_,pss_cons (ps_set (i:=2) sc_worth_of.nd rfl (Or.inl rfl) (pe_tup (pa_cons (pe_op op_mulG (pe_ix ix_tup (pv 1) pe_int (fun _ _=>rfl)) (pe_ix ix_tup (pv 1) pe_int (fun _ _=>rfl))) (pa_cons (pe_op op_mulG (pe_ix ix_tup (pv 1) pe_int (fun _ _=>rfl)) (pe_ix ix_tup (pv 1) pe_int (fun _ _=>rfl))) (pa_cons (pe_op op_mulG (pe_ix ix_tup (pv 1) pe_int (fun _ _=>rfl)) (pe_ix ix_tup (pv 1) pe_int (fun _ _=>rfl))) (pa_cons (pe_op op_mulG (pe_ix ix_tup (pv 1) pe_int (fun _ _=>rfl)) (pe_ix ix_tup (pv 1) pe_int (fun _ _=>rfl))) (pa_cons (pe_op op_mulG (pe_ix ix_tup (pv 1) pe_int (fun _ _=>rfl)) (pe_ix ix_tup (pv 1) pe_int (fun _ _=>rfl))) (pa_cons (pe_op op_mulG (pe_ix ix_tup (pv 1) pe_int (fun _ _=>rfl)) (pe_ix ix_tup (pv 1) pe_int (fun _ _=>rfl))) pa_nil))))))))
  (pss_one (ps_ret (pe_callB (call_sum rfl) rfl T.z_sum b_sum (pa_cons (pe_compPair rfl (CompScope2.gen (cl:=[]) [] [] [(".0",.local),("coefficient",.local),("product",.local)] rfl (by decide +kernel) (by decide +kernel) rfl rfl rfl (by intro p hp; cases hp) rfl (by intro p hp h; simp only [List.mem_cons,List.not_mem_nil,or_false] at hp; rcases hp with rfl | rfl | rfl <;> first | rfl | (rcases h with h | h <;> cases h)) (by decide) (by decide +kernel) rfl (by intro p hp; cases hp)) (pi_zip rfl T.z_zip (pa_cons (pv 0) (pa_cons (pv 2) pa_nil))) (fun C s0 H0 fp pins=>pe_op op_mulG (pv 0) (pv 1))) pa_nil)))),?_⟩
 refine ⟨_,rfl,q',_,_,_,rfl,rfl,hq,rfl,_,rfl,q',_,_,_,rfl,rfl,hq,rfl,_,_,rfl,rfl,okM bp.x bp.x,_,rfl,q',_,_,_,rfl,rfl,hq,rfl,_,rfl,q',_,_,_,rfl,rfl,hq,rfl,_,_,rfl,rfl,okM bp.y bp.y,_,rfl,q',_,_,_,rfl,rfl,hq,rfl,_,rfl,q',_,_,_,rfl,rfl,hq,rfl,_,_,rfl,rfl,okM bp.z bp.z,_,rfl,q',_,_,_,rfl,rfl,hq,rfl,_,rfl,q',_,_,_,rfl,rfl,hq,rfl,_,_,rfl,rfl,okM bp.y bp.z,_,rfl,q',_,_,_,rfl,rfl,hq,rfl,_,rfl,q',_,_,_,rfl,rfl,hq,rfl,_,_,rfl,rfl,okM bp.x bp.z,_,rfl,q',_,_,_,rfl,rfl,hq,rfl,_,rfl,q',_,_,_,rfl,rfl,hq,rfl,_,_,rfl,rfl,okM bp.x bp.y,(by show 6<=sizeLine; decide),fun p1 n1=>?_⟩
 have g1:=same_new n1 (.tup [.int (P'.x*P'.x),.int (P'.y*P'.y),.int (P'.z*P'.z),.int (P'.y*P'.z),.int (P'.x*P'.z),.int (P'.x*P'.y)])
 have hp1:=g1 _ _ hp
 refine ⟨_,rfl,_,rfl,p,p1,_,_,rfl,SqT.of hp1,SqT.of upd_same,compP_zipF (fun H' g=>SqT.of (g _ _ hp1)) (fun H' g=>SqT.of (g _ _ upd_same)) rfl (by show 6 < sizeLine; decide) vmul ?_ ?_⟩
 ·intro i x y H' Q' ex ey g k
  obtain ⟨a,b,rfl,rfl,ha,hb⟩:∃ a b:Int,x=.int a/\y=.int b/\Bd 600 a/\Bd (600+600) b:=by
   match i,ex,ey with
   | 0,ex,ey=>exact ⟨_,_,(Option.some.inj ex).symm,(Option.some.inj ey).symm,bf.a,bp.x.mul bp.x⟩
   | 1,ex,ey=>exact ⟨_,_,(Option.some.inj ex).symm,(Option.some.inj ey).symm,bf.b,bp.y.mul bp.y⟩
   | 2,ex,ey=>exact ⟨_,_,(Option.some.inj ex).symm,(Option.some.inj ey).symm,bf.c,bp.z.mul bp.z⟩
   | 3,ex,ey=>exact ⟨_,_,(Option.some.inj ex).symm,(Option.some.inj ey).symm,bf.d,bp.y.mul bp.z⟩
   | 4,ex,ey=>exact ⟨_,_,(Option.some.inj ex).symm,(Option.some.inj ey).symm,bf.e,bp.x.mul bp.z⟩
   | 5,ex,ey=>exact ⟨_,_,(Option.some.inj ex).symm,(Option.some.inj ey).symm,bf.f,bp.x.mul bp.y⟩
   | n+6,ex,ey=>cases ex
  exact ⟨_,rfl,_,rfl,_,_,rfl,rfl,okM ha hb,k _ (Same.refl _)⟩
 ·intro l H' g h0 hl
  refine ⟨l,[F.a*(P'.x*P'.x),F.b*(P'.y*P'.y),F.c*(P'.z*P'.z),F.d*(P'.y*P'.z),F.e*(P'.x*P'.z),F.f*(P'.x*P'.y)],rfl,hl,?_⟩
  rw [sum6]
  exact q _ (g1.trans g)
theorem ok_added {f:Addr} {fd:FuncData} (F:Fun K "added" "added" s_added f fd) (T:Txt K mg t) :FnOk P w K mg base CX0 1 f fd ["one","other"] (spAddK K):=by
 refine F.ok sc_added (fun vs H Q E h=>?_) (fun cdv A outer s H vs Q E hr h=>?_)
 ·obtain ⟨_,_,_,_,rfl,_⟩:=h
  rfl
 obtain ⟨p,q',P',R',rfl,hp,hq,q⟩:=h
 refine ⟨_,pss_one (ps_ret (pe_tup (pa_cons (pe_op op_add (pe_ix ix_tup (pv 0) pe_int (fun _ _=>rfl)) (pe_ix ix_tup (pv 1) pe_int (fun _ _=>rfl))) (pa_cons (pe_op op_add (pe_ix ix_tup (pv 0) pe_int (fun _ _=>rfl)) (pe_ix ix_tup (pv 1) pe_int (fun _ _=>rfl))) (pa_cons (pe_op op_add (pe_ix ix_tup (pv 0) pe_int (fun _ _=>rfl)) (pe_ix ix_tup (pv 1) pe_int (fun _ _=>rfl))) pa_nil))))),?_⟩
 exact ⟨_,rfl,p,_,_,_,rfl,rfl,hp,rfl,_,rfl,q',_,_,_,rfl,rfl,hq,rfl,_,_,rfl,rfl,_,rfl,p,_,_,_,rfl,rfl,hp,rfl,_,rfl,q',_,_,_,rfl,rfl,hq,rfl,_,_,rfl,rfl,_,rfl,p,_,_,_,rfl,rfl,hp,rfl,_,rfl,q',_,_,_,rfl,rfl,hq,rfl,_,_,rfl,rfl,(by show 3<=sizeLine; decide),fun z nz=>q z _ (same_new nz _) upd_same⟩
theorem ok_lowest_point {f:Addr} {fd:FuncData} (F:Fun K "lowest_point" "lowest_point" s_lowest_point f fd) (T:Txt K mg t) (H_shares_of:Has P w K mg base CX0 2 "shares_of" ["one","other"] (spShares)):FnOk P w K mg base CX0 3 f fd ["P"] (spLowS K):=by
 obtain ⟨f_shares_of,d_shares_of,G_shares_of,b_shares_of,k_shares_of,m_shares_of⟩:=H_shares_of
 refine F.ok sc_lowest_point (fun vs H Q E h=>?_) (fun cdv A outer s H vs Q E hr h=>?_)
 ·obtain ⟨_,_,_,_,_,rfl,_⟩:=h
  rfl
 obtain ⟨b,p,x,y,z,rfl,hp,hb,nzr,q⟩:=h
 have hr_shares_of:=hr.mono (show 2<=2 by decide)
 refine ⟨_,pss_cons (ps_set (i:=1) sc_lowest_point.nd rfl (Or.inl rfl) (pe_ix ix_tup (pe_call G_shares_of hr_shares_of rfl m_shares_of k_shares_of b_shares_of .nil pass0 (pa_cons (pe_ix ix_tup (pe_call G_shares_of hr_shares_of rfl m_shares_of k_shares_of b_shares_of .nil pass0 (pa_cons (pe_ix ix_seq (pv 0) pe_int (fun _ _=>rfl)) (pa_cons (pe_ix ix_seq (pv 0) pe_int (fun _ _=>rfl)) pa_nil))) pe_int (fun _ _=>rfl)) (pa_cons (pe_ix ix_seq (pv 0) pe_int (fun _ _=>rfl)) pa_nil))) pe_int (fun _ _=>rfl)))
  (pss_cut (ps_if (pt_cmpR op_lt (pe_ix ix_list (pe_compIfC rfl (CompScope.gen (cl:=[]) [] [] [(".0",.local),("number",.local)] rfl (by decide +kernel) (by decide +kernel) rfl rfl (by intro p hp; cases hp) rfl (by intro p hp h; simp only [List.mem_cons,List.not_mem_nil,or_false] at hp; rcases hp with rfl | rfl <;> first | rfl | (rcases h with h | h <;> cases h)) (by decide) (by decide +kernel) rfl (by intro p hp; cases hp)) (pi_seq (pv 0)) (fun C s0 H0 fp pins=>pt_cmpR op_ne (pv 0) pe_int (nomark _)) (fun C s0 H0 fp pins=>pv 0)) pe_int (fun _ _=>rfl)) pe_int (nomark _)) (pss_one (ps_set (i:=1) sc_lowest_point.nd rfl (Or.inl rfl) (pe_un un_neg (pv 1)))) pss_nil)
  (pss_one (ps_ret (pe_tup (pa_cons (pe_op op_fdivL (pe_ix ix_seq (pv 0) pe_int (fun _ _=>rfl)) (pv 1)) (pa_cons (pe_op op_fdivL (pe_ix ix_seq (pv 0) pe_int (fun _ _=>rfl)) (pv 1)) (pa_cons (pe_op op_fdivL (pe_ix ix_seq (pv 0) pe_int (fun _ _=>rfl)) (pv 1)) pa_nil))))))),?_⟩
 obtain ⟨bx,by',bz⟩:=in3_abs hb
 refine ⟨_,rfl,ixb hp rfl ⟨_,rfl,ixb hp rfl ⟨x,y,rfl,bx,by',fun p1 H1 g s' t' g1 h1 g0 eg ⟨k1,e1⟩ ⟨k2,e2⟩ _ _=>?_⟩⟩⟩
 have bg:=gcd_le bx by' eg e1 e2
 refine ⟨p1,_,_,_,rfl,rfl,SqT.of h1,rfl,_,rfl,ixb (hp.up g1) rfl ⟨g,z,rfl,bg,bz,fun p2 H2 d s2 t2 g2 h2 d0 ed ⟨k3,e3⟩ ⟨k4,e4⟩ _ _=>?_⟩⟩
 refine ⟨p2,_,_,_,rfl,rfl,SqT.of h2,rfl,?_⟩
 have bd:=gcd_le bg bz ed e3 e4
 have dn:d ≠ 0:=by
  intro zz
  subst zz
  rw [Int.mul_zero] at e3 e4
  subst e3
  rw [Int.mul_zero] at e1 e2
  unfold NZ at nzr
  omega
 have dx:d ∣ x:=⟨k1*k3,by rw [e1,e3]; grind⟩
 have dy:d ∣ y:=⟨k2*k3,by rw [e2,e3]; grind⟩
 have dz:d ∣ z:=⟨k4,by rw [Int.mul_comm]; exact e4⟩
 have bez:s2*s'*x+s2*t'*y+t2*z=d:=by rw [ed,eg]; grind
 have g12:=g1.trans g2
 have hp2:=hp.up g12
 refine ⟨fun σ' H'=>∃ e:Int,σ'=[some (.ref p),some (.int e)]/\Same H H'/\((e=d/\0 < fst3 x y z)\/(e=-d/\fst3 x y z < 0)),?_,?_⟩
 ·refine ⟨_,rfl,p,b,_,rfl,hp2,compIf_seqF (xs:=[.int x,.int y,.int z]) (by show 3 < sizeLine; decide) nz id (fun H' g=>hp2.up g) ?_ ?_ ?_⟩
  ·intro i v H' Q' hv g k
   obtain ⟨n,rfl,_⟩:=get3 hv
   exact ⟨_,rfl,rfl,_,rfl,k _ (Same.refl _)⟩
  ·intro i v H' Q' hv e g k
   exact ⟨_,rfl,k _ (Same.refl _)⟩
  ·intro l H' g h0 hl
   have fz:=fst_nz nzr
   refine ⟨l,_,_,_,rfl,rfl,SqL.of hl,fst_ok nzr,_,_,rfl,rfl,_,rfl,ite2 (fun c=>?_) (fun c=>?_)⟩
   ·have c':=decT c
    exact ⟨_,rfl,_,rfl,-d,rfl,g12.trans g,.inr ⟨rfl,c'⟩⟩
   ·have c':=decF c
    exact ⟨d,rfl,g12.trans g,.inl ⟨rfl,by omega⟩⟩
 ·rintro _ H3 ⟨e,rfl,g3,he⟩
  have hp3:=hp.up g3
  have en:e ≠ 0:=by omega
  have be:e.natAbs<=Lm:=by omega
  have ex:e ∣ x:=by
   rcases he with ⟨z,_⟩ | ⟨z,_⟩ <;> rw [z]
   ·exact dx
   ·exact Int.neg_dvd.mpr dx
  have ey:e ∣ y:=by
   rcases he with ⟨z,_⟩ | ⟨z,_⟩ <;> rw [z]
   ·exact dy
   ·exact Int.neg_dvd.mpr dy
  have ez:e ∣ z:=by
   rcases he with ⟨z,_⟩ | ⟨z,_⟩ <;> rw [z]
   ·exact dz
   ·exact Int.neg_dvd.mpr dz
  have eb:∃ u v w:Int,u*x+v*y+w*z=e:=by
   rcases he with ⟨zz,_⟩ | ⟨zz,_⟩
   ·exact ⟨_,_,_,bez.trans zz.symm⟩
   ·exact ⟨-(s2*s'),-(s2*t'),-t2,by rw [zz,<- bez]; grind⟩
  obtain ⟨o,qx,qy,qz⟩:=low_ok en ex ey ez eb
  refine ⟨_,rfl,ixb hp3 rfl ⟨_,rfl,_,_,rfl,rfl,⟨en,Lm_log (by omega)⟩,_,rfl,ixb hp3 rfl ⟨_,rfl,_,_,rfl,rfl,⟨en,Lm_log (by omega)⟩,
   _,rfl,ixb hp3 rfl ⟨_,rfl,_,_,rfl,rfl,⟨en,Lm_log (by omega)⟩,(by show 3<=sizeLine; decide),fun r nr=>?_⟩⟩⟩⟩
  refine q r _ _ _ _ e (g3.trans (same_new nr _)) upd_same o (pos_of en qx qy qz nzr ?_) en qx qy qz
  rcases he with ⟨zz,w⟩ | ⟨zz,w⟩
  ·exact .inl ⟨by omega,w⟩
  ·exact .inr ⟨by omega,w⟩
theorem ok_led_to {f:Addr} {fd:FuncData} (F:Fun K "led_to" "led_to" s_led_to f fd) (T:Txt K mg t) (H_last_of:Has P w K mg base CX0 1 "last_of" ["point"] (spLast)) (H_stretched:Has P w K mg base CX0 1 "stretched" ["P","times"] (spStr K)) (H_added:Has P w K mg base CX0 1 "added" ["one","other"] (spAddK K)) (H_slopes_of:Has P w K mg base CX0 1 "slopes_of" ["Q"] (spSl)) (H_turned_by:Has P w K mg base CX0 2 "turned_by" ["table","P"] (spTbK K)) (H_row_product:Has P w K mg base CX0 1 "row_product" ["row","P"] (spRpK K)) (H_worth_of:Has P w K mg base CX0 1 "worth_of" ["Q","P"] (spWoK K)):FnOk P w K mg base CX0 3 f fd ["Q","start","m","n"] (spLed):=by
 obtain ⟨f_last_of,d_last_of,G_last_of,b_last_of,k_last_of,m_last_of⟩:=H_last_of
 obtain ⟨f_stretched,d_stretched,G_stretched,b_stretched,k_stretched,m_stretched⟩:=H_stretched
 obtain ⟨f_added,d_added,G_added,b_added,k_added,m_added⟩:=H_added
 obtain ⟨f_slopes_of,d_slopes_of,G_slopes_of,b_slopes_of,k_slopes_of,m_slopes_of⟩:=H_slopes_of
 obtain ⟨f_turned_by,d_turned_by,G_turned_by,b_turned_by,k_turned_by,m_turned_by⟩:=H_turned_by
 obtain ⟨f_row_product,d_row_product,G_row_product,b_row_product,k_row_product,m_row_product⟩:=H_row_product
 obtain ⟨f_worth_of,d_worth_of,G_worth_of,b_worth_of,k_worth_of,m_worth_of⟩:=H_worth_of
 refine F.ok sc_led_to (fun vs H Q E h=>?_) (fun cdv A outer s H vs Q E hr h=>?_)
 ·obtain ⟨_,_,_,_,_,_,rfl,_⟩:=h
  rfl
 obtain ⟨q',s0,F,P',m,n,rfl,hq1,hs,low,bf,bP,bm,bn,q⟩:=h
 have hr_last_of:=hr.mono (show 1<=2 by decide)
 have hr_stretched:=hr.mono (show 1<=2 by decide)
 have hr_added:=hr.mono (show 1<=2 by decide)
 have hr_slopes_of:=hr.mono (show 1<=2 by decide)
 have hr_turned_by:=hr.mono (show 2<=2 by decide)
 have hr_row_product:=hr.mono (show 1<=2 by decide)
 have hr_worth_of:=hr.mono (show 1<=2 by decide)
 refine ⟨_,pss_cons (ps_set (i:=4) sc_led_to.nd rfl (Or.inl rfl) (pe_ix ix_tup (pe_glob (v:=.ref t.gWAYS) rfl T.m_WAYS rfl) (pe_call G_last_of hr_last_of rfl m_last_of k_last_of b_last_of .nil pass0 (pa_cons (pv 1) pa_nil)) (fun _ _=>rfl)))
  (pss_cons (ps_set (i:=5) sc_led_to.nd rfl (Or.inl rfl) (pe_call G_added hr_added rfl m_added k_added b_added .nil pass0 (pa_cons (pe_call G_stretched hr_stretched rfl m_stretched k_stretched b_stretched .nil pass0 (pa_cons (pe_ix ix_tup (pe_glob (v:=.ref t.gAXES) rfl T.m_AXES rfl) (pe_ix ix_tup (pv 4) pe_int (fun _ _=>rfl)) (fun _ _=>rfl)) (pa_cons (pv 2) pa_nil))) (pa_cons (pe_call G_stretched hr_stretched rfl m_stretched k_stretched b_stretched .nil pass0 (pa_cons (pe_ix ix_tup (pe_glob (v:=.ref t.gAXES) rfl T.m_AXES rfl) (pe_ix ix_tup (pv 4) pe_int (fun _ _=>rfl)) (fun _ _=>rfl)) (pa_cons (pv 3) pa_nil))) pa_nil))))
  (pss_cons (ps_set (i:=6) sc_led_to.nd rfl (Or.inl rfl) (pe_call G_row_product hr_row_product rfl m_row_product k_row_product b_row_product .nil pass0 (pa_cons (pe_call G_turned_by hr_turned_by rfl m_turned_by k_turned_by b_turned_by .nil pass0 (pa_cons (pe_call G_slopes_of hr_slopes_of rfl m_slopes_of k_slopes_of b_slopes_of .nil pass0 (pa_cons (pv 0) pa_nil)) (pa_cons (pv 1) pa_nil))) (pa_cons (pv 5) pa_nil))))
  (pss_one (ps_ret (pe_call G_added hr_added rfl m_added k_added b_added .nil pass0 (pa_cons (pe_call G_stretched hr_stretched rfl m_stretched k_stretched b_stretched .nil pass0 (pa_cons (pv 1) (pa_cons (pe_call G_worth_of hr_worth_of rfl m_worth_of k_worth_of b_worth_of .nil pass0 (pa_cons (pv 0) (pa_cons (pv 5) pa_nil))) pa_nil))) (pa_cons (pe_call G_stretched hr_stretched rfl m_stretched k_stretched b_stretched .nil pass0 (pa_cons (pv 5) (pa_cons (pe_un un_neg (pv 6)) pa_nil))) pa_nil))))))),?_⟩
 refine ⟨_,rfl,s0,P',rfl,hs,low.n3,fun H2 g2=>?_⟩
 have hq2:=g2 _ _ hq1
 have hs2:=g2 _ _ hs
 obtain ⟨wr,A0,A1,a0,a1,X0,X1,w1,w2,ax0,ax1,x0,x1,bx0,bx1,ed⟩:∃ (wr A0 A1:Addr) (a0 a1:Int) (X0 X1:P3),atI [V.ref t.gWAYS_0,.ref t.gWAYS_1,.ref t.gWAYS_2] (lst P')=some (.ref wr)/\TupK K wr [.int a0,.int a1] /\
   atI [V.ref t.gAXES_0,.ref t.gAXES_1,.ref t.gAXES_2] a0=some (.ref A0)/\atI [V.ref t.gAXES_0,.ref t.gAXES_1,.ref t.gAXES_2] a1=some (.ref A1)/\TupK K A0 (v3 X0)/\TupK K A1 (v3 X1)/\BP 900 X0/\BP 900 X1/\ad (st X0 m) (st X1 n)=dr P' m n:=by
  have e3:∀ {a b c a' b' c':Int},a=a'->b=b'->c=c'->(⟨a,b,c⟩:P3)=⟨a',b',c'⟩:=fun h1 h2 h3=>by rw [h1,h2,h3]
  unfold lst dr
  by_cases c1:P'.z ≠ 0
  ·rw [if_pos c1,if_pos c1]
   exact ⟨_,_,_,0,1,⟨1,0,0⟩,⟨0,1,0⟩,rfl,T.k_WAYS_2,rfl,rfl,T.k_AXES_0,T.k_AXES_1,⟨bd1,bd0,bd0⟩,⟨bd0,bd1,bd0⟩,e3 (by show 1*m+0*n=m; omega) (by show 0*m+1*n=n; omega) (by show 0*m+0*n=0; omega)⟩
  ·rw [if_neg c1,if_neg c1]
   by_cases c2:P'.y ≠ 0
   ·rw [if_pos c2,if_pos c2]
    exact ⟨_,_,_,0,2,⟨1,0,0⟩,⟨0,0,1⟩,rfl,T.k_WAYS_1,rfl,rfl,T.k_AXES_0,T.k_AXES_2,⟨bd1,bd0,bd0⟩,⟨bd0,bd0,bd1⟩,e3 (by show 1*m+0*n=m; omega) (by show 0*m+0*n=0; omega) (by show 0*m+1*n=n; omega)⟩
   ·rw [if_neg c2,if_neg c2]
    exact ⟨_,_,_,1,2,⟨0,1,0⟩,⟨0,0,1⟩,rfl,T.k_WAYS_0,rfl,rfl,T.k_AXES_1,T.k_AXES_2,⟨bd0,bd1,bd0⟩,⟨bd0,bd0,bd1⟩,e3 (by show 0*m+0*n=0; omega) (by show 1*m+0*n=m; omega) (by show 0*m+1*n=n; omega)⟩
 refine ⟨t.gWAYS,_,_,_,rfl,rfl,T.k_WAYS.sq _,w1,?_⟩
 refine ⟨_,rfl,wr,_,_,_,rfl,rfl,w2.sq _,rfl,t.gAXES,_,_,_,rfl,rfl,T.k_AXES.sq _,ax0,_,rfl,A0,X0,m,rfl,x0.sq _,bx0,bm.mono (by decide),fun z1 H3 g3 h3=>?_⟩
 refine ⟨_,rfl,wr,_,_,_,rfl,rfl,w2.sq _,rfl,t.gAXES,_,_,_,rfl,rfl,T.k_AXES.sq _,ax1,_,rfl,A1,X1,n,rfl,x1.sq _,bx1,bn.mono (by decide),fun z2 H4 g4 h4=>?_⟩
 refine ⟨z1,z2,_,_,rfl,SqT.of (g4 _ _ h3),SqT.of h4,fun dd H5 g5 h5=>?_⟩
 rw [ed] at h5
 have g25:=g3.trans (g4.trans g5)
 have hq5:=g25 _ _ hq2
 have hs5:=g25 _ _ hs2
 have bD:BP 262 (dr P' m n):=bp_dr bm bn
 generalize dr P' m n=D at h5 bD q
 refine ⟨_,rfl,q',F,rfl,hq5,fun sr H6 g6 h6=>⟨_,rfl,sr,s0,sl F,P',rfl,h6,SqT.of (g6 _ _ hs5),(bd_sl bf).mono,bP.mono',fun z3 H7 g7 _ h7=>⟨_,rfl,z3,dd,_,D,rfl,h7,SqT.of (g7 _ _ (g6 _ _ h5)),(bd_tb (bd_sl bf) bP).mono',bD.mono',?_⟩⟩⟩
 have g67:=g6.trans g7
 have hq7:=g67 _ _ hq5
 have hs7:=g67 _ _ hs5
 have h57:=g67 _ _ h5
 have bw:=(bd_wo bf bD).mono (show 100+(262+262)+5<=629 by decide)
 have bb:=(bd_bl bf (bP.mono' (k:=262)) bD).mono (show 100+(262+262)+5<=629 by decide)
 refine ⟨_,rfl,_,rfl,_,rfl,q',dd,F,D,rfl,hq7,SqT.of h57,bf.mono,bD.mono',fun H8 g8=>⟨s0,P',wo F D,rfl,SqT.of (g8 _ _ hs7),bP.mono',bw.mono (by decide),fun z4 H9 g9 h9=>?_⟩⟩
 refine ⟨_,rfl,_,rfl,_,rfl,dd,D,-(bl F P' D),rfl,SqT.of (g9 _ _ (g8 _ _ h57)),bD.mono',(bd_neg bb).mono (by decide),fun z5 H10 g10 h10=>?_⟩
 rw [st_eq] at h9 h10
 refine ⟨z4,z5,_,_,rfl,SqT.of (g10 _ _ h9),SqT.of h10,fun z6 H11 g11 h11=>?_⟩
 have h12:S3 H11 z6 (mk F P' D):=h11
 exact q z6 H11 (g2.trans (g25.trans (g67.trans (g8.trans (g9.trans (g10.trans g11)))))) h12
theorem ok_above_root {f:Addr} {fd:FuncData} (F:Fun K "above_root" "above_root" s_above_root f fd) (T:Txt K mg t) :FnOk P w K mg base CX0 1 f fd ["number"] (spAbove):=by
 refine F.ok sc_above_root (fun vs H Q E h=>?_) (fun cdv A outer s H vs Q E hr h=>?_)
 ·obtain ⟨n,rfl,_⟩:=h
  rfl
 obtain ⟨n,rfl,n0,n1,q⟩:=h
 refine ⟨_,pss_cons (ps_set (i:=1) sc_above_root.nd rfl (Or.inl rfl) pe_int)
  (pss_cons (ps_while PassesOwn.never (pt_cmpR op_le (pe_op op_mulG (pv 1) (pv 1)) (pv 0) (nomark _)) (pss_one (ps_set (i:=1) sc_above_root.nd rfl (Or.inl rfl) (pe_op op_mulG pe_int (pv 1)))))
  (pss_one (ps_ret (pv 1)))),?_⟩
 refine ⟨fun m σ H'=>∃ g:Int,σ=[some (.int n),some (.int g)]/\H'=H/\1<=g/\g<=2*n+1/\m=(n+1 - g).toNat,⟨_,1,rfl,rfl,by omega,by omega,rfl⟩,?_⟩
 rintro m σ H' ⟨g,rfl,rfl,g0,g1,rfl⟩
 have bg:=bits_lit (bits_top (g:=g) (by omega) (by omega)) (by decide)
 refine ⟨_,rfl,_,rfl,_,_,rfl,rfl,mulOk bg bg,_,rfl,_,_,rfl,rfl,_,rfl,?_⟩
 refine ite2 (fun c=>?_) (fun c=>?_)
 ·have c':g*g<=n:=of_decide_eq_true c
  have gn:=le_sq g0
  refine ⟨fun σ' H2=>σ'=[some (.int n),some (.int (2*g))]/\H2=H',?_,?_⟩
  ·rintro σ' H2 ⟨rfl,rfl⟩
   exact ⟨_,by omega,2*g,rfl,rfl,by omega,by omega,rfl⟩
  ·exact ⟨_,rfl,_,_,rfl,rfl,mulOk (bits_lit (k:=2) (by decide) (by decide)) bg,rfl,rfl⟩
 ·have c':¬ g*g<=n:=of_decide_eq_false (Bool.eq_false_iff.mpr c)
  exact ⟨_,rfl,q g (by omega) g1 (by omega)⟩
theorem ok_root_of {f:Addr} {fd:FuncData} (F:Fun K "root_of" "root_of" s_root_of f fd) (T:Txt K mg t) (H_above_root:Has P w K mg base CX0 1 "above_root" ["number"] (spAbove)):FnOk P w K mg base CX0 2 f fd ["number"] (spRootF):=by
 obtain ⟨f_above_root,d_above_root,G_above_root,b_above_root,k_above_root,m_above_root⟩:=H_above_root
 refine F.ok sc_root_of (fun vs H Q E h=>?_) (fun cdv A outer s H vs Q E hr h=>?_)
 ·obtain ⟨n,rfl,_⟩:=h
  rfl
 obtain ⟨n,rfl,n0,n1,q⟩:=h
 have hr_above_root:=hr.mono (show 1<=1 by decide)
 refine ⟨_,pss_cons (ps_if (pt_cmpR op_lt (pv 0) pe_int (nomark _)) pss_never pss_nil)
  (pss_cons (ps_set (i:=1) sc_root_of.nd rfl (Or.inl rfl) (pe_call G_above_root hr_above_root rfl m_above_root k_above_root b_above_root .nil pass0 (pa_cons (pv 0) pa_nil)))
  (pss_cons (ps_while PassesOwn.never (pt_cmpR op_gt (pe_op op_mulG (pv 1) (pv 1)) (pv 0) (nomark _)) (pss_one (ps_set (i:=1) sc_root_of.nd rfl (Or.inl rfl) (pe_op op_fdiv (pe_op op_add (pv 1) (pe_op op_fdivL (pv 0) (pv 1))) pe_int))))
  (pss_one (ps_ret (pv 1))))),?_⟩
 refine ⟨_,rfl,_,_,rfl,rfl,_,rfl,iteDF (show ¬ n < 0 by omega) ?_⟩
 refine ⟨_,rfl,n,rfl,n0,n1,fun g g0 g1 g2=>?_⟩
 refine ⟨fun m σ H'=>∃ g:Int,σ=[some (.int n),some (.int g)]/\H'=H/\0<=g/\g<=2*n+1/\n < (g+1)*(g+1)/\m=g.toNat,⟨_,g,rfl,rfl,g0,g1,?_,rfl⟩,?_⟩
 ·have:(g+1)*(g+1)=g*g+2*g+1:=by grind
  omega
 rintro m σ H' ⟨g,rfl,rfl,g0,g1,g2,rfl⟩
 have ng:=bits_top (g:=g) g0 (by omega)
 have bg:=bits_lit ng (by decide)
 refine ⟨_,rfl,_,rfl,_,_,rfl,rfl,mulOk bg bg,_,rfl,_,_,rfl,rfl,_,rfl,?_⟩
 refine ite2 (fun c=>?_) (fun c=>?_)
 ·have c':n < g*g:=of_decide_eq_true c
  obtain ⟨gp,s0,s1,s2⟩:=newton_step n0 g0 c'
  refine ⟨fun σ' H2=>σ'=[some (.int n),some (.int ((g+n.fdiv g) / 2))]/\H2=H',?_,?_⟩
  ·rintro σ' H2 ⟨rfl,rfl⟩
   exact ⟨_,by omega,_,rfl,rfl,s0,by omega,s2,rfl⟩
  ·exact ⟨_,rfl,_,rfl,_,rfl,_,_,rfl,rfl,⟨by omega,Nat.lt_of_lt_of_le (log2_lt_of ng (by decide)) (by decide)⟩,_,_,rfl,rfl,_,_,rfl,rfl,⟨by decide,by decide⟩,rfl,rfl⟩
 ·have c':¬ n < g*g:=of_decide_eq_false (Bool.eq_false_iff.mpr c)
  exact ⟨_,rfl,q g g0 (by omega) g2⟩
theorem ok_off_curve {f:Addr} {fd:FuncData} (F:Fun K "off_curve" "off_curve" s_off_curve f fd) (T:Txt K mg t) (H_added:Has P w K mg base CX0 1 "added" ["one","other"] (spAddK K)) (H_worth_of:Has P w K mg base CX0 1 "worth_of" ["Q","P"] (spWoK K)):FnOk P w K mg base CX0 2 f fd ["Q","points"] (spOff K):=by
 obtain ⟨f_added,d_added,G_added,b_added,k_added,m_added⟩:=H_added
 obtain ⟨f_worth_of,d_worth_of,G_worth_of,b_worth_of,k_worth_of,m_worth_of⟩:=H_worth_of
 refine F.ok sc_off_curve (fun vs H Q E h=>?_) (fun cdv A outer s H vs Q E hr h=>?_)
 ·obtain ⟨_,_,_,_,_,_,rfl,_⟩:=h
  rfl
 obtain ⟨b,q',p,F,us,Ps,rfl,hF,hp,tu,len,bf,bp,⟨v,ev⟩,q⟩:=h
 have hr_added:=hr.mono (show 1<=1 by decide)
 have hr_worth_of:=hr.mono (show 1<=1 by decide)
 refine ⟨_,pss_cons (ps_set (i:=2) sc_off_curve.nd rfl (Or.inl rfl) (pe_callTy call_list_of rfl T.z_list b_list (pa_cons (pv 1) pa_nil)))
  (pss_cons (ps_for PassesOwn.never rfl (pi_seq (pv 1)) (pg_name (i:=3) sc_off_curve.nd rfl (Or.inr rfl)) (pss_one (ps_expr (pe_bm PySem.F.plainAttrs_list PySem.F.slot_list_extend PySem.F.type_list_extend mt_extend (pv 2) (pa_cons (pe_compC rfl (CompScope.gen (cl:=[("one",_)]) ["one"] [3] [(".0",.local),("other",.local),("added",.globalImplicit),("one",.cell)] rfl (by decide +kernel) (by decide +kernel) rfl rfl (by intro p hp; simp only [List.mem_cons,List.not_mem_nil,or_false] at hp; rcases hp with rfl <;> rfl) rfl (by intro p hp h; simp only [List.mem_cons,List.not_mem_nil,or_false] at hp; rcases hp with rfl | rfl | rfl | rfl <;> first | rfl | (rcases h with h | h <;> cases h)) (by decide) (by decide +kernel) rfl (by intro p hp; simp only [List.zip_cons_cons,List.zip_nil_left,List.mem_cons,List.not_mem_nil,or_false] at hp; rcases hp with rfl <;> exact ⟨rfl,rfl⟩)) (pi_seq (pv 1)) (fun C s0 H0 fp pins=>pe_call G_added hr_added rfl m_added k_added b_added .nil pass0 (pa_cons (pv 1) (pa_cons (pv 0) pa_nil)))) pa_nil)))))
  (pss_one (ps_ret (pe_ix ix_list (pe_compIfC rfl (CompScope.gen (cl:=[("Q",_)]) ["Q"] [0] [(".0",.local),("point",.local),("worth_of",.globalImplicit),("Q",.cell)] rfl (by decide +kernel) (by decide +kernel) rfl rfl (by intro p hp; simp only [List.mem_cons,List.not_mem_nil,or_false] at hp; rcases hp with rfl <;> rfl) rfl (by intro p hp h; simp only [List.mem_cons,List.not_mem_nil,or_false] at hp; rcases hp with rfl | rfl | rfl | rfl <;> first | rfl | (rcases h with h | h <;> cases h)) (by decide) (by decide +kernel) rfl (by intro p hp; simp only [List.zip_cons_cons,List.zip_nil_left,List.mem_cons,List.not_mem_nil,or_false] at hp; rcases hp with rfl <;> exact ⟨rfl,rfl⟩)) (pi_list (pv 2)) (fun C s0 H0 fp pins=>pt_cmpR op_ne (pe_call G_worth_of hr_worth_of rfl m_worth_of k_worth_of b_worth_of .nil pass0 (pa_cons (pv 1) (pa_cons (pv 0) pa_nil))) pe_int (nomark _)) (fun C s0 H0 fp pins=>pv 0)) pe_int (fun _ _=>rfl))))),?_⟩
 have ul:=tu.len
 refine ⟨_,rfl,p,us,rfl,(by cases b; exact .inr hp; exact .inl hp),fun tl ntl=>?_⟩
 have g0:=same_new ntl (.lst us)
 refine ⟨_,rfl,p,b,us,rfl,hp.up g0,for_seq (xs:=us) (fun i σ H'=>∃ (ox:Option V) (ws:List V),σ=[some (.ref q'),some (.ref p),some (.ref tl),ox]/\Same H H'/\H' tl=some (.lst ws)/\TuK K H' ws (Ps ++ (Ps.take i).flatMap fun a=>Ps.map (ad a))/\ws.length<=3+3*i) ⟨none,us,rfl,g0,upd_same,by simpa using tu.mono g0,by omega⟩ ?_ ?_ ?_⟩
 ·rintro i σ H' hi ⟨ox,ws,rfl,g,_⟩
  exact hp.up g
 ·rintro i x σ H1 hx ⟨ox,ws,rfl,g,htl,tw,lw⟩
  have hi:i < us.length:=(List.getElem?_eq_some_iff.mp hx).1
  obtain ⟨r,P,rfl,eP,hr'⟩:=tu.get hx
  refine ⟨_,rfl,.inl ⟨rfl,_,SqL.of htl⟩,_,rfl,p,b,us,rfl,hp.up g,comp_seqR (xs:=us) (Nat.lt_of_le_of_lt (by omega:us.length<=100) (by decide)) (fun H' g'=>hp.up (g.trans g')) (fun j ws' H'=>TuK K H' ws' ((Ps.take j).map (ad P))) (fun _ _=>.nil) ?_ ?_⟩
  ·intro j y ws' H2 acc Q' ey g2 h0 ha rr hl k
   obtain ⟨r2,R,rfl,eR,hr2⟩:=tu.get ey
   refine ⟨_,rfl,_,rfl,r,r2,P,R,rfl,hr'.up (g.trans g2),hr2.up (g.trans g2),fun z H3 g3 hz=>k _ _ g3 ?_⟩
   rw [List.take_add_one,eR,List.map_append]
   exact ((rr.mono g3).app (.cons (SqT.of hz) .nil)).put (g3 _ _ ha)
  ·intro l H2 ws' g2 _ hl _ rr
   have htl2:=g2 _ _ htl
   rw [ul,List.take_length] at rr
   have wl:ws'.length=Ps.length:=by rw [rr.len,List.length_map]
   refine ⟨tl,l,_,_,rfl,rfl,htl2,hl,Nat.le_trans (by omega:ws.length+ws'.length<=100) (by decide),some (.ref r),ws ++ ws',rfl,putS (g.trans g2) ntl,upd_same,?_,by rw [List.length_append]; omega⟩
   have e:(Ps ++ (Ps.take (i+1)).flatMap fun a=>Ps.map (ad a))=(Ps ++ (Ps.take i).flatMap fun a=>Ps.map (ad a)) ++ Ps.map (ad P):=by
    rw [List.take_add_one,eP,List.append_assoc]
    simp [List.flatMap_append]
   rw [e]
   exact ((tw.mono g2).app rr).put htl2
 ·rintro σ H1 ⟨ox,ws,rfl,g,htl,tw,lw⟩
  rw [ul,List.take_length] at tw
  have tw':TuK K H1 ws (offs Ps):=tw
  have wl:=tw'.len
  refine ⟨_,rfl,tl,rfl,⟨_,SqL.of htl⟩,compIf_listI (xs:=ws) (Nat.lt_of_le_of_lt (by omega:ws.length<=100) (by decide)) (offB F (offs Ps)) (fun H' g'=>SqL.of (g' _ _ htl)) (OffR K H1 F (offs Ps)) OffR.zero ?_ ?_ ?_ ?_ ?_⟩
  ·intro i x vs ex e r
   obtain ⟨r',P,rfl,eP,hr'⟩:=tw'.get ex
   exact (OffR.step eP hr' r).1 e
  ·intro i x vs ex e r
   obtain ⟨r',P,rfl,eP,hr'⟩:=tw'.get ex
   exact (OffR.step eP hr' r).2 e
  ·intro i x H' Q' ex g' k
   obtain ⟨r',P,rfl,eP,hr'⟩:=tw'.get ex
   have bP:=bp_offs bp (List.mem_of_getElem? eP)
   refine ⟨_,rfl,_,rfl,q',r',F,P,rfl,(g.trans g') _ _ hF,hr'.up g',bf.mono,bP.mono',fun H2 g2=>?_⟩
   have kk:=k H2 g2
   rw [offB_at eP] at kk
   refine ⟨rfl,_,rfl,?_⟩
   have ee:(!decide (V.int (wo F P)=V.int 0))=(wo F P != 0):=by
    by_cases z:wo F P=0
    ·rw [z]; rfl
    ·rw [decide_eq_false (fun w=>z (int_inj w))]
     simp [z]
   first
    | exact ee ▸ kk
    | (rw [<- ee] at kk; exact kk)
  ·intro i x H' Q' ex g' k
   exact ⟨_,rfl,k _ (Same.refl _)⟩
  ·intro la H7 vs g7 h0 hla rr
   unfold OffR at rr
   rw [wl,List.take_length] at rr
   have ev':(offs Ps).find? (fun v=>wo F v != 0)=some v:=ev
   rw [ev'] at rr
   obtain ⟨r',rest,rfl,hr'⟩:=rr
   exact ⟨la,_,_,_,rfl,rfl,SqL.of hla,at0,q r' _ v (g.trans g7) (hr'.up g7) ev⟩
theorem ok_corners_on {f:Addr} {fd:FuncData} (F:Fun K "corners_on" "corners_on" s_corners_on f fd) (T:Txt K mg t) (H_crossing_of:Has P w K mg base CX0 1 "crossing_of" ["one","other"] (spCrK K)) (H_off_curve:Has P w K mg base CX0 2 "off_curve" ["Q","points"] (spOff K)) (H_lowest_point:Has P w K mg base CX0 3 "lowest_point" ["P"] (spLowS K)) (H_slopes_of:Has P w K mg base CX0 1 "slopes_of" ["Q"] (spSl)) (H_turned_by:Has P w K mg base CX0 2 "turned_by" ["table","P"] (spTbK K)):FnOk P w K mg base CX0 4 f fd ["Q","line"] (spCorL):=by
 obtain ⟨f_crossing_of,d_crossing_of,G_crossing_of,b_crossing_of,k_crossing_of,m_crossing_of⟩:=H_crossing_of
 obtain ⟨f_off_curve,d_off_curve,G_off_curve,b_off_curve,k_off_curve,m_off_curve⟩:=H_off_curve
 obtain ⟨f_lowest_point,d_lowest_point,G_lowest_point,b_lowest_point,k_lowest_point,m_lowest_point⟩:=H_lowest_point
 obtain ⟨f_slopes_of,d_slopes_of,G_slopes_of,b_slopes_of,k_slopes_of,m_slopes_of⟩:=H_slopes_of
 obtain ⟨f_turned_by,d_turned_by,G_turned_by,b_turned_by,k_turned_by,m_turned_by⟩:=H_turned_by
 refine F.ok sc_corners_on (fun vs H Q E h=>?_) (fun cdv A outer s H vs Q E hr h=>?_)
 ·obtain ⟨_,_,_,_,rfl,_⟩:=h
  rfl
 obtain ⟨q',lr,F,l,rfl,hF,hl,bf,bl',nl,ns,q⟩:=h
 have hr_crossing_of:=hr.mono (show 1<=3 by decide)
 have hr_off_curve:=hr.mono (show 2<=3 by decide)
 have hr_lowest_point:=hr.mono (show 3<=3 by decide)
 have hr_slopes_of:=hr.mono (show 1<=3 by decide)
 have hr_turned_by:=hr.mono (show 2<=3 by decide)
 refine ⟨_,pss_cons (ps_set (i:=2) sc_corners_on.nd rfl (Or.inl rfl) (pe_call G_lowest_point hr_lowest_point rfl m_lowest_point k_lowest_point b_lowest_point .nil pass0 (pa_cons (pe_call G_off_curve hr_off_curve rfl m_off_curve k_off_curve b_off_curve .nil pass0 (pa_cons (pv 0) (pa_cons (pe_compC rfl (CompScope.gen (cl:=[("line",_)]) ["line"] [1] [(".0",.local),("axis",.local),("crossing_of",.globalImplicit),("line",.cell)] rfl (by decide +kernel) (by decide +kernel) rfl rfl (by intro p hp; simp only [List.mem_cons,List.not_mem_nil,or_false] at hp; rcases hp with rfl <;> rfl) rfl (by intro p hp h; simp only [List.mem_cons,List.not_mem_nil,or_false] at hp; rcases hp with rfl | rfl | rfl | rfl <;> first | rfl | (rcases h with h | h <;> cases h)) (by decide) (by decide +kernel) rfl (by intro p hp; simp only [List.zip_cons_cons,List.zip_nil_left,List.mem_cons,List.not_mem_nil,or_false] at hp; rcases hp with rfl <;> exact ⟨rfl,rfl⟩)) (pi_tup (pe_glob (v:=.ref t.gAXES) rfl T.m_AXES rfl)) (fun C s0 H0 fp pins=>pe_call G_crossing_of hr_crossing_of rfl m_crossing_of k_crossing_of b_crossing_of .nil pass0 (pa_cons (pv 1) (pa_cons (pv 0) pa_nil)))) pa_nil))) pa_nil)))
  (pss_one (ps_ret (pe_tup (pa_cons (pv 2) (pa_cons (pe_call G_lowest_point hr_lowest_point rfl m_lowest_point k_lowest_point b_lowest_point .nil pass0 (pa_cons (pe_call G_crossing_of hr_crossing_of rfl m_crossing_of k_crossing_of b_crossing_of .nil pass0 (pa_cons (pv 1) (pa_cons (pe_call G_turned_by hr_turned_by rfl m_turned_by k_turned_by b_turned_by .nil pass0 (pa_cons (pe_call G_slopes_of hr_slopes_of rfl m_slopes_of k_slopes_of b_slopes_of .nil pass0 (pa_cons (pv 0) pa_nil)) (pa_cons (pv 2) pa_nil))) pa_nil))) pa_nil)) pa_nil))))),?_⟩
 have axk:∀ H':Hp,SqT K H' t.gAXES [.ref t.gAXES_0,.ref t.gAXES_1,.ref t.gAXES_2]:=fun H'=>T.k_AXES.sq _
 have tuA:∀ H':Hp,TuK K H' [.ref t.gAXES_0,.ref t.gAXES_1,.ref t.gAXES_2] axs:=fun H'=>.cons (T.k_AXES_0.sq _) (.cons (T.k_AXES_1.sq _) (.cons (T.k_AXES_2.sq _) .nil))
 have exo:=offF_ex (off_line ns nl)
 refine ⟨_,rfl,t.gAXES,rfl,⟨_,axk _⟩,comp_tupR (xs:=[.ref t.gAXES_0,.ref t.gAXES_1,.ref t.gAXES_2]) (by show 3 < sizeLine; decide) (fun H' _=>axk H') (fun i ws H'=>TuK K H' ws ((axs.take i).map (cr l))) (fun _ _=>.nil) ?_ ?_⟩
 ·intro i x vs H' acc Q' ex g h0 ha rr hv k
  obtain ⟨r,A',rfl,eA,hA⟩:=(tuA H').get ex
  refine ⟨_,rfl,_,rfl,lr,r,l,A',rfl,SqT.of (g _ _ hl),hA,bl'.mono',axs_bp A' (List.mem_of_getElem? eA),fun z H3 g3 hz=>k _ _ g3 ?_⟩
  rw [List.take_add_one,eA,List.map_append]
  exact ((rr.mono g3).app (.cons (SqT.of hz) .nil)).put (g3 _ _ ha)
 intro la H1 ws g1 _ hla _ rr
 have rr':TuK K H1 ws (axs.map (cr l)):=rr
 have bps:∀ R ∈ axs.map (cr l),BP 171 R:=fun R hR=>by
  obtain ⟨A',hA,rfl⟩:=List.mem_map.mp hR
  exact (bd_cr2 bl' (axs_bp (k:=0) A' hA)).mono'
 refine ⟨true,q',la,F,ws,axs.map (cr l),rfl,g1 _ _ hF,SqL.of hla,rr',by simp [axs],bf.mono,fun R hR=>(bps R hR).mono',exo,fun r H2 v g2 hr2 ev=>?_⟩
 have bv:BP 172 v:=(bp_offs bps (offF_mem ev)).mono'
 have nv:=wo_n3 (offF_nz ev)
 refine ⟨false,r,v.x,v.y,v.z,rfl,hr2,in3_of bv.mono',n3_nz nv,fun r1 H3 a b c d g3 h3 o3 p3 d0 ex ey ez=>?_⟩
 have em:v=tm d ⟨a,b,c⟩:=P3.ext' ⟨ex,ey,ez⟩
 have g13:=g1.trans (g2.trans g3)
 have h3':S3 H3 r1 ⟨a,b,c⟩:=h3
 have wv:=offF_nz ev
 have onv:=on_offs (offF_mem ev)
 generalize hRe:(⟨a,b,c⟩:P3)=R at *
 have bR:BP 172 R:=bp_div d0 (em ▸ bv)
 have wR:wo F R ≠ 0:=fun z=>wv (by rw [em,wo_tm,z,Int.mul_zero])
 have onR:rp l R=0:=by
  rw [em] at onv
  have:rp l (tm d R)=d*rp l R:=by
   simp only [rp,tm]
   grind
  rw [this] at onv
  exact mul_cancel onv d0
 refine ⟨_,rfl,_,rfl,_,rfl,q',F,rfl,g13 _ _ hF,fun sr H4 g4 hs=>?_⟩
 have bsl:BT 101 (sl F):=bd_sl bf
 refine ⟨_,rfl,sr,r1,sl F,R,rfl,hs,SqT.of (g4 _ _ h3'),bsl.mono,bR.mono',fun kr H5 g5 _ hk=>?_⟩
 have bk:BP 275 (tb (sl F) R):=(bd_tb bsl bR).mono'
 refine ⟨lr,kr,l,tb (sl F) R,rfl,SqT.of ((g13.trans (g4.trans g5)) _ _ hl),SqT.of hk,bl'.mono',bk.mono',fun c' H6 g6 hc=>?_⟩
 have bc:BP 446 (cr l (tb (sl F) R)):=(bd_cr2 bl' bk).mono'
 have n3c:=pol_nz wR nl onR
 refine ⟨false,c',_,_,_,rfl,SqT.of hc,in3_of bc.mono',n3_nz n3c,fun r2 H7 a2 b2 c2 d2 g7 h7 o7 p7 d20 ex2 ey2 ez2=>?_⟩
 have em2:cr l (tb (sl F) R)=tm d2 ⟨a2,b2,c2⟩:=P3.ext' ⟨ex2,ey2,ez2⟩
 have bS:BP 446 (⟨a2,b2,c2⟩:P3):=bp_div d20 (em2 ▸ bc)
 refine ⟨(by show 2<=sizeLine; decide),fun p np=>?_⟩
 have gp:=same_new np (.tup [.ref r1,.ref r2])
 exact q p r1 r2 _ R ⟨a2,b2,c2⟩ (g13.trans (g4.trans (g5.trans (g6.trans (g7.trans gp))))) upd_same ((g4.trans (g5.trans (g6.trans (g7.trans gp)))) _ _ h3') (gp _ _ h7) (bas_of wR nl onR d20 em2) bR bS
theorem ok_crossings_of {f:Addr} {fd:FuncData} (F:Fun K "crossings_of" "crossings_of" s_crossings_of f fd) (T:Txt K mg t) (H_crossing_of:Has P w K mg base CX0 1 "crossing_of" ["one","other"] (spCrK K)):FnOk P w K mg base CX0 2 f fd ["lines","others"] (spCrs K):=by
 obtain ⟨f_crossing_of,d_crossing_of,G_crossing_of,b_crossing_of,k_crossing_of,m_crossing_of⟩:=H_crossing_of
 refine F.ok sc_crossings_of (fun vs H Q E h=>?_) (fun cdv A outer s H vs Q E hr h=>?_)
 ·obtain ⟨_,_,_,_,rfl,_⟩:=h
  rfl
 obtain ⟨p,q',t1,t2,rfl,h1,h2,b1,b2,q⟩:=h
 have hr_crossing_of:=hr.mono (show 1<=1 by decide)
 obtain ⟨r0,r1,r2,hp,e0,e1,e2⟩:=h1
 obtain ⟨s0,s1,s2,hq,f0,f1,f2⟩:=h2
 refine ⟨_,pss_cons (ps_set (i:=2) sc_crossings_of.nd rfl (Or.inl rfl) (pe_lst pa_nil))
  (pss_cons (ps_for PassesOwn.never rfl (pi_tup (pv 0)) (pg_name (i:=3) sc_crossings_of.nd rfl (Or.inr rfl)) (pss_one (ps_expr (pe_bm PySem.F.plainAttrs_list PySem.F.slot_list_extend PySem.F.type_list_extend mt_extend (pv 2) (pa_cons (pe_compC rfl (CompScope.gen (cl:=[("one",_)]) ["one"] [3] [(".0",.local),("other",.local),("crossing_of",.globalImplicit),("one",.cell)] rfl (by decide +kernel) (by decide +kernel) rfl rfl (by intro p hp; simp only [List.mem_cons,List.not_mem_nil,or_false] at hp; rcases hp with rfl <;> rfl) rfl (by intro p hp h; simp only [List.mem_cons,List.not_mem_nil,or_false] at hp; rcases hp with rfl | rfl | rfl | rfl <;> first | rfl | (rcases h with h | h <;> cases h)) (by decide) (by decide +kernel) rfl (by intro p hp; simp only [List.zip_cons_cons,List.zip_nil_left,List.mem_cons,List.not_mem_nil,or_false] at hp; rcases hp with rfl <;> exact ⟨rfl,rfl⟩)) (pi_tup (pv 1)) (fun C s0 H0 fp pins=>pe_call G_crossing_of hr_crossing_of rfl m_crossing_of k_crossing_of b_crossing_of .nil pass0 (pa_cons (pv 1) (pa_cons (pv 0) pa_nil)))) pa_nil)))))
  (pss_one (ps_ret (pv 2)))),?_⟩
 refine ⟨(by show 0<=sizeLine; decide),fun cl ncl=>?_⟩
 have g0:=same_new ncl (.lst [])
 refine ⟨_,rfl,p,rfl,⟨_,hp.up g0⟩,for_tup (xs:=[.ref r0,.ref r1,.ref r2]) (fun i σ H'=>∃ (ox:Option V) (ws:List V),σ=[some (.ref p),some (.ref q'),some (.ref cl),ox]/\Same H H'/\H' cl=some (.lst ws)/\Tus H' ws (crs ((rw3 t1).take i) (rw3 t2))/\ws.length<=3*i) ⟨none,[],rfl,g0,upd_same,.nil,Nat.le_refl _⟩ ?_ ?_ ?_⟩
 ·rintro i σ H' hi ⟨ox,ws,rfl,g,_⟩
  exact hp.up g
 ·rintro i v σ H1 hv ⟨ox,ws,rfl,g,hcl,tu,len⟩
  have hi:i < 3:=(List.getElem?_eq_some_iff.mp hv).1
  obtain ⟨z,P,rfl,eP,hz,bz⟩:=rowK e0 e1 e2 b1 hv
  refine ⟨_,rfl,.inl ⟨rfl,_,SqL.of hcl⟩,_,rfl,q',rfl,⟨_,hq.up g⟩,comp_tupR (xs:=[.ref s0,.ref s1,.ref s2]) (by show 3 < sizeLine; decide) (fun H' g'=>hq.up (g.trans g')) (fun i ws' H'=>Tus H' ws' (((rw3 t2).take i).map (cr P))) (fun _ _=>.nil) ?_ ?_⟩
  ·intro j x ws' H2 acc Q' ex g2 h0 ha r hl k
   obtain ⟨y,R,rfl,eR,hy,by'⟩:=rowK f0 f1 f2 b2 ex
   refine ⟨_,rfl,_,rfl,z,y,P,R,rfl,hz.up (g.trans g2),hy.up (g.trans g2),bz.mono',by'.mono',fun w H3 g3 hw=>k _ _ g3 ?_⟩
   rw [List.take_add_one,eR,List.map_append]
   exact ((r.mono g3).app (.cons hw .nil)).put (g3 _ _ ha)
  ·intro l H2 ws' g2 _ hl _ r
   have hcl2:=g2 _ _ hcl
   have wl:ws'.length=3:=r.len
   refine ⟨cl,l,_,_,rfl,rfl,hcl2,hl,Nat.le_trans (by omega:ws.length+ws'.length<=100) (by decide),some (.ref z),ws ++ ws',rfl,putS (g.trans g2) ncl,upd_same,?_,by rw [List.length_append]; omega⟩
   have e:crs ((rw3 t1).take (i+1)) (rw3 t2)=crs ((rw3 t1).take i) (rw3 t2) ++ (rw3 t2).map (cr P):=by
    rw [List.take_add_one,eP]
    simp [crs,List.flatMap_append]
   rw [e]
   exact ((tu.mono g2).app r).put hcl2
 ·rintro σ H1 ⟨ox,ws,rfl,g,hcl,tu,_⟩
  exact ⟨_,rfl,q cl H1 ws g hcl tu⟩
theorem ok_vertex_of {f:Addr} {fd:FuncData} (F:Fun K "vertex_of" "vertex_of" s_vertex_of f fd) (T:Txt K mg t) (H_size_of:Has P w K mg base CX0 1 "size_of" ["Q"] (spSize)) (H_slopes_of:Has P w K mg base CX0 1 "slopes_of" ["Q"] (spSl)) (H_crossings_of:Has P w K mg base CX0 2 "crossings_of" ["lines","others"] (spCrs K)) (H_lowest_point:Has P w K mg base CX0 3 "lowest_point" ["P"] (spLowS K)):FnOk P w K mg base CX0 4 f fd ["Q"] (spVx0):=by
 obtain ⟨f_size_of,d_size_of,G_size_of,b_size_of,k_size_of,m_size_of⟩:=H_size_of
 obtain ⟨f_slopes_of,d_slopes_of,G_slopes_of,b_slopes_of,k_slopes_of,m_slopes_of⟩:=H_slopes_of
 obtain ⟨f_crossings_of,d_crossings_of,G_crossings_of,b_crossings_of,k_crossings_of,m_crossings_of⟩:=H_crossings_of
 obtain ⟨f_lowest_point,d_lowest_point,G_lowest_point,b_lowest_point,k_lowest_point,m_lowest_point⟩:=H_lowest_point
 refine F.ok sc_vertex_of (fun vs H Q E h=>?_) (fun cdv A outer s H vs Q E hr h=>?_)
 ·obtain ⟨_,_,rfl,_⟩:=h
  rfl
 obtain ⟨p,F,rfl,hp,bf,qe,q⟩:=h
 have hr_size_of:=hr.mono (show 1<=3 by decide)
 have hr_slopes_of:=hr.mono (show 1<=3 by decide)
 have hr_crossings_of:=hr.mono (show 2<=3 by decide)
 have hr_lowest_point:=hr.mono (show 3<=3 by decide)
 refine ⟨_,pss_cons (ps_if (pt_cmpR op_ne (pe_call G_size_of hr_size_of rfl m_size_of k_size_of b_size_of .nil pass0 (pa_cons (pv 0) pa_nil)) pe_int (nomark _)) pss_never pss_nil)
  (pss_cons (ps_set (i:=1) sc_vertex_of.nd rfl (Or.inl rfl) (pe_call G_slopes_of hr_slopes_of rfl m_slopes_of k_slopes_of b_slopes_of .nil pass0 (pa_cons (pv 0) pa_nil)))
  (pss_cons (ps_set (i:=2) sc_vertex_of.nd rfl (Or.inl rfl) (pe_op op_cat (pe_op op_cat (pe_call G_crossings_of hr_crossings_of rfl m_crossings_of k_crossings_of b_crossings_of .nil pass0 (pa_cons (pv 1) (pa_cons (pv 1) pa_nil))) (pe_call G_crossings_of hr_crossings_of rfl m_crossings_of k_crossings_of b_crossings_of .nil pass0 (pa_cons (pv 1) (pa_cons (pe_glob (v:=.ref t.gAXES) rfl T.m_AXES rfl) pa_nil)))) (pe_call G_crossings_of hr_crossings_of rfl m_crossings_of k_crossings_of b_crossings_of .nil pass0 (pa_cons (pe_glob (v:=.ref t.gAXES) rfl T.m_AXES rfl) (pa_cons (pe_glob (v:=.ref t.gAXES) rfl T.m_AXES rfl) pa_nil)))))
  (pss_one (ps_ret (pe_call G_lowest_point hr_lowest_point rfl m_lowest_point k_lowest_point b_lowest_point .nil pass0 (pa_cons (pe_ix ix_list (pe_compIfC rfl (CompScope.gen (cl:=[]) [] [] [(".0",.local),("crossing",.local),("any",.globalImplicit)] rfl (by decide +kernel) (by decide +kernel) rfl rfl (by intro p hp; cases hp) rfl (by intro p hp h; simp only [List.mem_cons,List.not_mem_nil,or_false] at hp; rcases hp with rfl | rfl | rfl <;> first | rfl | (rcases h with h | h <;> cases h)) (by decide) (by decide +kernel) rfl (by intro p hp; cases hp)) (pi_list (pv 2)) (fun C s0 H0 fp pins=>pt_val (pe_callB (callK_anyT (K:=K) rfl rfl) rfl T.z_any b_any (pa_cons (pv 0) pa_nil)) (fun _=>rfl)) (fun C s0 H0 fp pins=>pv 0)) pe_int (fun _ _=>rfl)) pa_nil)))))),?_⟩
 refine ⟨_,rfl,p,F,rfl,hp,bf.mono,rfl,_,rfl,ite2 (fun c=>?_) (fun c=>?_)⟩
 ·exact absurd qe (fun z=>neT c (congrArg V.int z))
 have z0:sz F=0:=int_inj (neF c)
 refine ⟨_,rfl,p,F,rfl,hp,fun sr H1 g1 hs=>?_⟩
 have stk:STK K H1 sr (sl F):=.of hs
 have axk:∀ H':Hp,STK K H' t.gAXES axT:=fun H'=>⟨_,_,_,T.k_AXES.sq _,T.k_AXES_0.sq _,T.k_AXES_1.sq _,T.k_AXES_2.sq _⟩
 have bs:BT 420 (sl F):=(bd_sl bf).mono
 have ba:BT 420 axT:=⟨⟨bd1,bd0,bd0⟩,⟨bd0,bd1,bd0⟩,⟨bd0,bd0,bd1⟩⟩
 refine ⟨_,rfl,_,rfl,sr,sr,sl F,sl F,rfl,stk,stk,bs,bs,fun l1 H2 v1 g2 hl1 t1=>?_⟩
 refine ⟨_,rfl,sr,t.gAXES,sl F,axT,rfl,stk.up g2,axk _,bs,ba,fun l2 H3 v2 g3 hl2 t2=>?_⟩
 have n1:v1.length=9:=t1.len
 have n2:v2.length=9:=t2.len
 refine ⟨l1,l2,_,_,rfl,rfl,g3 _ _ hl1,hl2,Nat.le_trans (by omega:v1.length+v2.length<=100) (by decide),fun l3 nl3=>?_⟩
 have g4:=same_new nl3 (.lst (v1 ++ v2))
 refine ⟨t.gAXES,t.gAXES,axT,axT,rfl,axk _,axk _,ba,ba,fun l4 H5 v4 g5 hl4 t4=>?_⟩
 have n4:v4.length=9:=t4.len
 refine ⟨l3,l4,_,_,rfl,rfl,g5 _ _ upd_same,hl4,Nat.le_trans (by rw [List.length_append]; omega:(v1 ++ v2).length+v4.length<=100) (by decide),fun l5 nl5=>?_⟩
 have g6:=same_new nl5 (.lst (v1 ++ v2 ++ v4))
 have tu:Tus (upd H5 l5 (.lst (v1 ++ v2 ++ v4))) (v1 ++ v2 ++ v4) (vxs F):=((((t1.mono g3).app t2).mono (g4.trans g5)).app t4).mono g6
 obtain ⟨v,ev⟩:=vert_ex F
 obtain ⟨nv,kv⟩:=vert z0 ev
 have bv:BP 803 v:=(vx_bp bf (List.mem_filter.mp (List.mem_of_head? ev)).1).mono'
 obtain ⟨r,rest,er,hr'⟩:=tu.first ev
 have gA:=g1.trans (g2.trans (g3.trans (g4.trans (g5.trans g6))))
 have hl5:(upd H5 l5 (.lst (v1 ++ v2 ++ v4))) l5=some (.lst (v1 ++ v2 ++ v4)):=upd_same
 generalize upd H5 l5 (.lst (v1 ++ v2 ++ v4))=H6 at *
 refine ⟨_,rfl,l5,rfl,⟨_,SqL.of hl5⟩,compIf_listF (xs:=v1 ++ v2 ++ v4) (Nat.lt_of_le_of_lt (by rw [List.length_append,List.length_append]; omega:(v1 ++ v2 ++ v4).length<=100) (by decide)) (nzH H6) id (fun H' g=>SqL.of (g _ _ hl5)) ?_ ?_ ?_⟩
 ·intro i x H' Q' hv g k
  obtain ⟨r',P,rfl,eP,hP⟩:=tu.get hv
  have kk:=k H' (Same.refl _)
  rw [nzH_at hP,<- any3] at kk
  exact ⟨_,rfl,r',[P.x,P.y,P.z],rfl,SqT.of (g _ _ hP),_,rfl,kk⟩
 ·intro i x H' Q' hv e g k
  exact ⟨_,rfl,k _ (Same.refl _)⟩
 ·intro la H7 g7 h0 hla
  rw [er] at hla
  refine ⟨la,_,_,_,rfl,rfl,SqL.of hla,at0,false,r,v.x,v.y,v.z,rfl,SqT.of (g7 _ _ hr'),in3_of bv.mono',nv,fun z H8 a b c' d g8 h8 o3 p3 d0 ex ey ez=>?_⟩
  have em:v=tm d ⟨a,b,c'⟩:=P3.ext' ⟨ex,ey,ez⟩
  exact q z0 z H8 ⟨a,b,c'⟩ (gA.trans (g7.trans g8)) h8 ⟨o3,p3⟩ ((bp_div d0 (em ▸ bv)).mono') (tb_tm0 d0 (em ▸ kv))
theorem ok_init_Flat {f:Addr} {fd:FuncData} (F:Fun K "__init__" "Flat.__init__" s_init_Flat f fd) (T:Txt K mg t) :FnOk P w K mg base CX0 1 f fd ["self","vertex"] (spIni t.c8 "vertex"):=by
 refine F.ok sc_init_Flat (fun vs H Q E h=>?_) (fun cdv A outer s H vs Q E hr h=>?_)
 ·obtain ⟨_,_,rfl,_⟩:=h
  rfl
 obtain ⟨e,v,rfl,he,q⟩:=h
 refine ⟨_,pss_cons (ps_expr (pe_baseInit rfl T.m_CurveError T.y1 T.y2 T.y3 (pa_cons (pv 0) (pa_cons pe_str pa_nil)))) (pss_one (ps_excfld (pv 0) (pv 1) rfl)),?_⟩
 refine ⟨_,rfl,e,t.c8,t.iFlat,_,rfl,he,T.x_Flat,?_⟩
 refine ⟨_,rfl,_,rfl,e,t.c8,rfl,upd_same,T.set_Flat,fun dx hdx=>?_⟩
 have ne:dx ≠ e:=fun z=>by subst z; rw [upd_same] at hdx; cases hdx
 refine q dx _ upd_same (by rw [upd_ne ne]; exact upd_same) fun b o nb hb=>?_
 have bd:b ≠ dx:=fun z=>by subst z; rw [upd_ne nb] at hdx; rw [hdx] at hb; cases hb
 rw [upd_ne nb,upd_ne bd,upd_ne nb]
 exact hb
theorem ok_refuse_flat {f:Addr} {fd:FuncData} (F:Fun K "refuse_flat" "refuse_flat" s_refuse_flat f fd) (T:Txt K mg t) (H_size_of:Has P w K mg base CX0 1 "size_of" ["Q"] (spSize)) (H_vertex_of:Has P w K mg base CX0 4 "vertex_of" ["Q"] (spVx0)) (H_init_Flat:HasI P w K mg base 1 t.iFlat ["self","vertex"] (spIni t.c8 "vertex")):FnOk P w K mg base (XD P w) 5 f fd ["Q"] (spRfX t.c8):=by
 obtain ⟨f_size_of,d_size_of,G_size_of,b_size_of,k_size_of,m_size_of⟩:=H_size_of
 obtain ⟨f_vertex_of,d_vertex_of,G_vertex_of,b_vertex_of,k_vertex_of,m_vertex_of⟩:=H_vertex_of
 obtain ⟨d_init_Flat,G_init_Flat,b_init_Flat⟩:=H_init_Flat
 refine F.okD sc_refuse_flat (fun vs H Q E h=>?_) (fun cdv A outer s H vs Q E hr h=>?_)
 ·obtain ⟨_,_,rfl,_⟩:=h
  rfl
 obtain ⟨p,F,rfl,hp,bf,q1,q2⟩:=h
 have hr_size_of:=hr.mono (show 1<=4 by decide)
 have hr_vertex_of:=hr.mono (show 4<=4 by decide)
 have hr_init_Flat:=hr.mono (show 1<=4 by decide)
 refine ⟨_,pss_one (ps_if (pt_cmpR op_eq (pe_call G_size_of hr_size_of rfl m_size_of k_size_of b_size_of .nil pass0 (pa_cons (pv 0) pa_nil)) pe_int (nomark _)) (pss_one (ps_raiseD T.mk_Flat G_init_Flat (hr.mono (show 1+1<=4 by decide)) b_init_Flat T.m_Flat rfl (pa_cons (pe_call G_vertex_of hr_vertex_of rfl m_vertex_of k_vertex_of b_vertex_of .nil pass0 (pa_cons (pv 0) pa_nil)) pa_nil))) pss_nil),?_⟩
 refine ⟨_,rfl,p,F,rfl,hp,bf.mono,rfl,_,rfl,ite2 (fun c=>?_) (fun c=>?_)⟩
 ·have z0:sz F=0:=int_inj (decT c)
  refine ⟨_,rfl,p,F,rfl,hp,bf,z0,fun _ r H1 R g1 hr1 l3 bp kr=>?_⟩
  refine ⟨(by show 1<=sizeLine; decide),fun e he=>⟨e,_,rfl,upd_same,fun dx H2 he2 hdx k=>⟨rfl,dx,he2,?_⟩⟩⟩
  have ne:dx ≠ e:=fun z=>by subst z; rw [he2] at hdx; cases hdx
  have kp:∀ b o,H1 b=some o->without H2 e b=some o:=fun b o hb=>by
   have nb:=ne_of_none hb he
   rw [without_ne nb]
   exact k b o nb (by rw [upd_ne nb]; exact hb)
  exact q2 z0 dx r _ R (fun b o hb=>kp b o (g1 b o hb)) (by rw [without_ne ne]; exact hdx) (kp _ _ hr1) l3 bp kr
 ·exact q1 (fun z=>decF c (congrArg V.int z))
theorem ok_point_on {f:Addr} {fd:FuncData} (F:Fun K "point_on" "point_on" s_point_on f fd) (T:Txt K mg t) (H_worth_of:Has P w K mg base CX0 1 "worth_of" ["Q","P"] (spWoK K)) (H_lowest_point:Has P w K mg base CX0 3 "lowest_point" ["P"] (spLowS K)):FnOk P w K mg base (XF P w) 4 f fd ["Q","P"] (spOnX t.c9):=by
 obtain ⟨f_worth_of,d_worth_of,G_worth_of,b_worth_of,k_worth_of,m_worth_of⟩:=H_worth_of
 obtain ⟨f_lowest_point,d_lowest_point,G_lowest_point,b_lowest_point,k_lowest_point,m_lowest_point⟩:=H_lowest_point
 refine F.okX sc_point_on (fun vs H Q E h=>?_) (fun cdv A outer s H vs Q E hr h=>?_)
 ·obtain ⟨_,_,_,_,rfl,_⟩:=h
  rfl
 obtain ⟨q',p,F,P',rfl,hq,hp,bf,bp,q1,q2⟩:=h
 have hr_worth_of:=hr.mono (show 1<=3 by decide)
 have hr_lowest_point:=hr.mono (show 3<=3 by decide)
 refine ⟨_,pss_cons (ps_if (PW.pt (pw_or (pt_not (pt_val (pe_callB (call_anyT rfl) rfl T.z_any b_any (pa_cons (pv 1) pa_nil)) (fun _=>rfl))) (pw_or1 (pt_cmpR op_ne (pe_call G_worth_of hr_worth_of rfl m_worth_of k_worth_of b_worth_of .nil pass0 (pa_cons (pv 0) (pa_cons (pv 1) pa_nil))) pe_int (nomark _))))) (pss_one (ps_raise T.m_OffCurve T.x_OffCurve rfl (pa_cons pe_str pa_nil))) pss_nil)
  (pss_one (PS.nox (ps_ret (pe_call G_lowest_point hr_lowest_point rfl m_lowest_point k_lowest_point b_lowest_point .nil pass0 (pa_cons (pv 1) pa_nil))))),?_⟩
 refine ⟨_,rfl,p,[P'.x,P'.y,P'.z],rfl,SqT.of hp,?_⟩
 rw [nz_any]
 by_cases n3:N3 P'
 ·rw [decide_eq_true n3]
  refine ⟨_,rfl,iteF ?_⟩
  refine ⟨_,rfl,_,rfl,q',p,F,P',rfl,hq,SqT.of hp,bf,bp,fun H1 g1=>⟨rfl,_,rfl,ite2 (fun c=>?_) (fun c=>?_)⟩⟩
  ·exact ⟨(by show 1<=sizeLine; decide),q2 (fun z=>neT c (congrArg V.int z.2)) _ g1⟩
  ·have w0:wo F P'=0:=int_inj (neF c)
   refine ⟨_,rfl,false,p,_,_,_,rfl,SqT.of (g1 _ _ hp),in3_of (bp.mono (by decide)),n3,fun r H2 a b c' d' g2 h2 o2 p2 d2 ex ey ez=>?_⟩
   exact q1 ⟨a,b,c'⟩ d' r _ n3 w0 (P3.ext' ⟨ex,ey,ez⟩) d2 ⟨o2,p2⟩ (g1.trans g2) h2
 ·rw [decide_eq_false n3]
  refine ⟨_,rfl,iteT ?_⟩
  exact ⟨(by show 1<=sizeLine; decide),q2 (fun z=>n3 z.1) _ (Same.refl _)⟩
theorem ok_line_met {f:Addr} {fd:FuncData} (F:Fun K "line_met" "line_met" s_line_met f fd) (T:Txt K mg t) (H_refuse_flat:Has P w K mg base (XD P w) 5 "refuse_flat" ["Q"] (spRfX t.c8)) (H_corners_on:Has P w K mg base CX0 4 "corners_on" ["Q","line"] (spCorL)) (H_worth_of:Has P w K mg base CX0 1 "worth_of" ["Q","P"] (spWoK K)) (H_root_of:Has P w K mg base CX0 2 "root_of" ["number"] (spRootF)) (H_stretched:Has P w K mg base CX0 1 "stretched" ["P","times"] (spStr K)) (H_added:Has P w K mg base CX0 1 "added" ["one","other"] (spAddK K)) (H_lowest_point:Has P w K mg base CX0 3 "lowest_point" ["P"] (spLowS K)):FnOk P w K mg base (XB P w) 6 f fd ["Q","line"] (spMetX t.c8 t.c11):=by
 obtain ⟨f_refuse_flat,d_refuse_flat,G_refuse_flat,b_refuse_flat,k_refuse_flat,m_refuse_flat⟩:=H_refuse_flat
 obtain ⟨f_corners_on,d_corners_on,G_corners_on,b_corners_on,k_corners_on,m_corners_on⟩:=H_corners_on
 obtain ⟨f_worth_of,d_worth_of,G_worth_of,b_worth_of,k_worth_of,m_worth_of⟩:=H_worth_of
 obtain ⟨f_root_of,d_root_of,G_root_of,b_root_of,k_root_of,m_root_of⟩:=H_root_of
 obtain ⟨f_stretched,d_stretched,G_stretched,b_stretched,k_stretched,m_stretched⟩:=H_stretched
 obtain ⟨f_added,d_added,G_added,b_added,k_added,m_added⟩:=H_added
 obtain ⟨f_lowest_point,d_lowest_point,G_lowest_point,b_lowest_point,k_lowest_point,m_lowest_point⟩:=H_lowest_point
 replace G_refuse_flat:=G_refuse_flat.up (CX':=XB P w) fun _ _ _ _ _ _ z=>.inl z
 refine F.okB sc_line_met (fun vs H Q E h=>?_) (fun cdv A outer s H vs Q E hr h=>?_)
 ·obtain ⟨_,_,_,_,rfl,_⟩:=h
  rfl
 obtain ⟨q',lr,F,l,rfl,hF,hl,bf,bl',qF,qL,qN⟩:=h
 have hr_refuse_flat:=hr.mono (show 5<=5 by decide)
 have hr_corners_on:=hr.mono (show 4<=5 by decide)
 have hr_worth_of:=hr.mono (show 1<=5 by decide)
 have hr_root_of:=hr.mono (show 2<=5 by decide)
 have hr_stretched:=hr.mono (show 1<=5 by decide)
 have hr_added:=hr.mono (show 1<=5 by decide)
 have hr_lowest_point:=hr.mono (show 3<=5 by decide)
 have hu64:=hu64_of hr
 refine ⟨_,pss_cons (ps_expr (pe_call G_refuse_flat hr_refuse_flat rfl m_refuse_flat k_refuse_flat b_refuse_flat .nil passB (pa_cons (pv 0) pa_nil)))
  (pss_cons (ps_if (pt_not (pt_val (pe_callB (call_anyT rfl) rfl T.z_any b_any (pa_cons (pv 1) pa_nil)) (fun _=>rfl))) (pss_one (PS.up (ps_raise T.m_NoLine T.x_NoLine rfl (pa_cons pe_str pa_nil)) (fun _ _ _ _ _ _ z=>Or.inr z))) pss_nil)
  (pss_cons (PS.nox (ps_set (i:=2) sc_line_met.nd rfl (Or.inr rfl) (pe_call G_corners_on hr_corners_on rfl m_corners_on k_corners_on b_corners_on .nil pass0 (pa_cons (pv 0) (pa_cons (pv 1) pa_nil)))))
  (pss_cons (PS.nox (ps_set (i:=3) sc_line_met.nd rfl (Or.inl rfl) (pe_call G_worth_of hr_worth_of rfl m_worth_of k_worth_of b_worth_of .nil pass0 (pa_cons (pv 0) (pa_cons (pe_ix ix_tup (pv 2) pe_int (fun _ _=>rfl)) pa_nil)))))
  (pss_cons (PS.nox (ps_set (i:=4) sc_line_met.nd rfl (Or.inl rfl) (pe_op op_mulG (pe_un un_neg (pv 3)) (pe_call G_worth_of hr_worth_of rfl m_worth_of k_worth_of b_worth_of .nil pass0 (pa_cons (pv 0) (pa_cons (pe_ix ix_tup (pv 2) pe_int (fun _ _=>rfl)) pa_nil))))))
  (pss_cons (PS.nox (ps_if (pt_cmpR op_lt (pv 4) pe_int (nomark _)) (pss_one (ps_ret (pe_lst pa_nil))) pss_nil))
  (pss_cons (PS.nox (ps_set (i:=5) sc_line_met.nd rfl (Or.inl rfl) (pe_call G_root_of hr_root_of rfl m_root_of k_root_of b_root_of .nil pass0 (pa_cons (pv 4) pa_nil))))
  (pss_cons (PS.nox (ps_if (pt_cmpR op_ne (pe_op op_mulG (pv 5) (pv 5)) (pv 4) (nomark _)) (pss_one (ps_ret (pe_lst pa_nil))) pss_nil))
  (pss_cons (PS.nox (ps_set (i:=6) sc_line_met.nd rfl (Or.inr rfl) (pe_call G_stretched hr_stretched rfl m_stretched k_stretched b_stretched .nil pass0 (pa_cons (pe_ix ix_tup (pv 2) pe_int (fun _ _=>rfl)) (pa_cons (pv 3) pa_nil)))))
  (pss_one (PS.nox (ps_ret (pe_callB (call_sortedT rfl) rfl T.z_sorted b_sorted (pa_cons (pe_callTy (call_setT rfl hu64) rfl T.z_set b_set (pa_cons (pe_compC rfl (CompScope.gen (cl:=[("end",_),("corners",_)]) ["corners","end"] [2,6] [(".0",.local),("times",.local),("lowest_point",.globalImplicit),("added",.globalImplicit),("stretched",.globalImplicit),("corners",.cell),("end",.cell)] rfl (by decide +kernel) (by decide +kernel) rfl rfl (by intro p hp; simp only [List.mem_cons,List.not_mem_nil,or_false] at hp; rcases hp with rfl | rfl <;> rfl) rfl (by intro p hp h; simp only [List.mem_cons,List.not_mem_nil,or_false] at hp; rcases hp with rfl | rfl | rfl | rfl | rfl | rfl | rfl <;> first | rfl | (rcases h with h | h <;> cases h)) (by decide) (by decide +kernel) rfl (by intro p hp; simp only [List.zip_cons_cons,List.zip_nil_left,List.mem_cons,List.not_mem_nil,or_false] at hp; rcases hp with rfl | rfl <;> exact ⟨rfl,rfl⟩)) (pi_tup (pe_tup (pa_cons (pv 5) (pa_cons (pe_un un_neg (pv 5)) pa_nil)))) (fun C s0 H0 fp pins=>pe_call G_lowest_point hr_lowest_point rfl m_lowest_point k_lowest_point b_lowest_point .nil pass0 (pa_cons (pe_call G_added hr_added rfl m_added k_added b_added .nil pass0 (pa_cons (pe_call G_stretched hr_stretched rfl m_stretched k_stretched b_stretched .nil pass0 (pa_cons (pe_ix (ixK_tup (K:=K) rfl) (pv 1) pe_int (fun _ _=>rfl)) (pa_cons (pv 0) pa_nil))) (pa_cons (pv 2) pa_nil))) pa_nil))) pa_nil)) pa_nil))))))))))))),?_⟩
 refine ⟨_,rfl,q',F,rfl,hF,bf.mono,fun ns=>?_,qF⟩
 refine ⟨_,rfl,lr,[l.x,l.y,l.z],rfl,SqT.of hl,?_⟩
 rw [nz_any]
 by_cases nl:N3 l
 case neg=>
  rw [decide_eq_false nl]
  exact ⟨_,rfl,iteT ⟨(by show 1<=sizeLine; decide),qL ns nl _ (Same.refl _)⟩⟩
 have q:∀ (r:Addr) (H':Hp) (vs:List V) (Ps:List P3),Same H H'->H r=none->H' r=some (.lst vs)->Tu H' vs Ps->Met F l Ps->(∀ P ∈ Ps,BP 900 P)->Q (.ref r) H':=fun r H' _ _ g _ _ _ _ _=>qN ns nl r H' g
 rw [decide_eq_true nl]
 refine ⟨_,rfl,iteF ?_⟩
 refine ⟨_,rfl,_,rfl,q',lr,F,l,rfl,hF,hl,bf,bl',nl,ns,fun co r1 r2 H1 R S g1 hco h1 h2 B bR bS=>?_⟩
 refine ⟨_,rfl,_,rfl,co,_,_,_,rfl,rfl,SqT.of hco,rfl,q',r1,F,R,rfl,g1 _ _ hF,SqT.of h1,bf.mono,bR.mono',fun H2 g2=>?_⟩
 refine ⟨_,rfl,_,rfl,_,rfl,_,rfl,co,_,_,_,rfl,rfl,SqT.of (g2 _ _ hco),rfl,q',r2,F,S,rfl,(g1.trans g2) _ _ hF,SqT.of (g2 _ _ h2),bf.mono,bS.mono',fun H3 g3=>?_⟩
 have g23:=g2.trans g3
 have g13:=g1.trans g23
 have bw:Bd 449 (wo F R):=(bd_wo bf bR).mono (by omega)
 have bw2:Bd 997 (wo F S):=(bd_wo bf bS).mono (by omega)
 have bq:Bd 1446 (sqr F R S):=((bd_neg bw).mul bw2).mono (by omega)
 refine ⟨_,_,rfl,rfl,okM (bd_neg bw) bw2,?_⟩
 have none_:∀ (H':Hp) (r:Addr),Same H H'->H' r=none->(¬ ∃ c,c*c=sqr F R S)->Q (.ref r) (upd H' r (.lst [])):=fun H' r g nr no=>
  q r _ [] [] (g.trans (same_new nr _)) (by
   cases e:H r with
   | none=>rfl
   | some o=>have:=g _ _ e; rw [nr] at this; cases this) upd_same .nil (let ⟨a,b⟩:=B.none no; .none a b) (by simp)
 refine ⟨_,rfl,_,_,rfl,rfl,_,rfl,ite2 (fun c=>?_) (fun c=>?_)⟩
 ·have c':sqr F R S < 0:=of_decide_eq_true c
  refine ⟨(by show 0<=sizeLine; decide),fun p np=>none_ H3 p g13 np ?_⟩
  rintro ⟨x,e⟩
  have:0<=x*x:=by
   rcases Int.le_total 0 x with z | z
   ·exact Int.mul_nonneg z z
   ·exact Int.mul_nonneg_of_nonpos_of_nonpos z z
  omega
 have q0:0<=sqr F R S:=by
  have:¬ sqr F R S < 0:=of_decide_eq_false (Bool.eq_false_iff.mpr c)
  omega
 refine ⟨_,rfl,sqr F R S,rfl,q0,bd_topR (bq.mono (by omega)),fun r r0 rl rh=>?_⟩
 have br:Bd 723 r:=bd_rt2 (k:=723) r0 rl bq
 refine ⟨_,rfl,_,rfl,_,_,rfl,rfl,okM br br,_,rfl,rfl,_,rfl,ite2 (fun c=>?_) (fun c=>?_)⟩
 ·have c':r*r ≠ sqr F R S:=fun z=>by
   have c2:(!decide (V.int (r*r)=V.int (sqr F R S)))=true:=c
   rw [z] at c2
   simp at c2
  refine ⟨(by show 0<=sizeLine; decide),fun p np=>none_ H3 p g13 np ?_⟩
  rintro ⟨x,e⟩
  have e2:(x.natAbs:Int)*(x.natAbs:Int)=sqr F R S:=by rw [<- e]; exact Int.natAbs_mul_self' x
  have:=root_uniq (g:=r) (r:=(x.natAbs:Int)) r0 (by omega) (by omega) (by omega)
  exact c' (by rw [this]; exact e2)
 have hr2:r*r=sqr F R S:=by
  have:¬ (!decide (V.int (r*r)=V.int (sqr F R S)))=true:=c
  simp at this
  exact this
 refine ⟨_,rfl,co,_,_,_,rfl,rfl,SqT.of (g23 _ _ hco),rfl,_,rfl,r2,S,wo F R,rfl,SqT.of (g23 _ _ h2),bS.mono',bw.mono (by omega),fun en H4 g4 hen=>?_⟩
 have bst:∀ u:Int,Bd 723 u->BP 895 (st R u):=fun u hu=>by
  rw [st_eq]
  exact (bp_tm hu bR).mono'
 have ben:BP 895 (st S (wo F R)):=by
  rw [st_eq]
  exact (bp_tm bw bS).mono'
 refine ⟨_,rfl,_,rfl,_,rfl,(by show 2<=sizeLine; decide),fun tp ntp=>?_⟩
 have gt:=same_new ntp (.tup [.int r,.int (-r)])
 have g24:=g4.trans gt
 have htp:upd H4 tp (.tup [.int r,.int (-r)]) tp=some (.tup [.int r,.int (-r)]):=upd_same
 generalize upd H4 tp (.tup [.int r,.int (-r)])=H5 at *
 refine ⟨tp,rfl,⟨_,SqT.of htp⟩,comp_tupR (xs:=[.int r,.int (-r)]) (by show 2 < sizeLine; decide) (fun H' g=>SqT.of (g _ _ htp)) (TwoEnds F R S r) (fun _ _=>⟨fun _=>rfl,fun z=>by omega,fun z=>by omega⟩) ?_ ?_⟩
 ·intro i x vs H' acc Q' ex g h0 ha rr hv k
  have cs:∃ u:Int,x=.int u/\u*u=sqr F R S/\Bd 723 u/\∀ (z:Addr) (H'':Hp) (P0:P3),Same H' H''->S3 H'' z P0->EndAt F R S u P0->TwoEnds F R S r (i+1) (vs ++ [.ref z]) (upd H'' acc (.lst (vs ++ [.ref z]))):=by
   match i,ex,rr with
   | 0,ex,rr=>
    have e0:=rr.1 rfl
    subst e0
    exact ⟨r,(Option.some.inj ex).symm,hr2,br,fun z H'' P0 g'' hz en'=>⟨fun w=>by omega,fun _=>⟨z,P0,rfl,hz.put (g'' _ _ ha),en'⟩,fun w=>by omega⟩⟩
   | 1,ex,rr=>
    obtain ⟨z0,P1,rfl,hz0,en0⟩:=rr.2.1 rfl
    exact ⟨-r,(Option.some.inj ex).symm,by rw [<- hr2]; grind,bd_neg br,fun z H'' P0 g'' hz en'=>⟨fun w=>by omega,fun w=>by omega,fun _=>⟨z0,z,P1,P0,rfl,S3.put (g'' _ _ hz0) (g'' _ _ ha),hz.put (g'' _ _ ha),en0,en'⟩⟩⟩
   | i+2,ex,rr=>simp at ex
  obtain ⟨u,rfl,hu,bu,kk⟩:=cs
  refine ⟨_,rfl,co,_,_,_,rfl,rfl,SqT.of ((g23.trans (g24.trans g)) _ _ hco),rfl,_,rfl,r1,R,u,rfl,SqT.of ((g23.trans (g24.trans g)) _ _ h1),bR.mono',bu.mono (by omega),fun z1 H6 g6 hz1=>?_⟩
  refine ⟨_,rfl,z1,en,st R u,st S (wo F R),rfl,SqT.of hz1,SqT.of ((gt.trans (g.trans g6)) _ _ hen),fun z2 H7 g7 hz2=>?_⟩
  have eN:ad (st R u) (st S (wo F R))=ad (tm u R) (tm (wo F R) S):=by rw [st_eq,st_eq]
  have bN:BP 896 (ad (st R u) (st S (wo F R))):=(bp_ad (bst u bu) ben).mono'
  obtain ⟨n3,_,_⟩:=B.ends hu
  rw [<- eN] at n3
  refine ⟨false,z2,_,_,_,rfl,SqT.of hz2,in3_of bN.mono',n3_nz n3,fun z3 H8 a b c d g8 h8 o8 p8 d0 ex' ey ez=>?_⟩
  have em:ad (st R u) (st S (wo F R))=tm d ⟨a,b,c⟩:=P3.ext' ⟨ex',ey,ez⟩
  exact k _ _ (g6.trans (g7.trans g8)) (kk z3 H8 ⟨a,b,c⟩ (g6.trans (g7.trans g8)) h8 ⟨⟨o8,p8⟩,(bp_div d0 (em ▸ bN)).mono',d,d0,by rw [<- eN]; exact em⟩)
 intro la H6 ws g6 _ hla _ rr
 obtain ⟨z,z',P1,P2,rfl,hz,hz',e1,e2⟩:=rr.2.2 rfl
 refine ⟨la,z,z',[P1.x,P1.y,P1.z],[P2.x,P2.y,P2.z],rfl,SqL.of hla,SqT.of hz,SqT.of hz',fun sa nsa=>?_⟩
 have gs:=same_new nsa (.ext (TwoE w sa z z' [P1.x,P1.y,P1.z] [P2.x,P2.y,P2.z]))
 refine ⟨sa,z,z',P1.x,P2.x,[P1.y,P1.z],[P2.y,P2.z],rfl,upd_same,SqT.of (gs _ _ hz),SqT.of (gs _ _ hz'),rfl,fun ra nra=>?_⟩
 have gAll:=g13.trans (g24.trans (g6.trans gs))
 have nH:=new_none gAll nra
 refine ⟨fun e=>?_,fun lt=>?_,fun lt=>?_⟩
 ·have e':P1=P2:=by
   simp at e
   exact P3.ext' e
  have gn:=same_new nra (.lst [.ref z])
  exact q ra _ _ [P1] (gAll.trans gn) nH upd_same (.cons (gn _ _ (gs _ _ hz)) .nil) (met_one B hr2 e1 e2 e') (by simp; exact e1.2.1)
 ·have lt':=(lex3 P1 P2).mp lt
  have gn:=same_new nra (.lst [.ref z,.ref z'])
  exact q ra _ _ [P1,P2] (gAll.trans gn) nH upd_same (.cons (gn _ _ (gs _ _ hz)) (.cons (gn _ _ (gs _ _ hz')) .nil)) ((met_two B hr2 e1 e2 (.inl lt')).1 lt') (by simp; exact ⟨e1.2.1,e2.2.1⟩)
 ·have lt':=(lex3 P2 P1).mp lt
  have gn:=same_new nra (.lst [.ref z',.ref z])
  exact q ra _ _ [P2,P1] (gAll.trans gn) nH upd_same (.cons (gn _ _ (gs _ _ hz')) (.cons (gn _ _ (gs _ _ hz)) .nil)) ((met_two B hr2 e1 e2 (.inr lt')).2 lt') (by simp; exact ⟨e2.2.1,e1.2.1⟩)
theorem ok_worth {f:Addr} {fd:FuncData} (F:Fun K "_law_worth" "_law_worth" s_worth f fd) (T:Txt K mg t) :FnOk P w K mg base CX0 1 f fd ["_law_form_here","_law_spot_here"] (spLw):=by
 refine F.ok sc_worth (fun vs H Q E h=>?_) (fun cdv A outer s H vs Q E hr h=>?_)
 ·obtain ⟨_,_,_,_,rfl,_⟩:=h
  rfl
 obtain ⟨p,q',F,P',rfl,hp,hq,bf,bp,q⟩:=h
 unfold S3 at hq
 unfold S6 at hp
 refine ⟨_,pss_cons (ps_asg (pv 0) (pg_tup rfl (pgs_cons (pg_name (i:=3) sc_worth.nd rfl (Or.inl rfl)) (pgs_cons (pg_name (i:=4) sc_worth.nd rfl (Or.inl rfl)) (pgs_cons (pg_name (i:=5) sc_worth.nd rfl (Or.inl rfl)) (pgs_cons (pg_name (i:=6) sc_worth.nd rfl (Or.inl rfl)) (pgs_cons (pg_name (i:=7) sc_worth.nd rfl (Or.inl rfl)) (pgs_cons (pg_name (i:=8) sc_worth.nd rfl (Or.inl rfl)) pgs_nil))))))))
  (pss_cons (ps_asg (pv 1) (pg_tup rfl (pgs_cons (pg_name (i:=9) sc_worth.nd rfl (Or.inl rfl)) (pgs_cons (pg_name (i:=10) sc_worth.nd rfl (Or.inl rfl)) (pgs_cons (pg_name (i:=11) sc_worth.nd rfl (Or.inl rfl)) pgs_nil)))))
  (pss_cons (ps_set (i:=2) sc_worth.nd rfl (Or.inl rfl) (pe_op op_add (pe_op op_add (pe_op op_mulG (pe_op op_mulG (pv 3) (pv 9)) (pv 9)) (pe_op op_mulG (pe_op op_mulG (pv 4) (pv 10)) (pv 10))) (pe_op op_mulG (pe_op op_mulG (pv 5) (pv 11)) (pv 11))))
  (pss_one (ps_ret (pe_op op_add (pe_op op_add (pe_op op_add (pv 2) (pe_op op_mulG (pe_op op_mulG (pv 6) (pv 10)) (pv 11))) (pe_op op_mulG (pe_op op_mulG (pv 7) (pv 9)) (pv 11))) (pe_op op_mulG (pe_op op_mulG (pv 8) (pv 9)) (pv 10))))))),?_⟩
 refine ⟨_,rfl,p,_,rfl,SqT.of hp,rfl,_,_,rfl,_,_,rfl,_,_,rfl,_,_,rfl,_,_,rfl,_,_,rfl,rfl,?_⟩
 refine ⟨_,rfl,q',_,rfl,SqT.of hq,rfl,_,_,rfl,_,_,rfl,_,_,rfl,rfl,?_⟩
 refine ⟨_,rfl,_,rfl,_,_,rfl,rfl,okM bf.a bp.x,_,rfl,_,_,rfl,rfl,okM (bf.a.mul bp.x) bp.x,_,rfl,_,rfl,_,_,rfl,rfl,okM bf.b bp.y,_,rfl,_,_,rfl,rfl,okM (bf.b.mul bp.y) bp.y,_,_,rfl,rfl,_,rfl,_,rfl,_,_,rfl,rfl,okM bf.c bp.z,_,rfl,_,_,rfl,rfl,okM (bf.c.mul bp.z) bp.z,_,_,rfl,rfl,?_⟩
 exact ⟨_,rfl,_,rfl,_,rfl,_,_,rfl,rfl,okM bf.d bp.y,_,rfl,_,_,rfl,rfl,okM (bf.d.mul bp.y) bp.z,_,_,rfl,rfl,_,rfl,_,rfl,_,_,rfl,rfl,okM bf.e bp.x,_,rfl,_,_,rfl,rfl,okM (bf.e.mul bp.x) bp.z,_,_,rfl,rfl,_,rfl,_,rfl,_,_,rfl,rfl,okM bf.f bp.x,_,rfl,_,_,rfl,rfl,okM (bf.f.mul bp.x) bp.y,_,_,rfl,rfl,q⟩
theorem ok_point_by {f:Addr} {fd:FuncData} (F:Fun K "point_by" "point_by" s_point_by f fd) (T:Txt K mg t) (H_refuse_flat:Has P w K mg base (XD P w) 5 "refuse_flat" ["Q"] (spRfX t.c8)) (H_point_on:Has P w K mg base (XF P w) 4 "point_on" ["Q","P"] (spOnX t.c9)) (H_led_to:Has P w K mg base CX0 3 "led_to" ["Q","start","m","n"] (spLed)) (H_lowest_point:Has P w K mg base CX0 3 "lowest_point" ["P"] (spLowS K)):FnOk P w K mg base (XB P w) 6 f fd ["Q","P","m","n"] (spByX t.c8 t.c9 t.c10):=by
 obtain ⟨f_refuse_flat,d_refuse_flat,G_refuse_flat,b_refuse_flat,k_refuse_flat,m_refuse_flat⟩:=H_refuse_flat
 obtain ⟨f_point_on,d_point_on,G_point_on,b_point_on,k_point_on,m_point_on⟩:=H_point_on
 obtain ⟨f_led_to,d_led_to,G_led_to,b_led_to,k_led_to,m_led_to⟩:=H_led_to
 obtain ⟨f_lowest_point,d_lowest_point,G_lowest_point,b_lowest_point,k_lowest_point,m_lowest_point⟩:=H_lowest_point
 replace G_refuse_flat:=G_refuse_flat.up (CX':=XB P w) fun _ _ _ _ _ _ z=>.inl z
 replace G_point_on:=G_point_on.up (CX':=XB P w) fun _ _ _ _ _ _ z=>.inr z
 refine F.okB sc_point_by (fun vs H Q E h=>?_) (fun cdv A outer s H vs Q E hr h=>?_)
 ·obtain ⟨_,_,_,_,_,_,rfl,_⟩:=h
  rfl
 obtain ⟨q',p,F,P0,m,n,rfl,hq,hp,bf,bp,bm,bn,qF,qO,qP,qN⟩:=h
 have hr_refuse_flat:=hr.mono (show 5<=5 by decide)
 have hr_point_on:=hr.mono (show 4<=5 by decide)
 have hr_led_to:=hr.mono (show 3<=5 by decide)
 have hr_lowest_point:=hr.mono (show 3<=5 by decide)
 refine ⟨_,pss_cons (ps_expr (pe_call G_refuse_flat hr_refuse_flat rfl m_refuse_flat k_refuse_flat b_refuse_flat .nil passB (pa_cons (pv 0) pa_nil)))
  (pss_cons (ps_set (i:=4) sc_point_by.nd rfl (Or.inl rfl) (pe_call G_point_on hr_point_on rfl m_point_on k_point_on b_point_on .nil passB (pa_cons (pv 0) (pa_cons (pv 1) pa_nil))))
  (pss_cut (ps_if (PW.pt (pw_and (pt_cmpR op_eq (pv 2) pe_int (nomark _)) (pw_and1 (pt_cmpR op_eq (pv 3) pe_int (nomark _))))) (pss_one (PS.up (ps_raise T.m_NoPair T.x_NoPair rfl (pa_cons pe_str pa_nil)) (fun _ _ _ _ _ _ z=>Or.inr z))) pss_nil)
  (pss_one (PS.nox (ps_ret (pe_call G_lowest_point hr_lowest_point rfl m_lowest_point k_lowest_point b_lowest_point .nil pass0 (pa_cons (pe_call G_led_to hr_led_to rfl m_led_to k_led_to b_led_to .nil pass0 (pa_cons (pv 0) (pa_cons (pv 4) (pa_cons (pv 2) (pa_cons (pv 3) pa_nil))))) pa_nil))))))),?_⟩
 refine ⟨_,rfl,q',F,rfl,hq,bf.mono,fun ns=>?_,qF⟩
 refine ⟨_,rfl,_,rfl,q',p,F,P0,rfl,hq,hp,bf.mono,bp.mono',fun P' d s0 H1 n3 w0 e d0 low g1 hs=>?_,fun no H1 g1=>qO ns no H1 g1⟩
 have hq1:=g1 _ _ hq
 have on:wo F P'=0:=wo_of_tm d0 (by rw [<- e]; exact w0)
 have bP:BP 130 P':=bp_div d0 (e ▸ bp)
 refine ⟨fun σ' H'=>σ'=[some (.ref q'),some (.ref p),some (.int m),some (.int n),some (.ref s0)]/\H1=H'/\¬ (m=0/\n=0),?_,?_⟩
 ·refine ⟨_,rfl,rfl,_,rfl,ite2 (fun c=>?_) (fun c=>?_)⟩
  ·have m0:m=0:=int_inj (decT c)
   refine ⟨_,rfl,rfl,_,rfl,ite2 (fun c=>?_) (fun c=>?_)⟩
   ·have n0:n=0:=int_inj (decT c)
    exact ⟨(by show 1<=sizeLine; decide),qP ns ⟨n3,w0⟩ ⟨m0,n0⟩ _ g1⟩
   ·exact ⟨rfl,rfl,fun z=>decF c (congrArg V.int z.2)⟩
  ·exact iteF ⟨rfl,rfl,fun z=>decF c (congrArg V.int z.1)⟩
 rintro _ _ ⟨rfl,rfl,mn⟩
 have bm2:Bd 262 m:=bm.mono (by decide)
 have bn2:Bd 262 n:=bn.mono (by decide)
 refine ⟨_,rfl,_,rfl,_,rfl,_,rfl,q',s0,F,P',m,n,rfl,hq1,hs,low,bf,bP,bm2,bn2,fun z6 H11 g11 h12=>?_⟩
 have bD:BP 262 (dr P' m n):=bp_dr bm2 bn2
 have nD:=dr_off (P:=P') (m:=m) (n:=n) low.n3 (by omega)
 generalize dr P' m n=D at h12 bD nD
 have bw:=(bd_wo bf bD).mono (show 100+(262+262)+5<=629 by decide)
 have bb:=(bd_bl bf (bP.mono' (k:=262)) bD).mono (show 100+(262+262)+5<=629 by decide)
 have bk:BP 892 (mk F P' D):=bp_ad ((bp_tm bw bP).mono' (k:=891)) ((bp_tm (bd_neg bb) bD).mono' (k:=891))
 have nk:=mk_nz ns nD on
 exact ⟨false,z6,_,_,_,rfl,SqT.of h12,in3_of bk.mono',nk,fun r H12 a b c d' g12 hr o2 p2 d2 ex ey ez=>qN ns ⟨n3,w0⟩ mn r H12 (g1.trans (g11.trans g12))⟩
theorem ok_numbers_of {f:Addr} {fd:FuncData} (F:Fun K "numbers_of" "numbers_of" s_numbers_of f fd) (T:Txt K mg t) (H_refuse_flat:Has P w K mg base (XD P w) 5 "refuse_flat" ["Q"] (spRfX t.c8)) (H_point_on:Has P w K mg base (XF P w) 4 "point_on" ["Q","P"] (spOnX t.c9)) (H_slopes_of:Has P w K mg base CX0 1 "slopes_of" ["Q"] (spSl)) (H_turned_by:Has P w K mg base CX0 2 "turned_by" ["table","P"] (spTbK K)) (H_crossing_of:Has P w K mg base CX0 1 "crossing_of" ["one","other"] (spCrK K)) (H_last_of:Has P w K mg base CX0 1 "last_of" ["point"] (spLast)) (H_lowest_point:Has P w K mg base CX0 3 "lowest_point" ["P"] (spLowS K)):FnOk P w K mg base (XB P w) 6 f fd ["Q","P","other"] (spNumX t.c8 t.c9):=by
 obtain ⟨f_refuse_flat,d_refuse_flat,G_refuse_flat,b_refuse_flat,k_refuse_flat,m_refuse_flat⟩:=H_refuse_flat
 obtain ⟨f_point_on,d_point_on,G_point_on,b_point_on,k_point_on,m_point_on⟩:=H_point_on
 obtain ⟨f_slopes_of,d_slopes_of,G_slopes_of,b_slopes_of,k_slopes_of,m_slopes_of⟩:=H_slopes_of
 obtain ⟨f_turned_by,d_turned_by,G_turned_by,b_turned_by,k_turned_by,m_turned_by⟩:=H_turned_by
 obtain ⟨f_crossing_of,d_crossing_of,G_crossing_of,b_crossing_of,k_crossing_of,m_crossing_of⟩:=H_crossing_of
 obtain ⟨f_last_of,d_last_of,G_last_of,b_last_of,k_last_of,m_last_of⟩:=H_last_of
 obtain ⟨f_lowest_point,d_lowest_point,G_lowest_point,b_lowest_point,k_lowest_point,m_lowest_point⟩:=H_lowest_point
 replace G_refuse_flat:=G_refuse_flat.up (CX':=XB P w) fun _ _ _ _ _ _ z=>.inl z
 replace G_point_on:=G_point_on.up (CX':=XB P w) fun _ _ _ _ _ _ z=>.inr z
 refine F.okB sc_numbers_of (fun vs H Q E h=>?_) (fun cdv A outer s H vs Q E hr h=>?_)
 ·obtain ⟨_,_,_,_,_,_,rfl,_⟩:=h
  rfl
 obtain ⟨q',p,o,F,P0,R0,rfl,hq,hp,ho,bf,bP0,bR0,qF,qO,qR,qN⟩:=h
 have hr_refuse_flat:=hr.mono (show 5<=5 by decide)
 have hr_point_on:=hr.mono (show 4<=5 by decide)
 have hr_slopes_of:=hr.mono (show 1<=5 by decide)
 have hr_turned_by:=hr.mono (show 2<=5 by decide)
 have hr_crossing_of:=hr.mono (show 1<=5 by decide)
 have hr_last_of:=hr.mono (show 1<=5 by decide)
 have hr_lowest_point:=hr.mono (show 3<=5 by decide)
 have hu64:=hu64_of hr
 refine ⟨_,pss_cons (ps_expr (pe_call G_refuse_flat hr_refuse_flat rfl m_refuse_flat k_refuse_flat b_refuse_flat .nil passB (pa_cons (pv 0) pa_nil)))
  (pss_cons (ps_set (i:=3) sc_numbers_of.nd rfl (Or.inl rfl) (pe_call G_point_on hr_point_on rfl m_point_on k_point_on b_point_on .nil passB (pa_cons (pv 0) (pa_cons (pv 1) pa_nil))))
  (pss_cons (ps_set (i:=4) sc_numbers_of.nd rfl (Or.inl rfl) (pe_call G_point_on hr_point_on rfl m_point_on k_point_on b_point_on .nil passB (pa_cons (pv 0) (pa_cons (pv 2) pa_nil))))
  (pss_cut (PS.nox (ps_set (i:=5) sc_numbers_of.nd rfl (Or.inl rfl) (pe_ifExp (pt_cmpR (op_eqD hu64) (pv 4) (pv 3) (nomark _)) (pe_call G_turned_by hr_turned_by rfl m_turned_by k_turned_by b_turned_by .nil pass0 (pa_cons (pe_call G_slopes_of hr_slopes_of rfl m_slopes_of k_slopes_of b_slopes_of .nil pass0 (pa_cons (pv 0) pa_nil)) (pa_cons (pv 3) pa_nil))) (pe_call G_crossing_of hr_crossing_of rfl m_crossing_of k_crossing_of b_crossing_of .nil pass0 (pa_cons (pv 3) (pa_cons (pv 4) pa_nil))))))
  (pss_cons (PS.nox (ps_set (i:=6) sc_numbers_of.nd rfl (Or.inl rfl) (pe_call G_last_of hr_last_of rfl m_last_of k_last_of b_last_of .nil pass0 (pa_cons (pv 3) pa_nil))))
  (pss_cons (PS.nox (ps_set (i:=7) sc_numbers_of.nd rfl (Or.inl rfl) (pe_ix ix_tup (pe_glob (v:=.ref t.gWAYS) rfl T.m_WAYS rfl) (pv 6) (fun _ _=>rfl))))
  (pss_cons (PS.nox (ps_set (i:=8) sc_numbers_of.nd rfl (Or.inl rfl) (pe_call G_lowest_point hr_lowest_point rfl m_lowest_point k_lowest_point b_lowest_point .nil pass0 (pa_cons (pe_call G_crossing_of hr_crossing_of rfl m_crossing_of k_crossing_of b_crossing_of .nil pass0 (pa_cons (pv 5) (pa_cons (pe_ix ix_tup (pe_glob (v:=.ref t.gAXES) rfl T.m_AXES rfl) (pv 6) (fun _ _=>rfl)) pa_nil))) pa_nil))))
  (pss_one (PS.nox (ps_ret (pe_tup (pa_cons (pe_ix ix_tup (pv 8) (pe_ix ix_tup (pv 7) pe_int (fun _ _=>rfl)) (fun _ _=>rfl)) (pa_cons (pe_ix ix_tup (pv 8) (pe_ix ix_tup (pv 7) pe_int (fun _ _=>rfl)) (fun _ _=>rfl)) pa_nil)))))))))))),?_⟩
 refine ⟨_,rfl,q',F,rfl,hq,bf.mono,fun ns=>?_,qF⟩
 refine ⟨_,rfl,_,rfl,q',p,F,P0,rfl,hq,hp,bf.mono,bP0.mono',fun P' d s0 H1 n3 w0 eP d0 lP g1 hs=>?_,fun no H1 g1=>qO ns no H1 g1⟩
 refine ⟨_,rfl,_,rfl,q',o,F,R0,rfl,g1 _ _ hq,g1 _ _ ho,bf.mono,bR0.mono',fun R' e s1 H2 n3' w0' eR e0 lR g2 hs1=>?_,fun no H2 g2=>qR ns ⟨n3,w0⟩ no H2 (g1.trans g2)⟩
 have onP:wo F P'=0:=wo_of_tm d0 (by rw [<- eP]; exact w0)
 have bP:BP 130 P':=bp_div d0 (eP ▸ bP0)
 have bR:BP 130 R':=bp_div e0 (eR ▸ bR0)
 have g12:=g1.trans g2
 have hq2:=g12 _ _ hq
 have hs2:S3 H2 s0 P':=g2 _ _ hs
 refine ⟨fun σ' H'=>∃ li:Addr,σ'=[some (.ref q'),some (.ref p),some (.ref o),some (.ref s0),some (.ref s1),some (.ref li),none,none,none]/\Same H2 H'/\S3 H' li (ln F P' R'),?_,?_⟩
 ·refine ⟨_,rfl,_,rfl,_,_,DA3 hs1,DA3 hs2,rfl,rfl,_,rfl,?_⟩
  rw [eqv3]
  unfold ln
  by_cases c:R'=P'
  ·rw [decide_eq_true c,if_pos c]
   exact iteT ⟨_,rfl,q',F,rfl,hq2,fun sr H3 g3 h3=>⟨_,rfl,sr,s0,sl F,P',rfl,h3,SqT.of (g3 _ _ hs2),(bd_sl bf).mono,bP.mono',fun z H4 g4 _ h4=>⟨z,rfl,g3.trans g4,h4⟩⟩⟩
  ·rw [decide_eq_false c,if_neg c]
   exact iteF ⟨_,rfl,_,rfl,s0,s1,P',R',rfl,SqT.of hs2,SqT.of hs1,bP.mono',bR.mono',fun z H4 g4 h4=>⟨z,rfl,g4,h4⟩⟩
 rintro _ H3 ⟨li,rfl,g3,hl⟩
 have bl':BP 740 (ln F P' R'):=by
  unfold ln
  split
  ·exact (bd_tb (bd_sl bf) bP).mono'
  ·exact (bd_cr2 bP bR).mono'
 have nl:=ax_off lP.n3 (ln_nz ns lP lR) (ln_P (R:=R') onP)
 generalize ln F P' R'=ll at hl bl' nl
 refine ⟨_,rfl,s0,P',rfl,g3 _ _ hs2,lP.n3,fun H4 g4=>?_⟩
 obtain ⟨wr,A',a0,a1,w1,w2,x1,x2,bA,nm⟩:∃ (wr A':Addr) (a0 a1:Int),atI [V.ref t.gWAYS_0,.ref t.gWAYS_1,.ref t.gWAYS_2] (lst P')=some (.ref wr)/\TupK K wr [.int a0,.int a1]/\atI [V.ref t.gAXES_0,.ref t.gAXES_1,.ref t.gAXES_2] (lst P')=some (.ref A')/\TupK K A' (v3 (ax P'))/\BP 900 (ax P') /\
   ∀ D:P3,atI (v3 D) a0=some (.int (nm1 P' D))/\atI (v3 D) a1=some (.int (nm2 P' D)):=by
  unfold lst ax nm1 nm2
  by_cases c1:P'.z ≠ 0
  ·simp only [if_pos c1]
   exact ⟨_,_,0,1,rfl,T.k_WAYS_2,rfl,T.k_AXES_2,⟨bd0,bd0,bd1⟩,fun D=>⟨rfl,rfl⟩⟩
  ·simp only [if_neg c1]
   by_cases c2:P'.y ≠ 0
   ·simp only [if_pos c2]
    exact ⟨_,_,0,2,rfl,T.k_WAYS_1,rfl,T.k_AXES_1,⟨bd0,bd1,bd0⟩,fun D=>⟨rfl,rfl⟩⟩
   ·simp only [if_neg c2]
    exact ⟨_,_,1,2,rfl,T.k_WAYS_0,rfl,T.k_AXES_0,⟨bd1,bd0,bd0⟩,fun D=>⟨rfl,rfl⟩⟩
 refine ⟨_,rfl,t.gWAYS,_,_,_,rfl,rfl,T.k_WAYS.sq _,w1,?_⟩
 refine ⟨_,rfl,_,rfl,t.gAXES,_,_,_,rfl,rfl,T.k_AXES.sq _,x1,li,A',ll,ax P',rfl,SqT.of (g4 _ _ hl),x2.sq _,bl'.mono',bA,fun z H5 g5 h5=>?_⟩
 refine ⟨false,z,_,_,_,rfl,SqT.of h5,in3_of ((bp_ax P' bl').mono' (k:=900)),nl,fun r H6 a b c d' g6 hr6 o2 p2 d2 ex ey ez=>?_⟩
 have h6:H6 r=some (.tup (v3 ⟨a,b,c⟩)):=hr6
 obtain ⟨i1,i2⟩:=nm ⟨a,b,c⟩
 exact ⟨_,rfl,_,rfl,wr,_,_,_,rfl,rfl,w2.sq _,rfl,r,_,_,_,rfl,rfl,SqT.of h6,i1,_,rfl,_,rfl,wr,_,_,_,rfl,rfl,w2.sq _,rfl,r,_,_,_,rfl,rfl,SqT.of h6,i2,(by show 2<=sizeLine; decide),fun y ny=>qN ns ⟨n3,w0⟩ ⟨n3',w0'⟩ y _ (g12.trans (g3.trans (g4.trans (g5.trans (g6.trans (same_new ny _))))))⟩
theorem ok_alone {f:Addr} {fd:FuncData} (F:Fun K "_law_alone" "_law_alone" s_alone f fd) (T:Txt K mg t) :FnOkQ P w K mg base 1 f fd ["_law_e"] (spAl4 t.c8 t.c9 t.c10 t.c11):=by
 refine F.okQ sc_alone (fun vs H Q E h=>?_) (fun cdv A outer s H vs Q E hr h=>?_)
 ·obtain ⟨_,_,rfl,_⟩:=h
  rfl
 obtain ⟨e,C,rfl,hw,he,q⟩:=h
 obtain ⟨b0,b1,b2,b3,b4,b5,b6,b7,b8,b9,b10,b11,b12,b13,b14,i0,i1,i2,i3,i4,i5,i6,i7,i8,i9,i10,i11,i12,i13,i14,ic,iv,X,eb⟩:∃ b0 b1 b2 b3 b4 b5 b6 b7 b8 b9 b10 b11 b12 b13 b14:Bool,W.kitOne K (.ref C) (.ref t.c0)=some b0/\W.kitOne K (.ref C) (.ref t.c1)=some b1/\W.kitOne K (.ref C) (.ref t.c2)=some b2/\W.kitOne K (.ref C) (.ref t.c3)=some b3/\W.kitOne K (.ref C) (.ref t.c4)=some b4/\W.kitOne K (.ref C) (.ref t.c5)=some b5/\W.kitOne K (.ref C) (.ref t.c6)=some b6/\W.kitOne K (.ref C) (.ref t.c7)=some b7/\W.kitOne K (.ref C) (.ref t.c8)=some b8/\W.kitOne K (.ref C) (.ref t.c9)=some b9/\W.kitOne K (.ref C) (.ref t.c10)=some b10/\W.kitOne K (.ref C) (.ref t.c11)=some b11/\W.kitOne K (.ref C) (.ref t.c12)=some b12/\W.kitOne K (.ref C) (.ref t.c13)=some b13/\W.kitOne K (.ref C) (.ref t.c14)=some b14/\W.kitOne K (.ref C) (.ref t.ce)=some true/\W.kitOne K (.ref C) (.type "ValueError")=some true/\ExcCls K C/\Spec.countIn (PyData.bool true) (List.map PyData.bool [b0,b1,b2,b3,b4,b5,b6,b7,b8,b9,b10,b11,b12,b13,b14])=1:=by
  rcases hw with rfl | rfl | rfl | rfl
  ·exact ⟨_,_,_,_,_,_,_,_,_,_,_,_,_,_,_,T.i_0,T.i_1,T.i_2,T.i_3,T.i_4,T.i_5,T.i_6,T.i_7,T.i_8,T.i_9,T.i_10,T.i_11,T.i_12,T.i_13,T.i_14,T.i_ce,T.i_ve,T.exc,rfl⟩
  ·exact ⟨_,_,_,_,_,_,_,_,_,_,_,_,_,_,_,T.i_0_2,T.i_1_2,T.i_2_2,T.i_3_2,T.i_4_2,T.i_5_2,T.i_6_2,T.i_7_2,T.i_8_2,T.i_9_2,T.i_10_2,T.i_11_2,T.i_12_2,T.i_13_2,T.i_14_2,T.i_ce_2,T.i_ve_2,T.exc_2,rfl⟩
  ·exact ⟨_,_,_,_,_,_,_,_,_,_,_,_,_,_,_,T.i_0_3,T.i_1_3,T.i_2_3,T.i_3_3,T.i_4_3,T.i_5_3,T.i_6_3,T.i_7_3,T.i_8_3,T.i_9_3,T.i_10_3,T.i_11_3,T.i_12_3,T.i_13_3,T.i_14_3,T.i_ce_3,T.i_ve_3,T.exc_3,rfl⟩
  ·exact ⟨_,_,_,_,_,_,_,_,_,_,_,_,_,_,_,T.i_0_4,T.i_1_4,T.i_2_4,T.i_3_4,T.i_4_4,T.i_5_4,T.i_6_4,T.i_7_4,T.i_8_4,T.i_9_4,T.i_10_4,T.i_11_4,T.i_12_4,T.i_13_4,T.i_14_4,T.i_ce_4,T.i_ve_4,T.exc_4,rfl⟩
 refine ⟨_,pss_cons (ps_set (i:=1) sc_alone.nd rfl (Or.inl rfl) (pe_lst (pa_isiS X (by rfl) (Or.inl (by rfl)) (by rfl) T.z_isinstance b_isi (.cons (by rfl) T.m_NoNumber (by decide) i0 (.cons (by rfl) T.m_NoBack (by decide) i1 (.cons (by rfl) T.m_NoJoin (by decide) i2 (.cons (by rfl) T.m_NoSign (by decide) i3 .nil)))))))
  (pss_cons (ps_set (i:=1) sc_alone.nd rfl (Or.inl rfl) (pe_op op_cat (pv 1) (pe_lst (pa_isiS X (by rfl) (Or.inl (by rfl)) (by rfl) T.z_isinstance b_isi (.cons (by rfl) T.m_NotPlain (by decide) i4 (.cons (by rfl) T.m_NoPlace (by decide) i5 (.cons (by rfl) T.m_BadPlace (by decide) i6 .nil)))))))
  (pss_cons (ps_set (i:=1) sc_alone.nd rfl (Or.inl rfl) (pe_op op_cat (pv 1) (pe_lst (pa_isiS X (by rfl) (Or.inl (by rfl)) (by rfl) T.z_isinstance b_isi (.cons (by rfl) T.m_NoVertex (by decide) i7 (.cons (by rfl) T.m_Flat (by decide) i8 (.cons (by rfl) T.m_OffCurve (by decide) i9 (.cons (by rfl) T.m_NoPair (by decide) i10 .nil))))))))
  (pss_cons (ps_set (i:=1) sc_alone.nd rfl (Or.inl rfl) (pe_op op_cat (pv 1) (pe_lst (pa_isiS X (by rfl) (Or.inl (by rfl)) (by rfl) T.z_isinstance b_isi (.cons (by rfl) T.m_NoLine (by decide) i11 (.cons (by rfl) T.m_NoText (by decide) i12 (.cons (by rfl) T.m_NoRow (by decide) i13 (.cons (by rfl) T.m_NoName (by decide) i14 .nil))))))))
  (pss_one (ps_ret (pe_and (pe_cmpR op_eq (pe_bm PySem.F.plainAttrs_list PySem.F.slot_list_count PySem.F.type_list_count mt_count (pv 1) (pa_cons pe_bl pa_nil)) pe_int (nomark _))
   (pe_and (pe_callB (call_isiS rfl) rfl T.z_isinstance b_isi (pa_cons (pv 0) (pa_cons (pe_glob (v:=.ref t.ce) rfl T.m_CurveError rfl) pa_nil))) (pe_one (pe_callB (call_isiS rfl) rfl T.z_isinstance b_isi (pa_cons (pv 0) (pa_cons (pe_bltn (v:=.ty "ValueError") rfl T.z_ValueError b_ValueError rfl) pa_nil))))))))))),?_⟩
 refine ⟨e,rfl,he,(by show 4<=sizeLine; decide),fun p1 n1=>?_⟩
 have g1:=same_new n1 (.lst ([b0,b1,b2,b3].map V.bl))
 have he1:=he.same g1
 refine ⟨_,rfl,e,rfl,he1,(by show 3<=sizeLine; decide),fun p2 n2=>?_⟩
 have g2:=same_new n2 (.lst ([b4,b5,b6].map V.bl))
 refine ⟨p1,p2,_,_,rfl,rfl,g2 _ _ upd_same,upd_same,(by show 7<=sizeLine; decide),fun p3 n3=>?_⟩
 have g3:=g2.trans (same_new n3 (.lst ([b0,b1,b2,b3].map V.bl ++ [b4,b5,b6].map V.bl)))
 have he3:=he1.same g3
 refine ⟨_,rfl,e,rfl,he3,(by show 4<=sizeLine; decide),fun p4 n4=>?_⟩
 have g4:=same_new n4 (.lst ([b7,b8,b9,b10].map V.bl))
 refine ⟨p3,p4,_,_,rfl,rfl,g4 _ _ upd_same,upd_same,(by show 11<=sizeLine; decide),fun p5 n5=>?_⟩
 have g5:=g4.trans (same_new n5 (.lst ([b0,b1,b2,b3].map V.bl ++ [b4,b5,b6].map V.bl ++ [b7,b8,b9,b10].map V.bl)))
 have he5:=he3.same g5
 refine ⟨_,rfl,e,rfl,he5,(by show 4<=sizeLine; decide),fun p6 n6=>?_⟩
 have g6:=same_new n6 (.lst ([b11,b12,b13,b14].map V.bl))
 refine ⟨p5,p6,_,_,rfl,rfl,g6 _ _ upd_same,upd_same,(by show 15<=sizeLine; decide),fun p7 n7=>?_⟩
 have g7:=g6.trans (same_new n7 (.lst ([b0,b1,b2,b3].map V.bl ++ [b4,b5,b6].map V.bl ++ [b7,b8,b9,b10].map V.bl ++ [b11,b12,b13,b14].map V.bl)))
 have he7:=he5.same g7
 refine ⟨_,rfl,.inl ⟨rfl,_,SqL.of upd_same⟩,p7,[b0,b1,b2,b3,b4,b5,b6,b7,b8,b9,b10,b11,b12,b13,b14],true,rfl,rfl,upd_same,?_⟩
 rw [eb]
 refine ⟨rfl,_,rfl,iteT ?_⟩
 refine ⟨_,rfl,_,_,_,_,rfl,.inl ⟨_,rfl⟩,he7.ty X,ic,_,rfl,iteT ?_⟩
 exact ⟨_,rfl,_,_,_,_,rfl,.inr ⟨_,rfl⟩,he7.ty X,iv,q _ (g1.trans (g3.trans (g5.trans g7)))⟩
theorem ok_vertex {f:Addr} {fd:FuncData} (F:Fun K "_law_vertex" "_law_vertex" s_vertex f fd) (T:Txt K mg t) (H_is_spot:HasS P w K mg base 3 "_law_is_spot" ["_law_found"] (spIsSpot)):FnOkS P w K mg base 4 f fd ["_law_form_here","_law_spot_here"] (spVt54):=by
 obtain ⟨f_is_spot,d_is_spot,G_is_spot,b_is_spot,k_is_spot,m_is_spot⟩:=H_is_spot
 refine F.okS sc_vertex (fun vs H Q E h=>?_) (fun cdv A outer s H fz vs Q E hr h=>?_)
 ·obtain ⟨_,_,_,_,rfl,_⟩:=h
  rfl
 obtain ⟨p,r,F,R,rfl,hp,hR,bf,bR,lR,kR,q⟩:=h
 have hr_is_spot:=hr.mono (show 3<=3 by decide)
 refine ⟨_,pss_cons (ps_if (pt_not (pt_val (pe_callS G_is_spot hr_is_spot rfl rfl m_is_spot k_is_spot b_is_spot .nil (pa_cons (pv 1) pa_nil)) (fun _=>rfl))) (pss_one (ps_ret pe_bl)) pss_nil)
  (pss_cons (ps_asg (pv 0) (pg_tup rfl (pgs_cons (pg_name (i:=2) sc_vertex.nd rfl (Or.inl rfl)) (pgs_cons (pg_name (i:=3) sc_vertex.nd rfl (Or.inl rfl)) (pgs_cons (pg_name (i:=4) sc_vertex.nd rfl (Or.inl rfl)) (pgs_cons (pg_name (i:=5) sc_vertex.nd rfl (Or.inl rfl)) (pgs_cons (pg_name (i:=6) sc_vertex.nd rfl (Or.inl rfl)) (pgs_cons (pg_name (i:=7) sc_vertex.nd rfl (Or.inl rfl)) pgs_nil))))))))
  (pss_cons (ps_asg (pv 1) (pg_tup rfl (pgs_cons (pg_name (i:=8) sc_vertex.nd rfl (Or.inl rfl)) (pgs_cons (pg_name (i:=9) sc_vertex.nd rfl (Or.inl rfl)) (pgs_cons (pg_name (i:=10) sc_vertex.nd rfl (Or.inl rfl)) pgs_nil)))))
  (pss_one (ps_ret (pe_and (pe_cmpR op_eq (pe_op op_add (pe_op op_add (pe_op op_mulG (pe_op op_mulG pe_int (pv 2)) (pv 8)) (pe_op op_mulG (pv 7) (pv 9))) (pe_op op_mulG (pv 6) (pv 10))) pe_int (nomark _)) (pe_and (pe_cmpR op_eq (pe_op op_add (pe_op op_add (pe_op op_mulG (pv 7) (pv 8)) (pe_op op_mulG (pe_op op_mulG pe_int (pv 3)) (pv 9))) (pe_op op_mulG (pv 5) (pv 10))) pe_int (nomark _)) (pe_one (pe_cmpR op_eq (pe_op op_add (pe_op op_add (pe_op op_mulG (pv 6) (pv 8)) (pe_op op_mulG (pv 5) (pv 9))) (pe_op op_mulG (pe_op op_mulG pe_int (pv 4)) (pv 10))) pe_int (nomark _))))))))),?_⟩
 refine ⟨_,rfl,r,R,rfl,hR,lR,bR,fun H1 g1=>⟨_,rfl,iteF ?_⟩⟩
 have hp1:H1 p=some (.tup [.int F.a,.int F.b,.int F.c,.int F.d,.int F.e,.int F.f]):=g1 _ _ hp
 have hR1:H1 r=some (.tup [.int R.x,.int R.y,.int R.z]):=g1 _ _ hR
 simp only [tb,sl,rp,P3.mk.injEq] at kR
 obtain ⟨k1,k2,k3⟩:=kR
 refine ⟨_,rfl,p,_,rfl,SqT.of hp1,rfl,_,_,rfl,_,_,rfl,_,_,rfl,_,_,rfl,_,_,rfl,_,_,rfl,rfl,?_⟩
 refine ⟨_,rfl,r,_,rfl,SqT.of hR1,rfl,_,_,rfl,_,_,rfl,_,_,rfl,rfl,?_⟩
 refine ⟨_,rfl,_,_,rfl,rfl,ok2,_,rfl,_,_,rfl,rfl,okM (bd_two bf.a) bR.x,_,rfl,_,rfl,_,_,rfl,rfl,okM bf.f bR.y,_,_,rfl,rfl,_,rfl,_,rfl,_,_,rfl,rfl,okM bf.e bR.z,_,_,rfl,rfl,rfl,_,rfl,iteDT (congrArg V.int k1) ?_⟩
 refine ⟨_,rfl,_,rfl,_,_,rfl,rfl,okM bf.f bR.x,_,rfl,_,_,rfl,rfl,ok2,_,rfl,_,_,rfl,rfl,okM (bd_two bf.b) bR.y,_,_,rfl,rfl,_,rfl,_,rfl,_,_,rfl,rfl,okM bf.d bR.z,_,_,rfl,rfl,rfl,_,rfl,iteDT (congrArg V.int k2) ?_⟩
 refine ⟨_,rfl,_,rfl,_,_,rfl,rfl,okM bf.e bR.x,_,rfl,_,rfl,_,_,rfl,rfl,okM bf.d bR.y,_,_,rfl,rfl,_,rfl,_,_,rfl,rfl,ok2,_,rfl,_,_,rfl,rfl,okM (bd_two bf.c) bR.z,_,_,rfl,rfl,rfl,?_⟩
 rw [decide_eq_true (congrArg V.int k3)]
 exact q _ g1
theorem ok_off {f:Addr} {fd:FuncData} (F:Fun K "_law_off" "_law_off" s_off f fd) (T:Txt K mg t) (H_worth:Has P w K mg base CX0 1 "_law_worth" ["_law_form_here","_law_spot_here"] (spLw)):FnOk P w K mg base CX0 2 f fd ["_law_form_here","_law_spot_here"] (spOff54):=by
 obtain ⟨f_worth,d_worth,G_worth,b_worth,k_worth,m_worth⟩:=H_worth
 refine F.ok sc_off (fun vs H Q E h=>?_) (fun cdv A outer s H vs Q E hr h=>?_)
 ·obtain ⟨_,_,_,_,rfl,_⟩:=h
  rfl
 obtain ⟨q',p,F,P',rfl,hF,hP,bf,bP,q⟩:=h
 have hr_worth:=hr.mono (show 1<=1 by decide)
 have hu64:=hu64_of hr
 refine ⟨_,pss_one (ps_ret (pe_or (pe_cmpR (op_eqD hu64) (pv 1) (pe_tup (pa_cons pe_int (pa_cons pe_int (pa_cons pe_int pa_nil)))) (nomark _)) (pe_one (pe_cmpR op_ne (pe_call G_worth hr_worth rfl m_worth k_worth b_worth .nil pass0 (pa_cons (pv 0) (pa_cons (pv 1) pa_nil))) pe_int (nomark _))))),?_⟩
 refine ⟨_,rfl,(by show 3<=sizeLine; decide),fun z nz=>?_⟩
 have gz:=same_new nz (t3 ⟨0,0,0⟩)
 refine ⟨_,_,DA3 (gz _ _ hP),DA3 (P:=⟨0,0,0⟩) upd_same,rfl,rfl,?_⟩
 rw [eqv3]
 by_cases c:P'=⟨0,0,0⟩
 ·rw [decide_eq_true c]
  have:=q _ gz
  rw [decide_eq_true (show ¬ Okp F P' from fun z=>by have:=z.1; rw [c] at this; unfold N3 at this; simp at this)] at this
  exact ⟨_,rfl,iteT this⟩
 ·rw [decide_eq_false c]
  have n3:N3 P':=Classical.byContradiction fun n=>c (n3_not n)
  refine ⟨_,rfl,iteF ⟨_,rfl,_,rfl,q',p,F,P',rfl,gz _ _ hF,gz _ _ hP,bf.mono,bP.mono',rfl,?_⟩⟩
  have:=q _ gz
  by_cases w0:wo F P'=0
  ·rw [decide_eq_false (show ¬ ¬ Okp F P' from fun z=>z ⟨n3,w0⟩)] at this
   rw [lw_eq,decide_eq_true (congrArg V.int w0)]
   exact this
  ·rw [decide_eq_true (show ¬ Okp F P' from fun z=>w0 z.2)] at this
   rw [lw_eq,decide_eq_false (fun z=>w0 (int_inj z))]
   exact this
theorem ok_due {f:Addr} {fd:FuncData} (F:Fun K "_law_due" "_law_due" s_due f fd) (T:Txt K mg t) (H_off:Has P w K mg base CX0 2 "_law_off" ["_law_form_here","_law_spot_here"] (spOff54)):FnOk P w K mg base CX0 3 f fd ["_law_deed","_law_flat_here","_law_form_here","_law_spot_here","_law_other","_law_pair_here","_law_line"] (spDue54):=by
 obtain ⟨f_off,d_off,G_off,b_off,k_off,m_off⟩:=H_off
 refine F.ok sc_due (fun vs H Q E h=>?_) (fun cdv A outer s H vs Q E hr h=>?_)
 ·obtain ⟨_,_,_,_,_,_,_,_,_,_,_,_,rfl,_⟩:=h
  rfl
 obtain ⟨k,q',p,o,pp,lr,F,P',R',m,n,l,rfl,hk,ar,q⟩:=h
 have hr_off:=hr.mono (show 2<=2 by decide)
 have hu64:=hu64_of hr
 obtain ⟨hF,hP,hR,hpp,hl,bf,bP,bR,bm,bn,bl'⟩:=ar
 refine ⟨_,pss_cons (ps_if (pt_val (pv 1) (fun _=>rfl)) (pss_one (ps_ret pe_str)) pss_nil)
  (pss_cons (ps_if (PW.pt (pw_and (pt_cmpR op_lt (pv 0) pe_int (nomark _)) (pw_and1 (pt_val (pe_call G_off hr_off rfl m_off k_off b_off .nil pass0 (pa_cons (pv 2) (pa_cons (pv 3) pa_nil))) (fun _=>rfl))))) (pss_one (ps_ret pe_str)) pss_nil)
  (pss_cons (ps_if (PW.pt (pw_and (pt_cmpR op_eq (pv 0) pe_int (nomark _)) (pw_and1 (pt_cmpR (op_eqD hu64) (pv 5) (pe_tup (pa_cons pe_int (pa_cons pe_int pa_nil))) (nomark _))))) (pss_one (ps_ret pe_str)) pss_nil)
  (pss_cons (ps_if (PW.pt (pw_and (pt_cmpR op_eq (pv 0) pe_int (nomark _)) (pw_and1 (pt_val (pe_call G_off hr_off rfl m_off k_off b_off .nil pass0 (pa_cons (pv 2) (pa_cons (pv 4) pa_nil))) (fun _=>rfl))))) (pss_one (ps_ret pe_str)) pss_nil)
  (pss_cons (ps_if (PW.pt (pw_and (pt_cmpR op_eq (pv 0) pe_int (nomark _)) (pw_and1 (pt_cmpR (op_eqD hu64) (pv 6) (pe_tup (pa_cons pe_int (pa_cons pe_int (pa_cons pe_int pa_nil)))) (nomark _))))) (pss_one (ps_ret pe_str)) pss_nil)
  (pss_one (ps_ret pe_str)))))),?_⟩
 refine ⟨_,rfl,_,rfl,ite2 (fun c=>?_) (fun c=>?_)⟩
 ·have c':sz F=0:=of_decide_eq_true c
  have:=q _ (Same.refl _)
  unfold dueS at this
  rw [if_pos c'] at this
  exact this
 have ns:sz F ≠ 0:=of_decide_eq_false (Bool.eq_false_iff.mpr c)
 have q2:∀ H',Same H H'->Q (.str (if k < 2/\¬ Okp F P' then "off" else if k=0/\m=0/\n=0 then "pair" else if k=1/\¬ Okp F R' then "off" else if k=2/\¬ N3 l then "line" else "")) H':=fun H' g=>by
  have:=q H' g
  unfold dueS at this
  rwa [if_neg ns] at this
 clear q
 have e2:PyData.eqv (.tuple [.int m,.int n]) (.tuple [.int 0,.int 0])=decide (m=0/\n=0):=by
  show ((m == 0) && ((n == 0) && true))=_
  by_cases a:m=0 <;> by_cases b:n=0 <;> simp [a,b]
 have hz:∀ x:P3,decide (x=⟨0,0,0⟩)=decide (¬ N3 x):=fun x=>by
  by_cases c:x=⟨0,0,0⟩
  ·rw [decide_eq_true c,decide_eq_true]
   intro z
   rw [c] at z
   unfold N3 at z
   simp at z
  ·rw [decide_eq_false c,decide_eq_false]
   exact fun z=>c (n3_not z)
 rcases hk with rfl | rfl | rfl
 ·refine ⟨_,rfl,_,_,rfl,rfl,_,rfl,iteT ⟨_,rfl,_,rfl,q',p,F,P',rfl,hF,hP,bf,bP,fun H1 g1=>⟨_,rfl,?_⟩⟩⟩
  by_cases c1:Okp F P'
  ·rw [decide_eq_false (fun z:¬ Okp F P'=>z c1)]
   refine iteF ⟨_,rfl,rfl,_,rfl,iteT ⟨_,rfl,(by show 2<=sizeLine; decide),fun z nz=>?_⟩⟩
   have gz:=same_new nz (.tup [.int 0,.int 0])
   refine ⟨_,_,.tup (gz _ _ (g1 _ _ hpp)) (.cons .int (.cons .int .nil)),.tup upd_same (.cons .int (.cons .int .nil)),rfl,rfl,?_⟩
   rw [e2]
   have q3:=q2 _ (g1.trans gz)
   rw [if_neg (fun z=>z.2 c1)] at q3
   by_cases c2:m=0/\n=0
   ·rw [if_pos ⟨rfl,c2⟩] at q3
    rw [decide_eq_true c2]
    exact ⟨_,rfl,iteT q3⟩
   ·rw [if_neg (fun z=>c2 z.2),if_neg (fun z=>absurd z.1 (by decide)),if_neg (fun z=>absurd z.1 (by decide))] at q3
    rw [decide_eq_false c2]
    exact ⟨_,rfl,iteF ⟨_,rfl,rfl,_,rfl,iteF (iteF ⟨_,rfl,rfl,_,rfl,iteF (iteF q3)⟩)⟩⟩
  ·rw [decide_eq_true c1]
   have q3:=q2 _ g1
   rw [if_pos ⟨by decide,c1⟩] at q3
   exact iteT q3
 ·refine ⟨_,rfl,_,_,rfl,rfl,_,rfl,iteT ⟨_,rfl,_,rfl,q',p,F,P',rfl,hF,hP,bf,bP,fun H1 g1=>⟨_,rfl,?_⟩⟩⟩
  by_cases c1:Okp F P'
  ·rw [decide_eq_false (fun z:¬ Okp F P'=>z c1)]
   refine iteF ⟨_,rfl,rfl,_,rfl,iteF (iteF ⟨_,rfl,rfl,_,rfl,iteT ⟨_,rfl,_,rfl,q',o,F,R',rfl,g1 _ _ hF,g1 _ _ hR,bf,bR,fun H2 g2=>⟨_,rfl,?_⟩⟩⟩)⟩
   have q3:=q2 _ (g1.trans g2)
   rw [if_neg (fun z=>z.2 c1),if_neg (fun z=>absurd z.1 (by decide))] at q3
   by_cases c2:Okp F R'
   ·rw [if_neg (fun z=>z.2 c2),if_neg (fun z=>absurd z.1 (by decide))] at q3
    rw [decide_eq_false (fun z:¬ Okp F R'=>z c2)]
    exact iteF ⟨_,rfl,rfl,_,rfl,iteF (iteF q3)⟩
   ·rw [if_pos ⟨rfl,c2⟩] at q3
    rw [decide_eq_true c2]
    exact iteT q3
  ·rw [decide_eq_true c1]
   have q3:=q2 _ g1
   rw [if_pos ⟨by decide,c1⟩] at q3
   exact iteT q3
 ·refine ⟨_,rfl,_,_,rfl,rfl,_,rfl,iteF (iteF ⟨_,rfl,rfl,_,rfl,iteF (iteF ⟨_,rfl,rfl,_,rfl,iteF (iteF ⟨_,rfl,rfl,_,rfl,iteT ⟨_,rfl,(by show 3<=sizeLine; decide),fun z nz=>?_⟩⟩)⟩)⟩)⟩
  have gz:=same_new nz (t3 ⟨0,0,0⟩)
  refine ⟨_,_,DA3 (gz _ _ hl),DA3 (P:=⟨0,0,0⟩) upd_same,rfl,rfl,?_⟩
  rw [eqv3,hz]
  have q3:=q2 _ gz
  rw [if_neg (fun z=>absurd z.1 (by decide)),if_neg (fun z=>absurd z.1 (by decide)),if_neg (fun z=>absurd z.1 (by decide))] at q3
  by_cases c2:N3 l
  ·rw [if_neg (fun z=>z.2 c2)] at q3
   rw [decide_eq_false (fun z:¬ N3 l=>z c2)]
   exact ⟨_,rfl,iteF q3⟩
  ·rw [if_pos ⟨rfl,c2⟩] at q3
   rw [decide_eq_true c2]
   exact ⟨_,rfl,iteT q3⟩
theorem ok_told {f:Addr} {fd:FuncData} (F:Fun K "_law_told" "_law_told" s_told f fd) (T:Txt K mg t) (H_point_by:Has P w K mg base (XB P w) 6 "point_by" ["Q","P","m","n"] (spByX t.c8 t.c9 t.c10)) (H_numbers_of:Has P w K mg base (XB P w) 6 "numbers_of" ["Q","P","other"] (spNumX t.c8 t.c9)) (H_line_met:Has P w K mg base (XB P w) 6 "line_met" ["Q","line"] (spMetX t.c8 t.c11)) (H_alone:HasQ P w K mg base 1 "_law_alone" ["_law_e"] (spAl4 t.c8 t.c9 t.c10 t.c11)) (H_vertex:HasS P w K mg base 4 "_law_vertex" ["_law_form_here","_law_spot_here"] (spVt54)):FnOk P w K mg base CX0 7 f fd ["_law_deed","_law_form_here","_law_spot_here","_law_other","_law_pair_here","_law_line"] (spTold54):=by
 obtain ⟨f_point_by,d_point_by,G_point_by,b_point_by,k_point_by,m_point_by⟩:=H_point_by
 obtain ⟨f_numbers_of,d_numbers_of,G_numbers_of,b_numbers_of,k_numbers_of,m_numbers_of⟩:=H_numbers_of
 obtain ⟨f_line_met,d_line_met,G_line_met,b_line_met,k_line_met,m_line_met⟩:=H_line_met
 obtain ⟨f_alone,d_alone,G_alone,b_alone,k_alone,m_alone⟩:=H_alone
 obtain ⟨f_vertex,d_vertex,G_vertex,b_vertex,k_vertex,m_vertex⟩:=H_vertex
 refine F.ok sc_told (fun vs H Q E h=>?_) (fun cdv A outer s H vs Q E hr h=>?_)
 ·obtain ⟨_,_,_,_,_,_,_,_,_,_,_,_,rfl,_⟩:=h
  rfl
 obtain ⟨k,q',p,o,pp,lr,F,P',R',m,n,l,rfl,hk,ar,q⟩:=h
 have hr_point_by:=hr.mono (show 6<=6 by decide)
 have hr_numbers_of:=hr.mono (show 6<=6 by decide)
 have hr_line_met:=hr.mono (show 6<=6 by decide)
 have hr_vertex:=hr.q.mono (show 4<=6 by decide)
 have hq1:=(hr.q.mono (show 1<=6 by decide))
 obtain ⟨hF,hP,hR,hpp,hl,bf,bP,bR,bm,bn,bl'⟩:=ar
 refine ⟨_,pss_cons (ps_set (i:=6) sc_told.nd rfl (Or.inl rfl) pe_str)
  (pss_cons (ps_try4 (i:=7) (ptry_if (pt_cmpR op_eq (pv 0) pe_int (nomark _)) (ptry_call G_point_by hr_point_by rfl m_point_by k_point_by b_point_by (pa_cons (pv 1) (pa_cons (pv 2) (pa_cons (pe_ix ix_tup (pv 4) pe_int (fun _ _=>rfl)) (pa_cons (pe_ix ix_tup (pv 4) pe_int (fun _ _=>rfl)) pa_nil))))) (ptry_if (pt_cmpR op_eq (pv 0) pe_int (nomark _)) (ptry_call G_numbers_of hr_numbers_of rfl m_numbers_of k_numbers_of b_numbers_of (pa_cons (pv 1) (pa_cons (pv 2) (pa_cons (pv 3) pa_nil)))) (ptry_call G_line_met hr_line_met rfl m_line_met k_line_met b_line_met (pa_cons (pv 1) (pa_cons (pv 5) pa_nil))))) T.m_Flat rfl T.x_Flat T.m_OffCurve rfl T.x_OffCurve T.m_NoPair rfl T.x_NoPair T.m_NoLine rfl T.x_NoLine (mat_no T.x_OffCurve T.x_Flat T.n_OF) (mat_no T.x_NoPair T.x_Flat T.n_PF) (mat_noN T.x_NoPair T.x_OffCurve T.n_PO) (mat_no T.x_NoLine T.x_Flat T.n_LF) (mat_noN T.x_NoLine T.x_OffCurve T.n_LO) (mat_noN T.x_NoLine T.x_NoPair T.n_LP) sc_told.nd rfl rfl (fun ea o u=>(pss_one (ps_set (i:=6) sc_told.nd rfl (Or.inl rfl) (pe_ix (ixK_list (K:=K) rfl) (pe_lst (pa_cons pe_str (pa_cons pe_str pa_nil))) (pe_callTy call_int1 rfl T.z_int b_int (pa_cons (pe_and (pe_callQ G_alone (hq1.mark _) rfl m_alone k_alone b_alone .nil (pa_cons (pv 7) pa_nil)) (pe_one (pe_callS G_vertex (hr_vertex.mark _) rfl rfl m_vertex k_vertex b_vertex .nil (pa_cons (pv 1) (pa_cons (pe_xfldS K (pv 7)) pa_nil))))) pa_nil)) (fun _ _=>rfl))))) (fun ea=>(pss_one (ps_set (i:=6) sc_told.nd rfl (Or.inl rfl) (pe_ix (ixK_list (K:=K) rfl) (pe_lst (pa_cons pe_str (pa_cons pe_str pa_nil))) (pe_callTy call_int1 rfl T.z_int b_int (pa_cons (pe_callQ G_alone (hq1.mark _) rfl m_alone k_alone b_alone .nil (pa_cons (pv 7) pa_nil)) pa_nil)) (fun _ _=>rfl))))) (fun ea=>(pss_one (ps_set (i:=6) sc_told.nd rfl (Or.inl rfl) (pe_ix (ixK_list (K:=K) rfl) (pe_lst (pa_cons pe_str (pa_cons pe_str pa_nil))) (pe_callTy call_int1 rfl T.z_int b_int (pa_cons (pe_callQ G_alone (hq1.mark _) rfl m_alone k_alone b_alone .nil (pa_cons (pv 7) pa_nil)) pa_nil)) (fun _ _=>rfl))))) (fun ea=>(pss_one (ps_set (i:=6) sc_told.nd rfl (Or.inl rfl) (pe_ix (ixK_list (K:=K) rfl) (pe_lst (pa_cons pe_str (pa_cons pe_str pa_nil))) (pe_callTy call_int1 rfl T.z_int b_int (pa_cons (pe_callQ G_alone (hq1.mark _) rfl m_alone k_alone b_alone .nil (pa_cons (pv 7) pa_nil)) pa_nil)) (fun _ _=>rfl))))))
  (pss_one (ps_ret (pv 6)))),?_⟩
 rcases hk with rfl | rfl | rfl
 ·refine ⟨_,rfl,rfl,_,rfl,iteT ⟨_,rfl,_,rfl,_,rfl,pp,_,_,_,rfl,rfl,SqT.of hpp,rfl,_,rfl,pp,_,_,_,rfl,rfl,SqT.of hpp,rfl,q',p,F,P',m,n,rfl,hF,hP,bf,bP,bm,bn,fun z0 dx r H1 R g1 hdx hr1 l3 bp kr=>.inl ⟨dx,rfl,rfl,fun e o he=>?_⟩,fun ns no H1 g1=>.inr (.inl ⟨rfl,rfl,fun e he=>?_⟩),fun ns ok mn H1 g1=>.inr (.inr (.inl ⟨rfl,rfl,fun e he=>?_⟩)),fun ns ok mn r H1 g1=>?_⟩⟩
  ·have g2:=same_new he (.frz o (.ext (ExcD t.c8 e dx)))
   have rd:Rd (upd H1 e (.frz o (.ext (ExcD t.c8 e dx)))) e (.ext (ExcD t.c8 e dx)):=.inr ⟨o,upd_same⟩
   refine ⟨(by show 2<=sizeLine; decide),fun lo nlo=>?_⟩
   have f2:=same_new nlo (.lst [.str "other",.str "flat"])
   refine ⟨_,rfl,e,t.c8,rfl,.inl rfl,.inl ⟨dx,rd.same f2⟩,fun H3 g3=>⟨_,rfl,iteT ⟨_,rfl,_,rfl,e,t.c8,dx,_,_,rfl,(rd.same f2).same g3,g3 _ _ (f2 _ _ (g2 _ _ hdx)),T.fld_Flat,rfl,q',r,F,R,rfl,g3 _ _ (f2 _ _ (g2 _ _ (g1 _ _ hF))),g3 _ _ (f2 _ _ (g2 _ _ hr1)),bf.mono,bp,l3,kr,fun H4 g4=>?_⟩⟩⟩
   refine .inr ⟨_,rfl,lo,_,_,_,rfl,rfl,SqL.of (g4 _ _ (g3 _ _ upd_same)),rfl,_,rfl,?_⟩
   have q3:=q _ (g1.trans (g2.trans (f2.trans (g3.trans g4))))
   rw [show dueS 0 F P' R' m n l="flat" from if_pos z0] at q3
   exact q3
  ·have g2:=same_new he (.ext (ExcAt t.c9 e))
   refine ⟨(by show 2<=sizeLine; decide),fun lo nlo=>?_⟩
   have f2:=same_new nlo (.lst [.str "other",.str "off"])
   refine ⟨_,rfl,e,t.c9,rfl,.inr (.inl rfl),.inr (f2 _ _ upd_same),fun H3 g3=>?_⟩
   refine .inr ⟨_,rfl,lo,_,_,_,rfl,rfl,SqL.of (g3 _ _ upd_same),rfl,_,rfl,?_⟩
   have q3:=q _ (g1.trans (g2.trans (f2.trans g3)))
   rw [show dueS 0 F P' R' m n l="off" from (if_neg ns).trans (if_pos ⟨by decide,no⟩)] at q3
   exact q3
  ·have g2:=same_new he (.ext (ExcAt t.c10 e))
   refine ⟨(by show 2<=sizeLine; decide),fun lo nlo=>?_⟩
   have f2:=same_new nlo (.lst [.str "other",.str "pair"])
   refine ⟨_,rfl,e,t.c10,rfl,.inr (.inr (.inl rfl)),.inr (f2 _ _ upd_same),fun H3 g3=>?_⟩
   refine .inr ⟨_,rfl,lo,_,_,_,rfl,rfl,SqL.of (g3 _ _ upd_same),rfl,_,rfl,?_⟩
   have q3:=q _ (g1.trans (g2.trans (f2.trans g3)))
   rw [show dueS 0 F P' R' m n l="pair" from (if_neg ns).trans ((if_neg (fun z=>z.2 ok)).trans (if_pos ⟨rfl,mn⟩))] at q3
   exact q3
  ·have q3:=q _ g1
   rw [show dueS 0 F P' R' m n l="" from (if_neg ns).trans ((if_neg (fun z=>z.2 ok)).trans ((if_neg (fun z=>mn z.2)).trans ((if_neg (fun z=>absurd z.1 (by decide))).trans (if_neg (fun z=>absurd z.1 (by decide))))))] at q3
   exact ⟨_,rfl,q3⟩
 ·refine ⟨_,rfl,rfl,_,rfl,iteF ⟨_,rfl,rfl,_,rfl,iteT ⟨_,rfl,_,rfl,_,rfl,q',p,o,F,P',R',rfl,hF,hP,hR,bf,bP,bR,fun z0 dx r H1 R g1 hdx hr1 l3 bp kr=>.inl ⟨dx,rfl,rfl,fun e o he=>?_⟩,fun ns no H1 g1=>.inr (.inl ⟨rfl,rfl,fun e he=>?_⟩),fun ns ok no H1 g1=>.inr (.inl ⟨rfl,rfl,fun e he=>?_⟩),fun ns ok ok2 r H1 g1=>?_⟩⟩⟩
  ·have g2:=same_new he (.frz o (.ext (ExcD t.c8 e dx)))
   have rd:Rd (upd H1 e (.frz o (.ext (ExcD t.c8 e dx)))) e (.ext (ExcD t.c8 e dx)):=.inr ⟨o,upd_same⟩
   refine ⟨(by show 2<=sizeLine; decide),fun lo nlo=>?_⟩
   have f2:=same_new nlo (.lst [.str "other",.str "flat"])
   refine ⟨_,rfl,e,t.c8,rfl,.inl rfl,.inl ⟨dx,rd.same f2⟩,fun H3 g3=>⟨_,rfl,iteT ⟨_,rfl,_,rfl,e,t.c8,dx,_,_,rfl,(rd.same f2).same g3,g3 _ _ (f2 _ _ (g2 _ _ hdx)),T.fld_Flat,rfl,q',r,F,R,rfl,g3 _ _ (f2 _ _ (g2 _ _ (g1 _ _ hF))),g3 _ _ (f2 _ _ (g2 _ _ hr1)),bf.mono,bp,l3,kr,fun H4 g4=>?_⟩⟩⟩
   refine .inr ⟨_,rfl,lo,_,_,_,rfl,rfl,SqL.of (g4 _ _ (g3 _ _ upd_same)),rfl,_,rfl,?_⟩
   have q3:=q _ (g1.trans (g2.trans (f2.trans (g3.trans g4))))
   rw [show dueS 1 F P' R' m n l="flat" from if_pos z0] at q3
   exact q3
  ·have g2:=same_new he (.ext (ExcAt t.c9 e))
   refine ⟨(by show 2<=sizeLine; decide),fun lo nlo=>?_⟩
   have f2:=same_new nlo (.lst [.str "other",.str "off"])
   refine ⟨_,rfl,e,t.c9,rfl,.inr (.inl rfl),.inr (f2 _ _ upd_same),fun H3 g3=>?_⟩
   refine .inr ⟨_,rfl,lo,_,_,_,rfl,rfl,SqL.of (g3 _ _ upd_same),rfl,_,rfl,?_⟩
   have q3:=q _ (g1.trans (g2.trans (f2.trans g3)))
   rw [show dueS 1 F P' R' m n l="off" from (if_neg ns).trans (if_pos ⟨by decide,no⟩)] at q3
   exact q3
  ·have g2:=same_new he (.ext (ExcAt t.c9 e))
   refine ⟨(by show 2<=sizeLine; decide),fun lo nlo=>?_⟩
   have f2:=same_new nlo (.lst [.str "other",.str "off"])
   refine ⟨_,rfl,e,t.c9,rfl,.inr (.inl rfl),.inr (f2 _ _ upd_same),fun H3 g3=>?_⟩
   refine .inr ⟨_,rfl,lo,_,_,_,rfl,rfl,SqL.of (g3 _ _ upd_same),rfl,_,rfl,?_⟩
   have q3:=q _ (g1.trans (g2.trans (f2.trans g3)))
   rw [show dueS 1 F P' R' m n l="off" from (if_neg ns).trans ((if_neg (fun z=>z.2 ok)).trans ((if_neg (fun z=>absurd z.1 (by decide))).trans (if_pos ⟨rfl,no⟩)))] at q3
   exact q3
  ·have q3:=q _ g1
   rw [show dueS 1 F P' R' m n l="" from (if_neg ns).trans ((if_neg (fun z=>z.2 ok)).trans ((if_neg (fun z=>absurd z.1 (by decide))).trans ((if_neg (fun z=>z.2 ok2)).trans (if_neg (fun z=>absurd z.1 (by decide))))))] at q3
   exact ⟨_,rfl,q3⟩
 ·refine ⟨_,rfl,rfl,_,rfl,iteF ⟨_,rfl,rfl,_,rfl,iteF ⟨_,rfl,_,rfl,q',lr,F,l,rfl,hF,hl,bf,bl'.mono',fun z0 dx r H1 R g1 hdx hr1 l3 bp kr=>.inl ⟨dx,rfl,rfl,fun e o he=>?_⟩,fun ns no H1 g1=>.inr (.inr (.inr ⟨rfl,rfl,fun e he=>?_⟩)),fun ns ok r H1 g1=>?_⟩⟩⟩
  ·have g2:=same_new he (.frz o (.ext (ExcD t.c8 e dx)))
   have rd:Rd (upd H1 e (.frz o (.ext (ExcD t.c8 e dx)))) e (.ext (ExcD t.c8 e dx)):=.inr ⟨o,upd_same⟩
   refine ⟨(by show 2<=sizeLine; decide),fun lo nlo=>?_⟩
   have f2:=same_new nlo (.lst [.str "other",.str "flat"])
   refine ⟨_,rfl,e,t.c8,rfl,.inl rfl,.inl ⟨dx,rd.same f2⟩,fun H3 g3=>⟨_,rfl,iteT ⟨_,rfl,_,rfl,e,t.c8,dx,_,_,rfl,(rd.same f2).same g3,g3 _ _ (f2 _ _ (g2 _ _ hdx)),T.fld_Flat,rfl,q',r,F,R,rfl,g3 _ _ (f2 _ _ (g2 _ _ (g1 _ _ hF))),g3 _ _ (f2 _ _ (g2 _ _ hr1)),bf.mono,bp,l3,kr,fun H4 g4=>?_⟩⟩⟩
   refine .inr ⟨_,rfl,lo,_,_,_,rfl,rfl,SqL.of (g4 _ _ (g3 _ _ upd_same)),rfl,_,rfl,?_⟩
   have q3:=q _ (g1.trans (g2.trans (f2.trans (g3.trans g4))))
   rw [show dueS 2 F P' R' m n l="flat" from if_pos z0] at q3
   exact q3
  ·have g2:=same_new he (.ext (ExcAt t.c11 e))
   refine ⟨(by show 2<=sizeLine; decide),fun lo nlo=>?_⟩
   have f2:=same_new nlo (.lst [.str "other",.str "line"])
   refine ⟨_,rfl,e,t.c11,rfl,.inr (.inr (.inr rfl)),.inr (f2 _ _ upd_same),fun H3 g3=>?_⟩
   refine .inr ⟨_,rfl,lo,_,_,_,rfl,rfl,SqL.of (g3 _ _ upd_same),rfl,_,rfl,?_⟩
   have q3:=q _ (g1.trans (g2.trans (f2.trans g3)))
   rw [show dueS 2 F P' R' m n l="line" from (if_neg ns).trans ((if_neg (fun z=>absurd z.1 (by decide))).trans ((if_neg (fun z=>absurd z.1 (by decide))).trans ((if_neg (fun z=>absurd z.1 (by decide))).trans (if_pos ⟨rfl,no⟩))))] at q3
   exact q3
  ·have q3:=q _ g1
   rw [show dueS 2 F P' R' m n l="" from (if_neg ns).trans ((if_neg (fun z=>absurd z.1 (by decide))).trans ((if_neg (fun z=>absurd z.1 (by decide))).trans ((if_neg (fun z=>absurd z.1 (by decide))).trans (if_neg (fun z=>z.2 ok)))))] at q3
   exact ⟨_,rfl,q3⟩
theorem ok_drawn {f:Addr} {fd:FuncData} (F:Fun K "_law_drawn" "_law_drawn" s_drawn f fd) (T:Txt K mg t) (H_cell_at:Has P w K mg base CX0 1 "_law_cell_at" ["_law_script","_law_k"] (spCell K)) (H_pair:Has P w K mg base CX0 1 "_law_pair" ["_law_one","_law_other","_law_way"] (spPair)) (H_spot:Has P w K mg base CX0 3 "_law_spot" ["_law_rows_here","_law_s","_law_t"] (spSpot)) (H_times:Has P w K mg base CX0 1 "_law_times" ["_law_cell"] (spTimes)):FnOk P w K mg base CX0 4 f fd ["_law_script","_law_at","_law_rows_here","_law_way"] (spDr54 K):=by
 obtain ⟨f_cell_at,d_cell_at,G_cell_at,b_cell_at,k_cell_at,m_cell_at⟩:=H_cell_at
 obtain ⟨f_pair,d_pair,G_pair,b_pair,k_pair,m_pair⟩:=H_pair
 obtain ⟨f_spot,d_spot,G_spot,b_spot,k_spot,m_spot⟩:=H_spot
 obtain ⟨f_times,d_times,G_times,b_times,k_times,m_times⟩:=H_times
 refine F.ok sc_drawn (fun vs H Q E h=>?_) (fun cdv A outer s H vs Q E hr h=>?_)
 ·obtain ⟨_,_,_,_,_,_,rfl,_⟩:=h
  rfl
 obtain ⟨a,pr,ns,k,w,t',rfl,hS,k0,hL,bt,mt,q⟩:=h
 have hr_cell_at:=hr.mono (show 1<=3 by decide)
 have hr_pair:=hr.mono (show 1<=3 by decide)
 have hr_spot:=hr.mono (show 3<=3 by decide)
 have hr_times:=hr.mono (show 1<=3 by decide)
 refine ⟨_,pss_cons (ps_set (i:=4) sc_drawn.nd rfl (Or.inl rfl) (pe_call G_cell_at hr_cell_at rfl m_cell_at k_cell_at b_cell_at .nil pass0 (pa_cons (pv 0) (pa_cons (pv 1) pa_nil))))
  (pss_cons (ps_set (i:=5) sc_drawn.nd rfl (Or.inl rfl) (pe_call G_cell_at hr_cell_at rfl m_cell_at k_cell_at b_cell_at .nil pass0 (pa_cons (pv 0) (pa_cons (pe_op op_add (pv 1) pe_int) pa_nil))))
  (pss_cons (ps_asg (pe_call G_pair hr_pair rfl m_pair k_pair b_pair .nil pass0 (pa_cons (pv 4) (pa_cons (pv 5) (pa_cons (pv 3) pa_nil)))) (pg_tup rfl (pgs_cons (pg_name (i:=7) sc_drawn.nd rfl (Or.inl rfl)) (pgs_cons (pg_name (i:=8) sc_drawn.nd rfl (Or.inl rfl)) pgs_nil))))
  (pss_cons (ps_set (i:=6) sc_drawn.nd rfl (Or.inl rfl) (pe_call G_spot hr_spot rfl m_spot k_spot b_spot .nil pass0 (pa_cons (pv 2) (pa_cons (pv 7) (pa_cons (pv 8) pa_nil)))))
  (pss_cons (ps_if (pt_cmpR op_eq (pe_op op_mod (pe_op op_fdiv (pv 3) pe_int) pe_int) pe_int (nomark _)) (pss_cons (ps_asg (pv 6) (pg_tup rfl (pgs_cons (pg_name (i:=9) sc_drawn.nd rfl (Or.inl rfl)) (pgs_cons (pg_name (i:=10) sc_drawn.nd rfl (Or.inl rfl)) (pgs_cons (pg_name (i:=11) sc_drawn.nd rfl (Or.inl rfl)) pgs_nil)))))
  (pss_one (ps_ret (pe_tup (pa_cons (pe_op op_add (pv 9) pe_int) (pa_cons (pv 10) (pa_cons (pe_op op_sub (pv 11) (pe_op op_mod (pe_op op_fdiv (pv 3) pe_int) pe_int)) pa_nil))))))) pss_nil)
  (pss_cut (ps_if (PW.pt (pw_and (pt_cmpR op_eq (pe_op op_mod (pe_op op_fdiv (pv 3) pe_int) pe_int) pe_int (nomark _)) (pw_and1 (pt_cmpR op_eq (pe_op op_mod (pe_op op_fdiv (pv 3) pe_int) pe_int) pe_int (nomark _))))) (pss_one (ps_ret (pe_tup (pa_cons pe_int (pa_cons pe_int (pa_cons pe_int pa_nil)))))) pss_nil)
  (pss_one (ps_ret (pe_callTy call_tuple_of rfl T.z_tuple b_tuple (pa_cons (pe_compC rfl (CompScope.gen (cl:=[("_law_way",_)]) ["_law_way"] [3] [(".0",.local),("_law_number",.local),("_law_times",.globalImplicit),("_law_way",.cell)] rfl (by decide +kernel) (by decide +kernel) rfl rfl (by intro p hp; simp only [List.mem_cons,List.not_mem_nil,or_false] at hp; rcases hp with rfl <;> rfl) rfl (by intro p hp h; simp only [List.mem_cons,List.not_mem_nil,or_false] at hp; rcases hp with rfl | rfl | rfl | rfl <;> first | rfl | (rcases h with h | h <;> cases h)) (by decide) (by decide +kernel) rfl (by intro p hp; simp only [List.zip_cons_cons,List.zip_nil_left,List.mem_cons,List.not_mem_nil,or_false] at hp; rcases hp with rfl <;> exact ⟨rfl,rfl⟩)) (pi_tup (pv 6)) (fun C s0 H0 fp pins=>pe_op op_mulG (pv 0) (pe_call G_times hr_times rfl m_times k_times b_times .nil pass0 (pa_cons (pe_op op_fdiv (pv 1) pe_int) pa_nil)))) pa_nil))))))))),?_⟩
 refine ⟨_,rfl,_,rfl,a,ns,_,rfl,hS,k0,?_⟩
 refine ⟨_,rfl,_,rfl,_,_,rfl,rfl,a,ns,_,rfl,hS,by omega,?_⟩
 refine ⟨_,rfl,_,rfl,_,rfl,_,_,_,rfl,fun pp H1 s' u g1 h1 bs bu=>⟨pp,_,rfl,SqT.of h1,rfl,_,_,rfl,_,_,rfl,rfl,?_⟩⟩
 refine ⟨_,rfl,_,rfl,_,rfl,pr,t',s',u,rfl,hL.mono g1,bt,mt,bs.mono (by decide),bu.mono (by decide),fun px H2 X g2 hX lX bX onX=>?_⟩
 have hX':H2 px=some (.tup (v3 X)):=hX
 have g12:=g1.trans g2
 refine ⟨_,rfl,_,_,rfl,rfl,⟨by decide,by decide⟩,_,_,rfl,rfl,(by show (0:Int) < 3; decide),rfl,_,rfl,ite2 (fun c=>?_) (fun c=>?_)⟩
 ·refine ⟨_,rfl,px,_,rfl,SqT.of hX',rfl,_,_,rfl,_,_,rfl,_,_,rfl,rfl,?_⟩
  refine ⟨_,rfl,_,_,rfl,rfl,_,rfl,_,rfl,_,rfl,_,_,rfl,rfl,⟨by decide,by decide⟩,_,_,rfl,rfl,(by show (0:Int) < 5; decide),_,_,rfl,rfl,(by show 3<=sizeLine; decide),fun r nr=>?_⟩
  have b5:Bd 105 (w / 12 % 5):=by
   unfold Bd
   exact Nat.le_trans (show (w / 12 % 5).natAbs<=5 by omega) (by decide)
  exact q r _ ⟨X.x+1,X.y,X.z - w / 12 % 5⟩ (g12.trans (same_new nr _)) upd_same ⟨(bX.x.add bd1).mono (by decide),bX.y.mono (by decide),(bX.z.sub b5).mono (by decide)⟩
 have last:∀ {A B:Prop},(A->B)->A->B:=fun f a=>f a
 refine ⟨fun σ' H'=>∃ o9 o10 o11:Option V,σ'=[some (.ref a),some (.int k),some (.ref pr),some (.int w),some (.int (ns.getD k.toNat 0)),some (.int (ns.getD (k+1).toNat 0)),some (.ref px),some (.int s'),some (.int u),o9,o10,o11]/\H'=H2,?_,?_⟩
 ·refine ⟨_,rfl,_,_,rfl,rfl,⟨by decide,by decide⟩,_,_,rfl,rfl,(by show (0:Int) < 3; decide),rfl,_,rfl,ite2 (fun c=>?_) (fun c=>?_)⟩
  ·refine ⟨_,rfl,_,_,rfl,rfl,⟨by decide,by decide⟩,_,_,rfl,rfl,(by show (0:Int) < 3; decide),rfl,_,rfl,ite2 (fun c=>?_) (fun c=>?_)⟩
   ·exact ⟨(by show 3<=sizeLine; decide),fun r nr=>q r _ ⟨0,0,0⟩ (g12.trans (same_new nr _)) upd_same ⟨bd0,bd0,bd0⟩⟩
   ·exact ⟨none,none,none,rfl,rfl⟩
  ·exact iteF ⟨none,none,none,rfl,rfl⟩
 rintro _ _ ⟨o9,o10,o11,rfl,rfl⟩
 have tb:=tv_at (w / 36)
 refine ⟨_,rfl,px,rfl,⟨_,SqT.of hX'⟩,comp_tupF (xs:=v3 X) (SqT.of hX') (by show 3 < sizeLine; decide) (vmt (tv (w / 36))) (fun H' g=>SqT.of (g _ _ hX')) ?_ ?_⟩
 ·intro i v H' Q' hv g k'
  obtain ⟨n,rfl,hn⟩:=get3 hv
  exact ⟨_,rfl,_,rfl,_,_,rfl,rfl,⟨by decide,by decide⟩,_,rfl,fun H3 g3=>⟨_,_,rfl,rfl,okM (bd_get bX hn) tb.2.2,k' _ g3⟩⟩
 intro lt H3 g3 _ hlt
 refine ⟨lt,_,rfl,.inl ⟨SqL.of hlt,fun z nz=>?_⟩⟩
 refine q z _ (tm (tv (w / 36)) X) (g12.trans (g3.trans (same_new nz _))) ?_ (bp_tm tb.2.2 bX).mono'
 rw [<- st_eq]
 exact upd_same
theorem ok_flat {f:Addr} {fd:FuncData} (F:Fun K "_law_flat" "_law_flat" s_flat f fd) (T:Txt K mg t) :FnOk P w K mg base CX0 1 f fd ["_law_rows_here","_law_way"] (spFlat54):=by
 refine F.ok sc_flat (fun vs H Q E h=>?_) (fun cdv A outer s H vs Q E hr h=>?_)
 ·obtain ⟨_,_,_,rfl,_⟩:=h
  rfl
 obtain ⟨p,t',w,rfl,hL,bt,q⟩:=h
 obtain ⟨r0,r1,r2,hp,h0,h1,h2⟩:=hL
 obtain ⟨es,es2,p1,p2,p3,p4,p5,hes,hes2,e⟩:∃ (es es2:List Expr) (p1 p2 p3 p4 p5:Pos),PairsE es [(1,2),(0,2),(0,1)]/\PairsE es2 [(1,2),(0,2),(0,1)]/\defBody s_flat=[(defBody s_flat).getD 0 (.Pass ⟨0,0,0,0⟩),(defBody s_flat).getD 1 (.Pass ⟨0,0,0,0⟩),(defBody s_flat).getD 2 (.Pass ⟨0,0,0,0⟩),.If (iTs ((defBody s_flat).getD 3 (.Pass ⟨0,0,0,0⟩))) [(iBd ((defBody s_flat).getD 3 (.Pass ⟨0,0,0,0⟩))).getD 0 (.Pass ⟨0,0,0,0⟩),.For (fTg ((iBd ((defBody s_flat).getD 3 (.Pass ⟨0,0,0,0⟩))).getD 1 (.Pass ⟨0,0,0,0⟩))) (.List es p1) (fBd ((iBd ((defBody s_flat).getD 3 (.Pass ⟨0,0,0,0⟩))).getD 1 (.Pass ⟨0,0,0,0⟩))) (fOe ((iBd ((defBody s_flat).getD 3 (.Pass ⟨0,0,0,0⟩))).getD 1 (.Pass ⟨0,0,0,0⟩))) p2,(iBd ((defBody s_flat).getD 3 (.Pass ⟨0,0,0,0⟩))).getD 2 (.Pass ⟨0,0,0,0⟩)] (iOe ((defBody s_flat).getD 3 (.Pass ⟨0,0,0,0⟩))) p3,(defBody s_flat).getD 4 (.Pass ⟨0,0,0,0⟩),.For (fTg ((defBody s_flat).getD 5 (.Pass ⟨0,0,0,0⟩))) (.List es2 p4) (fBd ((defBody s_flat).getD 5 (.Pass ⟨0,0,0,0⟩))) (fOe ((defBody s_flat).getD 5 (.Pass ⟨0,0,0,0⟩))) p5,(defBody s_flat).getD 6 (.Pass ⟨0,0,0,0⟩)]:=
  ⟨_,_,_,_,_,_,_,.cons (.cons (.cons .nil)),.cons (.cons (.cons .nil)),rfl⟩
 rw [e]
 refine ⟨_,pss_cons (ps_asg (pv 0) (pg_lst rfl (pgs_cons (pg_name (i:=4) sc_flat.nd rfl (Or.inr rfl)) (pgs_cons (pg_name (i:=5) sc_flat.nd rfl (Or.inr rfl)) (pgs_cons (pg_name (i:=6) sc_flat.nd rfl (Or.inr rfl)) pgs_nil)))))
  (pss_cons (ps_if (pt_cmpR op_eq (pe_op op_mod (pv 1) pe_int) pe_int (nomark _)) (pss_one (ps_ret (pe_tup (pa_cons pe_int (pa_cons pe_int (pa_cons pe_int (pa_cons pe_int (pa_cons pe_int (pa_cons pe_int pa_nil))))))))) pss_nil)
  (pss_cons (ps_set (i:=2) sc_flat.nd rfl (Or.inr rfl) (pe_ix ix_list (pe_lst (pa_cons pe_int (pa_cons pe_int (pa_cons (pe_op op_sub pe_int pe_int) (pa_cons pe_int (pa_cons (pe_op op_sub pe_int pe_int) (pa_cons pe_int (pa_cons pe_int (pa_cons pe_int pa_nil))))))))) (pe_op op_mod (pv 1) pe_int) (fun _ _=>rfl)))
  (pss_cons (ps_if (pt_cmpR op_eq (pe_op op_mod (pe_op op_fdiv (pv 1) pe_int) pe_int) pe_int (nomark _)) (pss_cons (ps_setC0 (k:=3) sc_flat.nd rfl (Or.inl rfl) rfl rfl (CompScope.gen (cl:=[("_law_two",_),("_law_one",_)]) ["_law_one","_law_two"] [4,5] [(".0",.local),("_law_k",.local),("_law_one",.cell),("_law_two",.cell)] rfl (by decide +kernel) (by decide +kernel) rfl rfl (by intro p hp; simp only [List.mem_cons,List.not_mem_nil,or_false] at hp; rcases hp with rfl | rfl <;> rfl) rfl (by intro p hp h; simp only [List.mem_cons,List.not_mem_nil,or_false] at hp; rcases hp with rfl | rfl | rfl | rfl <;> first | rfl | (rcases h with h | h <;> cases h)) (by decide) (by decide +kernel) rfl (by intro p hp; simp only [List.zip_cons_cons,List.zip_nil_left,List.mem_cons,List.not_mem_nil,or_false] at hp; rcases hp with rfl | rfl <;> exact ⟨rfl,rfl⟩)) (pi_range1 rfl T.z_range (pa_cons pe_int pa_nil)) (fun C s0 H0 fp pins=>pe_op op_mulG (pe_ix (ixK_tup (K:=K) rfl) (pv 1) (pv 0) (fun _ _=>rfl)) (pe_ix (ixK_tup (K:=K) rfl) (pv 2) (pv 0) (fun _ _=>rfl))) (Or.inl rfl))
  (pss_cons (ps_for PassesOwn.never rfl (pi_list (pe_lst (pa_pairs (ns:=[(1,2),(0,2),(0,1)]) (by first | exact hes | exact hes2)))) (pg_tup rfl (pgs_cons (pg_name (i:=7) sc_flat.nd rfl (Or.inl rfl)) (pgs_cons (pg_name (i:=8) sc_flat.nd rfl (Or.inl rfl)) pgs_nil))) (pss_one (ps_expr (pe_bm PySem.F.plainAttrs_list PySem.F.slot_list_append PySem.F.type_list_append mt_append (pv 3) (pa_cons (pe_op op_add (pe_op op_mulG (pe_ix ix_tup (pv 4) (pv 7) (fun _ _=>rfl)) (pe_ix ix_tup (pv 5) (pv 8) (fun _ _=>rfl))) (pe_op op_mulG (pe_ix ix_tup (pv 4) (pv 8) (fun _ _=>rfl)) (pe_ix ix_tup (pv 5) (pv 7) (fun _ _=>rfl)))) pa_nil)))))
  (pss_one (ps_ret (pe_callTy call_tuple_of rfl T.z_tuple b_tuple (pa_cons (pv 3) pa_nil)))))) pss_nil)
  (pss_cons (ps_setC0 (k:=3) sc_flat.nd rfl (Or.inl rfl) rfl rfl (CompScope.gen (cl:=[("_law_three",_),("_law_one",_),("_law_by",_)]) ["_law_by","_law_one","_law_three"] [2,4,6] [(".0",.local),("_law_k",.local),("_law_by",.cell),("_law_one",.cell),("_law_three",.cell)] rfl (by decide +kernel) (by decide +kernel) rfl rfl (by intro p hp; simp only [List.mem_cons,List.not_mem_nil,or_false] at hp; rcases hp with rfl | rfl | rfl <;> rfl) rfl (by intro p hp h; simp only [List.mem_cons,List.not_mem_nil,or_false] at hp; rcases hp with rfl | rfl | rfl | rfl | rfl <;> first | rfl | (rcases h with h | h <;> cases h)) (by decide) (by decide +kernel) rfl (by intro p hp; simp only [List.zip_cons_cons,List.zip_nil_left,List.mem_cons,List.not_mem_nil,or_false] at hp; rcases hp with rfl | rfl | rfl <;> exact ⟨rfl,rfl⟩)) (pi_range1 rfl T.z_range (pa_cons pe_int pa_nil)) (fun C s0 H0 fp pins=>pe_op op_add (pe_op op_mulG (pe_ix (ixK_tup (K:=K) rfl) (pv 2) (pv 0) (fun _ _=>rfl)) (pe_ix (ixK_tup (K:=K) rfl) (pv 2) (pv 0) (fun _ _=>rfl))) (pe_op op_mulG (pe_op op_mulG (pv 1) (pe_ix (ixK_tup (K:=K) rfl) (pv 3) (pv 0) (fun _ _=>rfl))) (pe_ix (ixK_tup (K:=K) rfl) (pv 3) (pv 0) (fun _ _=>rfl)))) (Or.inl rfl))
  (pss_cons (ps_for PassesOwn.never rfl (pi_list (pe_lst (pa_pairs (ns:=[(1,2),(0,2),(0,1)]) (by first | exact hes | exact hes2)))) (pg_tup rfl (pgs_cons (pg_name (i:=7) sc_flat.nd rfl (Or.inl rfl)) (pgs_cons (pg_name (i:=8) sc_flat.nd rfl (Or.inl rfl)) pgs_nil))) (pss_cons (ps_set (i:=9) sc_flat.nd rfl (Or.inl rfl) (pe_op op_mulG (pe_op op_mulG (pe_op op_mulG pe_int (pv 2)) (pe_ix ix_tup (pv 6) (pv 7) (fun _ _=>rfl))) (pe_ix ix_tup (pv 6) (pv 8) (fun _ _=>rfl))))
  (pss_one (ps_expr (pe_bm PySem.F.plainAttrs_list PySem.F.slot_list_append PySem.F.type_list_append mt_append (pv 3) (pa_cons (pe_op op_add (pv 9) (pe_op op_mulG (pe_op op_mulG pe_int (pe_ix ix_tup (pv 4) (pv 7) (fun _ _=>rfl))) (pe_ix ix_tup (pv 4) (pv 8) (fun _ _=>rfl)))) pa_nil))))))
  (pss_one (ps_ret (pe_callTy call_tuple_of rfl T.z_tuple b_tuple (pa_cons (pv 3) pa_nil))))))))),?_⟩
 refine ⟨_,rfl,p,_,rfl,SqL.of hp,rfl,_,_,rfl,_,_,rfl,_,_,rfl,rfl,?_⟩
 refine ⟨_,rfl,_,_,rfl,rfl,(by show (0:Int) < 8; decide),rfl,_,rfl,ite2 (fun c=>?_) (fun c=>?_)⟩
 ·exact ⟨(by show 6<=sizeLine; decide),fun z nz=>q z _ ⟨0,0,0,0,0,0⟩ (same_new nz _) upd_same rfl ⟨bd0,bd0,bd0,bd0,bd0,bd0⟩⟩
 refine ⟨_,_,rfl,rfl,_,_,rfl,rfl,(by show 8<=sizeLine; decide),fun by' nby=>?_⟩
 obtain ⟨eb,bb⟩:=byv_at w
 refine ⟨_,rfl,_,_,rfl,rfl,(by show (0:Int) < 8; decide),by',_,_,_,rfl,rfl,SqL.of upd_same,eb,?_⟩
 generalize byv w=b at *
 generalize hg:upd H by' _=H1
 have gb:Same H H1:=by rw [<- hg]; exact same_new nby _
 clear hg
 have h01:=gb _ _ h0
 have h11:=gb _ _ h1
 have h21:=gb _ _ h2
 refine ⟨_,rfl,_,_,rfl,rfl,⟨by decide,by decide⟩,_,_,rfl,rfl,(by show (0:Int) < 2; decide),rfl,_,rfl,ite2 (fun c=>?_) (fun c=>?_)⟩
 ·refine ⟨3,rfl,by decide,by decide,comp_rangeF 3 (by decide) (fun j=>.int (cmp t'.r0 j*cmp t'.r1 j)) ?_ ?_⟩
  ·intro j H' Q' hj g k
   exact ⟨_,rfl,_,rfl,r0,_,_,_,rfl,rfl,SqT.of (g _ _ h01),at3 hj,_,rfl,_,rfl,r1,_,_,_,rfl,rfl,SqT.of (g _ _ h11),at3 hj,_,_,rfl,rfl,okM (bd_cmp bt.r0 j) (bd_cmp bt.r1 j),k _ (Same.refl _)⟩
  intro l H2 g2 nl hl
  have nl2:∀ {b':Addr} {o:HO},H1 b'=some o->b' ≠ l:=fun hb z=>by subst z; rw [nl] at hb; cases hb
  refine fun rs H3 g3 prs=>?_
  obtain ⟨m0,m1,m2,rfl,w0,w1,w2⟩:∃ m0 m1 m2:Addr,rs=[m0,m1,m2]/\H3 m0=some (.tup [.int 1,.int 2])/\H3 m1=some (.tup [.int 0,.int 2])/\H3 m2=some (.tup [.int 0,.int 1]):=by
   cases prs with
   | cons a0 prs=>cases prs with
    | cons a1 prs=>cases prs with
     | cons a2 prs=>cases prs; exact ⟨_,_,_,rfl,a0,a1,a2⟩
  refine ⟨(by show 3<=sizeLine; decide),fun m6 k6=>?_⟩
  generalize hg:upd H3 m6 _=Hf
  have f6:Same H3 Hf:=by rw [<- hg]; exact same_new k6 _
  have w6:Hf m6=some (HO.lst [.ref m0,.ref m1,.ref m2]):=by rw [<- hg]; exact upd_same
  have gf:=g3.trans f6
  have wl:=gf _ _ hl
  have ne:∀ {b':Addr} {xs:List V},Hf b'=some (.tup xs)->b' ≠ l:=fun hb z=>by subst z; rw [wl] at hb; cases hb
  have ne6:m6 ≠ l:=fun z=>by
   subst z
   rw [g3 _ _ hl] at k6
   cases k6
  have pk:∀ (i:Nat) (x:V) (H':Hp),[V.ref m0,.ref m1,.ref m2][i]?=some x->Sx l Hf H'->∃ mm:Addr,x=.ref mm/\H' mm=some (.tup [.int (kj3 i).1,.int (kj3 i).2])/\(kj3 i).1 < 3/\(kj3 i).2 < 3:=fun i x H' hx sx=>by
   have w0:=f6 _ _ w0
   have w1:=f6 _ _ w1
   have w2:=f6 _ _ w2
   match i,hx with
   | 0,hx=>exact ⟨m0,(Option.some.inj hx).symm,sx _ _ (ne w0) w0,by decide,by decide⟩
   | 1,hx=>exact ⟨m1,(Option.some.inj hx).symm,sx _ _ (ne w1) w1,by decide,by decide⟩
   | 2,hx=>exact ⟨m2,(Option.some.inj hx).symm,sx _ _ (ne w2) w2,by decide,by decide⟩
   | i+3,hx=>simp at hx
  refine ⟨m6,rfl,⟨_,SqL.of w6⟩,for_list (xs:=[.ref m0,.ref m1,.ref m2]) (fun i σ H'=>∃ (kk jj bo:Option V),σ=[some (.ref p),some (.int w),some (.int b),some (.ref l),some (.ref r0),some (.ref r1),some (.ref r2),kk,jj,bo]/\Sx l Hf H'/\H' l=some (.lst (((List.range 3).map fun j=>V.int (cmp t'.r0 j*cmp t'.r1 j)) ++ (List.range i).map fun j=>V.int (c1f t' j)))) ⟨none,none,none,rfl,fun b' o _ h=>h,by rw [wl]; simp⟩ ?_ ?_ ?_⟩
  ·rintro i σ H' hi ⟨_,_,_,_,sx,_⟩
   exact SqL.of (sx _ _ ne6 w6)
  ·rintro i x σ H' hx ⟨kk,jj,bo,rfl,sx,el⟩
   obtain ⟨mm,rfl,hm,k3',j3⟩:=pk i x H' hx sx
   have q0:S3 H' r0 t'.r0:=sx _ _ (nl2 h01) (gf _ _ (g2 _ _ h01))
   have q1:S3 H' r1 t'.r1:=sx _ _ (nl2 h11) (gf _ _ (g2 _ _ h11))
   unfold S3 at q0 q1
   have il:i < 3:=by simpa using (List.getElem?_eq_some_iff.mp hx).1
   refine ⟨mm,_,rfl,SqT.of hm,rfl,_,_,rfl,_,_,rfl,rfl,?_⟩
   refine ⟨_,rfl,.inl ⟨rfl,_,SqL.of el⟩,_,rfl,_,rfl,r0,_,_,_,rfl,rfl,SqT.of q0,at3' k3',_,rfl,_,rfl,r1,_,_,_,rfl,rfl,SqT.of q1,at3' j3,_,_,rfl,rfl,okM (bd_cmp bt.r0 _) (bd_cmp bt.r1 _),_,rfl,_,rfl,r0,_,_,_,rfl,rfl,SqT.of q0,at3' j3,_,rfl,_,rfl,r1,_,_,_,rfl,rfl,SqT.of q1,at3' k3',_,_,rfl,rfl,okM (bd_cmp bt.r0 _) (bd_cmp bt.r1 _),_,_,rfl,rfl,l,_,_,rfl,rfl,el,(by simp; exact Nat.lt_of_lt_of_le (show 3+i < 6 by omega) (by decide)),_,_,_,rfl,fun b' o hb h=>by rw [upd_ne hb]; exact sx b' o hb h,?_⟩
   have e1:(List.range (i+1)).map (fun j=>V.int (c1f t' j))=(List.range i).map (fun j=>V.int (c1f t' j)) ++ [V.int (c1f t' i)]:=by
    rw [List.range_succ,List.map_append]
    rfl
   rw [e1,<- List.append_assoc]
   exact upd_same
  ·rintro σ H' ⟨_,_,_,rfl,sx,el⟩
   refine ⟨_,rfl,l,_,rfl,.inl ⟨SqL.of el,fun z nz=>q z _ (fl1 t') ?_ upd_same (sz_fl1 t') (bf_fl1 bt)⟩⟩
   intro b' o hb
   have hb1:=gb _ _ hb
   exact same_new nz _ _ _ (sx _ _ (nl2 hb1) (gf _ _ (g2 _ _ hb1)))
 ·refine ⟨3,rfl,by decide,by decide,comp_rangeF 3 (by decide) (fun j=>.int (cmp t'.r0 j*cmp t'.r0 j+b*cmp t'.r2 j*cmp t'.r2 j)) ?_ ?_⟩
  ·intro j H' Q' hj g k
   exact ⟨_,rfl,_,rfl,r0,_,_,_,rfl,rfl,SqT.of (g _ _ h01),at3 hj,_,rfl,_,rfl,r0,_,_,_,rfl,rfl,SqT.of (g _ _ h01),at3 hj,_,_,rfl,rfl,okM (bd_cmp bt.r0 j) (bd_cmp bt.r0 j),_,rfl,_,rfl,_,rfl,r2,_,_,_,rfl,rfl,SqT.of (g _ _ h21),at3 hj,_,_,rfl,rfl,okM bb (bd_cmp bt.r2 j),_,rfl,_,rfl,r2,_,_,_,rfl,rfl,SqT.of (g _ _ h21),at3 hj,_,_,rfl,rfl,okM (bb.mul (bd_cmp bt.r2 j)) (bd_cmp bt.r2 j),_,_,rfl,rfl,k _ (Same.refl _)⟩
  intro l H2 g2 nl hl
  have nl2:∀ {b':Addr} {o:HO},H1 b'=some o->b' ≠ l:=fun hb z=>by subst z; rw [nl] at hb; cases hb
  refine fun rs H3 g3 prs=>?_
  obtain ⟨m0,m1,m2,rfl,w0,w1,w2⟩:∃ m0 m1 m2:Addr,rs=[m0,m1,m2]/\H3 m0=some (.tup [.int 1,.int 2])/\H3 m1=some (.tup [.int 0,.int 2])/\H3 m2=some (.tup [.int 0,.int 1]):=by
   cases prs with
   | cons a0 prs=>cases prs with
    | cons a1 prs=>cases prs with
     | cons a2 prs=>cases prs; exact ⟨_,_,_,rfl,a0,a1,a2⟩
  refine ⟨(by show 3<=sizeLine; decide),fun m6 k6=>?_⟩
  generalize hg:upd H3 m6 _=Hf
  have f6:Same H3 Hf:=by rw [<- hg]; exact same_new k6 _
  have w6:Hf m6=some (HO.lst [.ref m0,.ref m1,.ref m2]):=by rw [<- hg]; exact upd_same
  have gf:=g3.trans f6
  have wl:=gf _ _ hl
  have ne:∀ {b':Addr} {xs:List V},Hf b'=some (.tup xs)->b' ≠ l:=fun hb z=>by subst z; rw [wl] at hb; cases hb
  have ne6:m6 ≠ l:=fun z=>by
   subst z
   rw [g3 _ _ hl] at k6
   cases k6
  have pk:∀ (i:Nat) (x:V) (H':Hp),[V.ref m0,.ref m1,.ref m2][i]?=some x->Sx l Hf H'->∃ mm:Addr,x=.ref mm/\H' mm=some (.tup [.int (kj3 i).1,.int (kj3 i).2])/\(kj3 i).1 < 3/\(kj3 i).2 < 3:=fun i x H' hx sx=>by
   have w0:=f6 _ _ w0
   have w1:=f6 _ _ w1
   have w2:=f6 _ _ w2
   match i,hx with
   | 0,hx=>exact ⟨m0,(Option.some.inj hx).symm,sx _ _ (ne w0) w0,by decide,by decide⟩
   | 1,hx=>exact ⟨m1,(Option.some.inj hx).symm,sx _ _ (ne w1) w1,by decide,by decide⟩
   | 2,hx=>exact ⟨m2,(Option.some.inj hx).symm,sx _ _ (ne w2) w2,by decide,by decide⟩
   | i+3,hx=>simp at hx
  refine ⟨m6,rfl,⟨_,SqL.of w6⟩,for_list (xs:=[.ref m0,.ref m1,.ref m2]) (fun i σ H'=>∃ (kk jj bo:Option V),σ=[some (.ref p),some (.int w),some (.int b),some (.ref l),some (.ref r0),some (.ref r1),some (.ref r2),kk,jj,bo]/\Sx l Hf H'/\H' l=some (.lst (((List.range 3).map fun j=>V.int (cmp t'.r0 j*cmp t'.r0 j+b*cmp t'.r2 j*cmp t'.r2 j)) ++ (List.range i).map fun j=>V.int (c2f t' b j)))) ⟨none,none,none,rfl,fun b' o _ h=>h,by rw [wl]; simp⟩ ?_ ?_ ?_⟩
  ·rintro i σ H' hi ⟨_,_,_,_,sx,_⟩
   exact SqL.of (sx _ _ ne6 w6)
  ·rintro i x σ H' hx ⟨kk,jj,bo,rfl,sx,el⟩
   obtain ⟨mm,rfl,hm,k3',j3⟩:=pk i x H' hx sx
   have q0:S3 H' r0 t'.r0:=sx _ _ (nl2 h01) (gf _ _ (g2 _ _ h01))
   have q1:S3 H' r2 t'.r2:=sx _ _ (nl2 h21) (gf _ _ (g2 _ _ h21))
   unfold S3 at q0 q1
   have il:i < 3:=by simpa using (List.getElem?_eq_some_iff.mp hx).1
   refine ⟨mm,_,rfl,SqT.of hm,rfl,_,_,rfl,_,_,rfl,rfl,?_⟩
   refine ⟨_,rfl,_,_,rfl,rfl,ok2,_,rfl,_,rfl,r2,_,_,_,rfl,rfl,SqT.of q1,at3' k3',_,_,rfl,rfl,okM (bd_two bb) (bd_cmp bt.r2 _),_,rfl,_,rfl,r2,_,_,_,rfl,rfl,SqT.of q1,at3' j3,_,_,rfl,rfl,okM ((bd_two bb).mul (bd_cmp bt.r2 _)) (bd_cmp bt.r2 _),?_⟩
   refine ⟨_,rfl,.inl ⟨rfl,_,SqL.of el⟩,_,rfl,_,rfl,_,rfl,r0,_,_,_,rfl,rfl,SqT.of q0,at3' k3',_,_,rfl,rfl,ok2,_,rfl,_,rfl,r0,_,_,_,rfl,rfl,SqT.of q0,at3' j3,_,_,rfl,rfl,okM (bd_two (bd_cmp bt.r0 _)) (bd_cmp bt.r0 _),_,_,rfl,rfl,l,_,_,rfl,rfl,el,(by simp; exact Nat.lt_of_lt_of_le (show 3+i < 6 by omega) (by decide)),_,_,_,rfl,fun b' o hb h=>by rw [upd_ne hb]; exact sx b' o hb h,?_⟩
   have e1:(List.range (i+1)).map (fun j=>V.int (c2f t' b j))=(List.range i).map (fun j=>V.int (c2f t' b j)) ++ [V.int (c2f t' b i)]:=by
    rw [List.range_succ,List.map_append]
    rfl
   rw [e1,<- List.append_assoc]
   exact upd_same
  ·rintro σ H' ⟨_,_,_,rfl,sx,el⟩
   refine ⟨_,rfl,l,_,rfl,.inl ⟨SqL.of el,fun z nz=>q z _ (fl2 t' b) ?_ upd_same (sz_fl2 t' b) (bf_fl2 bt bb)⟩⟩
   intro b' o hb
   have hb1:=gb _ _ hb
   exact same_new nz _ _ _ (sx _ _ (nl2 hb1) (gf _ _ (g2 _ _ hb1)))
theorem ok_law {f:Addr} {fd:FuncData} (F:Fun K "law" "law" s_law f fd) (T:Txt K mg t) (H_cell_at:Has P w K mg base CX0 1 "_law_cell_at" ["_law_script","_law_k"] (spCell K)) (H_rows:Has P w K mg base CX0 2 "_law_rows" ["_law_script","_law_start","_law_way","_law_great"] (spRows K)) (H_form:Has P w K mg base CX0 1 "_law_form" ["_law_rows_here","_law_times_here"] (spForm)) (H_times:Has P w K mg base CX0 1 "_law_times" ["_law_cell"] (spTimes)) (H_flat:Has P w K mg base CX0 1 "_law_flat" ["_law_rows_here","_law_way"] (spFlat54)) (H_drawn:Has P w K mg base CX0 4 "_law_drawn" ["_law_script","_law_at","_law_rows_here","_law_way"] (spDr54 K)) (H_pair:Has P w K mg base CX0 1 "_law_pair" ["_law_one","_law_other","_law_way"] (spPair)) (H_due:Has P w K mg base CX0 3 "_law_due" ["_law_deed","_law_flat_here","_law_form_here","_law_spot_here","_law_other","_law_pair_here","_law_line"] (spDue54)) (H_told:Has P w K mg base CX0 7 "_law_told" ["_law_deed","_law_form_here","_law_spot_here","_law_other","_law_pair_here","_law_line"] (spTold54)):FnOk P w K mg base CX0 8 f fd ["_law_script"] (spLaw K):=by
 obtain ⟨f_cell_at,d_cell_at,G_cell_at,b_cell_at,k_cell_at,m_cell_at⟩:=H_cell_at
 obtain ⟨f_rows,d_rows,G_rows,b_rows,k_rows,m_rows⟩:=H_rows
 obtain ⟨f_form,d_form,G_form,b_form,k_form,m_form⟩:=H_form
 obtain ⟨f_times,d_times,G_times,b_times,k_times,m_times⟩:=H_times
 obtain ⟨f_flat,d_flat,G_flat,b_flat,k_flat,m_flat⟩:=H_flat
 obtain ⟨f_drawn,d_drawn,G_drawn,b_drawn,k_drawn,m_drawn⟩:=H_drawn
 obtain ⟨f_pair,d_pair,G_pair,b_pair,k_pair,m_pair⟩:=H_pair
 obtain ⟨f_due,d_due,G_due,b_due,k_due,m_due⟩:=H_due
 obtain ⟨f_told,d_told,G_told,b_told,k_told,m_told⟩:=H_told
 refine F.ok sc_law (fun vs H Q E h=>?_) (fun cdv A outer s H vs Q E hr h=>?_)
 ·obtain ⟨a,ns,rfl,_⟩:=h
  rfl
 obtain ⟨a,ns,rfl,hS,h63,hb,q⟩:=h
 have hr_cell_at:=hr.mono (show 1<=7 by decide)
 have hr_rows:=hr.mono (show 2<=7 by decide)
 have hr_form:=hr.mono (show 1<=7 by decide)
 have hr_times:=hr.mono (show 1<=7 by decide)
 have hr_flat:=hr.mono (show 1<=7 by decide)
 have hr_drawn:=hr.mono (show 4<=7 by decide)
 have hr_pair:=hr.mono (show 1<=7 by decide)
 have hr_due:=hr.mono (show 3<=7 by decide)
 have hr_told:=hr.mono (show 7<=7 by decide)
 refine ⟨_,pss_cons (ps_set (i:=1) sc_law.nd rfl (Or.inl rfl) (pe_call G_cell_at hr_cell_at rfl m_cell_at k_cell_at b_cell_at .nil pass0 (pa_cons (pv 0) (pa_cons pe_int pa_nil))))
  (pss_cons (ps_set (i:=2) sc_law.nd rfl (Or.inl rfl) (pe_call G_rows hr_rows rfl m_rows k_rows b_rows .nil pass0 (pa_cons (pv 0) (pa_cons pe_int (pa_cons (pv 1) (pa_cons (pe_op op_pow pe_int pe_int) pa_nil))))))
  (pss_cons (ps_set (i:=3) sc_law.nd rfl (Or.inl rfl) (pe_cmpR op_eq (pe_op op_mod (pe_op op_fdiv (pv 1) pe_int) pe_int) pe_int (nomark _)))
  (pss_cons (ps_set (i:=4) sc_law.nd rfl (Or.inl rfl) (pe_call G_form hr_form rfl m_form k_form b_form .nil pass0 (pa_cons (pv 2) (pa_cons (pe_call G_times hr_times rfl m_times k_times b_times .nil pass0 (pa_cons (pe_op op_fdiv (pv 1) pe_int) pa_nil)) pa_nil))))
  (pss_cut (ps_if (pt_val (pv 3) (fun _=>rfl)) (pss_one (ps_set (i:=4) sc_law.nd rfl (Or.inl rfl) (pe_call G_flat hr_flat rfl m_flat k_flat b_flat .nil pass0 (pa_cons (pv 2) (pa_cons (pe_op op_fdiv (pv 1) pe_int) pa_nil))))) pss_nil)
  (pss_cons (ps_set (i:=5) sc_law.nd rfl (Or.inl rfl) (pe_call G_drawn hr_drawn rfl m_drawn k_drawn b_drawn .nil pass0 (pa_cons (pv 0) (pa_cons pe_int (pa_cons (pv 2) (pa_cons (pe_call G_cell_at hr_cell_at rfl m_cell_at k_cell_at b_cell_at .nil pass0 (pa_cons (pv 0) (pa_cons pe_int pa_nil))) pa_nil))))))
  (pss_cons (ps_set (i:=6) sc_law.nd rfl (Or.inl rfl) (pe_call G_drawn hr_drawn rfl m_drawn k_drawn b_drawn .nil pass0 (pa_cons (pv 0) (pa_cons pe_int (pa_cons (pv 2) (pa_cons (pe_call G_cell_at hr_cell_at rfl m_cell_at k_cell_at b_cell_at .nil pass0 (pa_cons (pv 0) (pa_cons pe_int pa_nil))) pa_nil))))))
  (pss_cons (ps_set (i:=7) sc_law.nd rfl (Or.inl rfl) (pe_call G_pair hr_pair rfl m_pair k_pair b_pair .nil pass0 (pa_cons (pe_call G_cell_at hr_cell_at rfl m_cell_at k_cell_at b_cell_at .nil pass0 (pa_cons (pv 0) (pa_cons pe_int pa_nil))) (pa_cons (pe_call G_cell_at hr_cell_at rfl m_cell_at k_cell_at b_cell_at .nil pass0 (pa_cons (pv 0) (pa_cons pe_int pa_nil))) (pa_cons (pe_op op_fdiv (pv 1) pe_int) pa_nil)))))
  (pss_cons (ps_set (i:=8) sc_law.nd rfl (Or.inl rfl) (pe_callTy call_tuple_of rfl T.z_tuple b_tuple (pa_cons (pe_compC rfl (CompScope.gen (cl:=[("_law_script",_)]) ["_law_script"] [0] [(".0",.local),("_law_k",.local),("_law_cell_at",.globalImplicit),("_law_script",.cell)] rfl (by decide +kernel) (by decide +kernel) rfl rfl (by intro p hp; simp only [List.mem_cons,List.not_mem_nil,or_false] at hp; rcases hp with rfl <;> rfl) rfl (by intro p hp h; simp only [List.mem_cons,List.not_mem_nil,or_false] at hp; rcases hp with rfl | rfl | rfl | rfl <;> first | rfl | (rcases h with h | h <;> cases h)) (by decide) (by decide +kernel) rfl (by intro p hp; simp only [List.zip_cons_cons,List.zip_nil_left,List.mem_cons,List.not_mem_nil,or_false] at hp; rcases hp with rfl <;> exact ⟨rfl,rfl⟩)) (pi_range1 rfl T.z_range (pa_cons pe_int pa_nil)) (fun C s0 H0 fp pins=>pe_op op_sub (pe_op op_mod (pe_op op_mod (pe_op op_mulG (pe_call G_cell_at hr_cell_at rfl m_cell_at k_cell_at b_cell_at .nil pass0 (pa_cons (pv 1) (pa_cons (pe_op op_add pe_int (pv 0)) pa_nil))) pe_int) pe_int) pe_int) pe_int)) pa_nil)))
  (pss_cut (ps_if (pt_cmpR op_eq (pe_op op_mod (pe_call G_cell_at hr_cell_at rfl m_cell_at k_cell_at b_cell_at .nil pass0 (pa_cons (pv 0) (pa_cons pe_int pa_nil))) pe_int) pe_int (nomark _)) (pss_one (ps_set (i:=7) sc_law.nd rfl (Or.inl rfl) (pe_tup (pa_cons pe_int (pa_cons pe_int pa_nil))))) pss_nil)
  (pss_cut (ps_if (pt_cmpR op_eq (pe_op op_mod (pe_op op_fdiv (pe_call G_cell_at hr_cell_at rfl m_cell_at k_cell_at b_cell_at .nil pass0 (pa_cons (pv 0) (pa_cons pe_int pa_nil))) pe_int) pe_int) pe_int (nomark _)) (pss_one (ps_set (i:=8) sc_law.nd rfl (Or.inl rfl) (pe_tup (pa_cons pe_int (pa_cons pe_int (pa_cons pe_int pa_nil)))))) pss_nil)
  (pss_cons (ps_for PassesOwn.never rfl (pi_list (pe_lst (pa_cons pe_int (pa_cons pe_int (pa_cons pe_int pa_nil))))) (pg_name (i:=9) sc_law.nd rfl (Or.inl rfl)) (pss_cons (ps_set (i:=10) sc_law.nd rfl (Or.inl rfl) (pe_call G_due hr_due rfl m_due k_due b_due .nil pass0 (pa_cons (pv 9) (pa_cons (pv 3) (pa_cons (pv 4) (pa_cons (pv 5) (pa_cons (pv 6) (pa_cons (pv 7) (pa_cons (pv 8) pa_nil)))))))))
  (pss_one (ps_if (pt_cmpR op_ne (pe_call G_told hr_told rfl m_told k_told b_told .nil pass0 (pa_cons (pv 9) (pa_cons (pv 4) (pa_cons (pv 5) (pa_cons (pv 6) (pa_cons (pv 7) (pa_cons (pv 8) pa_nil))))))) (pv 10) (nomark _)) (pss_one (ps_ret pe_bl)) pss_nil))))
  (pss_one (ps_ret pe_bl))))))))))))),?_⟩
 refine ⟨_,rfl,a,ns,_,rfl,hS,by decide,?_⟩
 generalize ns.getD (Int.toNat 0) 0=w
 refine ⟨_,rfl,_,rfl,_,_,rfl,rfl,⟨by decide,by decide,by decide⟩,a,ns,w,_,rfl,hS,by decide,by decide,fun pr H1 t1 g1 hL bt mt=>?_⟩
 refine ⟨_,rfl,_,_,rfl,rfl,⟨by decide,by decide⟩,_,_,rfl,rfl,(by show (0:Int) < 3; decide),rfl,?_⟩
 refine ⟨_,rfl,_,rfl,_,_,rfl,rfl,⟨by decide,by decide⟩,_,rfl,fun H2 g2=>⟨pr,t1,_,rfl,hL.mono g2,bt,(tv_at _).2.2,fun pf H3 g3 hF=>?_⟩⟩
 have c0:=(tv_at (w / 48)).2.1
 have bF:=bf_fm bt (tv_at (w / 48)).2.2
 have nsz:sz (fm t1 (tv (w / 48))) ≠ 0:=by
  rw [sz_fm]
  exact Int.mul_ne_zero (Int.mul_ne_zero (Int.mul_ne_zero c0 c0) c0) (Int.mul_ne_zero mt mt)
 have g13:=g1.trans (g2.trans g3)
 have hL3:=hL.mono (g2.trans g3)
 refine ⟨fun σ' H'=>∃ (pf:Addr) (F:F6),σ'=[some (.ref a),some (.int w),some (.ref pr),some (.bl (decide (sz F=0))),some (.ref pf),none,none,none,none,none,none]/\Same H3 H'/\S6 H' pf F/\BF 100 F,?_,?_⟩
 ·refine ⟨_,rfl,_,rfl,ite2 (fun c=>?_) (fun c=>?_)⟩
  ·refine ⟨_,rfl,_,rfl,_,_,rfl,rfl,⟨by decide,by decide⟩,pr,t1,_,rfl,hL3,bt,fun r H' F g hr' z0 bq=>⟨r,F,?_,g,hr',bq⟩⟩
   rw [decide_eq_true z0]
   have c':decide (V.int (w / 16 % 3)=V.int 1)=true:=c
   show [some (V.ref a),some (.int w),some (.ref pr),some (.bl (decide (V.int (w / 16 % 3)=V.int 1))),some (.ref r),none,none,none,none,none,none]=_
   rw [c']
  ·refine ⟨pf,_,?_,Same.refl _,hF,bF⟩
   rw [decide_eq_false nsz]
   have c':decide (V.int (w / 16 % 3)=V.int 1)=false:=Bool.eq_false_iff.mpr c
   show [some (V.ref a),some (.int w),some (.ref pr),some (.bl (decide (V.int (w / 16 % 3)=V.int 1))),some (.ref pf),none,none,none,none,none,none]=_
   rw [c']
 rintro _ H4 ⟨pf2,F,rfl,g4,hF4,bF4⟩
 clear hF nsz bF c0
 have g14:=g13.trans g4
 have hL4:=hL3.mono g4
 refine ⟨_,rfl,_,rfl,_,rfl,a,ns,_,rfl,g14.seq hS,by decide,a,pr,ns,_,_,t1,rfl,g14.seq hS,by decide,hL4,bt,mt,fun px H5 X g5 hX bX=>?_⟩
 have g15:=g14.trans g5
 refine ⟨_,rfl,_,rfl,_,rfl,a,ns,_,rfl,g15.seq hS,by decide,a,pr,ns,_,_,t1,rfl,g15.seq hS,by decide,hL4.mono g5,bt,mt,fun py H6 Y g6 hY bY=>?_⟩
 have g16:=g15.trans g6
 refine ⟨_,rfl,a,ns,_,rfl,g16.seq hS,by decide,_,rfl,a,ns,_,rfl,g16.seq hS,by decide,_,rfl,_,_,rfl,rfl,⟨by decide,by decide⟩,_,_,_,rfl,fun pp H7 m n g7 hpp bm bn=>?_⟩
 have g17:=g16.trans g7
 refine ⟨3,rfl,by decide,by decide,comp_rangeF 3 (by decide) (fun i=>.int (ns.getD (18+(0+(i:Int))).toNat 0*67867967 % 998244353 % 11 - 5)) ?_ ?_⟩
 ·intro i H' Q' hi g k
  exact ⟨_,rfl,_,rfl,_,_,rfl,rfl,a,ns,_,rfl,(g17.trans g).seq hS,by omega,_,_,rfl,rfl,IntMulOk.of_right (intBits_le_64 (by decide) (by decide)),_,_,rfl,rfl,(by show (0:Int) < 998244353; decide),_,_,rfl,rfl,(by show (0:Int) < 11; decide),_,_,rfl,rfl,k _ (Same.refl _)⟩
 intro ls H8 g8 _ hls
 refine ⟨ls,_,rfl,.inl ⟨SqL.of hls,fun pl npl=>?_⟩⟩
 have gpl:=same_new npl (.tup ((List.range 3).map fun (i:Nat)=>V.int (ns.getD (18+(0+(i:Int))).toNat 0*67867967 % 998244353 % 11 - 5)))
 have b10:∀ x:Int,Bd 10 (x % 11 - 5):=fun x=>by
  unfold Bd
  exact Nat.le_trans (show (x % 11 - 5).natAbs<=10 by omega) (by decide)
 obtain ⟨l,hl9,bl9⟩:∃ l:P3,S3 (upd H8 pl (.tup ((List.range 3).map fun (i:Nat)=>V.int (ns.getD (18+(0+(i:Int))).toNat 0*67867967 % 998244353 % 11 - 5)))) pl l/\BP 10 l:=⟨⟨ns.getD (18+(0+((0:Nat):Int))).toNat 0*67867967 % 998244353 % 11 - 5,ns.getD (18+(0+((1:Nat):Int))).toNat 0*67867967 % 998244353 % 11 - 5,ns.getD (18+(0+((2:Nat):Int))).toNat 0*67867967 % 998244353 % 11 - 5⟩,upd_same,⟨b10 _,b10 _,b10 _⟩⟩
 generalize hg:upd H8 pl _=H9 at *
 have g69:=g7.trans (g8.trans gpl)
 have hX9:=(g6.trans g69) _ _ hX
 have hY9:=g69 _ _ hY
 have hF9:=(g5.trans (g6.trans g69)) _ _ hF4
 have hpp9:=(g8.trans gpl) _ _ hpp
 have g19:=g16.trans g69
 clear hg hls hpp npl
 refine ⟨fun σ' H'=>∃ (pp:Addr) (m n:Int),σ'=[some (.ref a),some (.int w),some (.ref pr),some (.bl (decide (sz F=0))),some (.ref pf2),some (.ref px),some (.ref py),some (.ref pp),some (.ref pl),none,none]/\Same H9 H'/\H' pp=some (.tup [.int m,.int n])/\Bd 20 m/\Bd 20 n,?_,?_⟩
 ·refine ⟨_,rfl,a,ns,_,rfl,g19.seq hS,by decide,_,_,rfl,rfl,(by show (0:Int) < 3; decide),rfl,_,rfl,ite2 (fun c=>?_) (fun c=>?_)⟩
  ·exact ⟨(by show 2<=sizeLine; decide),fun z nz=>⟨z,0,0,rfl,same_new nz _,upd_same,bd0,bd0⟩⟩
  ·exact ⟨pp,m,n,rfl,Same.refl _,hpp9,bm,bn⟩
 rintro _ H10 ⟨pp2,m2,n2,rfl,g10,hpp10,bm2,bn2⟩
 refine ⟨fun σ' H'=>∃ (pl2:Addr) (l2:P3),σ'=[some (.ref a),some (.int w),some (.ref pr),some (.bl (decide (sz F=0))),some (.ref pf2),some (.ref px),some (.ref py),some (.ref pp2),some (.ref pl2),none,none]/\Same H10 H'/\S3 H' pl2 l2/\BP 10 l2,?_,?_⟩
 ·refine ⟨_,rfl,a,ns,_,rfl,(g19.trans g10).seq hS,by decide,_,_,rfl,rfl,⟨by decide,by decide⟩,_,_,rfl,rfl,(by show (0:Int) < 3; decide),rfl,_,rfl,ite2 (fun c=>?_) (fun c=>?_)⟩
  ·exact ⟨(by show 3<=sizeLine; decide),fun z nz=>⟨z,⟨0,0,0⟩,rfl,same_new nz _,upd_same,⟨bd0,bd0,bd0⟩⟩⟩
  ·exact ⟨pl,l,rfl,Same.refl _,g10 _ _ hl9,bl9⟩
 rintro _ H11 ⟨pl2,l2,rfl,g11,hl11,bl11⟩
 have g911:=g10.trans g11
 have ar:Args54 H11 pf2 px py pp2 pl2 F X Y m2 n2 l2:=⟨g911 _ _ hF9,g911 _ _ hX9,g911 _ _ hY9,g11 _ _ hpp10,hl11,bF4,bX,bY,bm2,bn2,bl11⟩
 refine ⟨(by show 3<=sizeLine; decide),fun dl ndl=>?_⟩
 have gd:=same_new ndl (.lst [.int 0,.int 1,.int 2])
 refine ⟨dl,rfl,⟨_,SqL.of upd_same⟩,for_list (xs:=[.int 0,.int 1,.int 2]) (fun i σ H'=>∃ o9 o10:Option V,σ=[some (.ref a),some (.int w),some (.ref pr),some (.bl (decide (sz F=0))),some (.ref pf2),some (.ref px),some (.ref py),some (.ref pp2),some (.ref pl2),o9,o10]/\Same (upd H11 dl (.lst [.int 0,.int 1,.int 2])) H') ⟨none,none,rfl,Same.refl _⟩ ?_ ?_ ?_⟩
 ·rintro i σ H' hi ⟨_,_,rfl,g⟩
  exact SqL.of (g _ _ upd_same)
 ·rintro i x σ H' hx ⟨o9,o10,rfl,g⟩
  obtain ⟨k,rfl,hk⟩:∃ k:Int,x=.int k/\(k=0\/k=1\/k=2):=by
   match i,hx with
   | 0,hx=>exact ⟨0,(Option.some.inj hx).symm,.inl rfl⟩
   | 1,hx=>exact ⟨1,(Option.some.inj hx).symm,.inr (.inl rfl)⟩
   | 2,hx=>exact ⟨2,(Option.some.inj hx).symm,.inr (.inr rfl)⟩
   | i+3,hx=>simp at hx
  have ar2:=ar.mono (gd.trans g)
  refine ⟨_,rfl,_,rfl,_,rfl,_,rfl,_,rfl,_,rfl,_,rfl,k,pf2,px,py,pp2,pl2,F,X,Y,m2,n2,l2,rfl,hk,ar2,fun H12 g12=>?_⟩
  refine ⟨_,rfl,_,rfl,_,rfl,_,rfl,_,rfl,_,rfl,k,pf2,px,py,pp2,pl2,F,X,Y,m2,n2,l2,rfl,hk,ar2.mono g12,fun H13 g13'=>?_⟩
  exact ⟨_,rfl,rfl,_,rfl,iteNS rfl ⟨_,_,rfl,g.trans (g12.trans g13')⟩⟩
 ·rintro σ H' ⟨_,_,rfl,g⟩
  exact q _
end
theorem all_mk {l:W.OpenLaw} {w:World} {K:W.Frag} {h:Heap} {mg:Str->Option Value} {fa qce qc0 qc1 qc2 qc3 qc4 qc5 qc6 qc7 qc8 qc9 qc10 qc11 qc12 qc13 qc14 qiFlat qgAXES qgAXES_0 qgAXES_1 qgAXES_2 qgWAYS qgWAYS_0 qgWAYS_1 qgWAYS_2:Addr} (X:K.In h) (G:h.Ns mainGlobals mg) (hfa:mg "law"=some (.ref fa))
  {f1 f2 f3 f4 f5 f6 f7 f8 f9 f10 f11 f12 f13 f14 f15 f16 f17 f18 f19 f21 f22 f23 f24 f25 f26 f27 f28 f29 f30 f31 f32 f33 f34 f35 f36 f37 f38 f39 f40 f41 f42 f43 f44 f45:Addr} {od1 an1 od2 an2 od3 an3 od4 an4 od5 an5 od6 an6 od7 an7 od8 an8 od9 an9 od10 an10 od11 an11 od12 an12 od13 an13 od14 an14 od15 an15 od16 an16 od17 an17 od18 an18 od19 an19 od20 an20 od21 an21 od22 an22 od23 an23 od24 an24 od25 an25 od26 an26 od27 an27 od28 an28 od29 an29 od30 an30 od31 an31 od32 an32 od33 an33 od34 an34 od35 an35 od36 an36 od37 an37 od38 an38 od39 an39 od40 an40 od41 an41 od42 an42 od43 an43 od44 an44 od45 an45:Option Addr} {sl1 sl2 sl3 sl4 sl5 sl6 sl7 sl8 sl9 sl10 sl11 sl12 sl13 sl14 sl15 sl16 sl17 sl18 sl19 sl20 sl21 sl22 sl23 sl24 sl25 sl26 sl27 sl28 sl29 sl30 sl31 sl32 sl33 sl34 sl35 sl36 sl37 sl38 sl39 sl40 sl41 sl42 sl43 sl44 sl45:Array (Option Value)} {oc1 kV1 dc1 pm1 cd1 ct1 oc2 kV2 dc2 pm2 cd2 ct2 oc3 kV3 dc3 pm3 cd3 ct3 oc4 kV4 dc4 pm4 cd4 ct4 oc5 kV5 dc5 pm5 cd5 ct5 oc6 kV6 dc6 pm6 cd6 ct6 oc7 kV7 dc7 pm7 cd7 ct7 oc8 kV8 dc8 pm8 cd8 ct8 oc9 kV9 dc9 pm9 cd9 ct9 oc10 kV10 dc10 pm10 cd10 ct10 oc11 kV11 dc11 pm11 cd11 ct11 oc12 kV12 dc12 pm12 cd12 ct12 oc13 kV13 dc13 pm13 cd13 ct13 oc14 kV14 dc14 pm14 cd14 ct14 oc15 kV15 dc15 pm15 cd15 ct15 oc16 kV16 dc16 pm16 cd16 ct16 oc17 kV17 dc17 pm17 cd17 ct17 oc18 kV18 dc18 pm18 cd18 ct18 oc19 kV19 dc19 pm19 cd19 ct19 oc20 kV20 dc20 pm20 cd20 ct20 oc21 kV21 dc21 pm21 cd21 ct21 oc22 kV22 dc22 pm22 cd22 ct22 oc23 kV23 dc23 pm23 cd23 ct23 oc24 kV24 dc24 pm24 cd24 ct24 oc25 kV25 dc25 pm25 cd25 ct25 oc26 kV26 dc26 pm26 cd26 ct26 oc27 kV27 dc27 pm27 cd27 ct27 oc28 kV28 dc28 pm28 cd28 ct28 oc29 kV29 dc29 pm29 cd29 ct29 oc30 kV30 dc30 pm30 cd30 ct30 oc31 kV31 dc31 pm31 cd31 ct31 oc32 kV32 dc32 pm32 cd32 ct32 oc33 kV33 dc33 pm33 cd33 ct33 oc34 kV34 dc34 pm34 cd34 ct34 oc35 kV35 dc35 pm35 cd35 ct35 oc36 kV36 dc36 pm36 cd36 ct36 oc37 kV37 dc37 pm37 cd37 ct37 oc38 kV38 dc38 pm38 cd38 ct38 oc39 kV39 dc39 pm39 cd39 ct39 oc40 kV40 dc40 pm40 cd40 ct40 oc41 kV41 dc41 pm41 cd41 ct41 oc42 kV42 dc42 pm42 cd42 ct42 oc43 kV43 dc43 pm43 cd43 ct43 oc44 kV44 dc44 pm44 cd44 ct44 oc45 kV45 dc45 pm45 cd45 ct45:Value}
  (a1:W.nsIn K mainGlobals "row_less"=some (some (.ref f1))) (l1:K.lookup f1=some ⟨oc1,od1,.func (W.fnOf "row_less" "row_less" (defArgs s_row_less) (defBody s_row_less) (defScope s_row_less) .none kV1 dc1 pm1 an1 cd1 ct1),sl1⟩) (g1:W.codeIn K cd1 "row_less"=true) (k1:W.keepIn K (.ref f1)=true)
  (a2:W.nsIn K mainGlobals "shares_of"=some (some (.ref f2))) (l2:K.lookup f2=some ⟨oc2,od2,.func (W.fnOf "shares_of" "shares_of" (defArgs s_shares_of) (defBody s_shares_of) (defScope s_shares_of) .none kV2 dc2 pm2 an2 cd2 ct2),sl2⟩) (g2:W.codeIn K cd2 "shares_of"=true) (k2:W.keepIn K (.ref f2)=true)
  (a3:W.nsIn K mainGlobals "slopes_of"=some (some (.ref f3))) (l3:K.lookup f3=some ⟨oc3,od3,.func (W.fnOf "slopes_of" "slopes_of" (defArgs s_slopes_of) (defBody s_slopes_of) (defScope s_slopes_of) .none kV3 dc3 pm3 an3 cd3 ct3),sl3⟩) (g3:W.codeIn K cd3 "slopes_of"=true) (k3:W.keepIn K (.ref f3)=true)
  (a4:W.nsIn K mainGlobals "size_of"=some (some (.ref f4))) (l4:K.lookup f4=some ⟨oc4,od4,.func (W.fnOf "size_of" "size_of" (defArgs s_size_of) (defBody s_size_of) (defScope s_size_of) .none kV4 dc4 pm4 an4 cd4 ct4),sl4⟩) (g4:W.codeIn K cd4 "size_of"=true) (k4:W.keepIn K (.ref f4)=true)
  (a5:W.nsIn K mainGlobals "crossing_of"=some (some (.ref f5))) (l5:K.lookup f5=some ⟨oc5,od5,.func (W.fnOf "crossing_of" "crossing_of" (defArgs s_crossing_of) (defBody s_crossing_of) (defScope s_crossing_of) .none kV5 dc5 pm5 an5 cd5 ct5),sl5⟩) (g5:W.codeIn K cd5 "crossing_of"=true) (k5:W.keepIn K (.ref f5)=true)
  (a6:W.nsIn K mainGlobals "stretched"=some (some (.ref f6))) (l6:K.lookup f6=some ⟨oc6,od6,.func (W.fnOf "stretched" "stretched" (defArgs s_stretched) (defBody s_stretched) (defScope s_stretched) .none kV6 dc6 pm6 an6 cd6 ct6),sl6⟩) (g6:W.codeIn K cd6 "stretched"=true) (k6:W.keepIn K (.ref f6)=true)
  (a7:W.nsIn K mainGlobals "last_of"=some (some (.ref f7))) (l7:K.lookup f7=some ⟨oc7,od7,.func (W.fnOf "last_of" "last_of" (defArgs s_last_of) (defBody s_last_of) (defScope s_last_of) .none kV7 dc7 pm7 an7 cd7 ct7),sl7⟩) (g7:W.codeIn K cd7 "last_of"=true) (k7:W.keepIn K (.ref f7)=true)
  (a8:W.nsIn K mainGlobals "row_product"=some (some (.ref f8))) (l8:K.lookup f8=some ⟨oc8,od8,.func (W.fnOf "row_product" "row_product" (defArgs s_row_product) (defBody s_row_product) (defScope s_row_product) .none kV8 dc8 pm8 an8 cd8 ct8),sl8⟩) (g8:W.codeIn K cd8 "row_product"=true) (k8:W.keepIn K (.ref f8)=true)
  (a9:W.nsIn K mainGlobals "turned_by"=some (some (.ref f9))) (l9:K.lookup f9=some ⟨oc9,od9,.func (W.fnOf "turned_by" "turned_by" (defArgs s_turned_by) (defBody s_turned_by) (defScope s_turned_by) .none kV9 dc9 pm9 an9 cd9 ct9),sl9⟩) (g9:W.codeIn K cd9 "turned_by"=true) (k9:W.keepIn K (.ref f9)=true)
  (a10:W.nsIn K mainGlobals "worth_of"=some (some (.ref f10))) (l10:K.lookup f10=some ⟨oc10,od10,.func (W.fnOf "worth_of" "worth_of" (defArgs s_worth_of) (defBody s_worth_of) (defScope s_worth_of) .none kV10 dc10 pm10 an10 cd10 ct10),sl10⟩) (g10:W.codeIn K cd10 "worth_of"=true) (k10:W.keepIn K (.ref f10)=true)
  (a11:W.nsIn K mainGlobals "added"=some (some (.ref f11))) (l11:K.lookup f11=some ⟨oc11,od11,.func (W.fnOf "added" "added" (defArgs s_added) (defBody s_added) (defScope s_added) .none kV11 dc11 pm11 an11 cd11 ct11),sl11⟩) (g11:W.codeIn K cd11 "added"=true) (k11:W.keepIn K (.ref f11)=true)
  (a12:W.nsIn K mainGlobals "lowest_point"=some (some (.ref f12))) (l12:K.lookup f12=some ⟨oc12,od12,.func (W.fnOf "lowest_point" "lowest_point" (defArgs s_lowest_point) (defBody s_lowest_point) (defScope s_lowest_point) .none kV12 dc12 pm12 an12 cd12 ct12),sl12⟩) (g12:W.codeIn K cd12 "lowest_point"=true) (k12:W.keepIn K (.ref f12)=true)
  (a13:W.nsIn K mainGlobals "led_to"=some (some (.ref f13))) (l13:K.lookup f13=some ⟨oc13,od13,.func (W.fnOf "led_to" "led_to" (defArgs s_led_to) (defBody s_led_to) (defScope s_led_to) .none kV13 dc13 pm13 an13 cd13 ct13),sl13⟩) (g13:W.codeIn K cd13 "led_to"=true) (k13:W.keepIn K (.ref f13)=true)
  (a14:W.nsIn K mainGlobals "above_root"=some (some (.ref f14))) (l14:K.lookup f14=some ⟨oc14,od14,.func (W.fnOf "above_root" "above_root" (defArgs s_above_root) (defBody s_above_root) (defScope s_above_root) .none kV14 dc14 pm14 an14 cd14 ct14),sl14⟩) (g14:W.codeIn K cd14 "above_root"=true) (k14:W.keepIn K (.ref f14)=true)
  (a15:W.nsIn K mainGlobals "root_of"=some (some (.ref f15))) (l15:K.lookup f15=some ⟨oc15,od15,.func (W.fnOf "root_of" "root_of" (defArgs s_root_of) (defBody s_root_of) (defScope s_root_of) .none kV15 dc15 pm15 an15 cd15 ct15),sl15⟩) (g15:W.codeIn K cd15 "root_of"=true) (k15:W.keepIn K (.ref f15)=true)
  (a16:W.nsIn K mainGlobals "off_curve"=some (some (.ref f16))) (l16:K.lookup f16=some ⟨oc16,od16,.func (W.fnOf "off_curve" "off_curve" (defArgs s_off_curve) (defBody s_off_curve) (defScope s_off_curve) .none kV16 dc16 pm16 an16 cd16 ct16),sl16⟩) (g16:W.codeIn K cd16 "off_curve"=true) (k16:W.keepIn K (.ref f16)=true)
  (a17:W.nsIn K mainGlobals "corners_on"=some (some (.ref f17))) (l17:K.lookup f17=some ⟨oc17,od17,.func (W.fnOf "corners_on" "corners_on" (defArgs s_corners_on) (defBody s_corners_on) (defScope s_corners_on) .none kV17 dc17 pm17 an17 cd17 ct17),sl17⟩) (g17:W.codeIn K cd17 "corners_on"=true) (k17:W.keepIn K (.ref f17)=true)
  (a18:W.nsIn K mainGlobals "crossings_of"=some (some (.ref f18))) (l18:K.lookup f18=some ⟨oc18,od18,.func (W.fnOf "crossings_of" "crossings_of" (defArgs s_crossings_of) (defBody s_crossings_of) (defScope s_crossings_of) .none kV18 dc18 pm18 an18 cd18 ct18),sl18⟩) (g18:W.codeIn K cd18 "crossings_of"=true) (k18:W.keepIn K (.ref f18)=true)
  (a19:W.nsIn K mainGlobals "vertex_of"=some (some (.ref f19))) (l19:K.lookup f19=some ⟨oc19,od19,.func (W.fnOf "vertex_of" "vertex_of" (defArgs s_vertex_of) (defBody s_vertex_of) (defScope s_vertex_of) .none kV19 dc19 pm19 an19 cd19 ct19),sl19⟩) (g19:W.codeIn K cd19 "vertex_of"=true) (k19:W.keepIn K (.ref f19)=true)
  {ocC20:Value} {odC20:Option Addr} {slC20:Array (Option Value)} {nmC20 qnC20:Str} {bsC20 mrC20 suC20:List Value} {nsC20:Addr} {hdC20 abC20 dlC20:Bool} {snC20:List Str} {coC20:Option Bool}
  (o20:K.lookup qc8=some ⟨ocC20,odC20,.cls ⟨nmC20,bsC20,mrC20,nsC20,qnC20,hdC20,snC20,suC20,abC20,coC20,dlC20⟩,slC20⟩)
  (a20:W.nsIn K nsC20 "__init__"=some (some (.ref qiFlat))) (l20:K.lookup qiFlat=some ⟨oc20,od20,.func (W.fnOf "__init__" "Flat.__init__" (defArgs s_init_Flat) (defBody s_init_Flat) (defScope s_init_Flat) .none kV20 dc20 pm20 an20 cd20 ct20),sl20⟩) (g20:W.codeIn K cd20 "Flat.__init__"=true) (k20:W.keepIn K (.ref qiFlat)=true)
  (a21:W.nsIn K mainGlobals "refuse_flat"=some (some (.ref f21))) (l21:K.lookup f21=some ⟨oc21,od21,.func (W.fnOf "refuse_flat" "refuse_flat" (defArgs s_refuse_flat) (defBody s_refuse_flat) (defScope s_refuse_flat) .none kV21 dc21 pm21 an21 cd21 ct21),sl21⟩) (g21:W.codeIn K cd21 "refuse_flat"=true) (k21:W.keepIn K (.ref f21)=true)
  (a22:W.nsIn K mainGlobals "point_on"=some (some (.ref f22))) (l22:K.lookup f22=some ⟨oc22,od22,.func (W.fnOf "point_on" "point_on" (defArgs s_point_on) (defBody s_point_on) (defScope s_point_on) .none kV22 dc22 pm22 an22 cd22 ct22),sl22⟩) (g22:W.codeIn K cd22 "point_on"=true) (k22:W.keepIn K (.ref f22)=true)
  (a23:W.nsIn K mainGlobals "point_by"=some (some (.ref f23))) (l23:K.lookup f23=some ⟨oc23,od23,.func (W.fnOf "point_by" "point_by" (defArgs s_point_by) (defBody s_point_by) (defScope s_point_by) .none kV23 dc23 pm23 an23 cd23 ct23),sl23⟩) (g23:W.codeIn K cd23 "point_by"=true) (k23:W.keepIn K (.ref f23)=true)
  (a24:W.nsIn K mainGlobals "numbers_of"=some (some (.ref f24))) (l24:K.lookup f24=some ⟨oc24,od24,.func (W.fnOf "numbers_of" "numbers_of" (defArgs s_numbers_of) (defBody s_numbers_of) (defScope s_numbers_of) .none kV24 dc24 pm24 an24 cd24 ct24),sl24⟩) (g24:W.codeIn K cd24 "numbers_of"=true) (k24:W.keepIn K (.ref f24)=true)
  (a25:W.nsIn K mainGlobals "line_met"=some (some (.ref f25))) (l25:K.lookup f25=some ⟨oc25,od25,.func (W.fnOf "line_met" "line_met" (defArgs s_line_met) (defBody s_line_met) (defScope s_line_met) .none kV25 dc25 pm25 an25 cd25 ct25),sl25⟩) (g25:W.codeIn K cd25 "line_met"=true) (k25:W.keepIn K (.ref f25)=true)
  (a26:W.nsIn K mainGlobals "_law_cell_at"=some (some (.ref f26))) (l26:K.lookup f26=some ⟨oc26,od26,.func (W.fnOf "_law_cell_at" "_law_cell_at" (defArgs s_cell_at) (defBody s_cell_at) (defScope s_cell_at) .none kV26 dc26 pm26 an26 cd26 ct26),sl26⟩) (g26:W.codeIn K cd26 "_law_cell_at"=true) (k26:W.keepIn K (.ref f26)=true)
  (a27:W.nsIn K mainGlobals "_law_shared"=some (some (.ref f27))) (l27:K.lookup f27=some ⟨oc27,od27,.func (W.fnOf "_law_shared" "_law_shared" (defArgs s_shared) (defBody s_shared) (defScope s_shared) .none kV27 dc27 pm27 an27 cd27 ct27),sl27⟩) (g27:W.codeIn K cd27 "_law_shared"=true) (k27:W.keepIn K (.ref f27)=true)
  (a28:W.nsIn K mainGlobals "_law_lowest"=some (some (.ref f28))) (l28:K.lookup f28=some ⟨oc28,od28,.func (W.fnOf "_law_lowest" "_law_lowest" (defArgs s_lowest) (defBody s_lowest) (defScope s_lowest) .none kV28 dc28 pm28 an28 cd28 ct28),sl28⟩) (g28:W.codeIn K cd28 "_law_lowest"=true) (k28:W.keepIn K (.ref f28)=true)
  (a29:W.nsIn K mainGlobals "_law_beside"=some (some (.ref f29))) (l29:K.lookup f29=some ⟨oc29,od29,.func (W.fnOf "_law_beside" "_law_beside" (defArgs s_beside) (defBody s_beside) (defScope s_beside) .none kV29 dc29 pm29 an29 cd29 ct29),sl29⟩) (g29:W.codeIn K cd29 "_law_beside"=true) (k29:W.keepIn K (.ref f29)=true)
  (a30:W.nsIn K mainGlobals "_law_dot"=some (some (.ref f30))) (l30:K.lookup f30=some ⟨oc30,od30,.func (W.fnOf "_law_dot" "_law_dot" (defArgs s_dot) (defBody s_dot) (defScope s_dot) .none kV30 dc30 pm30 an30 cd30 ct30),sl30⟩) (g30:W.codeIn K cd30 "_law_dot"=true) (k30:W.keepIn K (.ref f30)=true)
  (a31:W.nsIn K mainGlobals "_law_rows"=some (some (.ref f31))) (l31:K.lookup f31=some ⟨oc31,od31,.func (W.fnOf "_law_rows" "_law_rows" (defArgs s_rows) (defBody s_rows) (defScope s_rows) .none kV31 dc31 pm31 an31 cd31 ct31),sl31⟩) (g31:W.codeIn K cd31 "_law_rows"=true) (k31:W.keepIn K (.ref f31)=true)
  (a32:W.nsIn K mainGlobals "_law_form"=some (some (.ref f32))) (l32:K.lookup f32=some ⟨oc32,od32,.func (W.fnOf "_law_form" "_law_form" (defArgs s_form) (defBody s_form) (defScope s_form) .none kV32 dc32 pm32 an32 cd32 ct32),sl32⟩) (g32:W.codeIn K cd32 "_law_form"=true) (k32:W.keepIn K (.ref f32)=true)
  (a33:W.nsIn K mainGlobals "_law_spot"=some (some (.ref f33))) (l33:K.lookup f33=some ⟨oc33,od33,.func (W.fnOf "_law_spot" "_law_spot" (defArgs s_spot) (defBody s_spot) (defScope s_spot) .none kV33 dc33 pm33 an33 cd33 ct33),sl33⟩) (g33:W.codeIn K cd33 "_law_spot"=true) (k33:W.keepIn K (.ref f33)=true)
  (a34:W.nsIn K mainGlobals "_law_worth"=some (some (.ref f34))) (l34:K.lookup f34=some ⟨oc34,od34,.func (W.fnOf "_law_worth" "_law_worth" (defArgs s_worth) (defBody s_worth) (defScope s_worth) .none kV34 dc34 pm34 an34 cd34 ct34),sl34⟩) (g34:W.codeIn K cd34 "_law_worth"=true) (k34:W.keepIn K (.ref f34)=true)
  (a35:W.nsIn K mainGlobals "_law_is_spot"=some (some (.ref f35))) (l35:K.lookup f35=some ⟨oc35,od35,.func (W.fnOf "_law_is_spot" "_law_is_spot" (defArgs s_is_spot) (defBody s_is_spot) (defScope s_is_spot) .none kV35 dc35 pm35 an35 cd35 ct35),sl35⟩) (g35:W.codeIn K cd35 "_law_is_spot"=true) (k35:W.keepIn K (.ref f35)=true)
  (a36:W.nsIn K mainGlobals "_law_vertex"=some (some (.ref f36))) (l36:K.lookup f36=some ⟨oc36,od36,.func (W.fnOf "_law_vertex" "_law_vertex" (defArgs s_vertex) (defBody s_vertex) (defScope s_vertex) .none kV36 dc36 pm36 an36 cd36 ct36),sl36⟩) (g36:W.codeIn K cd36 "_law_vertex"=true) (k36:W.keepIn K (.ref f36)=true)
  (a37:W.nsIn K mainGlobals "_law_alone"=some (some (.ref f37))) (l37:K.lookup f37=some ⟨oc37,od37,.func (W.fnOf "_law_alone" "_law_alone" (defArgs s_alone) (defBody s_alone) (defScope s_alone) .none kV37 dc37 pm37 an37 cd37 ct37),sl37⟩) (g37:W.codeIn K cd37 "_law_alone"=true) (k37:W.keepIn K (.ref f37)=true)
  (a38:W.nsIn K mainGlobals "_law_times"=some (some (.ref f38))) (l38:K.lookup f38=some ⟨oc38,od38,.func (W.fnOf "_law_times" "_law_times" (defArgs s_times) (defBody s_times) (defScope s_times) .none kV38 dc38 pm38 an38 cd38 ct38),sl38⟩) (g38:W.codeIn K cd38 "_law_times"=true) (k38:W.keepIn K (.ref f38)=true)
  (a39:W.nsIn K mainGlobals "_law_pair"=some (some (.ref f39))) (l39:K.lookup f39=some ⟨oc39,od39,.func (W.fnOf "_law_pair" "_law_pair" (defArgs s_pair) (defBody s_pair) (defScope s_pair) .none kV39 dc39 pm39 an39 cd39 ct39),sl39⟩) (g39:W.codeIn K cd39 "_law_pair"=true) (k39:W.keepIn K (.ref f39)=true)
  (a40:W.nsIn K mainGlobals "_law_off"=some (some (.ref f40))) (l40:K.lookup f40=some ⟨oc40,od40,.func (W.fnOf "_law_off" "_law_off" (defArgs s_off) (defBody s_off) (defScope s_off) .none kV40 dc40 pm40 an40 cd40 ct40),sl40⟩) (g40:W.codeIn K cd40 "_law_off"=true) (k40:W.keepIn K (.ref f40)=true)
  (a41:W.nsIn K mainGlobals "_law_due"=some (some (.ref f41))) (l41:K.lookup f41=some ⟨oc41,od41,.func (W.fnOf "_law_due" "_law_due" (defArgs s_due) (defBody s_due) (defScope s_due) .none kV41 dc41 pm41 an41 cd41 ct41),sl41⟩) (g41:W.codeIn K cd41 "_law_due"=true) (k41:W.keepIn K (.ref f41)=true)
  (a42:W.nsIn K mainGlobals "_law_flat"=some (some (.ref f42))) (l42:K.lookup f42=some ⟨oc42,od42,.func (W.fnOf "_law_flat" "_law_flat" (defArgs s_flat) (defBody s_flat) (defScope s_flat) .none kV42 dc42 pm42 an42 cd42 ct42),sl42⟩) (g42:W.codeIn K cd42 "_law_flat"=true) (k42:W.keepIn K (.ref f42)=true)
  (a43:W.nsIn K mainGlobals "_law_drawn"=some (some (.ref f43))) (l43:K.lookup f43=some ⟨oc43,od43,.func (W.fnOf "_law_drawn" "_law_drawn" (defArgs s_drawn) (defBody s_drawn) (defScope s_drawn) .none kV43 dc43 pm43 an43 cd43 ct43),sl43⟩) (g43:W.codeIn K cd43 "_law_drawn"=true) (k43:W.keepIn K (.ref f43)=true)
  (a44:W.nsIn K mainGlobals "_law_told"=some (some (.ref f44))) (l44:K.lookup f44=some ⟨oc44,od44,.func (W.fnOf "_law_told" "_law_told" (defArgs s_told) (defBody s_told) (defScope s_told) .none kV44 dc44 pm44 an44 cd44 ct44),sl44⟩) (g44:W.codeIn K cd44 "_law_told"=true) (k44:W.keepIn K (.ref f44)=true)
  (a45:W.nsIn K mainGlobals "law"=some (some (.ref f45))) (l45:K.lookup f45=some ⟨oc45,od45,.func (W.fnOf "law" "law" (defArgs s_law) (defBody s_law) (defScope s_law) .none kV45 dc45 pm45 an45 cd45 ct45),sl45⟩) (g45:W.codeIn K cd45 "law"=true) (k45:W.keepIn K (.ref f45)=true)
  (xm_CurveError:W.nsIn K mainGlobals "CurveError"=some (some (.ref qce)))
  (xm_NoNumber:W.nsIn K mainGlobals "NoNumber"=some (some (.ref qc0)))
  (xm_NoBack:W.nsIn K mainGlobals "NoBack"=some (some (.ref qc1)))
  (xm_NoJoin:W.nsIn K mainGlobals "NoJoin"=some (some (.ref qc2)))
  (xm_NoSign:W.nsIn K mainGlobals "NoSign"=some (some (.ref qc3)))
  (xm_NotPlain:W.nsIn K mainGlobals "NotPlain"=some (some (.ref qc4)))
  (xm_NoPlace:W.nsIn K mainGlobals "NoPlace"=some (some (.ref qc5)))
  (xm_BadPlace:W.nsIn K mainGlobals "BadPlace"=some (some (.ref qc6)))
  (xm_NoVertex:W.nsIn K mainGlobals "NoVertex"=some (some (.ref qc7)))
  (xm_Flat:W.nsIn K mainGlobals "Flat"=some (some (.ref qc8)))
  (xm_OffCurve:W.nsIn K mainGlobals "OffCurve"=some (some (.ref qc9)))
  (xm_NoPair:W.nsIn K mainGlobals "NoPair"=some (some (.ref qc10)))
  (xm_NoLine:W.nsIn K mainGlobals "NoLine"=some (some (.ref qc11)))
  (xm_NoText:W.nsIn K mainGlobals "NoText"=some (some (.ref qc12)))
  (xm_NoRow:W.nsIn K mainGlobals "NoRow"=some (some (.ref qc13)))
  (xm_NoName:W.nsIn K mainGlobals "NoName"=some (some (.ref qc14)))
  (xi_ce:W.kitOne K (.ref qc8) (.ref qce)=some true)
  (xi_0:W.kitOne K (.ref qc8) (.ref qc0)=some false)
  (xi_1:W.kitOne K (.ref qc8) (.ref qc1)=some false)
  (xi_2:W.kitOne K (.ref qc8) (.ref qc2)=some false)
  (xi_3:W.kitOne K (.ref qc8) (.ref qc3)=some false)
  (xi_4:W.kitOne K (.ref qc8) (.ref qc4)=some false)
  (xi_5:W.kitOne K (.ref qc8) (.ref qc5)=some false)
  (xi_6:W.kitOne K (.ref qc8) (.ref qc6)=some false)
  (xi_7:W.kitOne K (.ref qc8) (.ref qc7)=some false)
  (xi_8:W.kitOne K (.ref qc8) (.ref qc8)=some true)
  (xi_9:W.kitOne K (.ref qc8) (.ref qc9)=some false)
  (xi_10:W.kitOne K (.ref qc8) (.ref qc10)=some false)
  (xi_11:W.kitOne K (.ref qc8) (.ref qc11)=some false)
  (xi_12:W.kitOne K (.ref qc8) (.ref qc12)=some false)
  (xi_13:W.kitOne K (.ref qc8) (.ref qc13)=some false)
  (xi_14:W.kitOne K (.ref qc8) (.ref qc14)=some false)
  (xi_ve:W.kitOne K (.ref qc8) (.type "ValueError")=some true)
  (xe0:(W.clsIn K qc8).isSome=true)
  (xe1:W.findIn K (.ref qc8) "__getattribute__"=some (some (.builtin "BaseException.__getattribute__")))
  (xe2:W.findIn K (.ref qc8) "__getattr__"=some none)
  (xe3:W.findIn K (.ref qc8) "__class__"=some (some (.builtin "object.__class__")))
  (xe4:W.specialIn K (.builtin "object.__class__") "__get__"=some (some (.builtin "getset_descriptor.__get__")))
  (xe5:W.takesIn K (.builtin "object.__class__")=some true)
  (xe6:W.mroIn K qc8 (.type "object")=some true)
  (xe7:W.mroIn K qc8 (.type "BaseException")=some true)
  (xx_Flat:excInB K qc8 qiFlat=true)
  (xxf_Flat:W.isFn K (.ref qiFlat)=true)
  (xxn_Flat:W.findIn K (.ref qc8) "vertex"=some none)
  (xxd_Flat:(W.clsIn K qc8).map (·.hasDict)=some true)
  (xxs_Flat:W.findIn K (.ref qc8) "__setattr__"=some (some (.builtin "object.__setattr__")))
  (xxo_Flat:(W.clsIn K qc8).any (fun cd=>onlyVE cd.mro)=true)
  (xi_ce_2:W.kitOne K (.ref qc9) (.ref qce)=some true)
  (xi_0_2:W.kitOne K (.ref qc9) (.ref qc0)=some false)
  (xi_1_2:W.kitOne K (.ref qc9) (.ref qc1)=some false)
  (xi_2_2:W.kitOne K (.ref qc9) (.ref qc2)=some false)
  (xi_3_2:W.kitOne K (.ref qc9) (.ref qc3)=some false)
  (xi_4_2:W.kitOne K (.ref qc9) (.ref qc4)=some false)
  (xi_5_2:W.kitOne K (.ref qc9) (.ref qc5)=some false)
  (xi_6_2:W.kitOne K (.ref qc9) (.ref qc6)=some false)
  (xi_7_2:W.kitOne K (.ref qc9) (.ref qc7)=some false)
  (xi_8_2:W.kitOne K (.ref qc9) (.ref qc8)=some false)
  (xi_9_2:W.kitOne K (.ref qc9) (.ref qc9)=some true)
  (xi_10_2:W.kitOne K (.ref qc9) (.ref qc10)=some false)
  (xi_11_2:W.kitOne K (.ref qc9) (.ref qc11)=some false)
  (xi_12_2:W.kitOne K (.ref qc9) (.ref qc12)=some false)
  (xi_13_2:W.kitOne K (.ref qc9) (.ref qc13)=some false)
  (xi_14_2:W.kitOne K (.ref qc9) (.ref qc14)=some false)
  (xi_ve_2:W.kitOne K (.ref qc9) (.type "ValueError")=some true)
  (xe0_2:(W.clsIn K qc9).isSome=true)
  (xe1_2:W.findIn K (.ref qc9) "__getattribute__"=some (some (.builtin "BaseException.__getattribute__")))
  (xe2_2:W.findIn K (.ref qc9) "__getattr__"=some none)
  (xe3_2:W.findIn K (.ref qc9) "__class__"=some (some (.builtin "object.__class__")))
  (xe4_2:W.specialIn K (.builtin "object.__class__") "__get__"=some (some (.builtin "getset_descriptor.__get__")))
  (xe5_2:W.takesIn K (.builtin "object.__class__")=some true)
  (xe6_2:W.mroIn K qc9 (.type "object")=some true)
  (xe7_2:W.mroIn K qc9 (.type "BaseException")=some true)
  (xx_OffCurve:W.excIn K qc9 bmVE "ValueError.__new__"=true)
  (xi_ce_3:W.kitOne K (.ref qc10) (.ref qce)=some true)
  (xi_0_3:W.kitOne K (.ref qc10) (.ref qc0)=some false)
  (xi_1_3:W.kitOne K (.ref qc10) (.ref qc1)=some false)
  (xi_2_3:W.kitOne K (.ref qc10) (.ref qc2)=some false)
  (xi_3_3:W.kitOne K (.ref qc10) (.ref qc3)=some false)
  (xi_4_3:W.kitOne K (.ref qc10) (.ref qc4)=some false)
  (xi_5_3:W.kitOne K (.ref qc10) (.ref qc5)=some false)
  (xi_6_3:W.kitOne K (.ref qc10) (.ref qc6)=some false)
  (xi_7_3:W.kitOne K (.ref qc10) (.ref qc7)=some false)
  (xi_8_3:W.kitOne K (.ref qc10) (.ref qc8)=some false)
  (xi_9_3:W.kitOne K (.ref qc10) (.ref qc9)=some false)
  (xi_10_3:W.kitOne K (.ref qc10) (.ref qc10)=some true)
  (xi_11_3:W.kitOne K (.ref qc10) (.ref qc11)=some false)
  (xi_12_3:W.kitOne K (.ref qc10) (.ref qc12)=some false)
  (xi_13_3:W.kitOne K (.ref qc10) (.ref qc13)=some false)
  (xi_14_3:W.kitOne K (.ref qc10) (.ref qc14)=some false)
  (xi_ve_3:W.kitOne K (.ref qc10) (.type "ValueError")=some true)
  (xe0_3:(W.clsIn K qc10).isSome=true)
  (xe1_3:W.findIn K (.ref qc10) "__getattribute__"=some (some (.builtin "BaseException.__getattribute__")))
  (xe2_3:W.findIn K (.ref qc10) "__getattr__"=some none)
  (xe3_3:W.findIn K (.ref qc10) "__class__"=some (some (.builtin "object.__class__")))
  (xe4_3:W.specialIn K (.builtin "object.__class__") "__get__"=some (some (.builtin "getset_descriptor.__get__")))
  (xe5_3:W.takesIn K (.builtin "object.__class__")=some true)
  (xe6_3:W.mroIn K qc10 (.type "object")=some true)
  (xe7_3:W.mroIn K qc10 (.type "BaseException")=some true)
  (xx_NoPair:W.excIn K qc10 bmVE "ValueError.__new__"=true)
  (xi_ce_4:W.kitOne K (.ref qc11) (.ref qce)=some true)
  (xi_0_4:W.kitOne K (.ref qc11) (.ref qc0)=some false)
  (xi_1_4:W.kitOne K (.ref qc11) (.ref qc1)=some false)
  (xi_2_4:W.kitOne K (.ref qc11) (.ref qc2)=some false)
  (xi_3_4:W.kitOne K (.ref qc11) (.ref qc3)=some false)
  (xi_4_4:W.kitOne K (.ref qc11) (.ref qc4)=some false)
  (xi_5_4:W.kitOne K (.ref qc11) (.ref qc5)=some false)
  (xi_6_4:W.kitOne K (.ref qc11) (.ref qc6)=some false)
  (xi_7_4:W.kitOne K (.ref qc11) (.ref qc7)=some false)
  (xi_8_4:W.kitOne K (.ref qc11) (.ref qc8)=some false)
  (xi_9_4:W.kitOne K (.ref qc11) (.ref qc9)=some false)
  (xi_10_4:W.kitOne K (.ref qc11) (.ref qc10)=some false)
  (xi_11_4:W.kitOne K (.ref qc11) (.ref qc11)=some true)
  (xi_12_4:W.kitOne K (.ref qc11) (.ref qc12)=some false)
  (xi_13_4:W.kitOne K (.ref qc11) (.ref qc13)=some false)
  (xi_14_4:W.kitOne K (.ref qc11) (.ref qc14)=some false)
  (xi_ve_4:W.kitOne K (.ref qc11) (.type "ValueError")=some true)
  (xe0_4:(W.clsIn K qc11).isSome=true)
  (xe1_4:W.findIn K (.ref qc11) "__getattribute__"=some (some (.builtin "BaseException.__getattribute__")))
  (xe2_4:W.findIn K (.ref qc11) "__getattr__"=some none)
  (xe3_4:W.findIn K (.ref qc11) "__class__"=some (some (.builtin "object.__class__")))
  (xe4_4:W.specialIn K (.builtin "object.__class__") "__get__"=some (some (.builtin "getset_descriptor.__get__")))
  (xe5_4:W.takesIn K (.builtin "object.__class__")=some true)
  (xe6_4:W.mroIn K qc11 (.type "object")=some true)
  (xe7_4:W.mroIn K qc11 (.type "BaseException")=some true)
  (xx_NoLine:W.excIn K qc11 bmVE "ValueError.__new__"=true)
  (xy1:W.specialIn K (.ref qce) "__getattribute__"=some (some (.builtin "type.__getattribute__")))
  (xy2:W.readsIn K qce (.type "type")=true)
  (xy3:W.findCls K (.ref qce) (.type "type") "__init__"=some (.val (.builtin "ValueError.__init__")))
  (xx_CurveError:W.excIn K qce bmVE "ValueError.__new__"=true)
  (xu_Flat:W.mroIn K qc8 (.ref qce)=some true)
  (xu_OffCurve:W.mroIn K qc9 (.ref qce)=some true)
  (xu_NoPair:W.mroIn K qc10 (.ref qce)=some true)
  (xu_NoLine:W.mroIn K qc11 (.ref qce)=some true)
  (xn_OF:W.mroIn K qc9 (.ref qc8)=some false)
  (xn_PF:W.mroIn K qc10 (.ref qc8)=some false)
  (xn_PO:W.mroIn K qc10 (.ref qc9)=some false)
  (xn_LF:W.mroIn K qc11 (.ref qc8)=some false)
  (xn_LO:W.mroIn K qc11 (.ref qc9)=some false)
  (xn_LP:W.mroIn K qc11 (.ref qc10)=some false)
  (xm_AXES:W.nsIn K mainGlobals "AXES"=some (some (.ref qgAXES)))
  {odgAXES:Option Addr} {ngAXES:Nat} {slgAXES:Array (Option Value)}
  (xk_AXES:K.lookup qgAXES=some ⟨.type "tuple",odgAXES,.seq #[.ref qgAXES_0,.ref qgAXES_1,.ref qgAXES_2] ngAXES,slgAXES⟩)
  {odgAXES_0:Option Addr} {ngAXES_0:Nat} {slgAXES_0:Array (Option Value)} {tkgAXES_0_0 tkgAXES_0_1 tkgAXES_0_2:Tok}
  (xk_AXES_0:K.lookup qgAXES_0=some ⟨.type "tuple",odgAXES_0,.seq #[.int 1 tkgAXES_0_0,.int 0 tkgAXES_0_1,.int 0 tkgAXES_0_2] ngAXES_0,slgAXES_0⟩)
  {odgAXES_1:Option Addr} {ngAXES_1:Nat} {slgAXES_1:Array (Option Value)} {tkgAXES_1_0 tkgAXES_1_1 tkgAXES_1_2:Tok}
  (xk_AXES_1:K.lookup qgAXES_1=some ⟨.type "tuple",odgAXES_1,.seq #[.int 0 tkgAXES_1_0,.int 1 tkgAXES_1_1,.int 0 tkgAXES_1_2] ngAXES_1,slgAXES_1⟩)
  {odgAXES_2:Option Addr} {ngAXES_2:Nat} {slgAXES_2:Array (Option Value)} {tkgAXES_2_0 tkgAXES_2_1 tkgAXES_2_2:Tok}
  (xk_AXES_2:K.lookup qgAXES_2=some ⟨.type "tuple",odgAXES_2,.seq #[.int 0 tkgAXES_2_0,.int 0 tkgAXES_2_1,.int 1 tkgAXES_2_2] ngAXES_2,slgAXES_2⟩)
  (xm_WAYS:W.nsIn K mainGlobals "WAYS"=some (some (.ref qgWAYS)))
  {odgWAYS:Option Addr} {ngWAYS:Nat} {slgWAYS:Array (Option Value)}
  (xk_WAYS:K.lookup qgWAYS=some ⟨.type "tuple",odgWAYS,.seq #[.ref qgWAYS_0,.ref qgWAYS_1,.ref qgWAYS_2] ngWAYS,slgWAYS⟩)
  {odgWAYS_0:Option Addr} {ngWAYS_0:Nat} {slgWAYS_0:Array (Option Value)} {tkgWAYS_0_0 tkgWAYS_0_1:Tok}
  (xk_WAYS_0:K.lookup qgWAYS_0=some ⟨.type "tuple",odgWAYS_0,.seq #[.int 1 tkgWAYS_0_0,.int 2 tkgWAYS_0_1] ngWAYS_0,slgWAYS_0⟩)
  {odgWAYS_1:Option Addr} {ngWAYS_1:Nat} {slgWAYS_1:Array (Option Value)} {tkgWAYS_1_0 tkgWAYS_1_1:Tok}
  (xk_WAYS_1:K.lookup qgWAYS_1=some ⟨.type "tuple",odgWAYS_1,.seq #[.int 0 tkgWAYS_1_0,.int 2 tkgWAYS_1_1] ngWAYS_1,slgWAYS_1⟩)
  {odgWAYS_2:Option Addr} {ngWAYS_2:Nat} {slgWAYS_2:Array (Option Value)} {tkgWAYS_2_0 tkgWAYS_2_1:Tok}
  (xk_WAYS_2:K.lookup qgWAYS_2=some ⟨.type "tuple",odgWAYS_2,.seq #[.int 0 tkgWAYS_2_0,.int 1 tkgWAYS_2_1] ngWAYS_2,slgWAYS_2⟩)
  (xi_ib:W.kitOne K (.type "int") (.type "bool")=some false)
  (xz_isinstance:W.nsIn K mainGlobals "isinstance"=some none)
  (xz_int:W.nsIn K mainGlobals "int"=some none)
  (xz_bool:W.nsIn K mainGlobals "bool"=some none)
  (xz_len:W.nsIn K mainGlobals "len"=some none)
  (xz_range:W.nsIn K mainGlobals "range"=some none)
  (xz_tuple:W.nsIn K mainGlobals "tuple"=some none)
  (xz_all:W.nsIn K mainGlobals "all"=some none)
  (xz_abs:W.nsIn K mainGlobals "abs"=some none)
  (xz_any:W.nsIn K mainGlobals "any"=some none)
  (xz_sum:W.nsIn K mainGlobals "sum"=some none)
  (xz_zip:W.nsIn K mainGlobals "zip"=some none)
  (xz_max:W.nsIn K mainGlobals "max"=some none)
  (xz_list:W.nsIn K mainGlobals "list"=some none)
  (xz_set:W.nsIn K mainGlobals "set"=some none)
  (xz_sorted:W.nsIn K mainGlobals "sorted"=some none)
  (xz_ValueError:W.nsIn K mainGlobals "ValueError"=some none)
 :∃ fd:FuncData,(∀ (s:Shared) (v:Value),BindsTo s fd ⟨[v],[]⟩ [("_law_script",v)])/\∀ base:Heap,K.In base->base.Ns mainGlobals mg->FnOk l.prog w K mg base CX0 8 fa fd ["_law_script"] (spLaw K):=by
 have e:=hfa.symm.trans (W.mg_of X G a45)
 cases e
 have T:Txt K mg ⟨qce,qc0,qc1,qc2,qc3,qc4,qc5,qc6,qc7,qc8,qc9,qc10,qc11,qc12,qc13,qc14,qiFlat,qgAXES,qgAXES_0,qgAXES_1,qgAXES_2,qgWAYS,qgWAYS_0,qgWAYS_1,qgWAYS_2⟩:=⟨W.mg_of X G xm_CurveError,W.mg_of X G xm_NoNumber,W.mg_of X G xm_NoBack,W.mg_of X G xm_NoJoin,W.mg_of X G xm_NoSign,W.mg_of X G xm_NotPlain,W.mg_of X G xm_NoPlace,W.mg_of X G xm_BadPlace,W.mg_of X G xm_NoVertex,W.mg_of X G xm_Flat,W.mg_of X G xm_OffCurve,W.mg_of X G xm_NoPair,W.mg_of X G xm_NoLine,W.mg_of X G xm_NoText,W.mg_of X G xm_NoRow,W.mg_of X G xm_NoName,xi_ce,xi_0,xi_1,xi_2,xi_3,xi_4,xi_5,xi_6,xi_7,xi_8,xi_9,xi_10,xi_11,xi_12,xi_13,xi_14,xi_ve,xe0,xe1,xe2,xe3,xe4,xe5,xe6,xe7,xx_Flat,xxf_Flat,xxn_Flat,xxd_Flat,xxs_Flat,xxo_Flat,xi_ce_2,xi_0_2,xi_1_2,xi_2_2,xi_3_2,xi_4_2,xi_5_2,xi_6_2,xi_7_2,xi_8_2,xi_9_2,xi_10_2,xi_11_2,xi_12_2,xi_13_2,xi_14_2,xi_ve_2,xe0_2,xe1_2,xe2_2,xe3_2,xe4_2,xe5_2,xe6_2,xe7_2,xx_OffCurve,xi_ce_3,xi_0_3,xi_1_3,xi_2_3,xi_3_3,xi_4_3,xi_5_3,xi_6_3,xi_7_3,xi_8_3,xi_9_3,xi_10_3,xi_11_3,xi_12_3,xi_13_3,xi_14_3,xi_ve_3,xe0_3,xe1_3,xe2_3,xe3_3,xe4_3,xe5_3,xe6_3,xe7_3,xx_NoPair,xi_ce_4,xi_0_4,xi_1_4,xi_2_4,xi_3_4,xi_4_4,xi_5_4,xi_6_4,xi_7_4,xi_8_4,xi_9_4,xi_10_4,xi_11_4,xi_12_4,xi_13_4,xi_14_4,xi_ve_4,xe0_4,xe1_4,xe2_4,xe3_4,xe4_4,xe5_4,xe6_4,xe7_4,xx_NoLine,xy1,xy2,xy3,xx_CurveError,xu_Flat,xu_OffCurve,xu_NoPair,xu_NoLine,xn_OF,xn_PF,xn_PO,xn_LF,xn_LO,xn_LP,W.mg_of X G xm_AXES,TupK.mk xk_AXES (by show 3<=sizeLine; decide) (.cons rfl (.cons rfl (.cons rfl .nil))),TupK.mk xk_AXES_0 (by show 3<=sizeLine; decide) (.cons ⟨_,rfl⟩ (.cons ⟨_,rfl⟩ (.cons ⟨_,rfl⟩ .nil))),TupK.mk xk_AXES_1 (by show 3<=sizeLine; decide) (.cons ⟨_,rfl⟩ (.cons ⟨_,rfl⟩ (.cons ⟨_,rfl⟩ .nil))),TupK.mk xk_AXES_2 (by show 3<=sizeLine; decide) (.cons ⟨_,rfl⟩ (.cons ⟨_,rfl⟩ (.cons ⟨_,rfl⟩ .nil))),W.mg_of X G xm_WAYS,TupK.mk xk_WAYS (by show 3<=sizeLine; decide) (.cons rfl (.cons rfl (.cons rfl .nil))),TupK.mk xk_WAYS_0 (by show 2<=sizeLine; decide) (.cons ⟨_,rfl⟩ (.cons ⟨_,rfl⟩ .nil)),TupK.mk xk_WAYS_1 (by show 2<=sizeLine; decide) (.cons ⟨_,rfl⟩ (.cons ⟨_,rfl⟩ .nil)),TupK.mk xk_WAYS_2 (by show 2<=sizeLine; decide) (.cons ⟨_,rfl⟩ (.cons ⟨_,rfl⟩ .nil)),xi_ib,W.mg_none_of X G xz_isinstance,W.mg_none_of X G xz_int,W.mg_none_of X G xz_bool,W.mg_none_of X G xz_len,W.mg_none_of X G xz_range,W.mg_none_of X G xz_tuple,W.mg_none_of X G xz_all,W.mg_none_of X G xz_abs,W.mg_none_of X G xz_any,W.mg_none_of X G xz_sum,W.mg_none_of X G xz_zip,W.mg_none_of X G xz_max,W.mg_none_of X G xz_list,W.mg_none_of X G xz_set,W.mg_none_of X G xz_sorted,W.mg_none_of X G xz_ValueError⟩
 have F1:=fun_mk (st:=s_row_less) l1 g1 k1
 have b1:=F1.binds (ps:=["row","taken","times"]) fun _ _ _ _ _ _=>byL3 fun _ _ _=>rfl
 have F2:=fun_mk (st:=s_shares_of) l2 g2 k2
 have b2:=F2.binds (ps:=["one","other"]) fun _ _ _ _ _ _=>byL2 fun _ _=>rfl
 have F3:=fun_mk (st:=s_slopes_of) l3 g3 k3
 have b3:=F3.binds (ps:=["Q"]) fun _ _ _ _ _ _=>byL1 fun _=>rfl
 have F4:=fun_mk (st:=s_size_of) l4 g4 k4
 have b4:=F4.binds (ps:=["Q"]) fun _ _ _ _ _ _=>byL1 fun _=>rfl
 have F5:=fun_mk (st:=s_crossing_of) l5 g5 k5
 have b5:=F5.binds (ps:=["one","other"]) fun _ _ _ _ _ _=>byL2 fun _ _=>rfl
 have F6:=fun_mk (st:=s_stretched) l6 g6 k6
 have b6:=F6.binds (ps:=["P","times"]) fun _ _ _ _ _ _=>byL2 fun _ _=>rfl
 have F7:=fun_mk (st:=s_last_of) l7 g7 k7
 have b7:=F7.binds (ps:=["point"]) fun _ _ _ _ _ _=>byL1 fun _=>rfl
 have F8:=fun_mk (st:=s_row_product) l8 g8 k8
 have b8:=F8.binds (ps:=["row","P"]) fun _ _ _ _ _ _=>byL2 fun _ _=>rfl
 have F9:=fun_mk (st:=s_turned_by) l9 g9 k9
 have b9:=F9.binds (ps:=["table","P"]) fun _ _ _ _ _ _=>byL2 fun _ _=>rfl
 have F10:=fun_mk (st:=s_worth_of) l10 g10 k10
 have b10:=F10.binds (ps:=["Q","P"]) fun _ _ _ _ _ _=>byL2 fun _ _=>rfl
 have F11:=fun_mk (st:=s_added) l11 g11 k11
 have b11:=F11.binds (ps:=["one","other"]) fun _ _ _ _ _ _=>byL2 fun _ _=>rfl
 have F12:=fun_mk (st:=s_lowest_point) l12 g12 k12
 have b12:=F12.binds (ps:=["P"]) fun _ _ _ _ _ _=>byL1 fun _=>rfl
 have F13:=fun_mk (st:=s_led_to) l13 g13 k13
 have b13:=F13.binds (ps:=["Q","start","m","n"]) fun _ _ _ _ _ _=>byL4 fun _ _ _ _=>rfl
 have F14:=fun_mk (st:=s_above_root) l14 g14 k14
 have b14:=F14.binds (ps:=["number"]) fun _ _ _ _ _ _=>byL1 fun _=>rfl
 have F15:=fun_mk (st:=s_root_of) l15 g15 k15
 have b15:=F15.binds (ps:=["number"]) fun _ _ _ _ _ _=>byL1 fun _=>rfl
 have F16:=fun_mk (st:=s_off_curve) l16 g16 k16
 have b16:=F16.binds (ps:=["Q","points"]) fun _ _ _ _ _ _=>byL2 fun _ _=>rfl
 have F17:=fun_mk (st:=s_corners_on) l17 g17 k17
 have b17:=F17.binds (ps:=["Q","line"]) fun _ _ _ _ _ _=>byL2 fun _ _=>rfl
 have F18:=fun_mk (st:=s_crossings_of) l18 g18 k18
 have b18:=F18.binds (ps:=["lines","others"]) fun _ _ _ _ _ _=>byL2 fun _ _=>rfl
 have F19:=fun_mk (st:=s_vertex_of) l19 g19 k19
 have b19:=F19.binds (ps:=["Q"]) fun _ _ _ _ _ _=>byL1 fun _=>rfl
 have F20:=fun_mk (st:=s_init_Flat) l20 g20 k20
 have b20:=F20.binds (ps:=["self","vertex"]) fun _ _ _ _ _ _=>byL2 fun _ _=>rfl
 have F21:=fun_mk (st:=s_refuse_flat) l21 g21 k21
 have b21:=F21.binds (ps:=["Q"]) fun _ _ _ _ _ _=>byL1 fun _=>rfl
 have F22:=fun_mk (st:=s_point_on) l22 g22 k22
 have b22:=F22.binds (ps:=["Q","P"]) fun _ _ _ _ _ _=>byL2 fun _ _=>rfl
 have F23:=fun_mk (st:=s_point_by) l23 g23 k23
 have b23:=F23.binds (ps:=["Q","P","m","n"]) fun _ _ _ _ _ _=>byL4 fun _ _ _ _=>rfl
 have F24:=fun_mk (st:=s_numbers_of) l24 g24 k24
 have b24:=F24.binds (ps:=["Q","P","other"]) fun _ _ _ _ _ _=>byL3 fun _ _ _=>rfl
 have F25:=fun_mk (st:=s_line_met) l25 g25 k25
 have b25:=F25.binds (ps:=["Q","line"]) fun _ _ _ _ _ _=>byL2 fun _ _=>rfl
 have F26:=fun_mk (st:=s_cell_at) l26 g26 k26
 have b26:=F26.binds (ps:=["_law_script","_law_k"]) fun _ _ _ _ _ _=>byL2 fun _ _=>rfl
 have F27:=fun_mk (st:=s_shared) l27 g27 k27
 have b27:=F27.binds (ps:=["_law_numbers"]) fun _ _ _ _ _ _=>byL1 fun _=>rfl
 have F28:=fun_mk (st:=s_lowest) l28 g28 k28
 have b28:=F28.binds (ps:=["_law_numbers"]) fun _ _ _ _ _ _=>byL1 fun _=>rfl
 have F29:=fun_mk (st:=s_beside) l29 g29 k29
 have b29:=F29.binds (ps:=["_law_one","_law_other"]) fun _ _ _ _ _ _=>byL2 fun _ _=>rfl
 have F30:=fun_mk (st:=s_dot) l30 g30 k30
 have b30:=F30.binds (ps:=["_law_one","_law_other"]) fun _ _ _ _ _ _=>byL2 fun _ _=>rfl
 have F31:=fun_mk (st:=s_rows) l31 g31 k31
 have b31:=F31.binds (ps:=["_law_script","_law_start","_law_way","_law_great"]) fun _ _ _ _ _ _=>byL4 fun _ _ _ _=>rfl
 have F32:=fun_mk (st:=s_form) l32 g32 k32
 have b32:=F32.binds (ps:=["_law_rows_here","_law_times_here"]) fun _ _ _ _ _ _=>byL2 fun _ _=>rfl
 have F33:=fun_mk (st:=s_spot) l33 g33 k33
 have b33:=F33.binds (ps:=["_law_rows_here","_law_s","_law_t"]) fun _ _ _ _ _ _=>byL3 fun _ _ _=>rfl
 have F34:=fun_mk (st:=s_worth) l34 g34 k34
 have b34:=F34.binds (ps:=["_law_form_here","_law_spot_here"]) fun _ _ _ _ _ _=>byL2 fun _ _=>rfl
 have F35:=fun_mk (st:=s_is_spot) l35 g35 k35
 have b35:=F35.binds (ps:=["_law_found"]) fun _ _ _ _ _ _=>byL1 fun _=>rfl
 have F36:=fun_mk (st:=s_vertex) l36 g36 k36
 have b36:=F36.binds (ps:=["_law_form_here","_law_spot_here"]) fun _ _ _ _ _ _=>byL2 fun _ _=>rfl
 have F37:=fun_mk (st:=s_alone) l37 g37 k37
 have b37:=F37.binds (ps:=["_law_e"]) fun _ _ _ _ _ _=>byL1 fun _=>rfl
 have F38:=fun_mk (st:=s_times) l38 g38 k38
 have b38:=F38.binds (ps:=["_law_cell"]) fun _ _ _ _ _ _=>byL1 fun _=>rfl
 have F39:=fun_mk (st:=s_pair) l39 g39 k39
 have b39:=F39.binds (ps:=["_law_one","_law_other","_law_way"]) fun _ _ _ _ _ _=>byL3 fun _ _ _=>rfl
 have F40:=fun_mk (st:=s_off) l40 g40 k40
 have b40:=F40.binds (ps:=["_law_form_here","_law_spot_here"]) fun _ _ _ _ _ _=>byL2 fun _ _=>rfl
 have F41:=fun_mk (st:=s_due) l41 g41 k41
 have b41:=F41.binds (ps:=["_law_deed","_law_flat_here","_law_form_here","_law_spot_here","_law_other","_law_pair_here","_law_line"]) fun _ _ _ _ _ _=>byL7 fun _ _ _ _ _ _ _=>rfl
 have F42:=fun_mk (st:=s_flat) l42 g42 k42
 have b42:=F42.binds (ps:=["_law_rows_here","_law_way"]) fun _ _ _ _ _ _=>byL2 fun _ _=>rfl
 have F43:=fun_mk (st:=s_drawn) l43 g43 k43
 have b43:=F43.binds (ps:=["_law_script","_law_at","_law_rows_here","_law_way"]) fun _ _ _ _ _ _=>byL4 fun _ _ _ _=>rfl
 have F44:=fun_mk (st:=s_told) l44 g44 k44
 have b44:=F44.binds (ps:=["_law_deed","_law_form_here","_law_spot_here","_law_other","_law_pair_here","_law_line"]) fun _ _ _ _ _ _=>byL6 fun _ _ _ _ _ _=>rfl
 have F45:=fun_mk (st:=s_law) l45 g45 k45
 refine ⟨W.fnOf "law" "law" (defArgs s_law) (defBody s_law) (defScope s_law) .none kV45 dc45 pm45 an45 cd45 ct45,fun s v=>.of_eq rfl,fun base _ _=>?_⟩
 have H_row_less:Has l.prog w K mg base CX0 1 "row_less" ["row","taken","times"] (spRow):=⟨f1,_,ok_row_less F1 T ,b1,k1,W.mg_of X G a1⟩
 have H_shares_of:Has l.prog w K mg base CX0 2 "shares_of" ["one","other"] (spShares):=⟨f2,_,ok_shares_of F2 T H_row_less,b2,k2,W.mg_of X G a2⟩
 have H_slopes_of:Has l.prog w K mg base CX0 1 "slopes_of" ["Q"] (spSl):=⟨f3,_,ok_slopes_of F3 T ,b3,k3,W.mg_of X G a3⟩
 have H_size_of:Has l.prog w K mg base CX0 1 "size_of" ["Q"] (spSize):=⟨f4,_,ok_size_of F4 T ,b4,k4,W.mg_of X G a4⟩
 have H_crossing_of:Has l.prog w K mg base CX0 1 "crossing_of" ["one","other"] (spCrK K):=⟨f5,_,ok_crossing_of F5 T ,b5,k5,W.mg_of X G a5⟩
 have H_stretched:Has l.prog w K mg base CX0 1 "stretched" ["P","times"] (spStr K):=⟨f6,_,ok_stretched F6 T ,b6,k6,W.mg_of X G a6⟩
 have H_last_of:Has l.prog w K mg base CX0 1 "last_of" ["point"] (spLast):=⟨f7,_,ok_last_of F7 T ,b7,k7,W.mg_of X G a7⟩
 have H_row_product:Has l.prog w K mg base CX0 1 "row_product" ["row","P"] (spRpK K):=⟨f8,_,ok_row_product F8 T ,b8,k8,W.mg_of X G a8⟩
 have H_turned_by:Has l.prog w K mg base CX0 2 "turned_by" ["table","P"] (spTbK K):=⟨f9,_,ok_turned_by F9 T H_row_product,b9,k9,W.mg_of X G a9⟩
 have H_worth_of:Has l.prog w K mg base CX0 1 "worth_of" ["Q","P"] (spWoK K):=⟨f10,_,ok_worth_of F10 T ,b10,k10,W.mg_of X G a10⟩
 have H_added:Has l.prog w K mg base CX0 1 "added" ["one","other"] (spAddK K):=⟨f11,_,ok_added F11 T ,b11,k11,W.mg_of X G a11⟩
 have H_lowest_point:Has l.prog w K mg base CX0 3 "lowest_point" ["P"] (spLowS K):=⟨f12,_,ok_lowest_point F12 T H_shares_of,b12,k12,W.mg_of X G a12⟩
 have H_led_to:Has l.prog w K mg base CX0 3 "led_to" ["Q","start","m","n"] (spLed):=⟨f13,_,ok_led_to F13 T H_last_of H_stretched H_added H_slopes_of H_turned_by H_row_product H_worth_of,b13,k13,W.mg_of X G a13⟩
 have H_above_root:Has l.prog w K mg base CX0 1 "above_root" ["number"] (spAbove):=⟨f14,_,ok_above_root F14 T ,b14,k14,W.mg_of X G a14⟩
 have H_root_of:Has l.prog w K mg base CX0 2 "root_of" ["number"] (spRootF):=⟨f15,_,ok_root_of F15 T H_above_root,b15,k15,W.mg_of X G a15⟩
 have H_off_curve:Has l.prog w K mg base CX0 2 "off_curve" ["Q","points"] (spOff K):=⟨f16,_,ok_off_curve F16 T H_added H_worth_of,b16,k16,W.mg_of X G a16⟩
 have H_corners_on:Has l.prog w K mg base CX0 4 "corners_on" ["Q","line"] (spCorL):=⟨f17,_,ok_corners_on F17 T H_crossing_of H_off_curve H_lowest_point H_slopes_of H_turned_by,b17,k17,W.mg_of X G a17⟩
 have H_crossings_of:Has l.prog w K mg base CX0 2 "crossings_of" ["lines","others"] (spCrs K):=⟨f18,_,ok_crossings_of F18 T H_crossing_of,b18,k18,W.mg_of X G a18⟩
 have H_vertex_of:Has l.prog w K mg base CX0 4 "vertex_of" ["Q"] (spVx0):=⟨f19,_,ok_vertex_of F19 T H_size_of H_slopes_of H_crossings_of H_lowest_point,b19,k19,W.mg_of X G a19⟩
 have H_init_Flat:HasI l.prog w K mg base 1 qiFlat ["self","vertex"] (spIni qc8 "vertex"):=⟨_,ok_init_Flat F20 T ,b20⟩
 have H_refuse_flat:Has l.prog w K mg base (XD l.prog w) 5 "refuse_flat" ["Q"] (spRfX qc8):=⟨f21,_,ok_refuse_flat F21 T H_size_of H_vertex_of H_init_Flat,b21,k21,W.mg_of X G a21⟩
 have H_point_on:Has l.prog w K mg base (XF l.prog w) 4 "point_on" ["Q","P"] (spOnX qc9):=⟨f22,_,ok_point_on F22 T H_worth_of H_lowest_point,b22,k22,W.mg_of X G a22⟩
 have H_point_by:Has l.prog w K mg base (XB l.prog w) 6 "point_by" ["Q","P","m","n"] (spByX qc8 qc9 qc10):=⟨f23,_,ok_point_by F23 T H_refuse_flat H_point_on H_led_to H_lowest_point,b23,k23,W.mg_of X G a23⟩
 have H_numbers_of:Has l.prog w K mg base (XB l.prog w) 6 "numbers_of" ["Q","P","other"] (spNumX qc8 qc9):=⟨f24,_,ok_numbers_of F24 T H_refuse_flat H_point_on H_slopes_of H_turned_by H_crossing_of H_last_of H_lowest_point,b24,k24,W.mg_of X G a24⟩
 have H_line_met:Has l.prog w K mg base (XB l.prog w) 6 "line_met" ["Q","line"] (spMetX qc8 qc11):=⟨f25,_,ok_line_met F25 T H_refuse_flat H_corners_on H_worth_of H_root_of H_stretched H_added H_lowest_point,b25,k25,W.mg_of X G a25⟩
 have H_cell_at:Has l.prog w K mg base CX0 1 "_law_cell_at" ["_law_script","_law_k"] (spCell K):=⟨f26,_,ok_cell_at F26 T ,b26,k26,W.mg_of X G a26⟩
 have H_shared:HasS l.prog w K mg base 1 "_law_shared" ["_law_numbers"] (spShared):=⟨f27,_,ok_shared F27 T ,b27,k27,W.mg_of X G a27⟩
 have H_lowest:HasS l.prog w K mg base 2 "_law_lowest" ["_law_numbers"] (spLow):=⟨f28,_,ok_lowest F28 T H_shared,b28,k28,W.mg_of X G a28⟩
 have H_beside:Has l.prog w K mg base CX0 1 "_law_beside" ["_law_one","_law_other"] (spCr):=⟨f29,_,ok_beside F29 T ,b29,k29,W.mg_of X G a29⟩
 have H_dot:Has l.prog w K mg base CX0 1 "_law_dot" ["_law_one","_law_other"] (spRp):=⟨f30,_,ok_dot F30 T ,b30,k30,W.mg_of X G a30⟩
 have H_rows:Has l.prog w K mg base CX0 2 "_law_rows" ["_law_script","_law_start","_law_way","_law_great"] (spRows K):=⟨f31,_,ok_rows F31 T H_cell_at H_dot H_beside,b31,k31,W.mg_of X G a31⟩
 have H_form:Has l.prog w K mg base CX0 1 "_law_form" ["_law_rows_here","_law_times_here"] (spForm):=⟨f32,_,ok_form F32 T ,b32,k32,W.mg_of X G a32⟩
 have H_spot:Has l.prog w K mg base CX0 3 "_law_spot" ["_law_rows_here","_law_s","_law_t"] (spSpot):=⟨f33,_,ok_spot F33 T H_beside H_lowest,b33,k33,W.mg_of X G a33⟩
 have H_worth:Has l.prog w K mg base CX0 1 "_law_worth" ["_law_form_here","_law_spot_here"] (spLw):=⟨f34,_,ok_worth F34 T ,b34,k34,W.mg_of X G a34⟩
 have H_is_spot:HasS l.prog w K mg base 3 "_law_is_spot" ["_law_found"] (spIsSpot):=⟨f35,_,ok_is_spot F35 T H_lowest,b35,k35,W.mg_of X G a35⟩
 have H_vertex:HasS l.prog w K mg base 4 "_law_vertex" ["_law_form_here","_law_spot_here"] (spVt54):=⟨f36,_,ok_vertex F36 T H_is_spot,b36,k36,W.mg_of X G a36⟩
 have H_alone:HasQ l.prog w K mg base 1 "_law_alone" ["_law_e"] (spAl4 qc8 qc9 qc10 qc11):=⟨f37,_,ok_alone F37 T ,b37,k37,W.mg_of X G a37⟩
 have H_times:Has l.prog w K mg base CX0 1 "_law_times" ["_law_cell"] (spTimes):=⟨f38,_,ok_times F38 T ,b38,k38,W.mg_of X G a38⟩
 have H_pair:Has l.prog w K mg base CX0 1 "_law_pair" ["_law_one","_law_other","_law_way"] (spPair):=⟨f39,_,ok_pair F39 T ,b39,k39,W.mg_of X G a39⟩
 have H_off:Has l.prog w K mg base CX0 2 "_law_off" ["_law_form_here","_law_spot_here"] (spOff54):=⟨f40,_,ok_off F40 T H_worth,b40,k40,W.mg_of X G a40⟩
 have H_due:Has l.prog w K mg base CX0 3 "_law_due" ["_law_deed","_law_flat_here","_law_form_here","_law_spot_here","_law_other","_law_pair_here","_law_line"] (spDue54):=⟨f41,_,ok_due F41 T H_off,b41,k41,W.mg_of X G a41⟩
 have H_flat:Has l.prog w K mg base CX0 1 "_law_flat" ["_law_rows_here","_law_way"] (spFlat54):=⟨f42,_,ok_flat F42 T ,b42,k42,W.mg_of X G a42⟩
 have H_drawn:Has l.prog w K mg base CX0 4 "_law_drawn" ["_law_script","_law_at","_law_rows_here","_law_way"] (spDr54 K):=⟨f43,_,ok_drawn F43 T H_cell_at H_pair H_spot H_times,b43,k43,W.mg_of X G a43⟩
 have H_told:Has l.prog w K mg base CX0 7 "_law_told" ["_law_deed","_law_form_here","_law_spot_here","_law_other","_law_pair_here","_law_line"] (spTold54):=⟨f44,_,ok_told F44 T H_point_by H_numbers_of H_line_met H_alone H_vertex,b44,k44,W.mg_of X G a44⟩
 exact ok_law F45 T H_cell_at H_rows H_form H_times H_flat H_drawn H_pair H_due H_told
theorem walk {l:W.OpenLaw} {q:Program} {loose:List Str} {XP:(Str->Option Value)->Heap->Prop} {YP:World->Heap->Prop} {d:DefRec} {K:Params->W.Frag} (hn:l.most=some 63) (hdf:d.params.defaults=[])
  (hY:∀ (w:World) (h:Heap),YP w h->(K w.params).In h)
  (F:∀ (w:World) (mg:Str->Option Value) (fa:Addr) (h:Heap),(K w.params).In h->h.Ns mainGlobals mg->mg d.name=some (.ref fa) ->
   ∃ fd:FuncData,(∀ (s:Shared) (u:Value),BindsTo s fd ⟨[u],[]⟩ [("_law_script",u)])/\∀ base:Heap,(K w.params).In base->base.Ns mainGlobals mg->FnOk l.prog w (K w.params) mg base CX0 8 fa fd ["_law_script"] (spLaw (K w.params))) :
  W.WalkO q loose XP YP l.row.toRowW d [] (fun f vs=>PySem.call f vs):=
 L2.walk_b (n:=63) (k:=8) (x:="_law_script") (CX:=fun _=>CX0) (sp:=fun w=>spLaw (K w.params)) hn (by decide) hdf ⟨rfl,by decide,by decide⟩ hY F (fun _ _ a ns hl hb hS=>⟨a,ns,rfl,hS,hl,hb,fun _=>rfl⟩) fun _ _ _ _ _ z=>z
end K54
def PySem.W.Fast.tw2125263700506982579:Unit:=()
def PySem.W.Fast.tw4829712560510901326:Unit:=()
def PySem.W.Fast.tw7546976511821529896:Unit:=()
def PySem.W.Fast.tw9697732169034340729:Unit:=()
def PySem.W.Fast.tw3266716663909515488:Unit:=()
def PySem.W.Fast.tw878262685218624563:Unit:=()
def PySem.W.Fast.tw15375713514963918463:Unit:=()
def PySem.W.Fast.tw4393924252552970338:Unit:=()
def PySem.W.Fast.tw13660860623264178676:Unit:=()
def PySem.W.Fast.tw17112758475405367803:Unit:=()
def PySem.W.Fast.tw10540521620289437847:Unit:=()
def PySem.W.Fast.tw15406913352434768624:Unit:=()
def PySem.W.Fast.tw6202383800441706720:Unit:=()
def PySem.W.Fast.tw6230985298281443236:Unit:=()
def PySem.W.Fast.tw8672912913495455977:Unit:=()
def PySem.W.Fast.tw13308235278975925101:Unit:=()
def PySem.W.Fast.tw988639999587987361:Unit:=()
def PySem.W.Fast.tw11129414056215787099:Unit:=()
def PySem.W.Fast.tw12737471989435910384:Unit:=()
def PySem.W.Fast.tw7386721960382920717:Unit:=()
def PySem.W.Fast.tw556173834406177045:Unit:=()
def PySem.W.Fast.tw8108262488815112556:Unit:=()
def PySem.W.Fast.tw2956200362811962027:Unit:=()
def PySem.W.Fast.tw4156066176144250222:Unit:=()
def PySem.W.Fast.tw7372686495931746539:Unit:=()
def PySem.W.Fast.tw15042497527716014622:Unit:=()
def PySem.W.Fast.tw5921564446165180180:Unit:=()
def PySem.W.Fast.tw12830016773728806607:Unit:=()
def PySem.W.Fast.tw11595457329707828173:Unit:=()
def PySem.W.Fast.tw17591835380090155739:Unit:=()
def PySem.W.Fast.tw1588748265931264436:Unit:=()
def PySem.W.Fast.tw4743001913657747182:Unit:=()
def PySem.W.Fast.tw4939420709047143801:Unit:=()
def PySem.W.Fast.tw5345605280031671951:Unit:=()
def PySem.W.Fast.tw3694198148602690077:Unit:=()
def PySem.W.Fast.tw3178169339915337074:Unit:=()
def PySem.W.Fast.tw15480952445427126441:Unit:=()
def PySem.W.Fast.tw16329494343512807680:Unit:=()
def PySem.W.Fast.tw2732804061036467614:Unit:=()
def PySem.W.Fast.tw9381201485213071786:Unit:=()
def PySem.W.Fast.tw4871929932863751910:Unit:=()
def PySem.W.Fast.tw13795378606601462720:Unit:=()
def PySem.W.Fast.tw11916336942605261144:Unit:=()
def PySem.W.Fast.tw4946149816047228766:Unit:=()
def PySem.W.Fast.tw11711640171964155560:Unit:=()
def PySem.W.Fast.tw2037912404078303876:Unit:=()
open PySem PySem.W PyProof.Rows
set_option maxRecDepth 100000 in
set_option maxHeartbeats 0 in
theorem PySem.Challenge.cw_conicplaces_k54_points_refused_holds : PySem.Challenge.rw_conicplaces_k54_points_refused.Holds := by
 w_on; o_law; k_head; (case hw => w_witness2)
 k_fill
 refine K54.walk (l := PySem.Challenge.rw_conicplaces_k54_points_refused) rfl rfl (fun w h Y => W.kIn_of Y) ?F
 case F =>
  intro w mg fa h KX G hmg
  refine' K54.all_mk KX G hmg ?a1 ?l1 ?g1 ?k1 ?a2 ?l2 ?g2 ?k2 ?a3 ?l3 ?g3 ?k3 ?a4 ?l4 ?g4 ?k4 ?a5 ?l5 ?g5 ?k5 ?a6 ?l6 ?g6 ?k6 ?a7 ?l7 ?g7 ?k7 ?a8 ?l8 ?g8 ?k8 ?a9 ?l9 ?g9 ?k9 ?a10 ?l10 ?g10 ?k10 ?a11 ?l11 ?g11 ?k11 ?a12 ?l12 ?g12 ?k12 ?a13 ?l13 ?g13 ?k13 ?a14 ?l14 ?g14 ?k14 ?a15 ?l15 ?g15 ?k15 ?a16 ?l16 ?g16 ?k16 ?a17 ?l17 ?g17 ?k17 ?a18 ?l18 ?g18 ?k18 ?a19 ?l19 ?g19 ?k19 ?o20 ?a20 ?l20 ?g20 ?k20 ?a21 ?l21 ?g21 ?k21 ?a22 ?l22 ?g22 ?k22 ?a23 ?l23 ?g23 ?k23 ?a24 ?l24 ?g24 ?k24 ?a25 ?l25 ?g25 ?k25 ?a26 ?l26 ?g26 ?k26 ?a27 ?l27 ?g27 ?k27 ?a28 ?l28 ?g28 ?k28 ?a29 ?l29 ?g29 ?k29 ?a30 ?l30 ?g30 ?k30 ?a31 ?l31 ?g31 ?k31 ?a32 ?l32 ?g32 ?k32 ?a33 ?l33 ?g33 ?k33 ?a34 ?l34 ?g34 ?k34 ?a35 ?l35 ?g35 ?k35 ?a36 ?l36 ?g36 ?k36 ?a37 ?l37 ?g37 ?k37 ?a38 ?l38 ?g38 ?k38 ?a39 ?l39 ?g39 ?k39 ?a40 ?l40 ?g40 ?k40 ?a41 ?l41 ?g41 ?k41 ?a42 ?l42 ?g42 ?k42 ?a43 ?l43 ?g43 ?k43 ?a44 ?l44 ?g44 ?k44 ?a45 ?l45 ?g45 ?k45 ?xm_CurveError ?xm_NoNumber ?xm_NoBack ?xm_NoJoin ?xm_NoSign ?xm_NotPlain ?xm_NoPlace ?xm_BadPlace ?xm_NoVertex ?xm_Flat ?xm_OffCurve ?xm_NoPair ?xm_NoLine ?xm_NoText ?xm_NoRow ?xm_NoName ?xi_ce ?xi_0 ?xi_1 ?xi_2 ?xi_3 ?xi_4 ?xi_5 ?xi_6 ?xi_7 ?xi_8 ?xi_9 ?xi_10 ?xi_11 ?xi_12 ?xi_13 ?xi_14 ?xi_ve ?xe0 ?xe1 ?xe2 ?xe3 ?xe4 ?xe5 ?xe6 ?xe7 ?xx_Flat ?xxf_Flat ?xxn_Flat ?xxd_Flat ?xxs_Flat ?xxo_Flat ?xi_ce_2 ?xi_0_2 ?xi_1_2 ?xi_2_2 ?xi_3_2 ?xi_4_2 ?xi_5_2 ?xi_6_2 ?xi_7_2 ?xi_8_2 ?xi_9_2 ?xi_10_2 ?xi_11_2 ?xi_12_2 ?xi_13_2 ?xi_14_2 ?xi_ve_2 ?xe0_2 ?xe1_2 ?xe2_2 ?xe3_2 ?xe4_2 ?xe5_2 ?xe6_2 ?xe7_2 ?xx_OffCurve ?xi_ce_3 ?xi_0_3 ?xi_1_3 ?xi_2_3 ?xi_3_3 ?xi_4_3 ?xi_5_3 ?xi_6_3 ?xi_7_3 ?xi_8_3 ?xi_9_3 ?xi_10_3 ?xi_11_3 ?xi_12_3 ?xi_13_3 ?xi_14_3 ?xi_ve_3 ?xe0_3 ?xe1_3 ?xe2_3 ?xe3_3 ?xe4_3 ?xe5_3 ?xe6_3 ?xe7_3 ?xx_NoPair ?xi_ce_4 ?xi_0_4 ?xi_1_4 ?xi_2_4 ?xi_3_4 ?xi_4_4 ?xi_5_4 ?xi_6_4 ?xi_7_4 ?xi_8_4 ?xi_9_4 ?xi_10_4 ?xi_11_4 ?xi_12_4 ?xi_13_4 ?xi_14_4 ?xi_ve_4 ?xe0_4 ?xe1_4 ?xe2_4 ?xe3_4 ?xe4_4 ?xe5_4 ?xe6_4 ?xe7_4 ?xx_NoLine ?xy1 ?xy2 ?xy3 ?xx_CurveError ?xu_Flat ?xu_OffCurve ?xu_NoPair ?xu_NoLine ?xn_OF ?xn_PF ?xn_PO ?xn_LF ?xn_LO ?xn_LP ?xm_AXES ?xk_AXES ?xk_AXES_0 ?xk_AXES_1 ?xk_AXES_2 ?xm_WAYS ?xk_WAYS ?xk_WAYS_0 ?xk_WAYS_1 ?xk_WAYS_2 ?xi_ib ?xz_isinstance ?xz_int ?xz_bool ?xz_len ?xz_range ?xz_tuple ?xz_all ?xz_abs ?xz_any ?xz_sum ?xz_zip ?xz_max ?xz_list ?xz_set ?xz_sorted ?xz_ValueError
  (case a1 => k_is)
  (case l1 => k_is)
  (case g1 => k_is)
  (case k1 => k_is)
  (case a2 => k_is)
  (case l2 => k_is)
  (case g2 => k_is)
  (case k2 => k_is)
  (case a3 => k_is)
  (case l3 => k_is)
  (case g3 => k_is)
  (case k3 => k_is)
  (case a4 => k_is)
  (case l4 => k_is)
  (case g4 => k_is)
  (case k4 => k_is)
  (case a5 => k_is)
  (case l5 => k_is)
  (case g5 => k_is)
  (case k5 => k_is)
  (case a6 => k_is)
  (case l6 => k_is)
  (case g6 => k_is)
  (case k6 => k_is)
  (case a7 => k_is)
  (case l7 => k_is)
  (case g7 => k_is)
  (case k7 => k_is)
  (case a8 => k_is)
  (case l8 => k_is)
  (case g8 => k_is)
  (case k8 => k_is)
  (case a9 => k_is)
  (case l9 => k_is)
  (case g9 => k_is)
  (case k9 => k_is)
  (case a10 => k_is)
  (case l10 => k_is)
  (case g10 => k_is)
  (case k10 => k_is)
  (case a11 => k_is)
  (case l11 => k_is)
  (case g11 => k_is)
  (case k11 => k_is)
  (case a12 => k_is)
  (case l12 => k_is)
  (case g12 => k_is)
  (case k12 => k_is)
  (case a13 => k_is)
  (case l13 => k_is)
  (case g13 => k_is)
  (case k13 => k_is)
  (case a14 => k_is)
  (case l14 => k_is)
  (case g14 => k_is)
  (case k14 => k_is)
  (case a15 => k_is)
  (case l15 => k_is)
  (case g15 => k_is)
  (case k15 => k_is)
  (case a16 => k_is)
  (case l16 => k_is)
  (case g16 => k_is)
  (case k16 => k_is)
  (case a17 => k_is)
  (case l17 => k_is)
  (case g17 => k_is)
  (case k17 => k_is)
  (case a18 => k_is)
  (case l18 => k_is)
  (case g18 => k_is)
  (case k18 => k_is)
  (case a19 => k_is)
  (case l19 => k_is)
  (case g19 => k_is)
  (case k19 => k_is)
  (case a21 => k_is)
  (case l21 => k_is)
  (case g21 => k_is)
  (case k21 => k_is)
  (case a22 => k_is)
  (case l22 => k_is)
  (case g22 => k_is)
  (case k22 => k_is)
  (case a23 => k_is)
  (case l23 => k_is)
  (case g23 => k_is)
  (case k23 => k_is)
  (case a24 => k_is)
  (case l24 => k_is)
  (case g24 => k_is)
  (case k24 => k_is)
  (case a25 => k_is)
  (case l25 => k_is)
  (case g25 => k_is)
  (case k25 => k_is)
  (case a26 => k_is)
  (case l26 => k_is)
  (case g26 => k_is)
  (case k26 => k_is)
  (case a27 => k_is)
  (case l27 => k_is)
  (case g27 => k_is)
  (case k27 => k_is)
  (case a28 => k_is)
  (case l28 => k_is)
  (case g28 => k_is)
  (case k28 => k_is)
  (case a29 => k_is)
  (case l29 => k_is)
  (case g29 => k_is)
  (case k29 => k_is)
  (case a30 => k_is)
  (case l30 => k_is)
  (case g30 => k_is)
  (case k30 => k_is)
  (case a31 => k_is)
  (case l31 => k_is)
  (case g31 => k_is)
  (case k31 => k_is)
  (case a32 => k_is)
  (case l32 => k_is)
  (case g32 => k_is)
  (case k32 => k_is)
  (case a33 => k_is)
  (case l33 => k_is)
  (case g33 => k_is)
  (case k33 => k_is)
  (case a34 => k_is)
  (case l34 => k_is)
  (case g34 => k_is)
  (case k34 => k_is)
  (case a35 => k_is)
  (case l35 => k_is)
  (case g35 => k_is)
  (case k35 => k_is)
  (case a36 => k_is)
  (case l36 => k_is)
  (case g36 => k_is)
  (case k36 => k_is)
  (case a37 => k_is)
  (case l37 => k_is)
  (case g37 => k_is)
  (case k37 => k_is)
  (case a38 => k_is)
  (case l38 => k_is)
  (case g38 => k_is)
  (case k38 => k_is)
  (case a39 => k_is)
  (case l39 => k_is)
  (case g39 => k_is)
  (case k39 => k_is)
  (case a40 => k_is)
  (case l40 => k_is)
  (case g40 => k_is)
  (case k40 => k_is)
  (case a41 => k_is)
  (case l41 => k_is)
  (case g41 => k_is)
  (case k41 => k_is)
  (case a42 => k_is)
  (case l42 => k_is)
  (case g42 => k_is)
  (case k42 => k_is)
  (case a43 => k_is)
  (case l43 => k_is)
  (case g43 => k_is)
  (case k43 => k_is)
  (case a44 => k_is)
  (case l44 => k_is)
  (case g44 => k_is)
  (case k44 => k_is)
  (case a45 => k_is)
  (case l45 => k_is)
  (case g45 => k_is)
  (case k45 => k_is)
  (case xm_CurveError => k_is)
  (case xm_NoNumber => k_is)
  (case xm_NoBack => k_is)
  (case xm_NoJoin => k_is)
  (case xm_NoSign => k_is)
  (case xm_NotPlain => k_is)
  (case xm_NoPlace => k_is)
  (case xm_BadPlace => k_is)
  (case xm_NoVertex => k_is)
  (case xm_Flat => k_is)
  (case xm_OffCurve => k_is)
  (case xm_NoPair => k_is)
  (case xm_NoLine => k_is)
  (case xm_NoText => k_is)
  (case xm_NoRow => k_is)
  (case xm_NoName => k_is)
  (case xm_AXES => k_is)
  (case xm_WAYS => k_is)
  (case o20 => k_is)
  (case a20 => k_is)
  (case l20 => k_is)
  (case g20 => k_is)
  (case k20 => k_is)
  (case xi_ce => kernel_rfl)
  (case xi_0 => kernel_rfl)
  (case xi_1 => kernel_rfl)
  (case xi_2 => kernel_rfl)
  (case xi_3 => kernel_rfl)
  (case xi_4 => kernel_rfl)
  (case xi_5 => kernel_rfl)
  (case xi_6 => kernel_rfl)
  (case xi_7 => kernel_rfl)
  (case xi_8 => kernel_rfl)
  (case xi_9 => kernel_rfl)
  (case xi_10 => kernel_rfl)
  (case xi_11 => kernel_rfl)
  (case xi_12 => kernel_rfl)
  (case xi_13 => kernel_rfl)
  (case xi_14 => kernel_rfl)
  (case xi_ve => kernel_rfl)
  (case xe0 => kernel_rfl)
  (case xe1 => kernel_rfl)
  (case xe2 => kernel_rfl)
  (case xe3 => kernel_rfl)
  (case xe4 => kernel_rfl)
  (case xe5 => kernel_rfl)
  (case xe6 => kernel_rfl)
  (case xe7 => kernel_rfl)
  (case xx_Flat => kernel_rfl)
  (case xxf_Flat => kernel_rfl)
  (case xxn_Flat => kernel_rfl)
  (case xxd_Flat => kernel_rfl)
  (case xxs_Flat => kernel_rfl)
  (case xxo_Flat => kernel_rfl)
  (case xi_ce_2 => kernel_rfl)
  (case xi_0_2 => kernel_rfl)
  (case xi_1_2 => kernel_rfl)
  (case xi_2_2 => kernel_rfl)
  (case xi_3_2 => kernel_rfl)
  (case xi_4_2 => kernel_rfl)
  (case xi_5_2 => kernel_rfl)
  (case xi_6_2 => kernel_rfl)
  (case xi_7_2 => kernel_rfl)
  (case xi_8_2 => kernel_rfl)
  (case xi_9_2 => kernel_rfl)
  (case xi_10_2 => kernel_rfl)
  (case xi_11_2 => kernel_rfl)
  (case xi_12_2 => kernel_rfl)
  (case xi_13_2 => kernel_rfl)
  (case xi_14_2 => kernel_rfl)
  (case xi_ve_2 => kernel_rfl)
  (case xe0_2 => kernel_rfl)
  (case xe1_2 => kernel_rfl)
  (case xe2_2 => kernel_rfl)
  (case xe3_2 => kernel_rfl)
  (case xe4_2 => kernel_rfl)
  (case xe5_2 => kernel_rfl)
  (case xe6_2 => kernel_rfl)
  (case xe7_2 => kernel_rfl)
  (case xx_OffCurve => kernel_rfl)
  (case xi_ce_3 => kernel_rfl)
  (case xi_0_3 => kernel_rfl)
  (case xi_1_3 => kernel_rfl)
  (case xi_2_3 => kernel_rfl)
  (case xi_3_3 => kernel_rfl)
  (case xi_4_3 => kernel_rfl)
  (case xi_5_3 => kernel_rfl)
  (case xi_6_3 => kernel_rfl)
  (case xi_7_3 => kernel_rfl)
  (case xi_8_3 => kernel_rfl)
  (case xi_9_3 => kernel_rfl)
  (case xi_10_3 => kernel_rfl)
  (case xi_11_3 => kernel_rfl)
  (case xi_12_3 => kernel_rfl)
  (case xi_13_3 => kernel_rfl)
  (case xi_14_3 => kernel_rfl)
  (case xi_ve_3 => kernel_rfl)
  (case xe0_3 => kernel_rfl)
  (case xe1_3 => kernel_rfl)
  (case xe2_3 => kernel_rfl)
  (case xe3_3 => kernel_rfl)
  (case xe4_3 => kernel_rfl)
  (case xe5_3 => kernel_rfl)
  (case xe6_3 => kernel_rfl)
  (case xe7_3 => kernel_rfl)
  (case xx_NoPair => kernel_rfl)
  (case xi_ce_4 => kernel_rfl)
  (case xi_0_4 => kernel_rfl)
  (case xi_1_4 => kernel_rfl)
  (case xi_2_4 => kernel_rfl)
  (case xi_3_4 => kernel_rfl)
  (case xi_4_4 => kernel_rfl)
  (case xi_5_4 => kernel_rfl)
  (case xi_6_4 => kernel_rfl)
  (case xi_7_4 => kernel_rfl)
  (case xi_8_4 => kernel_rfl)
  (case xi_9_4 => kernel_rfl)
  (case xi_10_4 => kernel_rfl)
  (case xi_11_4 => kernel_rfl)
  (case xi_12_4 => kernel_rfl)
  (case xi_13_4 => kernel_rfl)
  (case xi_14_4 => kernel_rfl)
  (case xi_ve_4 => kernel_rfl)
  (case xe0_4 => kernel_rfl)
  (case xe1_4 => kernel_rfl)
  (case xe2_4 => kernel_rfl)
  (case xe3_4 => kernel_rfl)
  (case xe4_4 => kernel_rfl)
  (case xe5_4 => kernel_rfl)
  (case xe6_4 => kernel_rfl)
  (case xe7_4 => kernel_rfl)
  (case xx_NoLine => kernel_rfl)
  (case xy1 => kernel_rfl)
  (case xy2 => kernel_rfl)
  (case xy3 => kernel_rfl)
  (case xx_CurveError => kernel_rfl)
  (case xu_Flat => kernel_rfl)
  (case xu_OffCurve => kernel_rfl)
  (case xu_NoPair => kernel_rfl)
  (case xu_NoLine => kernel_rfl)
  (case xn_OF => kernel_rfl)
  (case xn_PF => kernel_rfl)
  (case xn_PO => kernel_rfl)
  (case xn_LF => kernel_rfl)
  (case xn_LO => kernel_rfl)
  (case xn_LP => kernel_rfl)
  (case xk_AXES => k_is)
  (case xk_AXES_0 => k_is)
  (case xk_AXES_1 => k_is)
  (case xk_AXES_2 => k_is)
  (case xk_WAYS => k_is)
  (case xk_WAYS_0 => k_is)
  (case xk_WAYS_1 => k_is)
  (case xk_WAYS_2 => k_is)
  (case xi_ib => kernel_rfl)
  (case xz_isinstance => k_is)
  (case xz_int => k_is)
  (case xz_bool => k_is)
  (case xz_len => k_is)
  (case xz_range => k_is)
  (case xz_tuple => k_is)
  (case xz_all => k_is)
  (case xz_abs => k_is)
  (case xz_any => k_is)
  (case xz_sum => k_is)
  (case xz_zip => k_is)
  (case xz_max => k_is)
  (case xz_list => k_is)
  (case xz_set => k_is)
  (case xz_sorted => k_is)
  (case xz_ValueError => k_is)
