import PyProof.Rows.All
import Wide.All
import OpenK.AllK
import Wide.FinOn
import Lean
import PyProof.EqAt
import PyProof.EqKinds
import PyProof.TupleCall
import PyProof.CompFree
import PyProof.ConsumeWalk
import PyProof.CompMap
import KE.IntBitsLaws
import KE.KDictSum
import PyProof.Rows.EqDataRows
import PyProof.Rows.SortWalk
import KE.KLcPair
import PyProof.Cells
import PyProof.SumAny
import PyProof.ZipIter
import PyProof.EnumIter
import PyProof.Rows.ZipGen
import PyProof.Rows.FactsT2
import PyProof.WalkInts
import PyProof.SeqI3
import KE.KEqSeq
import PyProof.Rows.Range3
import PyProof.Rows.ChunkLeaf
import PyProof.InstStoreFacts
import PyProof.ExcClass3
import PyProof.ExcInit
import PyProof.Rows.InDataRows
import PySem.Challenge.RW_conicplaces_k24_plain_ones
set_option Elab.async false
set_option linter.all false
set_option maxRecDepth 100000
set_option maxHeartbeats 4000000
namespace L2
open PySem PySem.Spec PyProof.Rows
def Still (A : Around) (h : Heap) : Prop := A.handled = none \/ ∃ (e : Addr) (o : Obj) (vs : Array Value), A.handled = some (.ref e) /\ h.get? e = some o /\ o.data = .fields vs /\ vs[2]? = some .none
theorem Still.mono {A : Around} {h h' : Heap} (S : Still A h) (k : ∀ e o, A.handled = some (.ref e) -> h.get? e = some o -> h'.get? e = some o) : Still A h' := by
 rcases S with z | ⟨e, o, vs, hh, he, r⟩
 ·exact .inl z
 ·exact .inr ⟨e, o, vs, hh, k e o hh he, r⟩
theorem Still.in1 {A : Around} {h : Heap} (S : Still A h) : Still A.in1 h := S
theorem plain_unchain : plainId "proto.unchain" = true := by decide +kernel
theorem entry_unchain : entryFor table "proto.unchain" = some Builtin.«proto.unchain» := entryFor_of_tree (by kernel_rfl)
section
variable {P : Program} {w : World} {A : Around} {E : Value -> Shared -> Prop} {s : Shared}
theorem raiseNew_still {α : Type} {x : Addr} {ox : Obj} {vx : Array Value} {Q : α -> Shared -> Prop} (S : Still A s.heap) (hx : s.heap.get? x = some ox) (hd : ox.data = .fields vx) (sz : 2 < vx.size) (nx : A.handled ≠ some (.ref x))
  (q : ∀ h' o', Heap.SameBut x s.heap h' -> h'.get? x = some o' -> o'.cls = ox.cls -> E (.ref x) { s with heap := h' }) : wpAny (model P w) A (raiseNew (.ref x) : Sem α) Q E s := by
 simp only [raiseNew]
 refine wpAny_bind (wpAny_handled ?_)
 rcases S with hn | ⟨e, o, vs, hh, he, hdo, h2⟩
 ·rw [hn]
  exact wpAny_bind (wpAny_pure (wpAny_throw (q s.heap ox (Heap.SameBut.refl _ _) hx rfl)))
 ·rw [hh] at nx ⊢
  have ne : e ≠ x := fun z => nx (by rw [z])
  have nb : (Value.ref e != Value.ref x) = true := by
   simp [ne]
  simp only [nb, if_true]
  refine wpAny_bind (wpAny_holding (wpAny_runValue (codeAny_builtin entry_unchain ?_)))
  rw [Around.under_plainId plain_unchain _]
  show wpAny _ _ (field (.ref e) 2 >>= _) _ _ s
  refine wpAny_bind (wpAny_field he hdo (x := .none) h2 ?_)
  simp only [beq_self_eq_true, if_true]
  refine wpAny_pure ?_
  show wpAny _ _ (updateField x 2 (.ref e) >>= _) _ _ s
  refine wpAny_bind ?_
  unfold updateField
  refine wpAny_bind (wpAny_load hx ?_)
  rw [hd]
  simp only [sz, if_true]
  refine wpAny_update hx (wpAny_throw (q _ _ (Heap.SameBut.update ..) (Heap.get?_update_self _ hx (Obj.isFreed_of_fields (Obj.data_mapFields hd _))) (Obj.cls_mapFields ..)))
theorem Still.ne_new {A : Around} {h : Heap} (S : Still A h) {x : Addr} (hx : h.objs.size <= x) : A.handled ≠ some (.ref x) := by
 rcases S with z | ⟨e, o, vs, hh, he, _⟩
 ·rw [z]
  intro c
  cases c
 ·rw [hh]
  intro c
  cases c
  exact Nat.not_lt.mpr hx (Heap.lt_size he)
theorem stop_still {α : Type} {Q : α -> Shared -> Prop} (S : Still A s.heap) (q : ∀ h' e, (∀ b o, s.heap.get? b = some o -> h'.get? b = some o) -> (∃ o, h'.get? e = some o /\ o.cls = .type "StopIteration") -> E (.ref e) { s with heap := h' }) :
  wpAny (model P w) A (newExc (.type "StopIteration") ([] : List Value) >>= fun e => (raiseNew e : Sem α)) Q E s := by
 refine wpAny_bind ?_
 simp only [newExc, newTuple]
 refine wpAny_bind (wpAny_newObj_type ?_ (by size_fits)); refine wpAny_bind (m := firstArgMember _ _) (wpAny_of_eq (a := Value.none) (by first | rfl | (simp only [firstArgMember]; rfl)) ?_)
 refine wpAny_newObj_type ?_ (by size_fits)
 have up : ∀ (a b : Obj) c o, s.heap.get? c = some o -> ((s.heap.push a).push b).get? c = some o := fun a b c o e => Heap.get?_push_of_some _ (Heap.get?_push_of_some _ e)
 refine raiseNew_still (S.mono fun e o _ h => up _ _ e o h) (Heap.get?_push_size _ rfl) rfl (by simp <;> omega) (S.ne_new (by simp only [Heap.size_push]; exact Nat.le_succ _)) fun h' o' sb ho hc => ?_
 refine q h' _ (fun b o e => ?_) ⟨o', ho, hc⟩
 have lt := Heap.lt_size e
 rw [sb.2 b (fun z => by rw [z] at lt; simp only [Heap.size_push] at lt; exact Nat.not_lt.mpr (Nat.le_succ _) lt)]
 exact up _ _ b o e
theorem list_end_still {it l : Addr} {i : Nat} {items : Array Value} {Q : Option Value -> Shared -> Prop} (S : Still A s.heap) (ni : A.handled ≠ some (.ref it)) (hit : s.heap.IsListIter it l i) (hl : s.heap.IsList l items) (hx : items[i]? = none)
  (q : ∀ h', Heap.ExtBut it s.heap h' -> Q none { s with heap := h' }) : wpAny (model P w) A (pyNext (.ref it)) Q E s := by
 obtain ⟨o, ho, hc, hd⟩ := id hit
 obtain ⟨ol, hol, _, nl, hdl⟩ := hl
 unfold pyNext
 refine wpAny_bind (wpAny_attempt (wpAny_callSpecial?_slot (name := Str.ofString "__next__") hit.typeIs slot_listiter_next (wpAny_call_entry slot_listiter_next hit.typeIs entry_listiter_next ?_ (args_listiter_next _))))
 show wpAny _ _ (field (.ref it) 0 >>= _) _ _ s
 refine wpAny_bind (wpAny_field ho hd (x := .ref l) rfl ?_)
 show wpAny _ _ (if (Value.ref l == Value.none) = true then _ else _) _ _ s
 rw [if_neg (show ¬ ((Value.ref l == Value.none) = true) from Bool.false_ne_true)]
 show wpAny _ _ (field (.ref it) 1 >>= _) _ _ s
 refine wpAny_bind (wpAny_field ho hd (x := .int i 0) rfl (wpAny_bind (wpAny_seqItems hol hdl ?_)))
 simp only [Int.toNat_natCast, hx]
 refine wpAny_bind (wpAny_rule (wpAny_bind (wpAny_setField ho hd (by simp) ?_)))
 refine stop_still (A := A.in1) (S.in1.mono fun e o' hh h => ?_) fun h' e k he => ?_
 ·exact (Heap.SameBut.update ..).extBut _ _ (fun z => ni (by rw [<- z]; exact hh)) h
 ·obtain ⟨oe, e1, e2⟩ := he
  refine wpAny_bind (wpAny_isInstance (T := "StopIteration") (b := true) ⟨oe, e1, e2⟩ isSubtype_stop ?_)
  exact wpAny_pure (q _ fun b o' nb h => k _ _ ((Heap.SameBut.update ..).extBut _ _ nb h))
theorem tuple_end_still {it l : Addr} {i : Nat} {items : Array Value} {Q : Option Value -> Shared -> Prop} (S : Still A s.heap) (ni : A.handled ≠ some (.ref it)) (hit : s.heap.IsTupleIter it l i) (hl : s.heap.IsTuple l items) (hx : items[i]? = none)
  (q : ∀ h', Heap.ExtBut it s.heap h' -> Q none { s with heap := h' }) : wpAny (model P w) A (pyNext (.ref it)) Q E s := by
 obtain ⟨o, ho, hc, hd⟩ := id hit
 obtain ⟨ol, hol, _, nl, hdl⟩ := hl
 unfold pyNext
 refine wpAny_bind (wpAny_attempt (wpAny_callSpecial?_slot (name := Str.ofString "__next__") hit.typeIs F.slot_tuple_iterator_next (wpAny_call_entry F.slot_tuple_iterator_next hit.typeIs F.entry_tuple_iterator_next ?_ (F.args_tuple_iterator_next_1 _))))
 show wpAny _ _ (field (.ref it) 0 >>= _) _ _ s
 refine wpAny_bind (wpAny_field ho hd (x := .ref l) rfl ?_)
 show wpAny _ _ (if (Value.ref l == Value.none) = true then _ else _) _ _ s
 rw [if_neg (show ¬ ((Value.ref l == Value.none) = true) from Bool.false_ne_true)]
 show wpAny _ _ (field (.ref it) 1 >>= _) _ _ s
 refine wpAny_bind (wpAny_field ho hd (x := .int i 0) rfl (wpAny_bind (wpAny_seqItems hol hdl ?_)))
 simp only [Int.toNat_natCast, hx]
 refine wpAny_bind (wpAny_rule (wpAny_bind (wpAny_setField ho hd (by simp) ?_)))
 refine stop_still (A := A.in1) (S.in1.mono fun e o' hh h => ?_) fun h' e k he => ?_
 ·exact (Heap.SameBut.update ..).extBut _ _ (fun z => ni (by rw [<- z]; exact hh)) h
 ·obtain ⟨oe, e1, e2⟩ := he
  refine wpAny_bind (wpAny_isInstance (T := "StopIteration") (b := true) ⟨oe, e1, e2⟩ isSubtype_stop ?_)
  exact wpAny_pure (q _ fun b o' nb h => k _ _ ((Heap.SameBut.update ..).extBut _ _ nb h))
theorem range_end_still {it : Addr} {x left step : Int} {Q : Option Value -> Shared -> Prop} (S : Still A s.heap) (hit : IsRangeIter s.heap it x left step) (hleft : left <= 0)
  (q : ∀ h', Heap.ExtBut it s.heap h' -> Q none { s with heap := h' }) : wpAny (model P w) A (pyNext (.ref it)) Q E s := by
 have hT : s.TypeIs (.ref it) "range_iterator" := ⟨_, hit, rfl⟩
 unfold pyNext
 refine wpAny_bind (wpAny_attempt (wpAny_callSpecial?_slot (name := Str.ofString "__next__") hT F.slot_range_iterator_next (wpAny_call_entry F.slot_range_iterator_next hT F.entry_range_iterator_next ?_ (F.args_range_iterator_next_1 _))))
 show wpAny _ _ (field (.ref it) 0 >>= _) _ _ s
 refine wpAny_bind (wpAny_field hit rfl (x := rawInt x) rfl ?_)
 show wpAny _ _ (field (.ref it) 1 >>= _) _ _ s
 refine wpAny_bind (wpAny_field hit rfl (x := rawInt left) rfl ?_)
 show wpAny _ _ (field (.ref it) 2 >>= _) _ _ s
 refine wpAny_bind (wpAny_field hit rfl (x := rawInt step) rfl ?_)
 show wpAny _ _ (if left <= 0 then _ else _) _ _ s
 rw [if_pos hleft]
 refine wpAny_bind (wpAny_rule ?_)
 refine wpAny_bind ?_
 refine stop_still (A := A.in1) S.in1 fun h' e k he => ?_
 obtain ⟨oe, e1, e2⟩ := he
 refine wpAny_bind (wpAny_isInstance (T := "StopIteration") (b := true) ⟨oe, e1, e2⟩ isSubtype_stop ?_)
 exact wpAny_pure (q _ fun b o' _ h => k _ _ h)
theorem tnext_end_still {j a : Addr} {i : Nat} {us : Array Value} {Q : Value -> Shared -> Prop} (S : Still A s.heap) (nj : A.handled ≠ some (.ref j)) (g0 : s.heap.IsTupleIter j a i) (g1 : s.heap.IsTuple a us) (ex : us[i]? = none)
  (q : ∀ h' e, Heap.ExtBut j s.heap h' -> (∃ o, h'.get? e = some o /\ o.cls = .type "StopIteration") -> E (.ref e) { s with heap := h' }) : wpAny (model P w) A (Builtin.SmallTypes.nextOf (.ref j)) Q E s := by
 obtain ⟨o1, k1, k2, k3⟩ := id g0
 obtain ⟨o2, k4, _, n2, k5⟩ := g1
 unfold Builtin.SmallTypes.nextOf
 refine wpAny_bind (wpAny_callSpecial?_slot (name := Str.ofString "__next__") g0.typeIs F.slot_tuple_iterator_next (wpAny_call_entry F.slot_tuple_iterator_next g0.typeIs F.entry_tuple_iterator_next ?_ (F.args_tuple_iterator_next_1 _)))
 show wpAny _ _ (field (.ref j) 0 >>= _) _ _ s
 refine wpAny_bind (wpAny_field k1 k3 (x := .ref a) rfl ?_)
 show wpAny _ _ (if (Value.ref a == Value.none) = true then _ else _) _ _ s
 rw [if_neg (show ¬ ((Value.ref a == Value.none) = true) from Bool.false_ne_true)]
 show wpAny _ _ (field (.ref j) 1 >>= _) _ _ s
 refine wpAny_bind (wpAny_field k1 k3 (x := .int i 0) rfl (wpAny_bind (wpAny_seqItems k4 k5 ?_)))
 simp only [Int.toNat_natCast, ex]
 refine wpAny_bind (wpAny_rule (wpAny_bind (wpAny_setField k1 k3 (by simp) ?_)))
 refine stop_still (A := A.in1) (S.in1.mono fun e o' hh h => ?_) fun h' e k he => ?_
 ·exact (Heap.SameBut.update ..).extBut _ _ (fun z => nj (by rw [<- z]; exact hh)) h
 ·exact q h' e (fun b o' nb h => k _ _ ((Heap.SameBut.update ..).extBut _ _ nb h)) he
theorem lnext_end_still {j a : Addr} {i : Nat} {us : Array Value} {Q : Value -> Shared -> Prop} (S : Still A s.heap) (nj : A.handled ≠ some (.ref j)) (g0 : s.heap.IsListIter j a i) (g1 : s.heap.IsList a us) (ex : us[i]? = none)
  (q : ∀ h' e, Heap.ExtBut j s.heap h' -> (∃ o, h'.get? e = some o /\ o.cls = .type "StopIteration") -> E (.ref e) { s with heap := h' }) : wpAny (model P w) A (Builtin.SmallTypes.nextOf (.ref j)) Q E s := by
 obtain ⟨o1, k1, k2, k3⟩ := id g0
 obtain ⟨o2, k4, _, n2, k5⟩ := g1
 unfold Builtin.SmallTypes.nextOf
 refine wpAny_bind (wpAny_callSpecial?_slot (name := Str.ofString "__next__") g0.typeIs slot_listiter_next (wpAny_call_entry slot_listiter_next g0.typeIs entry_listiter_next ?_ (args_listiter_next _)))
 show wpAny _ _ (field (.ref j) 0 >>= _) _ _ s
 refine wpAny_bind (wpAny_field k1 k3 (x := .ref a) rfl ?_)
 show wpAny _ _ (if (Value.ref a == Value.none) = true then _ else _) _ _ s
 rw [if_neg (show ¬ ((Value.ref a == Value.none) = true) from Bool.false_ne_true)]
 show wpAny _ _ (field (.ref j) 1 >>= _) _ _ s
 refine wpAny_bind (wpAny_field k1 k3 (x := .int i 0) rfl (wpAny_bind (wpAny_seqItems k4 k5 ?_)))
 simp only [Int.toNat_natCast, ex]
 refine wpAny_bind (wpAny_rule (wpAny_bind (wpAny_setField k1 k3 (by simp) ?_)))
 refine stop_still (A := A.in1) (S.in1.mono fun e o' hh h => ?_) fun h' e k he => ?_
 ·exact (Heap.SameBut.update ..).extBut _ _ (fun z => nj (by rw [<- z]; exact hh)) h
 ·exact q h' e (fun b o' nb h => k _ _ ((Heap.SameBut.update ..).extBut _ _ nb h)) he
theorem unpackItems_still {t : Addr} {items : Array Value} {Q : List Value -> Shared -> Prop} (S : Still A s.heap) (ht : IsTup s.heap t items)
  (q : ∀ h', Heap.ExtBut s.heap.objs.size s.heap h' -> Q items.toList { s with heap := h' }) : wpAny (model P w) A (unpackItems (.ref t) items.size none) Q E s := by
 have hlt : t ≠ s.heap.objs.size := by obtain ⟨o, ho, _⟩ := ht; exact Nat.ne_of_lt (Heap.lt_size ho)
 unfold unpackItems
 refine wpAny_bind ?_
 unfold notIterableAtAll
 refine wpAny_bind (wpAny_specialOf ht.typeIs slot_tuple_iter.lookup (wpAny_pure ?_))
 simp only [Bool.false_eq_true, if_false]
 refine wpAny_bind (wpAny_holding (iter_tuple ht ?_))
 refine wpAny_bind (wpAny_holding (draw_tuple hlt items.size 0 _ _ ⟨_, Heap.get?_push_size _ rfl, rfl, rfl⟩ (ht.push _) (by omega) fun h₁ hit₁ hs₁ => ?_))
 rw [show List.take items.size (List.drop 0 items.toList) = items.toList from by rw [List.drop_zero]; exact List.take_of_length_le (by simp), if_neg (by simp)]
 have ht₁ : IsTup h₁ t items := (ht.push _).extBut hs₁.extBut hlt
 have nn := S.ne_new (Nat.le_refl _)
 have S1 : Still A h₁ := S.mono fun e o hh he => hs₁.extBut _ _ (fun z => nn (by rw [<- z]; exact hh)) (Heap.get?_push_of_some _ he)
 refine wpAny_bind (wpAny_holding (tuple_end_still S1 nn hit₁ (show h₁.IsTuple t items from ht₁) (by simp) fun h₂ he₂ => ?_))
 simp only [Option.isSome_none, Bool.false_eq_true, if_false]
 exact wpAny_pure (q h₂ fun b o hb e => he₂ b o hb (hs₁.extBut b o hb (Heap.get?_push_of_some _ e)))
theorem assign_Tuple_still {env : Env} {elts : List Expr} {x1} {pos : Pos} {t : Addr} {items : Array Value} {Q : Unit -> Shared -> Prop} (S : Still A s.heap) (ht : IsTup s.heap t items)
  (hn : (assignEach elts env).length = items.size) (hstar : (assignEach elts env).findIdx? (·.1) = none)
  (h : ∀ h', Heap.ExtBut s.heap.objs.size s.heap h' -> wpAny (model P w) A (assignInOrder ((assignEach elts env).map (·.2)) items.toList) Q E { s with heap := h' }) :
  wpAny (model P w) A (assign (.Tuple elts x1 pos) env (.ref t)) Q E s := by
 rw [assign_Tuple]
 refine wpAny_bind (wpAny_standAt ?_)
 unfold unpack
 rw [hn, hstar]
 exact wpAny_bind (wpAny_holding (unpackItems_still S ht h))
end
theorem walks_list_still {P : Program} {w : World} {A : Around} {e : Addr} {o : Obj} {vs : Array Value} (hh : A.handled = some (.ref e)) (hd : o.data = .fields vs) (h2 : vs[2]? = some .none) (I ax : Addr) (hne : ax ≠ I) (nI : e ≠ I) (items : Array Value) :
  Walks P w A I [I, ax, e] [I] items.size (fun i v => items[i]? = some v) (fun i h => h.IsListIter I ax i /\ h.IsList ax items /\ h.get? e = some o) where
 sub := fun b hb => by simp at hb; simp [hb]
 frame := fun _ _ _ st hk => ⟨st.1.at fun o e => hk I (by simp) o e, st.2.1.at fun o e => hk ax (by simp) o e, hk e (by simp) _ st.2.2⟩
 item := fun i s Q E hi st q => by
  refine wpAny_pyNext_list_item st.1 st.2.1 (x := items[i]) (by simp [hi]) fun h' hit' hs' => ?_
  exact q _ h' s.toks (by simp [hi]) ⟨hit', st.2.1.extBut hs'.extBut hne, hs'.extBut _ _ nI st.2.2⟩ fun b o hb e => hs'.extBut b o (fun h => hb (by simp [h])) e
 done := fun s Q E st q => list_end_still (.inr ⟨e, o, vs, hh, st.2.2, hd, h2⟩) (by rw [hh]; intro c; cases c; exact nI rfl) st.1 st.2.1 (by simp) fun h' he' => q h' s.toks fun b o hb e => he' b o (fun h => hb (by simp [h])) e
 self := fun _ _ _ _ st q => wpAny_pyIter_listiter st.1 q
theorem walks_list_any {P : Program} {w : World} {A : Around} {h0 : Heap} (S : Still A h0) (I ax : Addr) (hne : ax ≠ I) (nI : A.handled ≠ some (.ref I)) (items : Array Value) :
  ∃ (fp : List Addr) (st : Nat -> Heap -> Prop), Walks P w A I fp [I] items.size (fun i v => items[i]? = some v) st /\ (∀ h, h.IsListIter I ax 0 -> h.IsList ax items -> (∀ b o, h0.get? b = some o -> h.get? b = some o) -> st 0 h) /\
   ∀ b ∈ fp, b = I \/ b = ax \/ ∃ o, h0.get? b = some o := by
 rcases S with z | ⟨e, o, vs, hh, he, hd, h2⟩
 ·exact ⟨_, _, Walks.list z I ax hne items, fun h a b _ => ⟨a, b⟩, fun b hb => by
   have : b = I \/ b = ax := by simpa using hb
   rcases this with r | r
   ·exact .inl r
   ·exact .inr (.inl r)⟩
 ·refine ⟨_, _, walks_list_still hh hd h2 I ax hne (fun z => nI (by rw [hh, z])) items, fun h a b k => ⟨a, b, k _ _ he⟩, fun b hb => ?_⟩
  have : b = I \/ b = ax \/ b = e := by simpa using hb
  rcases this with r | r | r
  ·exact .inl r
  ·exact .inr (.inl r)
  ·exact .inr (.inr ⟨o, by rw [r]; exact he⟩)
theorem range_item_still {P : Program} {w : World} {A : Around} {E : Value -> Shared -> Prop} {s : Shared} {it : Addr} {a c : Int} {n i : Nat} {Q : Option Value -> Shared -> Prop} (hi : i < n) (st : IsRangeIter s.heap it (a + (i : Nat) * c) ((n : Int) - (i : Nat)) c)
  (q : ∀ v h' tk, (∃ t, v = .int (a + (i : Nat) * c) t) -> IsRangeIter h' it (a + ((i + 1 : Nat) : Int) * c) ((n : Int) - ((i + 1 : Nat) : Int)) c -> (∀ b o, b ∉ [it] -> s.heap.get? b = some o -> h'.get? b = some o) -> Q (some v) { s with heap := h', toks := tk }) :
  wpAny (model P w) A (pyNext (.ref it)) Q E s := by
 refine wpAny_pyNext_range_item st (by omega) fun h1 it1 s1 => ?_
 refine q _ h1 _ ⟨_, rfl⟩ ?_ fun b o nb x => s1.extBut b o (fun z => nb (by simp [z])) x
 have e1 : a + ((i + 1 : Nat) : Int) * c = a + (i : Int) * c + c := by push_cast; rw [Int.add_mul, Int.one_mul, Int.add_assoc]
 have e2 : (n : Int) - ((i + 1 : Nat) : Int) = (n : Int) - (i : Int) - 1 := by push_cast; omega
 rw [e1, e2]
 exact it1
end L2
namespace L2
open PySem PySem.Spec PyProof.Rows
abbrev Key := Sum Int Str
def keyIs : Key -> Value -> Bool
 | .inl k, v => Value.isInt k v
 | .inr x, v => Value.isStrOf x v
def keyH (w : World) : Key -> Int
 | .inl k => hashInt k
 | .inr x => hashStr w x
theorem keyIs_shape : ∀ {k : Key} {v : Value}, keyIs k v = true -> (∃ i t, k = Sum.inl i /\ v = Value.int i t) \/ (∃ x t, k = Sum.inr x /\ v = Value.str x t)
 | .inl i, v, h => by
  obtain ⟨t, e⟩ := Value.isInt_shape (k := i) (v := v) h
  exact .inl ⟨i, t, rfl, e⟩
 | .inr x, v, h => by
  obtain ⟨t, e⟩ := Value.isStrOf_shape (x := x) (v := v) h
  exact .inr ⟨x, t, rfl, e⟩
theorem key_ll (a b : Int) : decide ((Sum.inl a : Key) = Sum.inl b) = (a == b) := by
 by_cases e : a = b
 ·subst e; simp
 ·have h : ¬ (Sum.inl a : Key) = Sum.inl b := fun q => e (Sum.inl.inj q)
  rw [decide_eq_false h]
  exact (beq_eq_false_iff_ne.mpr e).symm
theorem key_rr (a b : Str) : decide ((Sum.inr a : Key) = Sum.inr b) = decide (a = b) := by
 by_cases e : a = b
 ·subst e; simp
 ·have h : ¬ (Sum.inr a : Key) = Sum.inr b := fun q => e (Sum.inr.inj q)
  rw [decide_eq_false h, decide_eq_false e]
theorem key_lr (a : Int) (b : Str) : decide ((Sum.inl a : Key) = Sum.inr b) = false := decide_eq_false (fun q => nomatch q)
theorem key_rl (a : Str) (b : Int) : decide ((Sum.inr a : Key) = Sum.inl b) = false := decide_eq_false (fun q => nomatch q)
def mixKind (prog : Program) (w : World) : PySem.KeyKind prog w Key where
 is := keyIs
 hash := keyH w
 inj := fun v a b ha hb => by
  rcases keyIs_shape ha with ⟨i, t, rfl, rfl⟩ | ⟨x, t, rfl, rfl⟩
  ·rcases keyIs_shape hb with ⟨j, u, rfl, e⟩ | ⟨y, u, rfl, e⟩
   ·injection e with e1 _; rw [e1]
   ·exact nomatch e
  ·rcases keyIs_shape hb with ⟨j, u, rfl, e⟩ | ⟨y, u, rfl, e⟩
   ·exact nomatch e
   ·injection e with e1 _; rw [e1]
 byValue := fun k v h => by
  rcases keyIs_shape h with ⟨i, t, rfl, rfl⟩ | ⟨x, t, rfl, rfl⟩ <;> rfl
 pyHash := fun hv h => by
  rcases keyIs_shape hv with ⟨i, t, rfl, rfl⟩ | ⟨x, t, rfl, rfl⟩
  ·exact wpAny_pyHash_int h
  ·exact wpAny_pyHash_str h
 eqBool := fun hu hv h => by
  rcases keyIs_shape hu with ⟨i, t, rfl, rfl⟩ | ⟨x, t, rfl, rfl⟩
  ·rcases keyIs_shape hv with ⟨j, u, rfl, rfl⟩ | ⟨y, u, rfl, rfl⟩
   ·rw [key_ll] at h; exact wpAny_eqBool_int h
   ·rw [key_lr] at h; exact SeqAt.EqAt.int_str i t y u _ _ _ _ h
  ·rcases keyIs_shape hv with ⟨j, u, rfl, rfl⟩ | ⟨y, u, rfl, rfl⟩
   ·rw [key_rl] at h; exact SeqAt.EqAt.str_int x t j u _ _ _ _ h
   ·rw [key_rr] at h; exact wpAny_eqBool_str h
 «strs» := fun k x t v h => by
  rcases keyIs_shape h with ⟨i, u, rfl, e⟩ | ⟨y, u, rfl, e⟩
  ·exact nomatch e
  ·injection e with e1 _
   subst e1
   cases v <;> rfl
end L2
namespace L2
open PySem PySem.Spec PyProof.Rows
inductive V where
 | non | bl (b : Bool) | int (i : Int) | str (x : Str) | byt (b : Array UInt8) | flt (b : UInt64) | ref (a : Addr) | ty (n : String)
 deriving DecidableEq
def RelV : V -> Value -> Prop
 | .non, u => u = Value.none
 | .bl b, u => u = Value.bool b
 | .int i, u => ∃ t, u = Value.int i t
 | .str x, u => ∃ t, u = Value.str x t
 | .byt b, u => ∃ t, u = Value.bytes b t
 | .flt b, u => ∃ t, u = Value.float b t
 | .ref a, u => u = Value.ref a
 | .ty n, u => u = Value.type n
abbrev Vals : List V -> List Value -> Prop := Paired RelV
theorem Vals.length {xs : List V} {us : List Value} (r : Vals xs us) : xs.length = us.length := Paired.length r
theorem Vals.get : ∀ {xs : List V} {us : List Value} {i : Nat} {x : V}, Vals xs us -> xs[i]? = some x -> ∃ u, us[i]? = some u /\ RelV x u
 | _, _, _, _, .nil, e => by simp at e
 | _, _, 0, _, .cons r _, e => by simp at e; subst e; exact ⟨_, rfl, r⟩
 | _, _, i + 1, x, .cons _ t, e => by
  obtain ⟨u, h1, h2⟩ := Vals.get (i := i) (x := x) t (by simpa using e)
  exact ⟨u, by simpa using h1, h2⟩
theorem Vals.set {x : V} {u : Value} (r : RelV x u) : ∀ {xs : List V} {us : List Value} (i : Nat), Vals xs us -> Vals (xs.set i x) (us.set i u)
 | _, _, _, .nil => .nil
 | _, _, 0, .cons _ t => .cons r t
 | _, _, i + 1, .cons q t => .cons q (Vals.set r i t)
theorem Vals.append : ∀ {xs ys : List V} {us ws : List Value}, Vals xs us -> Vals ys ws -> Vals (xs ++ ys) (us ++ ws)
 | _, _, _, _, .nil, s => s
 | _, _, _, _, .cons r t, s => .cons r (Vals.append t s)
theorem Vals.take : ∀ {xs : List V} {us : List Value} (n : Nat), Vals xs us -> Vals (xs.take n) (us.take n)
 | _, _, 0, _ => .nil
 | _, _, _ + 1, .nil => .nil
 | _, _, n + 1, .cons r t => .cons r (Vals.take n t)
theorem Vals.drop : ∀ {xs : List V} {us : List Value} (n : Nat), Vals xs us -> Vals (xs.drop n) (us.drop n)
 | _, _, 0, r => r
 | _, _, _ + 1, .nil => .nil
 | _, _, n + 1, .cons _ t => Vals.drop n t
theorem Vals.none_of : ∀ {xs : List V} {us : List Value} {i : Nat}, Vals xs us -> xs[i]? = none -> us[i]? = none := fun {xs us i} r e => by
 have h1 := r.length
 have h2 : xs.length <= i := List.getElem?_eq_none_iff.mp e
 exact List.getElem?_eq_none_iff.mpr (by omega)
def RelO : Option V -> Option Value -> Prop
 | some v, some u => RelV v u
 | none, none => True
 | _, _ => False
def KV {κ : Type} : List (κ × V) -> List (κ × Value) -> Prop := Paired fun (p : κ × V) (q : κ × Value) => p.1 = q.1 /\ RelV p.2 q.2
def kV : Key -> V
 | .inl i => .int i
 | .inr x => .str x
inductive HO where
 /-- a list -/
 | lst (xs : List V)
 /-- a tuple (never changes) -/
 | tup (xs : List V)
 /-- a dict whose keys are ints and texts; one whose keys are tuples of ints and texts (the empty one is both) -/
 | dK (kvs : List (Key × V)) | dT (kvs : List (List Key × V))
 /-- a set of ints: its members, its size -/
 | set (S : Int -> Bool) (n : Nat)
 /-- an instance of the class at C, its dict at dx, its attributes -/
 | ins (C dx : Addr) (fs : List (Str × V))
 /-- the dict of the instance at x -/
 | own (x : Addr)
 /-- the dict of an exception -/
 | xd (fs : List (Str × V))
 /-- a bound method, f of x -/
 | met (f x : Addr)
 /-- a range object lo, lo + 1, .. below hi -/
 | rng (lo hi : Int)
 /-- a thing that is known to the object (the script; a dict while a loop walks it): read, never written while it is so -/
 | frz (o : Obj) (u : HO)
 /-- a code object's table -/
 | tbl (ps : Array Value)
 /-- any other thing, by what is true of its one object (a def of one's own: SetO a S n := HO.ext fun h => ..) -/
 | ext (φ : Heap -> Prop)
abbrev Hp := Addr -> Option HO
def upd (H : Hp) (a : Addr) (o : HO) : Hp := fun b => if b = a then some o else H b
theorem upd_same {H : Hp} {a : Addr} {o : HO} : upd H a o a = some o := by unfold upd; rw [if_pos rfl]
theorem upd_ne {H : Hp} {a b : Addr} {o : HO} (h : b ≠ a) : upd H a o b = H b := by unfold upd; rw [if_neg h]
theorem ne_of_none {H : Hp} {a b : Addr} {o : HO} (h : H a = some o) (h' : H b = none) : a ≠ b := by
 intro e; subst e; rw [h] at h'; cases h'
section
variable (P : Program) (w : World)
def ObjOk (H : Hp) (h : Heap) (a : Addr) : HO -> Prop
 | .lst xs => xs.length <= sizeLine /\ ∃ (its : List Value) (n : Nat), Vals xs its /\ h.get? a = some { cls := .type "list", data := .seq its.toArray n }
 | .tup xs => xs.length <= sizeLine /\ ∃ its : List Value, Vals xs its /\ IsTup h a its.toArray
 | .dK kvs => kvs.length <= sizeLine /\ (a == sysModules) = false /\ ∃ vs, KV kvs vs /\ h.DictOf (mixKind P w) a vs
 | .dT kvs => kvs.length <= sizeLine /\ (a == sysModules) = false /\ ∃ xs : List (List Key × Addr × Value),
   Paired (fun (p : List Key × V) (q : List Key × Addr × Value) => p.1 = q.1 /\ H q.2.1 = some (.tup (p.1.map kV)) /\ RelV p.2 q.2.2) kvs xs /\
   ∃ o es ep, h.get? a = some o /\ o.ExactDict /\ o.data = .dict es ep /\ es.toList = xs.map (entryOfKey (tupleKind (mixKind P w))) /\ (xs.map (·.1)).Nodup
 | .set S n => h.SetOf (intKind P w) a S n
 | .ins C dx fs => H dx = some (.own a) /\ fs.length <= 1000 /\ dx ≠ a /\ h.get? a = some (W.instObj C dx) /\
   ∃ mA, h.Ns1 dx mA /\ (∀ f, RelO (fs.lookup f) (mA f)) /\ PySem.Within mA (fs.map (·.1))
 | .own _ => ∃ o, h.get? a = some o
 | .xd fs => ∃ mA, h.Ns1 a mA /\ ∀ f, RelO (fs.lookup f) (mA f)
 | .rng lo hi => ∃ t u v, h.get? a = some { cls := .type "range", data := .fields #[.int lo t, .int hi u, .int 1 v] }
 | .frz o u => h.get? a = some o /\ ObjOk H h a u
 | .tbl ps => h.get? a = some { cls := .none, data := .fields ps }
 | .met f x => h.get? a = some (W.methodObj (.ref f) (.ref x))
 | .ext φ => φ h /\ (∃ o, h.get? a = some o) /\ ∀ h1 h2 : Heap, φ h1 -> (∀ o, h1.get? a = some o -> h2.get? a = some o) -> φ h2
def HOk (H : Hp) (h : Heap) : Prop := ∀ a o, H a = some o -> ObjOk P w H h a o
end
section
variable {P : Program} {w : World} {H H' : Hp} {h h' : Heap} {a : Addr} {o : HO}
theorem ObjOk.lt (x : ObjOk P w H h a o) : a < h.objs.size := by
 cases o with
 | lst xs => obtain ⟨_, _, _, _, e⟩ := x; exact Heap.lt_size e
 | tup xs => obtain ⟨_, _, _, p⟩ := x; exact p.lt
 | dK kvs => obtain ⟨_, _, _, _, o, _, _, e, _⟩ := x; exact Heap.lt_size e
 | dT kvs => obtain ⟨_, _, _, _, o, _, _, e, _⟩ := x; exact Heap.lt_size e
 | set S n => obtain ⟨o, _, _, _, e, _⟩ := x; exact Heap.lt_size e
 | ins C dx fs => obtain ⟨_, _, _, e, _⟩ := x; exact Heap.lt_size e
 | own y => obtain ⟨_, e⟩ := x; exact Heap.lt_size e
 | xd fs => obtain ⟨_, ⟨_, _, _, e, _⟩, _⟩ := x; exact Heap.lt_size e
 | rng lo hi => obtain ⟨_, _, _, e⟩ := x; exact Heap.lt_size e
 | frz ob u => obtain ⟨e, _⟩ := x; exact Heap.lt_size e
 | tbl ps => exact Heap.lt_size (show h.get? a = some _ from x)
 | met f y => exact Heap.lt_size (show h.get? a = some _ from x)
 | ext φ => obtain ⟨_, ⟨_, e⟩, _⟩ := x; exact Heap.lt_size e
theorem Paired.mapP {α β : Type} {F G : α -> β -> Prop} : ∀ {l₁ : List α} {l₂ : List β}, Paired F l₁ l₂ -> (∀ a b, F a b -> G a b) -> Paired G l₁ l₂
 | _, _, .nil, _ => .nil
 | _, _, .cons r t, f => .cons (f _ _ r) (Paired.mapP t f)
theorem ObjOk.stay (x : ObjOk P w H h a o) (k : ∀ b u, (b = a \/ H b = some (.own a)) -> h.get? b = some u -> h'.get? b = some u)
  (ho : ∀ b, H b = some (.own a) -> H' b = some (.own a)) (ht : ∀ b xs, H b = some (.tup xs) -> H' b = some (.tup xs)) : ObjOk P w H' h' a o := by
 induction o with
 | lst xs => obtain ⟨z, its, n, r, e⟩ := x; exact ⟨z, its, n, r, k _ _ (.inl rfl) e⟩
 | tup xs => obtain ⟨z, its, r, ob, e, c⟩ := x; exact ⟨z, its, r, ob, k _ _ (.inl rfl) e, c⟩
 | dK kvs => obtain ⟨z, y, vs, r, ob, es, ep, e, c⟩ := x; exact ⟨z, y, vs, r, ob, es, ep, k _ _ (.inl rfl) e, c⟩
 | dT kvs =>
  obtain ⟨z, y, xs, r, ob, es, ep, e, c⟩ := x
  exact ⟨z, y, xs, Paired.mapP r fun p q z => ⟨z.1, ht _ _ z.2.1, z.2.2⟩, ob, es, ep, k _ _ (.inl rfl) e, c⟩
 | set S n => obtain ⟨ob, es, ep, t, e, c⟩ := x; exact ⟨ob, es, ep, t, k _ _ (.inl rfl) e, c⟩
 | ins C dx fs =>
  obtain ⟨d, z, ne, e, mA, ⟨od, es, ep, e2, c⟩, r⟩ := x
  exact ⟨ho _ d, z, ne, k _ _ (.inl rfl) e, mA, ⟨od, es, ep, k _ _ (.inr d) e2, c⟩, r⟩
 | own y => obtain ⟨ob, e⟩ := x; exact ⟨ob, k _ _ (.inl rfl) e⟩
 | xd fs => obtain ⟨mA, ⟨od, es, ep, e, c⟩, r⟩ := x; exact ⟨mA, ⟨od, es, ep, k _ _ (.inl rfl) e, c⟩, r⟩
 | rng lo hi => obtain ⟨t, u, v, e⟩ := x; exact ⟨t, u, v, k _ _ (.inl rfl) e⟩
 | frz ob u ih => obtain ⟨e, q⟩ := x; exact ⟨k _ _ (.inl rfl) e, ih q⟩
 | tbl ps =>
  have e : h.get? a = some { cls := .none, data := .fields ps } := x
  show h'.get? a = some { cls := .none, data := .fields ps }
  exact k a _ (.inl rfl) e
 | met f y =>
  have e : h.get? a = some (W.methodObj (.ref f) (.ref y)) := x
  show h'.get? a = some (W.methodObj (.ref f) (.ref y))
  exact k a _ (.inl rfl) e
 | ext φ => obtain ⟨p, ⟨o, e⟩, st⟩ := x; exact ⟨st _ _ p fun o q => k _ _ (.inl rfl) q, ⟨o, k _ _ (.inl rfl) e⟩, st⟩
theorem HOk.lt (x : HOk P w H h) (e : H a = some o) : a < h.objs.size := (x a o e).lt
theorem HOk.fresh (x : HOk P w H h) (e : h.objs.size <= a) : H a = none := by
 cases q : H a with
 | none => rfl
 | some u => exact absurd (Nat.lt_of_lt_of_le (x.lt q) e) (Nat.lt_irrefl _)
theorem HOk.kept (x : HOk P w H h) (k : ∀ b u, h.get? b = some u -> h'.get? b = some u) : HOk P w H h' := fun a o e =>
 (x a o e).stay (fun b u _ q => k b u q) (fun _ q => q) fun _ _ q => q
theorem HOk.laid (x : HOk P w H h) (k : ∀ b u, h.get? b = some u -> h'.get? b = some u) (hp : h.objs.size <= a) (new : ObjOk P w (upd H a o) h' a o) : HOk P w (upd H a o) h' := fun b u e => by
 have hn := x.fresh hp
 by_cases hb : b = a
 ·subst hb; rw [upd_same] at e; cases e; exact new
 ·rw [upd_ne hb] at e
  exact (x b u e).stay (fun c v _ q => k c v q) (fun c q => by rw [upd_ne (ne_of_none q hn)]; exact q) fun c xs q => by rw [upd_ne (ne_of_none q hn)]; exact q
end
def Rd (H : Hp) (a : Addr) (u : HO) : Prop := H a = some u \/ ∃ o, H a = some (.frz o u)
theorem Rd.ok {P : Program} {w : World} {H : Hp} {h : Heap} {a : Addr} {u : HO} (r : Rd H a u) (x : HOk P w H h) : ObjOk P w H h a u := by
 rcases r with r | ⟨o, r⟩
 ·exact x a u r
 ·obtain ⟨_, q⟩ := x a _ r
  exact q
def Mut : Option HO -> Prop
 | some (.lst _) => True
 | some (.dK _) => True
 | some (.dT _) => True
 | some (.set _ _) => True
 | some (.ins _ _ _) => True
 | some (.ext _) => True
 | _ => False
section
variable {P : Program} {w : World} {H : Hp} {h h' : Heap} {x e : Addr} {o' : HO}
theorem HOk.write (ok : HOk P w H h) (mu : Mut (H x)) (he : e = x \/ H e = some (.own x)) (k : ∀ b u, b ≠ e -> h.get? b = some u -> h'.get? b = some u) (heo : ∃ u, h'.get? e = some u)
  (new : ObjOk P w (upd H x o') h' x o') : HOk P w (upd H x o') h' := fun b u q => by
 have nown : ∀ c y, H c = some (.own y) -> c ≠ x := fun c y r z => by subst z; rw [r] at mu; exact mu
 have ntup : ∀ c xs, H c = some (.tup xs) -> c ≠ x := fun c xs r z => by subst z; rw [r] at mu; exact mu
 by_cases hb : b = x
 ·subst hb; rw [upd_same] at q; cases q; exact new
 ·rw [upd_ne hb] at q
  by_cases hbe : b = e
  ·have q' : H b = some (.own x) := by
    rcases he with z | z
    ·exact absurd (hbe.trans z) hb
    ·rw [hbe]; exact z
   rw [q] at q'; cases q'
   obtain ⟨v, hv⟩ := heo
   exact ⟨v, by rw [hbe]; exact hv⟩
  ·refine (ok b u q).stay (fun c v hc r => k c v ?_ r) (fun c r => by rw [upd_ne (nown c b r)]; exact r) fun c xs r => by rw [upd_ne (ntup c xs r)]; exact r
   rcases hc with rfl | hc
   ·exact hbe
   ·rintro rfl
    rcases he with z | z
    ·exact nown c b hc z
    ·rw [hc] at z; cases z; exact hb rfl
end
structure Un (fs ex : List Addr) (H H' : Hp) (h h' : Heap) : Prop where
 keep : ∀ b o, h.get? b = some o -> H b = none -> b ∉ fs -> b ∉ ex -> h'.get? b = some o
 slot : ∀ b o, h.get? b = some o -> H b = none -> b ∈ fs -> b ∉ ex -> ∃ sl, h'.get? b = some { o with slots := sl }
 free : ∀ b o, h.get? b = some o -> H b = none -> b ∉ ex -> H' b = none
 there : ∀ b o, h.get? b = some o -> b ∉ ex -> ∃ o', h'.get? b = some o'
 tups : ∀ b xs, H b = some (.tup xs) -> H' b = some (.tup xs)
 frzs : ∀ b o u, H b = some (.frz o u) -> H' b = some (.frz o u)
 tbls : ∀ b ps, H b = some (.tbl ps) -> ∃ more, H' b = some (.tbl (ps ++ more))
section
variable {fs fs' ex ex' : List Addr} {H H1 H2 : Hp} {h h1 h2 h' : Heap} {a x e : Addr} {o : HO}
theorem Un.any (u : Un fs ex H H1 h h1) {b : Addr} {ob : Obj} (q : h.get? b = some ob) (n : H b = none) (hx : b ∉ ex) : ∃ sl, h1.get? b = some { ob with slots := sl } := by
 by_cases hb : b ∈ fs
 ·exact u.slot b ob q n hb hx
 ·exact ⟨ob.slots, u.keep b ob q n hb hx⟩
theorem Un.kept (k : ∀ b u, h.get? b = some u -> h'.get? b = some u) : Un fs ex H H h h' :=
 ⟨fun b ob q _ _ _ => k b ob q, fun b ob q _ _ _ => ⟨ob.slots, k b ob q⟩, fun _ _ _ n _ => n, fun b ob q _ => ⟨ob, k b ob q⟩, fun _ _ q => q, fun _ _ _ q => q, fun _ ps q => ⟨#[], by rw [q]; simp⟩⟩
theorem Un.refl : Un fs ex H H h h := Un.kept fun _ _ q => q
theorem Un.laid (k : ∀ b u, h.get? b = some u -> h'.get? b = some u) (hp : h.objs.size <= a) (hn : H a = none) : Un fs ex H (upd H a o) h h' where
 keep := fun b u q _ _ _ => k b u q
 slot := fun b u q _ _ _ => ⟨u.slots, k b u q⟩
 free := fun b u q n _ => by rw [upd_ne (Nat.ne_of_lt (Nat.lt_of_lt_of_le (Heap.lt_size q) hp))]; exact n
 there := fun b u q _ => ⟨u, k b u q⟩
 tups := fun b xs q => by rw [upd_ne (ne_of_none q hn)]; exact q
 frzs := fun b u xs q => by rw [upd_ne (ne_of_none q hn)]; exact q
 tbls := fun b ps q => ⟨#[], by rw [upd_ne (ne_of_none q hn), q]; simp⟩
theorem Un.write (mu : Mut (H x)) (he : e = x \/ H e = some (.own x)) (k : ∀ b u, b ≠ e -> h.get? b = some u -> h'.get? b = some u) (heo : ∃ u, h'.get? e = some u) : Un fs ex H (upd H x o) h h' := by
 have hx : ∀ b, H b = none -> b ≠ x := fun b n z => by subst z; rw [n] at mu; exact mu
 have hb : ∀ b, H b = none -> b ≠ e := fun b n z => by
  subst z
  rcases he with r | r
  ·exact hx b n r
  ·rw [n] at r; cases r
 have hm : ∀ b u, H b = some u -> ¬ Mut (some u) -> b ≠ x := fun b u q nm z => by subst z; rw [q] at mu; exact nm mu
 refine ⟨fun b u q n _ _ => k b u (hb b n) q, fun b u q n _ _ => ⟨u.slots, k b u (hb b n) q⟩, fun b u q n _ => by rw [upd_ne (hx b n)]; exact n, fun b u q _ => ?_,
  fun b xs q => by rw [upd_ne (hm b _ q fun z => z)]; exact q, fun b u xs q => by rw [upd_ne (hm b _ q fun z => z)]; exact q, fun b ps q => ⟨#[], by rw [upd_ne (hm b _ q fun z => z), q]; simp⟩⟩
 by_cases hbe : b = e
 ·subst hbe; exact heo
 ·exact ⟨u, k b u hbe q⟩
end
def trk (h : Heap) (H : Hp) : List Addr := (List.range h.objs.size).filter fun a => (H a).isSome
def hidT (h : Heap) (H : Hp) : Heap := W.hideAll h (trk h H)
theorem hidT_size (h : Heap) (H : Hp) : (hidT h H).objs.size = h.objs.size := W.hideAll_size _ _
theorem hidT_get {h : Heap} {H : Hp} {b : Addr} {o : Obj} (e : h.get? b = some o) (n : H b = none) : (hidT h H).get? b = some o :=
 W.hideAll_get _ e fun hm => by
  have q : (H b).isSome = true := (List.mem_filter.mp hm).2
  rw [n] at q; simp at q
theorem of_hidT {h : Heap} {H : Hp} {b : Addr} {o : Obj} (e : (hidT h H).get? b = some o) : h.get? b = some o /\ H b = none := by
 have e' : h.get? b = some o := W.of_hideAll (trk h H) e
 refine ⟨e', ?_⟩
 cases q : H b with
 | none => rfl
 | some x =>
  have hm : b ∈ trk h H := List.mem_filter.mpr ⟨List.mem_range.mpr (Heap.lt_size e'), by simp [q]⟩
  have z : (hidT h H).get? b = none := W.hideAll_none (trk h H) hm
  rw [z] at e; cases e
end L2
namespace L2
open PySem PySem.Spec PyProof.Rows
structure Mod (K : W.Frag) (mg : Str -> Option Value) (base : Heap) : Prop where
 kin : K.In base
 glob : base.Ns mainGlobals mg
 blt : ∃ mb, base.Ns builtinsNs mb /\ ∀ x : Str, x ≠ "__name__" -> mb x = bootBuiltins x
 nolimit : base.NoLimit
structure Cx where
 prog : Program
 w : World
 K : W.Frag
 mg : Str -> Option Value
 base : Heap
 A : Around
 N : List Str
 s₀ : Shared
 H₀ : Hp
 env : Env
 outer : List Env
 stack : List Env
 ex : List Addr
 fn : Str -> Bool
 calm : Bool
 still : Bool
 fz : List (Addr × Obj × HO)
 pn : List (Addr × Obj)
 xe : Value -> Shared -> Prop
def frs (l : List Env) : List Addr := l.filterMap (·.frame)
abbrev Cx.fs (X : Cx) : List Addr := frs X.outer
def Vis (sc : Scope) (x : Str) : Prop := sc.names.lookup x = some .local \/ sc.names.lookup x = some .cell \/ sc.names.lookup x = some .free
def Loc (sc : Scope) (x : Str) : Prop := sc.names.lookup x = some .local \/ sc.names.lookup x = some .cell
def Look (env : Env) (h : Heap) (m : Str -> Option Value) (x : Str) (u : Value) : Prop :=
 (env.kindOf x = some .local /\ m x = some u) \/ ((env.kindOf x = some .cell \/ env.kindOf x = some .free) /\ ∃ c, env.cells.lookup x = some c /\ h.IsCell c (some u))
structure Cx.Ok (X : Cx) : Prop where
 mod : Mod X.K X.mg X.base
 kind : X.env.scope.kind = .function
 glob : X.env.globals = mainGlobals
 blt : X.env.builtins = builtinsNs
 above : X.s₀.heap.objs.size <= X.env.locals
 inj : ∀ x y c, X.env.cells.lookup x = some c -> X.env.cells.lookup y = some c -> x = y
 has : ∀ x, (X.env.kindOf x = some .cell \/ X.env.kindOf x = some .free) -> ∃ c, X.env.cells.lookup x = some c
 cab : ∀ x c, X.fn x = true -> X.env.cells.lookup x = some c -> X.s₀.heap.objs.size <= c
 hd : X.calm = true -> X.A.handled = none
 hs : X.still = true -> X.A.handled = none \/ ∃ e o u vs, X.A.handled = some (.ref e) /\ (e, o, u) ∈ X.fz /\ o.data = .fields vs /\ vs[2]? = some .none
 frames : X.A.frames = some X.stack
 stk : X.stack = X.outer \/ (X.stack = X.env :: X.outer /\ X.env.frame = some X.env.locals)
 exf : ∀ b ∈ X.ex, b ≠ X.env.locals /\ ∀ x c, X.env.cells.lookup x = some c -> c ≠ b
 bs : ∀ b o, X.base.get? b = some o -> X.s₀.heap.get? b = some o /\ X.H₀ b = none
 bsz : X.base.objs.size <= X.s₀.heap.objs.size
 noex : ∀ b o, X.base.get? b = some o -> b ∉ X.ex
 exfs : ∀ b ∈ X.ex, b ∉ X.fs
 funs : X.s₀.heap.FunFrames X.base X.outer
 frf : ∀ b ∈ X.fs, X.H₀ b = none
structure Inv (X : Cx) (pins : List (Addr × Obj)) (σ : List (Option V)) (H : Hp) (s : Shared) : Prop where
 ok : X.Ok
 fzs : ∀ p ∈ X.fz, H p.1 = some (.frz p.2.1 p.2.2)
 os : s.os = X.s₀.os
 bare : AllBare s.gens
 base : Un X.fs X.ex X.H₀ H X.s₀.heap s.heap
 loc : ∃ m, s.heap.Ns X.env.locals m /\ ∀ (i : Nat) (x : Str) (v : V), X.N[i]? = some x -> σ[i]? = some (some v) -> Vis X.env.scope x -> ∃ u, RelV v u /\ Look X.env s.heap m x u
 cell : ∀ x c, X.env.cells.lookup x = some c -> ∃ v, s.heap.IsCell c v
 free : H X.env.locals = none
 freeC : ∀ x c, X.env.cells.lookup x = some c -> H c = none
 pin : ∀ p ∈ X.pn ++ pins, s.heap.get? p.1 = some p.2 /\ H p.1 = none /\ p.1 ≠ X.env.locals /\ p.1 ∉ X.fs /\ ∀ v, p.2.data ≠ .cell v
 hok : HOk X.prog X.w H s.heap
 len : σ.length = X.N.length
section
variable {X : Cx} {pins : List (Addr × Obj)} {σ : List (Option V)} {H H' : Hp} {s : Shared} {h' : Heap}
theorem Cx.Ok.nofr (ok : X.Ok) {b : Addr} {o : Obj} (e : X.base.get? b = some o) : b ∉ X.fs := fun hb => by
 have := (ok.funs.mem hb).1
 rw [e] at this; cases this
theorem Inv.bs (I : Inv X pins σ H s) : ∀ b o, X.base.get? b = some o -> s.heap.get? b = some o /\ H b = none := fun b o e =>
 ⟨I.base.keep b o (I.ok.bs b o e).1 (I.ok.bs b o e).2 (I.ok.nofr e) (I.ok.noex b o e), I.base.free b o (I.ok.bs b o e).1 (I.ok.bs b o e).2 (I.ok.noex b o e)⟩
theorem Inv.bk (I : Inv X pins σ H s) : ∀ b o, X.base.get? b = some o -> s.heap.get? b = some o := fun b o e => (I.bs b o e).1
theorem Inv.mod (I : Inv X pins σ H s) : Mod X.K X.mg X.base := I.ok.mod
theorem Inv.kIn (I : Inv X pins σ H s) : X.K.In s.heap := I.ok.mod.kin.keeps I.bk
theorem Inv.lt (I : Inv X pins σ H s) : X.env.locals < s.heap.objs.size := let ⟨_, hn, _⟩ := I.loc; hn.lt
theorem Inv.sz (I : Inv X pins σ H s) : X.s₀.heap.objs.size <= s.heap.objs.size := Nat.le_trans I.ok.above (Nat.le_of_lt I.lt)
theorem Inv.nofs (I : Inv X pins σ H s) {a : Addr} (h : s.heap.objs.size <= a) : a ∉ X.fs := fun hb => by
 obtain ⟨_, o, ho, _⟩ := I.ok.funs.mem hb
 exact absurd (Nat.lt_of_lt_of_le (Heap.lt_size ho) (Nat.le_trans I.sz h)) (Nat.lt_irrefl _)
theorem Inv.cne (I : Inv X pins σ H s) : ∀ x c, X.env.cells.lookup x = some c -> c ≠ X.env.locals := fun x c e z => by
 obtain ⟨v, o, ho, hd⟩ := I.cell x c e
 obtain ⟨m, ⟨o', es, ep, ho', hd', _⟩, _⟩ := I.loc
 rw [z, ho'] at ho; cases ho; rw [hd'] at hd; cases hd
theorem Inv.funs (I : Inv X pins σ H s) : s.heap.FunFrames X.base X.outer := by
 have all : ∀ (l : List Env), (∀ b ∈ frs l, b ∈ X.fs) -> X.s₀.heap.FunFrames X.base l -> s.heap.FunFrames X.base l := by
  intro l
  induction l with
  | nil => intro _ _; trivial
  | cons env r ih =>
   intro hs hl
   obtain ⟨hk, ⟨L, o, hf, hn, ho, hd⟩, hr⟩ := hl
   have hL : L ∈ X.fs := hs L (by unfold frs; rw [List.filterMap_cons, hf]; exact List.mem_cons_self)
   obtain ⟨sl, e⟩ := I.base.slot L o ho (I.ok.frf L hL) hL fun z => I.ok.exfs L z hL
   exact ⟨hk, ⟨L, _, hf, hn, e, hd⟩, ih (fun b hb => hs b (by unfold frs; rw [List.filterMap_cons, hf]; exact List.mem_cons_of_mem _ hb)) hr⟩
 exact all X.outer (fun _ hb => hb) I.ok.funs
theorem Inv.stack (I : Inv X pins σ H s) : s.heap.FunFrames X.base X.stack := by
 rcases I.ok.stk with e | ⟨e, hf⟩
 ·rw [e]; exact I.funs
 ·rw [e]
  obtain ⟨m, hn, _⟩ := I.loc
  refine .cons (by rw [I.ok.kind]; decide) hf hn ?_ I.funs
  exact Heap.get?_none_of_le (Nat.le_trans I.ok.bsz I.ok.above)
theorem Inv.stkSub (I : Inv X pins σ H s) : ∀ b ∈ frs X.stack, b ∈ X.env.locals :: X.fs := fun b hb => by
 rcases I.ok.stk with e | ⟨e, hf⟩
 ·rw [e] at hb; exact List.mem_cons_of_mem _ hb
 ·rw [e] at hb
  unfold frs at hb
  rw [List.filterMap_cons, hf] at hb
  exact hb
theorem Inv.stkFree (I : Inv X pins σ H s) : ∀ b ∈ frs X.stack, H b = none := fun b hb => by
 rcases List.mem_cons.mp (I.stkSub b hb) with e | hb
 ·rw [e]; exact I.free
 ·obtain ⟨_, o, ho, _⟩ := I.ok.funs.mem hb
  exact I.base.free b o ho (I.ok.frf b hb) fun z => I.ok.exfs b z hb
theorem Inv.step {g' : Array GenState} {t' : Nat} {d' : Drawn} {ch : List Addr} (I : Inv X pins σ H s)
  (hch : ∀ b ∈ ch, (b ∈ X.ex \/ X.s₀.heap.objs.size <= b) /\ b ≠ X.env.locals /\ (∀ x c, X.env.cells.lookup x = some c -> c ≠ b) /\ ∀ p ∈ X.pn ++ pins, p.1 ≠ b)
  (keep : ∀ b o, b ≠ X.env.locals -> b ∉ X.fs -> b ∉ ch -> s.heap.get? b = some o -> H b = none -> h'.get? b = some o)
  (slot : ∀ b o, b ≠ X.env.locals -> b ∈ X.fs -> b ∉ ch -> s.heap.get? b = some o -> H b = none -> ∃ sl, h'.get? b = some { o with slots := sl }) (free : ∀ b o, b ∉ ch -> s.heap.get? b = some o -> H b = none -> H' b = none)
  (there : ∀ b o, b ∉ ch -> s.heap.get? b = some o -> ∃ o', h'.get? b = some o')
  (tups : ∀ b xs, H b = some (.tup xs) -> H' b = some (.tup xs)) (frzs : ∀ b o u, H b = some (.frz o u) -> H' b = some (.frz o u)) (tbls : ∀ b ps, H b = some (.tbl ps) -> ∃ more, H' b = some (.tbl (ps ++ more)))
  (ns : ∀ m, s.heap.Ns X.env.locals m -> h'.Ns X.env.locals m) (hok : HOk X.prog X.w H' h') (hg : AllBare g') :
  Inv X pins σ H' { s with heap := h', gens := g', drawn := d', toks := t' } := by
 have neL : ∀ b o, X.s₀.heap.get? b = some o -> b ≠ X.env.locals := fun b o e => Nat.ne_of_lt (Nat.lt_of_lt_of_le (Heap.lt_size e) I.ok.above)
 have neC : ∀ b o, X.s₀.heap.get? b = some o -> b ∉ X.ex -> b ∉ ch := fun b o e hx hb => by
  rcases (hch b hb).1 with z | z
  ·exact hx z
  ·exact absurd (Nat.lt_of_lt_of_le (Heap.lt_size e) z) (Nat.lt_irrefl _)
 have cellK : ∀ x c, X.env.cells.lookup x = some c -> ∀ v, s.heap.IsCell c v -> h'.IsCell c v := fun x c e v ⟨o, ho, hd⟩ => by
  have nch : c ∉ ch := fun z => (hch c z).2.2.1 x c e rfl
  by_cases hc : c ∈ X.fs
  ·obtain ⟨sl, q⟩ := slot c o (I.cne x c e) hc nch ho (I.freeC x c e)
   exact ⟨_, q, hd⟩
  ·exact ⟨o, keep c o (I.cne x c e) hc nch ho (I.freeC x c e), hd⟩
 refine ⟨I.ok, fun p hp => frzs _ _ _ (I.fzs p hp), I.os, hg, ⟨fun b o e n hb hx => ?_, fun b o e n hb hx => ?_, fun b o e n hx => ?_, fun b o e hx => ?_, fun b xs e => tups b xs (I.base.tups b xs e), fun b o xs e => frzs b o xs (I.base.frzs b o xs e), fun b ps e => ?_⟩, ?_, fun x c e => ?_, ?_, fun x c e => ?_, fun p hp => ?_, hok, I.len⟩
 ·exact keep b o (neL b o e) hb (neC b o e hx) (I.base.keep b o e n hb hx) (I.base.free b o e n hx)
 ·obtain ⟨sl, e1⟩ := I.base.slot b o e n hb hx
  obtain ⟨sl', e2⟩ := slot b _ (neL b o e) hb (neC b o e hx) e1 (I.base.free b o e n hx)
  exact ⟨sl', e2⟩
 ·obtain ⟨o', e1⟩ := I.base.there b o e hx
  exact free b o' (neC b o e hx) e1 (I.base.free b o e n hx)
 ·obtain ⟨o', e1⟩ := I.base.there b o e hx
  exact there b o' (neC b o e hx) e1
 ·obtain ⟨m1, e1⟩ := I.base.tbls b ps e
  obtain ⟨m2, e2⟩ := tbls b _ e1
  exact ⟨m1 ++ m2, by rw [e2, Array.append_assoc]⟩
 ·obtain ⟨m, hn, hl⟩ := I.loc
  refine ⟨m, ns m hn, fun i x v e1 e2 e3 => ?_⟩
  obtain ⟨u, r, l⟩ := hl i x v e1 e2 e3
  refine ⟨u, r, ?_⟩
  rcases l with l | ⟨k, c, e, z⟩
  ·exact .inl l
  ·exact .inr ⟨k, c, e, cellK x c e _ z⟩
 ·obtain ⟨v, z⟩ := I.cell x c e
  exact ⟨v, cellK x c e v z⟩
 ·obtain ⟨m, ⟨o, _, _, ho, _⟩, _⟩ := I.loc
  exact free _ o (fun z => (hch _ z).2.1 rfl) ho I.free
 ·obtain ⟨v, o, ho, hd⟩ := I.cell x c e
  exact free c o (fun z => (hch c z).2.2.1 x c e rfl) ho (I.freeC x c e)
 ·obtain ⟨e, n, ne, nf, d⟩ := I.pin p hp
  have nch : p.1 ∉ ch := fun z => (hch p.1 z).2.2.2 p hp rfl
  exact ⟨keep p.1 p.2 ne nf nch e n, free p.1 p.2 nch e n, ne, nf, d⟩
theorem Inv.un {t' : Nat} (I : Inv X pins σ H s) (u : Un X.fs [] H H' s.heap h') (hok : HOk X.prog X.w H' h') : Inv X pins σ H' { s with heap := h', toks := t' } := by
 obtain ⟨m, ⟨o, es, ep, ho, r⟩, _⟩ := id I.loc
 obtain ⟨sl, hL⟩ := u.any ho I.free (by simp)
 exact I.step (g' := s.gens) (d' := s.drawn) (ch := []) (fun _ z => nomatch z) (fun b o _ hb _ e n => u.keep b o e n hb (by simp)) (fun b o _ hb _ e n => u.slot b o e n hb (by simp)) (fun b o _ e n => u.free b o e n (by simp)) (fun b o _ e => u.there b o e (by simp)) u.tups u.frzs u.tbls (fun m' hm => by
  obtain ⟨o', es', ep', ho', r'⟩ := hm
  rw [ho] at ho'; cases ho'
  exact ⟨_, es', ep', hL, r'⟩) hok I.bare
theorem Inv.call {g' : Array GenState} {t' : Nat} {d' : Drawn} {ch : List Addr} (I : Inv X pins σ H s) (u : Un (frs X.stack) ch H H' s.heap h') (hok : HOk X.prog X.w H' h') (hg : AllBare g')
  (hch : ∀ b ∈ ch, (b ∈ X.ex \/ X.s₀.heap.objs.size <= b) /\ b ≠ X.env.locals /\ (∀ x c, X.env.cells.lookup x = some c -> c ≠ b) /\ ∀ p ∈ X.pn ++ pins, p.1 ≠ b) :
  Inv X pins σ H' { s with heap := h', gens := g', drawn := d', toks := t' } := by
 obtain ⟨m, ⟨o, es, ep, ho, r⟩, _⟩ := id I.loc
 obtain ⟨sl, hL⟩ := u.any ho I.free fun z => (hch _ z).2.1 rfl
 exact I.step (ch := ch) hch (fun b o hL hb hc e n => u.keep b o e n (fun z => (List.mem_cons.mp (I.stkSub b z)).elim hL hb) hc) (fun b o _ _ hc e n => u.any e n hc) (fun b o hc e n => u.free b o e n hc) (fun b o hc e => u.there b o e hc) u.tups u.frzs u.tbls (fun m' hm => by
  obtain ⟨o', es', ep', ho', r'⟩ := hm
  rw [ho] at ho'; cases ho'
  exact ⟨_, es', ep', hL, r'⟩) hok hg
theorem Inv.turned {t' : Nat} {it : Addr} (I : Inv X pins σ H s) (k : ∀ b o, b ≠ it -> s.heap.get? b = some o -> h'.get? b = some o) (hn : H it = none) (hL : it ≠ X.env.locals)
  (h1 : it ∈ X.ex \/ X.s₀.heap.objs.size <= it) (h2 : ∀ x c, X.env.cells.lookup x = some c -> c ≠ it) (h3 : ∀ p ∈ X.pn ++ pins, p.1 ≠ it) : Inv X pins σ H { s with heap := h', toks := t' } := by
 have nit : ∀ b u, H b = some u -> b ≠ it := fun b u e z => by rw [z, hn] at e; cases e
 refine I.step (g' := s.gens) (d' := s.drawn) (ch := [it]) (fun b hb => ?_) (fun b o _ _ hc e _ => k b o (fun z => hc (by simp [z])) e) (fun b o _ _ hc e _ => ⟨o.slots, k b o (fun z => hc (by simp [z])) e⟩) (fun _ _ _ _ n => n)
  (fun b o hc e => ⟨o, k b o (fun z => hc (by simp [z])) e⟩) (fun _ _ e => e) (fun _ _ _ e => e) (fun b ps e => ⟨#[], by rw [e]; simp⟩) (fun m hm => ?_) (fun b u e => ?_) I.bare
 ·have e : b = it := by simpa using hb
  subst e
  exact ⟨h1, hL, h2, h3⟩
 ·obtain ⟨o, es, ep, ho, r⟩ := hm
  exact ⟨o, es, ep, k _ o (Ne.symm hL) ho, r⟩
 ·refine (I.hok b u e).stay (fun c v hc q => k c v ?_ q) (fun _ q => q) fun _ _ q => q
  rcases hc with z | z
  ·rw [z]; exact nit b u e
  ·exact nit c _ z
theorem Inv.stl (I : Inv X pins σ H s) (hc : X.still = true) : Still X.A s.heap := by
 rcases I.ok.hs hc with z | ⟨e, o, u, vs, hh, hm, r⟩
 ·exact .inl z
 ·exact .inr ⟨e, o, vs, hh, (I.hok e _ (I.fzs _ hm)).1, r⟩
theorem Inv.stn (I : Inv X pins σ H s) (hc : X.still = true) {b : Addr} (n : H b = none) : X.A.handled ≠ some (.ref b) := by
 rcases I.ok.hs hc with z | ⟨e, o, u, vs, hh, hm, r⟩
 ·rw [z]; intro c; cases c
 ·rw [hh]; intro c; cases c
  have y := I.fzs _ hm
  have y' : H b = some (.frz o u) := y
  rw [n] at y'; cases y'
theorem Inv.tok (I : Inv X pins σ H s) (t : Nat) : Inv X pins σ H { s with toks := t } := I.un (h' := s.heap) (t' := t) Un.refl I.hok
theorem Inv.kept {t' : Nat} (I : Inv X pins σ H s) (k : ∀ b u, s.heap.get? b = some u -> h'.get? b = some u) : Inv X pins σ H { s with heap := h', toks := t' } := I.un (Un.kept k) (I.hok.kept k)
theorem Inv.laid {a : Addr} {o : HO} {t' : Nat} (I : Inv X pins σ H s) (k : ∀ b u, s.heap.get? b = some u -> h'.get? b = some u) (hp : s.heap.objs.size <= a) (new : ObjOk X.prog X.w (upd H a o) h' a o) :
  Inv X pins σ (upd H a o) { s with heap := h', toks := t' } := I.un (Un.laid k hp (I.hok.fresh hp)) (I.hok.laid k hp new)
theorem Inv.write {x e : Addr} {o : HO} {t' : Nat} (I : Inv X pins σ H s) (mu : Mut (H x)) (he : e = x \/ H e = some (.own x)) (k : ∀ b u, b ≠ e -> s.heap.get? b = some u -> h'.get? b = some u) (heo : ∃ u, h'.get? e = some u)
  (new : ObjOk X.prog X.w (upd H x o) h' x o) : Inv X pins σ (upd H x o) { s with heap := h', toks := t' } := I.un (Un.write mu he k heo) (I.hok.write mu he k heo new)
theorem Inv.pins_of {pins' : List (Addr × Obj)} (I : Inv X pins σ H s) (h : ∀ p ∈ pins', s.heap.get? p.1 = some p.2 /\ H p.1 = none /\ p.1 ≠ X.env.locals /\ p.1 ∉ X.fs /\ ∀ v, p.2.data ≠ .cell v) : Inv X pins' σ H s :=
 ⟨I.ok, I.fzs, I.os, I.bare, I.base, I.loc, I.cell, I.free, I.freeC, fun p hp => (List.mem_append.mp hp).elim (fun z => I.pin p (List.mem_append_left _ z)) (h p), I.hok, I.len⟩
theorem nodup_ix {N : List Str} (hN : N.Nodup) {i j : Nat} {x : Str} (a : N[i]? = some x) (b : N[j]? = some x) : i = j := by
 obtain ⟨h1, e1⟩ := List.getElem?_eq_some_iff.mp a
 obtain ⟨h2, e2⟩ := List.getElem?_eq_some_iff.mp b
 exact (List.getElem_inj hN).mp (e1.trans e2.symm)
theorem store_ok2 {M : Model} {A : Around} {E : Value -> Shared -> Prop} {i : Nat} {x : Str} {v : V} {u : Value} {Q : Unit -> Shared -> Prop} (I : Inv X pins σ H s) (hN : X.N.Nodup) (hi : X.N[i]? = some x) (hx : Loc X.env.scope x) (r : RelV v u)
  (h : ∀ s', Inv X pins (σ.set i (some v)) H s' -> (∃ a, Heap.SameBut a s.heap s'.heap /\ (a = X.env.locals \/ X.env.cells.lookup x = some a)) -> Q () s') (hf : X.fn x = true \/ X.env.scope.names.lookup x = some .local := by first | exact .inl rfl | exact .inr rfl | assumption) : wpAny M A (storeName X.env x u) Q E s := by
 obtain ⟨m, hn, hl⟩ := id I.loc
 have hcls : (X.env.scope.kind == .class || (X.env.scope.kind == .module && X.env.locals != X.env.globals)) = false := by rw [I.ok.kind]; rfl
 have hiσ : i < σ.length := by rw [I.len]; exact (List.getElem?_eq_some_iff.mp hi).1
 have cne := I.cne
 have tracked : ∀ {a : Addr} {h' : Heap}, (∃ o, s.heap.get? a = some o /\ H a = none) -> Heap.SameBut a s.heap h' -> HOk X.prog X.w H h' := fun {a h'} ha hs b ob e => by
  obtain ⟨_, _, hfree⟩ := ha
  refine (I.hok b ob e).stay (fun c w' hc q => (hs.2 c ?_).trans q) (fun _ q => q) fun _ _ q => q
  rintro rfl
  rcases hc with rfl | hc
  ·rw [hfree] at e; cases e
  ·rw [hfree] at hc; cases hc
 rcases hx with hk | hk
 ·refine wpAny_storeName_local hk hn (fun h' hn' hs => ?_) hcls
  obtain ⟨oL, _, _, hoL, _⟩ := id hn
  refine h _ ⟨I.ok, I.fzs, I.os, I.bare, ⟨fun b o e n hb hx => ?_, fun b o e n hb hx => ?_, I.base.free, fun b o e hx => ?_, I.base.tups, I.base.frzs, I.base.tbls⟩, ⟨_, hn', fun j y v' e1 e2 e3 => ?_⟩, fun y c e => ?_, I.free, I.freeC, fun p hp => ?_, tracked ⟨oL, hoL, I.free⟩ hs, by simpa using I.len⟩ ⟨_, hs, .inl rfl⟩
  ·exact (hs.2 b (Nat.ne_of_lt (Nat.lt_of_lt_of_le (Heap.lt_size e) I.ok.above))).trans (I.base.keep b o e n hb hx)
  ·obtain ⟨sl, e1⟩ := I.base.slot b o e n hb hx
   exact ⟨sl, (hs.2 b (Nat.ne_of_lt (Nat.lt_of_lt_of_le (Heap.lt_size e) I.ok.above))).trans e1⟩
  ·obtain ⟨o', e1⟩ := I.base.there b o e hx
   exact ⟨o', (hs.2 b (Nat.ne_of_lt (Nat.lt_of_lt_of_le (Heap.lt_size e) I.ok.above))).trans e1⟩
  ·by_cases hj : j = i
   ·subst hj
    rw [hi] at e1; cases e1
    rw [List.getElem?_set_self hiσ] at e2
    cases e2
    exact ⟨u, r, .inl ⟨hk, by simp⟩⟩
   ·rw [List.getElem?_set_ne (Ne.symm hj)] at e2
    obtain ⟨u', r', q⟩ := hl j y v' e1 e2 e3
    refine ⟨u', r', ?_⟩
    rcases q with ⟨k, e⟩ | ⟨k, c, e, z⟩
    ·refine .inl ⟨k, ?_⟩
     have : y ≠ x := fun e => hj (nodup_ix hN e1 (e ▸ hi))
     simp [this, e]
    ·exact .inr ⟨k, c, e, z.sameBut hs (cne y c e)⟩
  ·obtain ⟨w', z⟩ := I.cell y c e
   exact ⟨w', z.sameBut hs (cne y c e)⟩
  ·obtain ⟨e, n, ne, nf, d⟩ := I.pin p hp
   exact ⟨(hs.2 p.1 ne).trans e, n, ne, nf, d⟩
 ·have hfn : X.fn x = true := by
   rcases hf with z | z
   ·exact z
   ·rw [z] at hk; cases hk
  obtain ⟨c, hc⟩ := I.ok.has x (.inl hk)
  obtain ⟨w', z⟩ := I.cell x c hc
  refine wpAny_storeName_cell I.ok.kind hk hc z (fun h' hc' hs => ?_)
  obtain ⟨oc, hoc, hocd⟩ := id z
  refine h { s with heap := h' } ⟨I.ok, I.fzs, I.os, I.bare, ⟨fun b o e n hb hx => ?_, fun b o e n hb hx => ?_, I.base.free, fun b o e hx => ?_, I.base.tups, I.base.frzs, I.base.tbls⟩, ⟨m, hn.sameBut hs (Ne.symm (cne x c hc)), fun j y v' e1 e2 e3 => ?_⟩, fun y c' e => ?_, I.free, I.freeC, fun p hp => ?_, tracked ⟨oc, hoc, I.freeC x c hc⟩ hs, by simpa using I.len⟩ ⟨c, hs, .inr hc⟩
  ·exact (hs.2 b (Nat.ne_of_lt (Nat.lt_of_lt_of_le (Heap.lt_size e) (I.ok.cab x c hfn hc)))).trans (I.base.keep b o e n hb hx)
  ·obtain ⟨sl, e1⟩ := I.base.slot b o e n hb hx
   exact ⟨sl, (hs.2 b (Nat.ne_of_lt (Nat.lt_of_lt_of_le (Heap.lt_size e) (I.ok.cab x c hfn hc)))).trans e1⟩
  ·obtain ⟨o', e1⟩ := I.base.there b o e hx
   exact ⟨o', (hs.2 b (Nat.ne_of_lt (Nat.lt_of_lt_of_le (Heap.lt_size e) (I.ok.cab x c hfn hc)))).trans e1⟩
  ·by_cases hj : j = i
   ·subst hj
    rw [hi] at e1; cases e1
    rw [List.getElem?_set_self hiσ] at e2
    cases e2
    exact ⟨u, r, .inr ⟨.inl hk, c, hc, hc'⟩⟩
   ·rw [List.getElem?_set_ne (Ne.symm hj)] at e2
    obtain ⟨u', r', q⟩ := hl j y v' e1 e2 e3
    refine ⟨u', r', ?_⟩
    rcases q with q | ⟨k, c', e, z'⟩
    ·exact .inl q
    ·refine .inr ⟨k, c', e, z'.sameBut hs ?_⟩
     rintro rfl
     exact hj (nodup_ix hN e1 (I.ok.inj _ _ _ e hc ▸ hi))
  ·by_cases hcc : c' = c
   ·subst hcc; exact ⟨_, hc'⟩
   ·obtain ⟨w2, z2⟩ := I.cell y c' e
    exact ⟨w2, z2.sameBut hs hcc⟩
  ·obtain ⟨e, n, ne, nf, d⟩ := I.pin p hp
   refine ⟨(hs.2 p.1 ?_).trans e, n, ne, nf, d⟩
   intro q
   rw [q, hoc] at e
   have q' : oc = p.2 := Option.some.inj e
   exact d w' (by rw [<- q']; exact hocd)
theorem store_ok {M : Model} {A : Around} {E : Value -> Shared -> Prop} {i : Nat} {x : Str} {v : V} {u : Value} {Q : Unit -> Shared -> Prop} (I : Inv X pins σ H s) (hN : X.N.Nodup) (hi : X.N[i]? = some x) (hx : Loc X.env.scope x) (r : RelV v u)
  (h : ∀ s', Inv X pins (σ.set i (some v)) H s' -> Q () s') (hf : X.fn x = true \/ X.env.scope.names.lookup x = some .local := by first | exact .inl rfl | exact .inr rfl | assumption) : wpAny M A (storeName X.env x u) Q E s :=
 store_ok2 I hN hi hx r (fun s' I' _ => h s' I') hf
theorem Inv.call' {s' : Shared} {ch : List Addr} (I : Inv X pins σ H s) (ho : s'.os = s.os) (u : Un (frs X.stack) ch H H' s.heap s'.heap) (hok : HOk X.prog X.w H' s'.heap) (hg : AllBare s'.gens)
  (hch : ∀ b ∈ ch, (b ∈ X.ex \/ X.s₀.heap.objs.size <= b) /\ b ≠ X.env.locals /\ (∀ x c, X.env.cells.lookup x = some c -> c ≠ b) /\ ∀ p ∈ X.pn ++ pins, p.1 ≠ b) : Inv X pins σ H' s' := by
 obtain ⟨h', g', d', t', o'⟩ := s'
 have e : o' = s.os := ho
 subst e
 exact I.call (g' := g') (t' := t') (d' := d') u hok hg hch
end
abbrev XK := Value -> Option Addr -> Hp -> Prop
abbrev St := List (Option V)
abbrev VK := V -> Hp -> Prop
abbrev TE := St -> Hp -> VK -> Prop
abbrev TT := St -> Hp -> (Bool -> Hp -> Prop) -> Prop
abbrev TA := St -> Hp -> (List V -> Hp -> Prop) -> Prop
structure Ends where
 nx : St -> Hp -> Prop
 rt : VK
 bk : St -> Hp -> Prop := fun _ _ => False
 ct : St -> Hp -> Prop := fun _ _ => False
abbrev TS := Ends -> St -> Hp -> Prop
def EP (X : Cx) (pins : List (Addr × Obj)) (σ : St) (Q : VK) (u : Value) (s' : Shared) : Prop := ∃ v H', Inv X pins σ H' s' /\ RelV v u /\ Q v H'
def TP (X : Cx) (pins : List (Addr × Obj)) (σ : St) (Q : Bool -> Hp -> Prop) (b : Bool) (s' : Shared) : Prop := ∃ H', Inv X pins σ H' s' /\ Q b H'
def AP (X : Cx) (pins : List (Addr × Obj)) (σ : St) (Q : List V -> Hp -> Prop) (us : List Value) (s' : Shared) : Prop := ∃ vs H', Inv X pins σ H' s' /\ Vals vs us /\ Q vs H'
def SP (X : Cx) (pins : List (Addr × Obj)) (D : Ends) (f : Flow) (s' : Shared) : Prop :=
 match f with
 | .next => ∃ σ' H', Inv X pins σ' H' s' /\ D.nx σ' H'
 | .brk => ∃ σ' H', Inv X pins σ' H' s' /\ D.bk σ' H'
 | .cont => ∃ σ' H', Inv X pins σ' H' s' /\ D.ct σ' H'
 | .ret u => ∃ v σ' H', Inv X pins σ' H' s' /\ RelV v u /\ D.rt v H'
def PE (X : Cx) (e : Expr) (t : TE) : Prop :=
 ∀ (pins : List (Addr × Obj)) (s : Shared) (σ : St) (H : Hp) (Q : VK), Inv X pins σ H s -> t σ H Q -> wpAny (model X.prog X.w) X.A (eval e X.env) (EP X pins σ Q) X.xe s
def PT (X : Cx) (e : Expr) (t : TT) : Prop :=
 ∀ (pins : List (Addr × Obj)) (s : Shared) (σ : St) (H : Hp) (Q : Bool -> Hp -> Prop), Inv X pins σ H s -> t σ H Q -> wpAny (model X.prog X.w) X.A (isTrue e X.env (eval e X.env)) (TP X pins σ Q) X.xe s
def PW (X : Cx) (e : Expr) (t : TT) : Prop :=
 ∀ (whole : Sem Value) (pins : List (Addr × Obj)) (s : Shared) (σ : St) (H : Hp) (Q : Bool -> Hp -> Prop), Inv X pins σ H s -> t σ H Q -> wpAny (model X.prog X.w) X.A (isTrue e X.env whole) (TP X pins σ Q) X.xe s
theorem PW.pt {X : Cx} {e : Expr} {t : TT} (h : PW X e t) : PT X e t := h _
def PA (X : Cx) (es : List Expr) (t : TA) : Prop :=
 ∀ (pos : Pos) (pins : List (Addr × Obj)) (s : Shared) (σ : St) (H : Hp) (Q : List V -> Hp -> Prop), Inv X pins σ H s -> t σ H Q -> wpAny (model X.prog X.w) X.A (spliced (backTo pos (starEach es X.env))) (AP X pins σ Q) X.xe s
def PS (X : Cx) (st : Stmt) (t : TS) : Prop :=
 ∀ (pins : List (Addr × Obj)) (s : Shared) (σ : St) (H : Hp) (D : Ends), Inv X pins σ H s -> t D σ H -> wpAny (model X.prog X.w) X.A (exec st X.env) (SP X pins D) X.xe s
def PSs (X : Cx) (st : List Stmt) (t : TS) : Prop :=
 ∀ (pins : List (Addr × Obj)) (s : Shared) (σ : St) (H : Hp) (D : Ends), Inv X pins σ H s -> t D σ H -> wpAny (model X.prog X.w) X.A (execs st X.env) (SP X pins D) X.xe s
theorem thn {α : Type} {t : Sem α} {Q Q' : α -> Shared -> Prop} {M : Model} {A : Around} {E : Value -> Shared -> Prop} {s : Shared} (h : wpAny M A t Q E s) (hQ : ∀ a s, Q a s -> Q' a s) : wpAny M A t Q' E s := wpAny_mono h hQ fun _ _ x => x
end L2
namespace L2
open PySem PySem.Spec PyProof.Rows
section
variable {X : Cx}
def tVar (i : Nat) : TE := fun σ H Q => ∃ v, σ[i]? = some (some v) /\ Q v H
def tC (v : V) : TE := fun _ H Q => Q v H
theorem pe_var {i : Nat} {x : Str} {pos : Pos} (hN : X.N[i]? = some x) (hv : Vis X.env.scope x) (hd : (x == ("__debug__" : Str)) = false := by decide) (hcd : (x == ("__classdict__" : Str)) = false := by decide) : PE X (.Name x pos) (tVar i) := by
 intro pins s σ H Q I h
 obtain ⟨v, e, h⟩ := h
 obtain ⟨m, hn, hl⟩ := I.loc
 obtain ⟨u, r, l⟩ := hl i x v hN e hv
 have fin : EP X pins σ Q u s := ⟨v, H, I, r, h⟩
 rcases l with ⟨hk, hm⟩ | ⟨hk, c, hc, hcell⟩
 ·exact wpAny_Name (wpAny_loadName_local I.ok.kind hk hn hm fin) hd
 ·rcases hk with hk | hk
  ·exact wpAny_Name (wpAny_loadName_cell I.ok.kind hk hc hcell fin) hd
  ·exact wpAny_Name (wpAny_loadName_free I.ok.kind hk hc hcell fin hcd) hd
theorem pe_int {i j pos} : PE X (.Constant (.int i) j pos) (tC (.int i)) := fun _ _ _ H _ I h => wpAny_Constant_int ⟨.int i, H, I.tok _, ⟨_, rfl⟩, h⟩
theorem pe_bl {b j pos} : PE X (.Constant (.bool b) j pos) (tC (.bl b)) := fun _ _ _ H _ I h => Constant_bool ⟨.bl b, H, I, rfl, h⟩
theorem pe_str {x j pos} : PE X (.Constant (.str x) j pos) (tC (.str x)) := fun _ _ _ H _ I h => Calls.Constant_str ⟨.str x, H, I.tok _, ⟨_, rfl⟩, h⟩
def Gl (X : Cx) (x : Str) : Prop := X.env.kindOf x = some .globalImplicit
theorem ld_glob {E : Value -> Shared -> Prop} {pins : List (Addr × Obj)} {s : Shared} {σ : St} {H : Hp} {x : Str} {u : Value} {pos : Pos} {Q : Value -> Shared -> Prop} (I : Inv X pins σ H s) (hg : Gl X x) (hm : X.mg x = some u) (h : Q u s)
  (hd : (x == ("__debug__" : Str)) = false := by decide) : wpAny (model X.prog X.w) X.A (eval (.Name x pos) X.env) Q E s :=
 Calls.Name_function_global I.ok.kind hg (Calls.loadGlobal_global (by rw [I.ok.glob]; exact I.mod.glob.keeps I.bk) hm h) hd
theorem ld_blt {E : Value -> Shared -> Prop} {pins : List (Addr × Obj)} {s : Shared} {σ : St} {H : Hp} {x : Str} {u : Value} {pos : Pos} {Q : Value -> Shared -> Prop} (I : Inv X pins σ H s) (hg : Gl X x) (hm : X.mg x = none) (hv : bootBuiltins x = some u) (h : Q u s)
  (hn : x ≠ "__name__" := by decide) (hd : (x == ("__debug__" : Str)) = false := by decide) : wpAny (model X.prog X.w) X.A (eval (.Name x pos) X.env) Q E s := by
 obtain ⟨mb, h1, h2⟩ := I.mod.blt
 exact Calls.Name_function_global I.ok.kind hg (Calls.loadGlobal_builtin (by rw [I.ok.glob]; exact I.mod.glob.keeps I.bk) hm (by rw [I.ok.blt]; exact h1.keeps I.bk) ((h2 x hn).trans hv) h) hd
theorem pe_glob {x : Str} {v : V} {u : Value} {pos : Pos} (hg : Gl X x) (hm : X.mg x = some u) (r : RelV v u) (hd : (x == ("__debug__" : Str)) = false := by decide) : PE X (.Name x pos) (tC v) :=
 fun _ _ _ H _ I h => ld_glob I hg hm ⟨v, H, I, r, h⟩ hd
theorem pe_bltn {x : Str} {v : V} {u : Value} {pos : Pos} (hg : Gl X x) (hm : X.mg x = none) (hv : bootBuiltins x = some u) (r : RelV v u) (hn : x ≠ "__name__" := by decide) (hd : (x == ("__debug__" : Str)) = false := by decide) : PE X (.Name x pos) (tC v) :=
 fun _ _ _ H _ I h => ld_blt I hg hm hv ⟨v, H, I, r, h⟩ hn hd
variable {a b : Expr} {ta tb : TE} {pos : Pos}
def tB (t : TE) : TT := fun σ H Q => t σ H fun x H1 => ∃ c, x = .bl c /\ Q c H1
theorem pt_val {e : Expr} {t : TE} (h : PE X e t) (he : ∀ whole, isTrue e X.env whole = (do let v <- whole; standAt e.pos; holding [v] (truthy v)) := by intro _; rfl) : PT X e (tB t) := by
 intro pins s σ H Q I hw
 refine isTrue_plain (thn (h pins s σ H _ I hw) fun v s1 ⟨x, H1, I1, r1, q1⟩ => ?_) (he _)
 obtain ⟨d, rfl, q⟩ := q1
 cases r1
 exact wpAny_truthy_bool ⟨H1, I1, q⟩
variable {tA tB' : TT} {rest : List Expr}
def tAnd (t u : TT) : TT := fun σ H Q => t σ H fun c H1 => if c = true then u σ H1 Q else Q false H1
def tOr (t u : TT) : TT := fun σ H Q => t σ H fun c H1 => if c = true then Q true H1 else u σ H1 Q
def tNot (t : TT) : TT := fun σ H Q => t σ H fun c H1 => Q (!c) H1
theorem pw_and1 (ha : PT X a tA) : PW X (.BoolOp .And [a] pos) tA := by
 intro wh pins s σ H Q I h
 refine isTrue_and (thn (ha pins s σ H Q I h) fun c s1 e => ?_)
 cases c with
 | true => exact isTrue_and_nil e
 | false => exact e
theorem pw_or1 (ha : PT X a tA) : PW X (.BoolOp .Or [a] pos) tA := by
 intro wh pins s σ H Q I h
 refine isTrue_or (thn (ha pins s σ H Q I h) fun c s1 e => ?_)
 cases c with
 | false => exact isTrue_or_nil e
 | true => exact e
theorem pw_and (ha : PT X a tA) (hb : PW X (.BoolOp .And (b :: rest) pos) tB') : PW X (.BoolOp .And (a :: b :: rest) pos) (tAnd tA tB') := by
 intro wh pins s σ H Q I h
 refine isTrue_and (thn (ha pins s σ H _ I h) fun c s1 ⟨H1, I1, q1⟩ => ?_)
 cases c with
 | true => exact hb wh pins s1 σ H1 Q I1 q1
 | false => exact ⟨H1, I1, q1⟩
theorem pw_or (ha : PT X a tA) (hb : PW X (.BoolOp .Or (b :: rest) pos) tB') : PW X (.BoolOp .Or (a :: b :: rest) pos) (tOr tA tB') := by
 intro wh pins s σ H Q I h
 refine isTrue_or (thn (ha pins s σ H _ I h) fun c s1 ⟨H1, I1, q1⟩ => ?_)
 cases c with
 | true => exact ⟨H1, I1, q1⟩
 | false => exact hb wh pins s1 σ H1 Q I1 q1
theorem pt_not (ha : PT X a tA) : PT X (.UnaryOp .Not a pos) (tNot tA) := by
 intro pins s σ H Q I h
 exact isTrue_not (ha pins s σ H (fun c H1 => Q (!c) H1) I h)
def tAndV (ta tb : TE) : TE := fun σ H Q => ta σ H fun x H1 => ∃ c, x = .bl c /\ if c = true then tb σ H1 Q else Q (.bl false) H1
def tOrV (ta tb : TE) : TE := fun σ H Q => ta σ H fun x H1 => ∃ c, x = .bl c /\ if c = true then Q (.bl true) H1 else tb σ H1 Q
def tNotV (ta : TE) : TE := fun σ H Q => ta σ H fun x H1 => ∃ c, x = .bl c /\ Q (.bl (!c)) H1
theorem pe_one {op} {t : TE} (h : PE X a t) : PE X (.BoolOp op [a] pos) t := fun pins s σ H Q I hw => BoolOp_one (h pins s σ H Q I hw)
theorem pe_and (ha : PE X a ta) (hb : PE X (.BoolOp .And (b :: rest) pos) tb) : PE X (.BoolOp .And (a :: b :: rest) pos) (tAndV ta tb) := by
 intro pins s σ H Q I h
 refine BoolOp_and (thn (ha pins s σ H _ I h) fun v s1 ⟨x, H1, I1, r1, q1⟩ => ?_)
 obtain ⟨c, rfl, q1⟩ := q1
 cases r1
 refine wpAny_truthy_bool ?_
 cases c with
 | true => exact hb pins s1 σ H1 Q I1 q1
 | false => exact ⟨.bl false, H1, I1, rfl, q1⟩
theorem pe_or (ha : PE X a ta) (hb : PE X (.BoolOp .Or (b :: rest) pos) tb) : PE X (.BoolOp .Or (a :: b :: rest) pos) (tOrV ta tb) := by
 intro pins s σ H Q I h
 refine BoolOp_or (thn (ha pins s σ H _ I h) fun v s1 ⟨x, H1, I1, r1, q1⟩ => ?_)
 obtain ⟨c, rfl, q1⟩ := q1
 cases r1
 refine wpAny_truthy_bool ?_
 cases c with
 | false => exact hb pins s1 σ H1 Q I1 q1
 | true => exact ⟨.bl true, H1, I1, rfl, q1⟩
theorem pe_not (ha : PE X a ta) : PE X (.UnaryOp .Not a pos) (tNotV ta) := by
 intro pins s σ H Q I h
 refine UnaryOp_ (thn (ha pins s σ H _ I h) fun v s1 ⟨x, H1, I1, r1, q1⟩ => ?_)
 obtain ⟨c, rfl, q1⟩ := q1
 cases r1
 exact not_of (wpAny_truthy_bool ⟨.bl (!c), H1, I1, rfl, q1⟩)
def tIf (t : TT) (ta tb : TE) : TE := fun σ H Q => t σ H fun c H1 => if c = true then ta σ H1 Q else tb σ H1 Q
theorem pe_ifExp {c : Expr} (hc : PT X c tA) (ha : PE X a ta) (hb : PE X b tb) : PE X (.IfExp c a b pos) (tIf tA ta tb) := by
 intro pins s σ H Q I h
 refine wpAny_IfExp (thn (hc pins s σ H _ I h) fun d s1 ⟨H1, I1, q1⟩ => ?_)
 cases d with
 | true => exact ha pins s1 σ H1 Q I1 q1
 | false => exact hb pins s1 σ H1 Q I1 q1
end
end L2
namespace L2
open PySem PySem.Spec PyProof.Rows
def SqL (K : W.Frag) (H : Hp) (a : Addr) (xs : List V) : Prop :=
 Rd H a (.lst xs) \/
  ∃ (o : Obj) (its : Array Value) (n : Nat), K.lookup a = some o /\ o.cls = .type "list" /\ o.dict = none /\ o.data = .seq its n /\ its.size <= sizeLine /\ Vals xs its.toList
def SqT (K : W.Frag) (H : Hp) (a : Addr) (xs : List V) : Prop :=
 Rd H a (.tup xs) \/
  ∃ (o : Obj) (its : Array Value) (n : Nat), K.lookup a = some o /\ o.cls = .type "tuple" /\ o.data = .seq its n /\ its.size <= sizeLine /\ Vals xs its.toList
def absV : Value -> Option V
 | .none => some .non
 | .bool b => some (.bl b)
 | .int i _ => some (.int i)
 | .str x _ => some (.str x)
 | .bytes b _ => some (.byt b)
 | .float b _ => some (.flt b)
 | .ref a => some (.ref a)
 | .type n => some (.ty n)
 | _ => none
theorem RelV.abs {x : V} {u : Value} (r : RelV x u) : absV u = some x := by
 cases x with
 | non => cases r; rfl
 | bl _ => cases r; rfl
 | int _ => obtain ⟨t, rfl⟩ := r; rfl
 | str _ => obtain ⟨t, rfl⟩ := r; rfl
 | byt _ => obtain ⟨t, rfl⟩ := r; rfl
 | flt _ => obtain ⟨t, rfl⟩ := r; rfl
 | ref _ => cases r; rfl
 | ty _ => cases r; rfl
theorem RelV.inj {x y : V} {u : Value} (r : RelV x u) (q : RelV y u) : x = y := Option.some.inj (r.abs.symm.trans q.abs)
theorem Vals.inj : ∀ {xs ys : List V} {us : List Value}, Vals xs us -> Vals ys us -> xs = ys
 | _, _, _, .nil, .nil => rfl
 | _, _, _, .cons r t, .cons r' t' => by rw [r.inj r', Vals.inj t t']
section
variable {X : Cx} {pins : List (Addr × Obj)} {σ : St} {H : Hp} {s : Shared} {a : Addr} {xs ys : List V}
theorem SqL.of {K : W.Frag} (h : H a = some (.lst xs)) : SqL K H a xs := .inl (.inl h)
theorem SqT.of {K : W.Frag} (h : H a = some (.tup xs)) : SqT K H a xs := .inl (.inl h)
theorem Inv.list (I : Inv X pins σ H s) (h : SqL X.K H a xs) : ∃ its : List Value, Vals xs its /\ PlainL s.heap a its.toArray /\ xs.length <= sizeLine := by
 rcases h with h | ⟨o, its, n, hk, hc, hd, hs, hz, r⟩
 ·obtain ⟨z, its, n, r, e⟩ := h.ok I.hok
  exact ⟨its, r, ⟨_, n, e, rfl, rfl, rfl⟩, z⟩
 ·refine ⟨its.toList, r, ⟨o, n, I.kIn a o hk, hc, hd, by simpa using hs⟩, ?_⟩
  have e := r.length
  simp only [Array.length_toList] at e
  omega
theorem Inv.tuple (I : Inv X pins σ H s) (h : SqT X.K H a xs) : ∃ its : List Value, Vals xs its /\ IsTup s.heap a its.toArray /\ xs.length <= sizeLine := by
 rcases h with h | ⟨o, its, n, hk, hc, hs, hz, r⟩
 ·obtain ⟨z, its, r, p⟩ := h.ok I.hok
  exact ⟨its, r, p, z⟩
 ·refine ⟨its.toList, r, ⟨o, I.kIn a o hk, hc, n, by simpa using hs⟩, ?_⟩
  have e := r.length
  simp only [Array.length_toList] at e
  omega
theorem Inv.list_inj (I : Inv X pins σ H s) (h : SqL X.K H a xs) (h' : SqL X.K H a ys) : xs = ys := by
 obtain ⟨its, r, ⟨o, n, e, _, _, d⟩, _⟩ := I.list h
 obtain ⟨its', r', ⟨o', n', e', _, _, d'⟩, _⟩ := I.list h'
 rw [e] at e'; cases e'
 rw [d] at d'
 injection d' with d1 _
 have : its = its' := by simpa using congrArg Array.toList d1
 subst this
 exact r.inj r'
theorem Inv.tuple_inj (I : Inv X pins σ H s) (h : SqT X.K H a xs) (h' : SqT X.K H a ys) : xs = ys := by
 obtain ⟨its, r, ⟨o, e, _, n, d⟩, _⟩ := I.tuple h
 obtain ⟨its', r', ⟨o', e', _, n', d'⟩, _⟩ := I.tuple h'
 rw [e] at e'; cases e'
 rw [d] at d'
 injection d' with d1 _
 have : its = its' := by simpa using congrArg Array.toList d1
 subst this
 exact r.inj r'
end
abbrev Cx.wish (X : Cx) (E : Value -> Shared -> Prop) : Cx := { X with xe := E }
abbrev Cx.nox (X : Cx) : Cx := X.wish fun _ _ => False
theorem Cx.Ok.wish {X : Cx} (ok : X.Ok) (E : Value -> Shared -> Prop) : (X.wish E).Ok :=
 ⟨ok.mod, ok.kind, ok.glob, ok.blt, ok.above, ok.inj, ok.has, ok.cab, ok.hd, ok.hs, ok.frames, ok.stk, ok.exf, ok.bs, ok.bsz, ok.noex, ok.exfs, ok.funs, ok.frf⟩
theorem Cx.Ok.unwish {X : Cx} {E : Value -> Shared -> Prop} (ok : (X.wish E).Ok) : X.Ok :=
 ⟨ok.mod, ok.kind, ok.glob, ok.blt, ok.above, ok.inj, ok.has, ok.cab, ok.hd, ok.hs, ok.frames, ok.stk, ok.exf, ok.bs, ok.bsz, ok.noex, ok.exfs, ok.funs, ok.frf⟩
section
variable {X : Cx} {pins : List (Addr × Obj)} {σ : St} {H : Hp} {s : Shared} {E : Value -> Shared -> Prop}
theorem Inv.wish (I : Inv X pins σ H s) (E : Value -> Shared -> Prop) : Inv (X.wish E) pins σ H s := ⟨I.ok.wish E, I.fzs, I.os, I.bare, I.base, I.loc, I.cell, I.free, I.freeC, I.pin, I.hok, I.len⟩
theorem Inv.unwish (I : Inv (X.wish E) pins σ H s) : Inv X pins σ H s := ⟨I.ok.unwish, I.fzs, I.os, I.bare, I.base, I.loc, I.cell, I.free, I.freeC, I.pin, I.hok, I.len⟩
theorem SP.unwish {D : Ends} {f : Flow} {s' : Shared} (h : SP (X.wish E) pins D f s') : SP X pins D f s' := by
 cases f with
 | next => obtain ⟨σ', H', I, q⟩ := h; exact ⟨σ', H', I.unwish, q⟩
 | brk => obtain ⟨σ', H', I, q⟩ := h; exact ⟨σ', H', I.unwish, q⟩
 | cont => obtain ⟨σ', H', I, q⟩ := h; exact ⟨σ', H', I.unwish, q⟩
 | ret u => obtain ⟨v, σ', H', I, r, q⟩ := h; exact ⟨v, σ', H', I.unwish, r, q⟩
theorem PSs.nox {st : List Stmt} {t : TS} (h : PSs X.nox st t) : PSs X st t := fun pins s σ H D I hw =>
 wpAny_mono (h pins s σ H D (I.wish _) hw) (fun _ _ q => q.unwish) fun _ _ z => False.elim z
end
section
variable {X : Cx} {st : Stmt} {rest : List Stmt} {t u : TS} {e : Expr} {te : TE} {pos : Pos}
def tNext : TS := fun D σ H => D.nx σ H
def tSeq (t u : TS) : TS := fun D σ H => t { D with nx := u D } σ H
theorem pss_nil : PSs X [] tNext := fun _ _ σ H _ I h => wpAny_execs_nil ⟨σ, H, I, h⟩
theorem pss_cons (h1 : PS X st t) (h2 : PSs X rest u) : PSs X (st :: rest) (tSeq t u) := by
 intro pins s σ H D I h
 refine wpAny_execs_cons (thn (h1 pins s σ H { D with nx := u D } I h) fun f s1 q => ?_)
 cases f with
 | next =>
  obtain ⟨σ', H', I', q⟩ := q
  exact h2 pins s1 σ' H' D I' q
 | ret v => exact q
 | brk => exact q
 | cont => exact q
theorem pss_one (h1 : PS X st t) : PSs X [st] t := by
 intro pins s σ H D I h
 refine wpAny_execs_cons (thn (h1 pins s σ H D I h) fun f s1 q => ?_)
 cases f with
 | next => exact wpAny_execs_nil q
 | ret v => exact q
 | brk => exact q
 | cont => exact q
theorem Inv.quiet {pins : List (Addr × Obj)} {σ : St} {H : Hp} {s : Shared} (I : Inv X pins σ H s) : interactive X.env = false := by simp [interactive, I.ok.kind]
def tDrop (te : TE) : TS := fun D σ H => te σ H fun _ H1 => D.nx σ H1
theorem ps_expr (he : PE X e te) (hs : swapsWith e none pos.line X.env = pure false := by rfl) : PS X (.Expr e pos) (tDrop te) := by
 intro pins s σ H D I h
 exact wpAny_Expr_any (thn (he pins s σ H _ I h) fun v s1 ⟨x, H1, I1, r1, q1⟩ => ⟨σ, H1, I1, q1⟩) I.quiet hs
def tRet (te : TE) : TS := fun D σ H => te σ H D.rt
theorem ps_ret (he : PE X e te) : PS X (.Return (some e) pos) (tRet te) := by
 intro pins s σ H D I h
 exact wpAny_Return_some (thn (he pins s σ H _ I h) fun v s1 ⟨x, H1, I1, r1, q1⟩ => ⟨x, σ, H1, I1, r1, q1⟩)
def tIfS (c : TT) (t u : TS) : TS := fun D σ H => c σ H fun b H1 => if b = true then t D σ H1 else u D σ H1
theorem ps_if {c : Expr} {a b : List Stmt} {tc : TT} (hc : PT X c tc) (ha : PSs X a t) (hb : PSs X b u) : PS X (.If c a b pos) (tIfS tc t u) := by
 intro pins s σ H D I h
 refine wpAny_If (thn (hc pins s σ H _ I h) fun d s1 ⟨H1, I1, q1⟩ => ?_)
 cases d with
 | true => exact ha pins s1 σ H1 D I1 q1
 | false => exact hb pins s1 σ H1 D I1 q1
def tNever : TS := fun _ _ _ => False
theorem pss_never {sts : List Stmt} : PSs X sts tNever := fun _ _ _ _ _ _ h => h.elim
end
abbrev TG := V -> St -> Hp -> (St -> Hp -> Prop) -> Prop
abbrev TGs := List V -> St -> Hp -> (St -> Hp -> Prop) -> Prop
def PG (X : Cx) (target : Expr) (t : TG) : Prop :=
 ∀ (pins : List (Addr × Obj)) (s : Shared) (σ : St) (H : Hp) (v : V) (u : Value) (Q : St -> Hp -> Prop), Inv X pins σ H s -> RelV v u -> t v σ H Q ->
  wpAny (model X.prog X.w) X.A (assign target X.env u) (fun _ s' => ∃ σ' H', Inv X pins σ' H' s' /\ Q σ' H') X.xe s
def PGs (X : Cx) (ts : List Expr) (t : TGs) : Prop :=
 ∀ (pins : List (Addr × Obj)) (s : Shared) (σ : St) (H : Hp) (vs : List V) (us : List Value) (Q : St -> Hp -> Prop), Inv X pins σ H s -> Vals vs us -> t vs σ H Q ->
  wpAny (model X.prog X.w) X.A (assignInOrder ((assignEach ts X.env).map (·.2)) us) (fun _ s' => ∃ σ' H', Inv X pins σ' H' s' /\ Q σ' H') X.xe s
abbrev TSet := V -> V -> V -> Hp -> (Hp -> Prop) -> Prop
def PSet (X : Cx) (t : TSet) : Prop :=
 ∀ (pins : List (Addr × Obj)) (s : Shared) (σ : St) (H : Hp) (o i v : V) (ov iv u : Value) (Q : Hp -> Prop), Inv X pins σ H s -> RelV o ov -> RelV i iv -> RelV v u -> t o i v H Q ->
  wpAny (model X.prog X.w) X.A (setItem ov iv u) (fun _ s' => ∃ H', Inv X pins σ H' s' /\ Q H') X.xe s
section
variable {X : Cx} {pos : Pos}
def gName (i : Nat) : TG := fun v σ H Q => Q (σ.set i (some v)) H
theorem pg_name {i : Nat} {x : Str} (hN : X.N.Nodup) (hi : X.N[i]? = some x) (hx : Loc X.env.scope x) (hf : X.fn x = true \/ X.env.scope.names.lookup x = some .local := by first | exact .inl rfl | exact .inr rfl | assumption) : PG X (.Name x pos) (gName i) := by
 intro pins s σ H v u Q I r h
 exact wpAny_assign_Name (store_ok I hN hi hx r (fun s' I' => ⟨_, H, I', h⟩) hf)
def gNil : TGs := fun vs σ H Q => vs = [] /\ Q σ H
def gCons (t : TG) (u : TGs) : TGs := fun vs σ H Q => ∃ v r, vs = v :: r /\ t v σ H fun σ' H' => u r σ' H' Q
theorem pgs_nil : PGs X [] gNil := by
 intro pins s σ H vs us Q I r h
 obtain ⟨e, h⟩ := h
 subst e
 cases r
 exact assignInOrder_nil ⟨σ, H, I, h⟩
theorem pgs_cons {e : Expr} {es : List Expr} {t : TG} {u : TGs} (h1 : PG X e t) (h2 : PGs X es u)
  (hs : (assignEach (e :: es) X.env).map (·.2) = assign e X.env :: (assignEach es X.env).map (·.2) := by rfl) : PGs X (e :: es) (gCons t u) := by
 intro pins s σ H vs us Q I r h
 obtain ⟨v, vr, e1, h⟩ := h
 subst e1
 cases r with
 | cons r rr =>
  rw [hs]
  refine assignInOrder_cons (thn (h1 pins s σ H _ _ _ I r h) fun _ s1 ⟨σ1, H1, I1, q1⟩ => ?_)
  exact h2 pins s1 σ1 H1 _ _ Q I1 rr q1
def gTup (K : W.Frag) (n : Nat) (t : TGs) : TG := fun v σ H Q => ∃ a xs, v = .ref a /\ SqT K H a xs /\ xs.length = n /\ t xs σ H Q
theorem pg_tup {es : List Expr} {k : Nat} {t : TGs} {n : Nat} (hc : X.still = true) (h : PGs X es t)
  (hn : (assignEach es X.env).length = n := by rfl) (hst : (assignEach es X.env).findIdx? (·.1) = none := by rfl) : PG X (.Tuple es k pos) (gTup X.K n t) := by
 intro pins s σ H v u Q I r hw
 obtain ⟨a, xs, e1, hq, hl, hw⟩ := hw
 subst e1
 cases r
 obtain ⟨its, rv, ht, hz⟩ := I.tuple hq
 refine assign_Tuple_still (I.stl hc) ht (by simp [hn, <- hl, rv.length]) hst fun h' hx => ?_
 have I1 : Inv X pins σ H { s with heap := h' } := I.kept (t' := s.toks) fun b o e => hx b o (Nat.ne_of_lt (Heap.lt_size e)) e
 exact h pins _ σ H xs _ Q I1 (by simpa using rv) hw
def gSub (to ti : TE) (t : TSet) : TG := fun v σ H Q => to σ H fun o H1 => ti σ H1 fun i H2 => t o i v H2 fun H3 => Q σ H3
theorem pg_sub {o i : Expr} {to ti : TE} {t : TSet} (ho : PE X o to) (hi : PE X i ti) (hs : PSet X t)
  (ha : ∀ v, assign (.Subscript o i pos) X.env v = (do
   let ov <- holding [v] (eval o X.env)
   let iv <- holding [v, ov] (eval i X.env)
   standAt pos
   holding [v, ov, iv] (setItem ov iv v)
   release [v, ov, iv] []) := by intro _; rfl) : PG X (.Subscript o i pos) (gSub to ti t) := by
 intro pins s σ H v u Q I r h
 rw [ha]
 refine wpAny_bind (wpAny_holding (thn (ho pins s σ H _ I h) fun ov s1 ⟨x, H1, I1, r1, q1⟩ => ?_))
 refine wpAny_bind (wpAny_holding (thn (hi pins s1 σ H1 _ I1 q1) fun iv s2 ⟨y, H2, I2, r2, q2⟩ => ?_))
 refine wpAny_bind (wpAny_standAt (wpAny_bind (wpAny_holding (thn (hs pins s2 σ H2 x y v ov iv u _ I2 r1 r2 r q2) fun _ s3 ⟨H3, I3, q3⟩ => ?_))))
 exact wpAny_release ⟨σ, H3, I3, q3⟩
def tAsg (te : TE) (g : TG) : TS := fun D σ H => te σ H fun x H1 => g x σ H1 D.nx
theorem ps_asg {tg e : Expr} {te : TE} {g : TG} (he : PE X e te) (hg : PG X tg g) (hs : swapsWithSole [tg] e pos.line X.env = pure false := by rfl) (hw : swappedStores [tg] e X.env = pure none := by rfl)
  (h1 : (assignEach [tg] X.env).map (·.2) = [assign tg X.env] := by rfl) : PS X (.Assign [tg] e pos) (tAsg te g) := by
 intro pins s σ H D I h
 refine wpAny_Assign_stores (thn (he pins s σ H _ I h) fun v s1 ⟨x, H1, I1, r1, q1⟩ => ?_) hs hw
 rw [h1]
 exact thn (hg pins s1 σ H1 x v _ I1 r1 q1) fun _ s2 q => q
theorem ps_set {i : Nat} {x : Str} {e : Expr} {te : TE} {pos' : Pos} (hN : X.N.Nodup) (hi : X.N[i]? = some x) (hx : Loc X.env.scope x) (he : PE X e te) (hs : swapsWith e (some (.Name x pos')) pos.line X.env = pure false := by rfl) (hf : X.fn x = true \/ X.env.scope.names.lookup x = some .local := by first | exact .inl rfl | exact .inr rfl | assumption) :
  PS X (.Assign [.Name x pos'] e pos) (tAsg te (gName i)) := by
 intro pins s σ H D I h
 refine wpAny_Assign_Name (thn (he pins s σ H _ I h) fun v s1 ⟨y, H1, I1, r1, q1⟩ => ?_) hs
 exact store_ok I1 hN hi hx r1 (fun s2 I2 => ⟨_, H1, I2, q1⟩) hf
def tPar (i j : Nat) (ta : TA) : TS := fun D σ H => ta σ H fun vs H1 => ∃ v w, vs = [v, w] /\ D.nx ((σ.set i (some v)).set j (some w)) H1
theorem ps_par {i j : Nat} {x y : Str} {a b : Expr} {ta : TA} {px py pt : Pos} {kt k2 pt2} (hc : X.still = true) (hN : X.N.Nodup) (hi : X.N[i]? = some x) (hj : X.N[j]? = some y) (hij : i ≠ j)
  (hx : X.env.scope.names.lookup x = some .local) (hy : X.env.scope.names.lookup y = some .local) (ha : PA X [a, b] ta)
  (hw : swappedStores [.Tuple [.Name x px, .Name y py] kt pt] (.Tuple [a, b] k2 pt2) X.env = pure (some [x, y]))
  (hs : swapsWithSole [.Tuple [.Name x px, .Name y py] kt pt] (.Tuple [a, b] k2 pt2) pos.line X.env = pure false := by rfl) :
  PS X (.Assign [.Tuple [.Name x px, .Name y py] kt pt] (.Tuple [a, b] k2 pt2) pos) (tPar i j ta) := by
 intro pins s σ H D I h
 rw [exec_Assign_arm]
 refine wpAny_bind (wpAny_standAt ?_)
 rw [hs]
 refine wpAny_bind (wpAny_pure ?_)
 rw [if_neg (by decide)]
 refine wpAny_bind (Tuple_ (thn (ha _ pins s σ H _ I h) fun us s1 ⟨vs, H1, I1, r1, q1⟩ => ?_))
 obtain ⟨v, w, e1, q1⟩ := q1
 subst e1
 obtain ⟨u1, u2, rfl, rv, rw'⟩ : ∃ u1 u2, us = [u1, u2] /\ RelV v u1 /\ RelV w u2 := by
  cases r1 with
  | cons p q =>
   cases q with
   | cons p' q' =>
    cases q'
    exact ⟨_, _, rfl, p, p'⟩
 refine wpAny_newObj_type ?_ (by show 2 <= sizeLine; decide)
 have I2 : Inv X pins σ H1 { s1 with heap := s1.heap.push { cls := .type "tuple", data := .seq [u1, u2].toArray } } := I1.kept (t' := s1.toks) fun b o e => Heap.get?_push_of_some _ e
 rw [hw]
 refine wpAny_bind (wpAny_pure ?_)
 show wpAny (model X.prog X.w) X.A (do rule "assign.swapped-stores"; let items <- unpackItems (.ref s1.heap.objs.size) 2 none; assignInOrder [fun v => bindName X.env y v, fun v => bindName X.env x v] items.reverse; pure Flow.next) _ _ _
 refine wpAny_bind (wpAny_rule (wpAny_bind (unpackItems_still (items := #[u1, u2]) (I2.stl hc) (IsTup.new s1.heap _) fun h' hx' => ?_)))
 have I3 := I2.kept (h' := h') (t' := s1.toks) fun b o e => hx' b o (Nat.ne_of_lt (Heap.lt_size e)) e
 show wpAny _ _ (assignInOrder [fun v => bindName X.env y v, fun v => bindName X.env x v] [u2, u1] >>= fun _ => pure Flow.next) _ _ _
 refine wpAny_bind (assignInOrder_cons (wpAny_bindName (store_ok I3 hN hj (.inl hy) rw' (fun s2 I4 => ?_) (.inr hy))))
 refine assignInOrder_cons (wpAny_bindName (store_ok I4 hN hi (.inl hx) rv (fun s3 I5 => assignInOrder_nil (wpAny_pure ?_)) (.inr hx)))
 rw [List.set_comm _ _ (Ne.symm hij)] at I5
 exact ⟨_, H1, I5, q1⟩
end
section
variable {X : Cx} {pos : Pos}
def tWhile (c : TT) (tb : TS) : TS := fun D σ H => ∃ W : Nat -> St -> Hp -> Prop, (∃ m, W m σ H) /\ ∀ m σ H, W m σ H ->
 c σ H fun b H1 => if b = true then ∃ N : St -> Hp -> Prop, (∀ σ' H', N σ' H' -> ∃ m', m' < m /\ W m' σ' H') /\ tb { D with nx := N, ct := N, bk := D.nx } σ H1 else D.nx σ H1
theorem ps_while {c : Expr} {body : List Stmt} {tc : TT} {tb : TS} (hp : PassesOwn (model X.prog X.w) X.A X.env X.xe) (hc : PT X c tc) (hb : PSs X body tb) : PS X (.While c body [] pos) (tWhile tc tb) := by
 intro pins s σ H D I h
 obtain ⟨W, ⟨m0, w0⟩, turn⟩ := h
 refine wpAny_While (codeAny_whileLoop (fun n s' => ∃ σ' H', Inv X pins σ' H' s' /\ W n σ' H') ?_ m0 ⟨σ, H, I, w0⟩)
 rintro n s1 ⟨σ1, H1, I1, w1⟩
 refine wpAny_passesOwn hp (thn (hc pins s1 σ1 H1 _ I1 (turn n σ1 H1 w1)) fun b s2 ⟨H2, I2, q2⟩ => ?_)
 cases b with
 | true =>
  obtain ⟨N, hN, q2⟩ := q2
  rw [if_pos rfl]
  refine wpAny_passesOwn hp (thn (hb pins s2 σ1 H2 _ I2 q2) fun f s3 q3 => ?_)
  cases f with
  | next =>
   obtain ⟨σ3, H3, I3, n3⟩ := q3
   obtain ⟨m', hm, w3⟩ := hN σ3 H3 n3
   exact ⟨m', hm, σ3, H3, I3, w3⟩
  | cont =>
   obtain ⟨σ3, H3, I3, n3⟩ := q3
   obtain ⟨m', hm, w3⟩ := hN σ3 H3 n3
   exact ⟨m', hm, σ3, H3, I3, w3⟩
  | brk => exact q3
  | ret v => exact q3
 | false =>
  rw [if_neg Bool.false_ne_true]
  exact wpAny_execs_nil ⟨σ1, H2, I2, q2⟩
end
structure It where
 go : Nat -> Hp -> Prop
 yld : Nat -> Hp -> V -> Hp -> Prop
 stop : Nat -> Hp -> Prop
def FpOk (X : Cx) (pins : List (Addr × Obj)) (H : Hp) (b : Addr) : Prop :=
 H b = none /\ b ≠ X.env.locals /\ b ∉ X.fs /\ (b ∈ X.ex \/ X.s₀.heap.objs.size <= b) /\ (∀ x c, X.env.cells.lookup x = some c -> c ≠ b) /\ ∀ p ∈ X.pn ++ pins, p.1 ≠ b
theorem Inv.fpOk {X : Cx} {pins : List (Addr × Obj)} {σ : St} {H H' : Hp} {s : Shared} {b : Addr} (I : Inv X pins σ H s) (hb : s.heap.objs.size <= b) (hn : H' b = none) : FpOk X pins H' b := by
 refine ⟨hn, Nat.ne_of_gt (Nat.lt_of_lt_of_le I.lt hb), I.nofs hb, .inr (Nat.le_trans I.sz hb), fun x c e z => ?_, fun p hp z => ?_⟩
 ·obtain ⟨v, q⟩ := I.cell x c e
  exact absurd (Nat.lt_of_lt_of_le q.lt (by rw [z]; exact hb)) (Nat.lt_irrefl _)
 ·exact absurd (Nat.lt_of_lt_of_le (Heap.lt_size (I.pin p hp).1) (by rw [z]; exact hb)) (Nat.lt_irrefl _)
structure Turn (P : Program) (w : World) (K : W.Frag) (tg : Expr) (J : It) (fp : List Addr) (it : Addr) (tn : Nat -> Heap -> Prop) : Prop where
 mem : it ∈ fp
 obj : ∀ i h, tn i h -> ∀ b ∈ fp, ∃ o, h.get? b = some o /\ ∀ v, o.data ≠ .cell v
 keep : ∀ i h h', tn i h -> (∀ b ∈ fp, ∀ o, h.get? b = some o -> h'.get? b = some o) -> tn i h'
 item : ∀ (X : Cx), X.prog = P -> X.w = w -> X.K = K -> X.still = true -> ∀ (i : Nat) (pins : List (Addr × Obj)) (s : Shared) (σ : St) (H : Hp) (E : Value -> Shared -> Prop), Inv X pins σ H s -> (∀ b ∈ fp, FpOk X pins H b) -> tn i s.heap -> J.go i H ->
  wpAny (model P w) X.A (pyNext (.ref it)) (fun r s1 => ∃ u, r = some u /\
   wpAny (model P w) X.A (letOwnedTupleGo tg (.ref it) u) (fun _ s2 => ∃ x H', Inv X pins σ H' s2 /\ RelV x u /\ J.yld i H x H' /\ tn (i + 1) s2.heap /\ ∀ b ∈ fp, H' b = none) E s1) E s
 done : ∀ (X : Cx), X.prog = P -> X.w = w -> X.K = K -> X.still = true -> ∀ (i : Nat) (pins : List (Addr × Obj)) (s : Shared) (σ : St) (H : Hp) (E : Value -> Shared -> Prop), Inv X pins σ H s -> (∀ b ∈ fp, FpOk X pins H b) -> tn i s.heap -> J.stop i H ->
  wpAny (model P w) X.A (pyNext (.ref it)) (fun r s1 => r = none /\ Inv X pins σ H s1) E s
 self : ∀ (A : Around) (i : Nat) (s : Shared) (Q : Value -> Shared -> Prop) (E : Value -> Shared -> Prop), tn i s.heap -> Q (.ref it) s -> wpAny (model P w) A (pyIter (.ref it)) Q E s
abbrev TI := St -> Hp -> (It -> Hp -> Prop) -> Prop
def PIE (X : Cx) (pins : List (Addr × Obj)) (σ : St) (tg : Expr) (R : It -> Hp -> Prop) (itv : Value) (s2 : Shared) : Prop :=
 ∃ (it : Addr) (fp : List Addr) (tn : Nat -> Heap -> Prop) (J : It) (H' : Hp), itv = .ref it /\ Inv X pins σ H' s2 /\ Turn X.prog X.w X.K tg J fp it tn /\ tn 0 s2.heap /\ (∀ b ∈ fp, FpOk X pins H' b) /\ R J H'
def PI (X : Cx) (tg iter : Expr) (wi : TI) : Prop :=
 ∀ (pins : List (Addr × Obj)) (s : Shared) (σ : St) (H : Hp) (R : It -> Hp -> Prop), Inv X pins σ H s -> wi σ H R ->
  wpAny (model X.prog X.w) X.A (eval iter X.env) (fun v s1 => wpAny (model X.prog X.w) X.A (pyIter v) (PIE X pins σ tg R) X.xe s1) X.xe s
theorem go_of {M : Model} {A : Around} {E : Value -> Shared -> Prop} {s : Shared} {tg : Expr} {it : Addr} {u : Value} {o : Obj} {n : String} {vs : Array Value} {Q : Unit -> Shared -> Prop} (ho : s.heap.get? it = some o) (hc : o.cls = .type n) (hd : o.data = .fields vs)
    (hn : ["enumerate", "zip", "dict_itemiterator", "dict_reverseitemiterator", "odict_iterator", "itertools.zip_longest", "itertools.pairwise"].contains n = false) (hQ : Q () s) : wpAny M A (letOwnedTupleGo tg (.ref it) u) Q E s := by
  unfold letOwnedTupleGo
  cases tg <;> first
    | exact wpAny_pure hQ
    | (cases u <;> first
        | exact wpAny_pure hQ
        | (refine wpAny_bind (wpAny_load ho ?_)
           rw [hc, hd]
           show wpAny M A (if (["enumerate", "zip", "dict_itemiterator", "dict_reverseitemiterator", "odict_iterator", "itertools.zip_longest", "itertools.pairwise"].contains n && vs[0]? == some (rawInt _)) = true then _ else _) Q E s
           rw [if_neg (by intro h; rw [hn, Bool.false_and] at h; cases h)]
           exact wpAny_pure hQ))
def Itl (K : W.Frag) (a : Addr) : It :=
 ⟨fun i H => ∃ xs x, SqL K H a xs /\ xs[i]? = some x, fun i H x H' => H' = H /\ ∀ xs, SqL K H a xs -> xs[i]? = some x, fun i H => ∃ xs, SqL K H a xs /\ xs.length <= i⟩
def Itt (K : W.Frag) (a : Addr) : It :=
 ⟨fun i H => ∃ xs x, SqT K H a xs /\ xs[i]? = some x, fun i H x H' => H' = H /\ ∀ xs, SqT K H a xs -> xs[i]? = some x, fun i H => ∃ xs, SqT K H a xs /\ xs.length <= i⟩
def Itr (lo : Int) (n : Nat) : It := ⟨fun i _ => i < n, fun i H x H' => H' = H /\ x = .int (lo + i), fun i _ => n <= i⟩
theorem turn_list {P : Program} {w : World} {K : W.Frag} {tg : Expr} (a it : Addr) : Turn P w K tg (Itl K a) [it] it (fun i h => h.IsListIter it a i) where
 mem := by simp
 obj := fun i h st b hb => by
  have e : b = it := by simpa using hb
  subst e
  obtain ⟨o, e, c, d⟩ := st
  exact ⟨o, e, fun v z => by rw [d] at z; cases z⟩
 keep := fun i h h' st k => st.at fun o e => k it (by simp) o e
 item := by
  intro X hP hw hK hc i pins s σ H E I hf st hg
  subst hP hw hK
  obtain ⟨xs, x, hq, hx⟩ := hg
  obtain ⟨its, rv, p, hz⟩ := I.list hq
  obtain ⟨u, hu, ru⟩ := rv.get hx
  obtain ⟨f0, f1, f2, f3, f4, f5⟩ := hf it (by simp)
  refine wpAny_pyNext_list_item st p.isList (x := u) (by simpa using hu) fun h' st' sb => ?_
  have I1 : Inv X pins σ H { s with heap := h' } := I.turned (t' := s.toks) (fun b o hb e => (sb.2 b hb).trans e) f0 f1 f3 f4 f5
  obtain ⟨o, e, c, d⟩ := id st'
  exact ⟨u, rfl, go_of (s := { s with heap := h' }) e c d (by decide) ⟨x, H, I1, ru, ⟨rfl, fun ys hy => by rw [I.list_inj hy hq]; exact hx⟩, st', fun b hb => (hf b hb).1⟩⟩
 done := by
  intro X hP hw hK hc i pins s σ H E I hf st hg
  subst hP hw hK
  obtain ⟨xs, hq, hx⟩ := hg
  obtain ⟨its, rv, p, hz⟩ := I.list hq
  obtain ⟨f0, f1, f2, f3, f4, f5⟩ := hf it (by simp)
  have hl := rv.length
  exact list_end_still (I.stl hc) (I.stn hc f0) st p.isList (by simp; omega) fun h' eb => ⟨rfl, I.turned (t' := s.toks) (fun b o hb e => eb b o hb e) f0 f1 f3 f4 f5⟩
 self := fun _ _ _ _ _ st h => wpAny_pyIter_listiter st h
theorem turn_tuple {P : Program} {w : World} {K : W.Frag} {tg : Expr} (a it : Addr) : Turn P w K tg (Itt K a) [it] it (fun i h => h.IsTupleIter it a i) where
 mem := by simp
 obj := fun i h st b hb => by
  have e : b = it := by simpa using hb
  subst e
  obtain ⟨o, e, c, d⟩ := st
  exact ⟨o, e, fun v z => by rw [d] at z; cases z⟩
 keep := fun i h h' st k => st.at fun o e => k it (by simp) o e
 item := by
  intro X hP hw hK hc i pins s σ H E I hf st hg
  subst hP hw hK
  obtain ⟨xs, x, hq, hx⟩ := hg
  obtain ⟨its, rv, p, hz⟩ := I.tuple hq
  obtain ⟨u, hu, ru⟩ := rv.get hx
  obtain ⟨f0, f1, f2, f3, f4, f5⟩ := hf it (by simp)
  refine wpAny_pyNext_tuple_item st (show s.heap.IsTuple a its.toArray from p) (x := u) (by simpa using hu) fun h' st' sb => ?_
  have I1 : Inv X pins σ H { s with heap := h' } := I.turned (t' := s.toks) (fun b o hb e => (sb.2 b hb).trans e) f0 f1 f3 f4 f5
  obtain ⟨o, e, c, d⟩ := id st'
  exact ⟨u, rfl, go_of (s := { s with heap := h' }) e c d (by decide) ⟨x, H, I1, ru, ⟨rfl, fun ys hy => by rw [I.tuple_inj hy hq]; exact hx⟩, st', fun b hb => (hf b hb).1⟩⟩
 done := by
  intro X hP hw hK hc i pins s σ H E I hf st hg
  subst hP hw hK
  obtain ⟨xs, hq, hx⟩ := hg
  obtain ⟨its, rv, p, hz⟩ := I.tuple hq
  obtain ⟨f0, f1, f2, f3, f4, f5⟩ := hf it (by simp)
  have hl := rv.length
  exact tuple_end_still (I.stl hc) (I.stn hc f0) st (show s.heap.IsTuple a its.toArray from p) (by simp; omega) fun h' eb => ⟨rfl, I.turned (t' := s.toks) (fun b o hb e => eb b o hb e) f0 f1 f3 f4 f5⟩
 self := fun _ _ _ _ _ st h => wpAny_pyIter_tupleiter st h
theorem turn_range {P : Program} {w : World} {K : W.Frag} {tg : Expr} (it : Addr) (lo : Int) (n : Nat) : Turn P w K tg (Itr lo n) [it] it (fun i h => IsRangeIter h it (lo + (i : Nat) * 1) ((n : Int) - (i : Nat)) 1) where
 mem := by simp
 obj := fun i h st b hb => by
  have e : b = it := by simpa using hb
  subst e
  exact ⟨_, st, fun v z => by
   have z' : Data.fields _ = Data.cell v := z
   cases z'⟩
 keep := fun i h h' st k => k it (by simp) _ st
 item := by
  intro X hP hw hK hc i pins s σ H E I hf st hg
  subst hP hw hK
  obtain ⟨f0, f1, f2, f3, f4, f5⟩ := hf it (by simp)
  refine range_item_still (c := 1) hg st fun v h' tk hv st' kk => ?_
  obtain ⟨t, rfl⟩ := hv
  have I1 : Inv X pins σ H { s with heap := h', toks := tk } := I.turned (fun b o hb e => kk b o (by simpa using hb) e) f0 f1 f3 f4 f5
  refine ⟨_, rfl, go_of (s := { s with heap := h', toks := tk }) (n := "range_iterator") st' rfl rfl (by decide) ⟨.int (lo + i), H, I1, ⟨t, ?_⟩, ⟨rfl, rfl⟩, st', fun b hb => (hf b hb).1⟩⟩
  rw [Int.mul_one]
 done := by
  intro X hP hw hK hc i pins s σ H E I hf st hg
  subst hP hw hK
  obtain ⟨f0, f1, f2, f3, f4, f5⟩ := hf it (by simp)
  exact range_end_still (I.stl hc) st (by have : n <= i := hg; omega) fun h' eb => ⟨rfl, I.turned (t' := s.toks) (fun b o hb e => eb b o hb e) f0 f1 f3 f4 f5⟩
 self := fun _ _ _ _ _ st h => wpAny_pyIter_rangeiter st h
end L2
namespace L2
open PySem PySem.Spec PyProof.Rows
section
variable {X : Cx} {tg : Expr}
def iList (K : W.Frag) (tl : TE) : TI := fun σ H R => tl σ H fun x H1 => ∃ a, x = .ref a /\ (∃ xs, SqL K H1 a xs) /\ R (Itl K a) H1
def iTup (K : W.Frag) (tl : TE) : TI := fun σ H R => tl σ H fun x H1 => ∃ a, x = .ref a /\ (∃ xs, SqT K H1 a xs) /\ R (Itt K a) H1
theorem pi_list {l : Expr} {tl : TE} (hl : PE X l tl) : PI X tg l (iList X.K tl) := by
 intro pins s σ H R I h
 refine thn (hl pins s σ H _ I h) fun v s1 ⟨x, H1, I1, r1, q1⟩ => ?_
 obtain ⟨a, e, ⟨xs, hq⟩, q⟩ := q1
 subst e
 cases r1
 obtain ⟨its, rv, p, hz⟩ := I1.list hq
 refine wpAny_pyIter_list p.isList ?_
 refine ⟨s1.heap.objs.size, [s1.heap.objs.size], _, _, H1, rfl, I1.kept (t' := s1.toks) fun b o e => Heap.get?_push_of_some _ e, turn_list a _, ⟨_, Heap.get?_push_size _ rfl, rfl, rfl⟩, fun b hb => ?_, q⟩
 have e : b = s1.heap.objs.size := by simpa using hb
 subst e
 exact I1.fpOk (Nat.le_refl _) (I1.hok.fresh (Nat.le_refl _))
theorem pi_tup {l : Expr} {tl : TE} (hl : PE X l tl) : PI X tg l (iTup X.K tl) := by
 intro pins s σ H R I h
 refine thn (hl pins s σ H _ I h) fun v s1 ⟨x, H1, I1, r1, q1⟩ => ?_
 obtain ⟨a, e, ⟨xs, hq⟩, q⟩ := q1
 subst e
 cases r1
 obtain ⟨its, rv, p, hz⟩ := I1.tuple hq
 refine wpAny_pyIter_tuple (show s1.heap.IsTuple a its.toArray from p) ?_
 refine ⟨s1.heap.objs.size, [s1.heap.objs.size], _, _, H1, rfl, I1.kept (t' := s1.toks) fun b o e => Heap.get?_push_of_some _ e, turn_tuple a _, ⟨_, Heap.get?_push_size _ rfl, rfl, rfl⟩, fun b hb => ?_, q⟩
 have e : b = s1.heap.objs.size := by simpa using hb
 subst e
 exact I1.fpOk (Nat.le_refl _) (I1.hok.fresh (Nat.le_refl _))
theorem range_it {pins : List (Addr × Obj)} {σ : St} {H : Hp} {s : Shared} {R : It -> Hp -> Prop} {E : Value -> Shared -> Prop} {lo hi : Int} {t u v : Tok} {tk : Nat} (I : Inv X pins σ H s) (h1 : -(2 ^ 62) <= lo) (h2 : lo < 2 ^ 62) (h3 : -(2 ^ 62) <= hi) (h4 : hi < 2 ^ 62)
  (q : R (Itr lo (hi - lo).toNat) H) : wpAny (model X.prog X.w) X.A (pyIter (.ref s.heap.objs.size)) (PIE X pins σ tg R) E { s with heap := s.heap.push { cls := .type "range", data := .fields #[.int lo t, .int hi u, .int 1 v] }, toks := tk } := by
 refine wpAny_pyIter_range (IsRange.new ..) (small_one h1 h2 h3 h4) ?_
 have I1 : Inv X pins σ H { s with heap := s.heap.push { cls := .type "range", data := .fields #[.int lo t, .int hi u, .int 1 v] }, toks := tk } := I.kept fun b o e => Heap.get?_push_of_some _ e
 refine ⟨(s.heap.push { cls := .type "range", data := .fields #[.int lo t, .int hi u, .int 1 v] }).objs.size, [(s.heap.push { cls := .type "range", data := .fields #[.int lo t, .int hi u, .int 1 v] }).objs.size], _, _, H, rfl,
  I1.kept (t' := tk) fun b o e => Heap.get?_push_of_some _ e, turn_range _ lo (hi - lo).toNat, ?_, fun b hb => ?_, q⟩
 ·have e1 : lo + ((0 : Nat) : Int) * 1 = lo := by simp
  have e2 : (((hi - lo).toNat : Nat) : Int) - ((0 : Nat) : Int) = Builtin.Range.rangeSize lo hi 1 := by rw [rangeSize_one]; split <;> omega
  show IsRangeIter _ _ (lo + ((0 : Nat) : Int) * 1) ((((hi - lo).toNat : Nat) : Int) - ((0 : Nat) : Int)) 1
  rw [e1, e2]
  exact Heap.get?_push_size _ rfl
 ·have e : b = (s.heap.push { cls := .type "range", data := .fields #[.int lo t, .int hi u, .int 1 v] }).objs.size := by simpa using hb
  subst e
  exact I1.fpOk (Nat.le_refl _) (I1.hok.fresh (Nat.le_refl _))
def iRng1 (ta : TA) : TI := fun σ H R => ta σ H fun vs H1 => ∃ j : Int, vs = [.int j] /\ -(2 ^ 62) <= j /\ j < 2 ^ 62 /\ R (Itr 0 j.toNat) H1
theorem pi_range1 {a : Expr} {ta : TA} {p pos : Pos} (hg : Gl X "range") (hm : X.mg "range" = none) (ha : PA X [a] ta) (hs : starEach [a] X.env = [(false, eval a X.env)] := by rfl) : PI X tg (.Call (.Name "range" p) [a] [] pos) (iRng1 ta) := by
 intro pins s σ H R I h
 refine Call_ (ld_blt I hg hm boot_range (PyProof.Rows.callWith_type1 (thn (ha pos pins s σ H _ I h) fun us s1 ⟨vs, H1, I1, r1, q1⟩ => ?_) hs rfl))
 obtain ⟨j, e, q1, q2, q⟩ := q1
 subst e
 cases r1 with
 | cons r rr =>
  cases rr
  obtain ⟨t, rfl⟩ := r
  exact call_range_1 (range_it I1 (by omega) (by omega) q1 q2 (by simpa using q))
def tFor (wi : TI) (g : TG) (tb : TS) : TS := fun D σ H => wi σ H fun J H1 => ∃ W : Nat -> Nat -> St -> Hp -> Prop, (∃ m, W 0 m σ H1) /\ ∀ i m σ H, W i m σ H ->
 (J.stop i H /\ D.nx σ H) \/ (J.go i H /\ ∃ N : St -> Hp -> Prop, (∀ σ' H', N σ' H' -> ∃ m', m' < m /\ W (i + 1) m' σ' H') /\ ∀ x H', J.yld i H x H' -> g x σ H' fun σ2 H2 => tb { D with nx := N, ct := N, bk := D.nx } σ2 H2)
def pinsAt (fp : List Addr) (h : Heap) : List (Addr × Obj) := fp.filterMap fun b => (h.get? b).map fun o => (b, o)
theorem mem_pinsAt {fp : List Addr} {h : Heap} {b : Addr} {o : Obj} (hb : b ∈ fp) (e : h.get? b = some o) : (b, o) ∈ pinsAt fp h := List.mem_filterMap.mpr ⟨b, hb, by rw [e]; rfl⟩
theorem of_pinsAt {fp : List Addr} {h : Heap} {p : Addr × Obj} (hp : p ∈ pinsAt fp h) : p.1 ∈ fp /\ h.get? p.1 = some p.2 := by
 obtain ⟨b, hb, e⟩ := List.mem_filterMap.mp hp
 cases q : h.get? b with
 | none => rw [q] at e; cases e
 | some o =>
  rw [q] at e
  have e' : (b, o) = p := Option.some.inj e
  subst e'
  exact ⟨hb, q⟩
theorem Inv.pinned {pins : List (Addr × Obj)} {σ : St} {H : Hp} {s : Shared} {fp : List Addr} (I : Inv X pins σ H s) (hf : ∀ b ∈ fp, FpOk X pins H b) (ho : ∀ b ∈ fp, ∃ o, s.heap.get? b = some o /\ ∀ v, o.data ≠ .cell v) : Inv X (pins ++ pinsAt fp s.heap) σ H s :=
 I.pins_of fun p hp => (List.mem_append.mp hp).elim (fun z => I.pin p (List.mem_append_right _ z)) fun z => by
  obtain ⟨hb, e⟩ := of_pinsAt z
  obtain ⟨f0, f1, f2, _⟩ := hf p.1 hb
  obtain ⟨o, e', d⟩ := ho p.1 hb
  rw [e] at e'; cases e'
  exact ⟨e, f0, f1, f2, d⟩
theorem Inv.unpinned {pins pl : List (Addr × Obj)} {σ : St} {H : Hp} {s : Shared} (I : Inv X (pins ++ pl) σ H s) : Inv X pins σ H s := I.pins_of fun p hp => I.pin p (List.mem_append_right _ (List.mem_append_left _ hp))
theorem ps_for {iter : Expr} {body : List Stmt} {wi : TI} {g : TG} {tb : TS} {pos : Pos} (hp : PassesOwn (model X.prog X.w) X.A X.env X.xe) (hc : X.still = true) (hi : PI X tg iter wi) (hg : PG X tg g) (hb : PSs X body tb)
  (hs : ∀ x, foldedSetIterable iter X.env x = pure x := by intro _; rfl) : PS X (.For tg iter body [] pos) (tFor wi g tb) := by
 intro pins s σ H D I h
 refine wpAny_For (thn (hi pins s σ H _ I h) fun v s1 h1 => thn h1 fun itv s2 h2 => ?_) hs
 obtain ⟨it, fp, tn, J, H2, e, I2, T, st2, f2, W, ⟨m0, w0⟩, turn⟩ := h2
 subst e
 -- what stays true of the iterator's objects through the loop
 have stat : ∀ {H' : Hp}, (∀ b ∈ fp, H' b = none) -> ∀ b ∈ fp, FpOk X pins H' b := fun hn b hb => ⟨hn b hb, (f2 b hb).2⟩
 refine codeAny_forLoop_any (fun n s' => ∃ i σ' H', Inv X pins σ' H' s' /\ tn i s'.heap /\ (∀ b ∈ fp, H' b = none) /\ W i n σ' H') ?_ m0 ⟨0, σ, H2, I2, st2, fun b hb => (f2 b hb).1, w0⟩
 rintro n s3 ⟨i, σ3, H3, I3, st3, fr3, w3⟩
 rcases turn i n σ3 H3 w3 with ⟨stop, qn⟩ | ⟨go, N, hN, step⟩
 ·refine wpAny_passesOwn hp (thn (T.done X rfl rfl rfl hc i pins s3 σ3 H3 X.xe I3 (stat fr3) st3 stop) fun r s4 ⟨hr, I4⟩ => ?_)
  subst hr
  exact wpAny_execs_nil ⟨σ3, H3, I4, qn⟩
 ·refine wpAny_passesOwn hp (thn (T.item X rfl rfl rfl hc i pins s3 σ3 H3 X.xe I3 (stat fr3) st3 go) fun r s4 ⟨u, hr, h4⟩ => ?_)
  subst hr
  refine wpAny_passesOwn hp (thn h4 fun _ s5 ⟨x, H5, I5, r5, y5, st5, fr5⟩ => ?_)
  have I5' := I5.pinned (stat fr5) (T.obj _ _ st5)
  refine wpAny_passesOwn hp (thn (hg _ s5 σ3 H5 x u _ I5' r5 (step x H5 y5)) fun _ s6 ⟨σ6, H6, I6, q6⟩ => ?_)
  refine wpAny_passesOwn hp (thn (hb _ s6 σ6 H6 _ I6 q6) fun f s7 q7 => ?_)
  have again : ∀ {σ7 : St} {H7 : Hp}, Inv X (pins ++ pinsAt fp s5.heap) σ7 H7 s7 -> N σ7 H7 -> ∃ m, m < n /\ ∃ i σ' H', Inv X pins σ' H' s7 /\ tn i s7.heap /\ (∀ b ∈ fp, H' b = none) /\ W i m σ' H' := fun {σ7 H7} I7 n7 => by
   obtain ⟨m', hm, w7⟩ := hN σ7 H7 n7
   refine ⟨m', hm, i + 1, σ7, H7, I7.unpinned, T.keep _ _ _ st5 fun b hb o e => (I7.pin (b, o) (List.mem_append_right _ (List.mem_append_right _ (mem_pinsAt hb e)))).1, fun b hb => ?_, w7⟩
   obtain ⟨o, e, d⟩ := T.obj _ _ st5 b hb
   exact (I7.pin (b, o) (List.mem_append_right _ (List.mem_append_right _ (mem_pinsAt hb e)))).2.1
  cases f with
  | next => obtain ⟨σ7, H7, I7, n7⟩ := q7; exact again I7 n7
  | cont => obtain ⟨σ7, H7, I7, n7⟩ := q7; exact again I7 n7
  | brk => obtain ⟨σ7, H7, I7, q7⟩ := q7; exact ⟨σ7, H7, I7.unpinned, q7⟩
  | ret v => obtain ⟨x7, σ7, H7, I7, r7, q7⟩ := q7; exact ⟨x7, σ7, H7, I7.unpinned, r7, q7⟩
end
theorem for_list {K : W.Frag} {a : Addr} {xs : List V} {g : TG} {tb : TS} {D : Ends} {σ : St} {H : Hp} (Pv : Nat -> St -> Hp -> Prop) (h0 : Pv 0 σ H) (hl : ∀ i σ H, i <= xs.length -> Pv i σ H -> SqL K H a xs)
  (hs : ∀ i x σ H, xs[i]? = some x -> Pv i σ H -> g x σ H fun σ2 H2 => tb { D with nx := Pv (i + 1), ct := Pv (i + 1), bk := D.nx } σ2 H2) (hd : ∀ σ H, Pv xs.length σ H -> D.nx σ H) :
  ∃ W : Nat -> Nat -> St -> Hp -> Prop, (∃ m, W 0 m σ H) /\ ∀ i m σ H, W i m σ H ->
   ((Itl K a).stop i H /\ D.nx σ H) \/ ((Itl K a).go i H /\ ∃ N : St -> Hp -> Prop, (∀ σ' H', N σ' H' -> ∃ m', m' < m /\ W (i + 1) m' σ' H') /\ ∀ x H', (Itl K a).yld i H x H' -> g x σ H' fun σ2 H2 => tb { D with nx := N, ct := N, bk := D.nx } σ2 H2) := by
 refine ⟨fun i m σ H => m = xs.length - i /\ i <= xs.length /\ Pv i σ H, ⟨xs.length, by simp, Nat.zero_le _, h0⟩, ?_⟩
 rintro i m σ H ⟨rfl, hi, p⟩
 have q := hl i σ H hi p
 by_cases hlt : i < xs.length
 ·refine .inr ⟨⟨xs, xs[i], q, by simp [hlt]⟩, Pv (i + 1), fun σ' H' p' => ⟨xs.length - (i + 1), by omega, rfl, hlt, p'⟩, fun x H' y => ?_⟩
  obtain ⟨e, y⟩ := y
  subst e
  exact hs i x σ _ (y xs q) p
 ·have e : i = xs.length := by omega
  subst e
  exact .inl ⟨⟨xs, q, Nat.le_refl _⟩, hd σ H p⟩
theorem for_tup {K : W.Frag} {a : Addr} {xs : List V} {g : TG} {tb : TS} {D : Ends} {σ : St} {H : Hp} (Pv : Nat -> St -> Hp -> Prop) (h0 : Pv 0 σ H) (hl : ∀ i σ H, i <= xs.length -> Pv i σ H -> SqT K H a xs)
  (hs : ∀ i x σ H, xs[i]? = some x -> Pv i σ H -> g x σ H fun σ2 H2 => tb { D with nx := Pv (i + 1), ct := Pv (i + 1), bk := D.nx } σ2 H2) (hd : ∀ σ H, Pv xs.length σ H -> D.nx σ H) :
  ∃ W : Nat -> Nat -> St -> Hp -> Prop, (∃ m, W 0 m σ H) /\ ∀ i m σ H, W i m σ H ->
   ((Itt K a).stop i H /\ D.nx σ H) \/ ((Itt K a).go i H /\ ∃ N : St -> Hp -> Prop, (∀ σ' H', N σ' H' -> ∃ m', m' < m /\ W (i + 1) m' σ' H') /\ ∀ x H', (Itt K a).yld i H x H' -> g x σ H' fun σ2 H2 => tb { D with nx := N, ct := N, bk := D.nx } σ2 H2) := by
 refine ⟨fun i m σ H => m = xs.length - i /\ i <= xs.length /\ Pv i σ H, ⟨xs.length, by simp, Nat.zero_le _, h0⟩, ?_⟩
 rintro i m σ H ⟨rfl, hi, p⟩
 have q := hl i σ H hi p
 by_cases hlt : i < xs.length
 ·refine .inr ⟨⟨xs, xs[i], q, by simp [hlt]⟩, Pv (i + 1), fun σ' H' p' => ⟨xs.length - (i + 1), by omega, rfl, hlt, p'⟩, fun x H' y => ?_⟩
  obtain ⟨e, y⟩ := y
  subst e
  exact hs i x σ _ (y xs q) p
 ·have e : i = xs.length := by omega
  subst e
  exact .inl ⟨⟨xs, q, Nat.le_refl _⟩, hd σ H p⟩
theorem for_range {lo : Int} {n : Nat} {g : TG} {tb : TS} {D : Ends} {σ : St} {H : Hp} (Pv : Nat -> St -> Hp -> Prop) (h0 : Pv 0 σ H)
  (hs : ∀ i σ H, i < n -> Pv i σ H -> g (.int (lo + i)) σ H fun σ2 H2 => tb { D with nx := Pv (i + 1), ct := Pv (i + 1), bk := D.nx } σ2 H2) (hd : ∀ σ H, Pv n σ H -> D.nx σ H) :
  ∃ W : Nat -> Nat -> St -> Hp -> Prop, (∃ m, W 0 m σ H) /\ ∀ i m σ H, W i m σ H ->
   ((Itr lo n).stop i H /\ D.nx σ H) \/ ((Itr lo n).go i H /\ ∃ N : St -> Hp -> Prop, (∀ σ' H', N σ' H' -> ∃ m', m' < m /\ W (i + 1) m' σ' H') /\ ∀ x H', (Itr lo n).yld i H x H' -> g x σ H' fun σ2 H2 => tb { D with nx := N, ct := N, bk := D.nx } σ2 H2) := by
 refine ⟨fun i m σ H => m = n - i /\ i <= n /\ Pv i σ H, ⟨n, by simp, Nat.zero_le _, h0⟩, ?_⟩
 rintro i m σ H ⟨rfl, hi, p⟩
 by_cases hlt : i < n
 ·refine .inr ⟨hlt, Pv (i + 1), fun σ' H' p' => ⟨n - (i + 1), by omega, rfl, hlt, p'⟩, fun x H' y => ?_⟩
  obtain ⟨e, y⟩ := y
  subst e y
  exact hs i σ _ hlt p
 ·have e : i = n := by omega
  subst e
  exact .inl ⟨Nat.le_refl _, hd σ H p⟩
end L2
namespace L2
open PySem PySem.Spec PyProof.Rows
abbrev R2 := V -> V -> Hp -> VK -> Prop
def OpR (X : Cx) (f : Value -> Value -> Sem Value) (r : R2) : Prop :=
 ∀ (pins : List (Addr × Obj)) (s : Shared) (σ : St) (H : Hp) (x y : V) (v u : Value) (Q : VK), Inv X pins σ H s -> RelV x v -> RelV y u -> r x y H Q ->
  wpAny (model X.prog X.w) X.A (f v u) (EP X pins σ Q) X.xe s
def UnR (X : Cx) (f : Value -> Sem Value) (r : V -> Hp -> VK -> Prop) : Prop :=
 ∀ (pins : List (Addr × Obj)) (s : Shared) (σ : St) (H : Hp) (x : V) (v : Value) (Q : VK), Inv X pins σ H s -> RelV x v -> r x H Q ->
  wpAny (model X.prog X.w) X.A (f v) (EP X pins σ Q) X.xe s
def CallR (X : Cx) (f : Value) (r : List V -> Hp -> VK -> Prop) : Prop :=
 ∀ (pins : List (Addr × Obj)) (s : Shared) (σ : St) (H : Hp) (xs : List V) (us : List Value) (Q : VK), Inv X pins σ H s -> Vals xs us -> r xs H Q ->
  wpAny (model X.prog X.w) X.A (call f us) (EP X pins σ Q) X.xe s
def tOp (r : R2) (ta tb : TE) : TE := fun σ H Q => ta σ H fun x H1 => tb σ H1 fun y H2 => r x y H2 Q
def tUn (r : V -> Hp -> VK -> Prop) (ta : TE) : TE := fun σ H Q => ta σ H fun x H1 => r x H1 Q
def rI (C : Int -> Int -> Prop) (g : Int -> Int -> V) : R2 := fun x y H Q => ∃ i j, x = .int i /\ y = .int j /\ C i j /\ Q (g i j) H
def rI0 (g : Int -> Int -> V) : R2 := fun x y H Q => ∃ i j, x = .int i /\ y = .int j /\ Q (g i j) H
def rU (g : Int -> V) : V -> Hp -> VK -> Prop := fun x H Q => ∃ i, x = .int i /\ Q (g i) H
section
variable {X : Cx} {a b c : Expr} {ta tb tc : TE} {pos : Pos}
theorem binT (ha : PE X a ta) (hb : PE X b tb) {pins : List (Addr × Obj)} {s : Shared} {σ : St} {H : Hp} {R : V -> V -> Hp -> Prop} (I : Inv X pins σ H s)
  (h : ta σ H fun x H1 => tb σ H1 fun y H2 => R x y H2) {Q : Value -> Shared -> Prop} {f : Value -> Value -> Sem Value}
  (hf : ∀ v u s2 x y H2, Inv X pins σ H2 s2 -> RelV x v -> RelV y u -> R x y H2 -> wpAny (model X.prog X.w) X.A (f v u) Q X.xe s2) :
  wpAny (model X.prog X.w) X.A (eval a X.env) (fun v s₁ => wpAny (model X.prog X.w) X.A (eval b X.env) (fun u s₂ => wpAny (model X.prog X.w) X.A (f v u) Q X.xe s₂) X.xe s₁) X.xe s := by
 refine thn (ha pins s σ H _ I h) fun v s1 ⟨x, H1, I1, r1, q1⟩ => ?_
 refine thn (hb pins s1 σ H1 _ I1 q1) fun u s2 ⟨y, H2, I2, r2, q2⟩ => ?_
 exact hf v u s2 x y H2 I2 r1 r2 q2
theorem pe_op {op : Operator} {r : R2} (ho : OpR X (binaryOp op) r) (ha : PE X a ta) (hb : PE X b tb) : PE X (.BinOp a op b pos) (tOp r ta tb) := by
 intro pins s σ H Q I h
 exact wpAny_BinOp (binT ha hb I h fun v u s2 x y H2 I2 rx ry q => ho pins s2 σ H2 x y v u Q I2 rx ry q)
theorem pe_un {op : UnaryOp} {r : V -> Hp -> VK -> Prop} (ho : UnR X (unaryOp op) r) (ha : PE X a ta) : PE X (.UnaryOp op a pos) (tUn r ta) := by
 intro pins s σ H Q I h
 exact UnaryOp_ (thn (ha pins s σ H _ I h) fun v s1 ⟨x, H1, I1, r1, q1⟩ => ho pins s1 σ H1 x v Q I1 r1 q1)
theorem opI {f : Value -> Value -> Sem Value} {C : Int -> Int -> Prop} {g : Int -> Int -> Int}
  (rule : ∀ (i j : Int) (t u : Tok) (s : Shared) (Q : Value -> Shared -> Prop) (E : Value -> Shared -> Prop), C i j -> Q (.int (g i j) s.toks) { s with toks := s.toks + 1 } -> wpAny (model X.prog X.w) X.A (f (.int i t) (.int j u)) Q E s) :
  OpR X f (rI C fun i j => .int (g i j)) := by
 intro pins s σ H x y v u Q I rx ry h
 obtain ⟨i, j, rfl, rfl, hc, q⟩ := h
 obtain ⟨t, rfl⟩ := rx
 obtain ⟨t', rfl⟩ := ry
 exact rule i j t t' s _ _ hc ⟨.int (g i j), H, I.tok _, ⟨_, rfl⟩, q⟩
theorem opI0 {f : Value -> Value -> Sem Value} {g : Int -> Int -> Int}
  (rule : ∀ (i j : Int) (t u : Tok) (s : Shared) (Q : Value -> Shared -> Prop) (E : Value -> Shared -> Prop), Q (.int (g i j) s.toks) { s with toks := s.toks + 1 } -> wpAny (model X.prog X.w) X.A (f (.int i t) (.int j u)) Q E s) :
  OpR X f (rI0 fun i j => .int (g i j)) := by
 intro pins s σ H x y v u Q I rx ry h
 obtain ⟨i, j, rfl, rfl, q⟩ := h
 obtain ⟨t, rfl⟩ := rx
 obtain ⟨t', rfl⟩ := ry
 exact rule i j t t' s _ _ ⟨.int (g i j), H, I.tok _, ⟨_, rfl⟩, q⟩
theorem opB0 {f : Value -> Value -> Sem Value} {g : Int -> Int -> Bool}
  (rule : ∀ (i j : Int) (t u : Tok) (s : Shared) (Q : Value -> Shared -> Prop) (E : Value -> Shared -> Prop), Q (.bool (g i j)) s -> wpAny (model X.prog X.w) X.A (f (.int i t) (.int j u)) Q E s) :
  OpR X f (rI0 fun i j => .bl (g i j)) := by
 intro pins s σ H x y v u Q I rx ry h
 obtain ⟨i, j, rfl, rfl, q⟩ := h
 obtain ⟨t, rfl⟩ := rx
 obtain ⟨t', rfl⟩ := ry
 exact rule i j t t' s _ _ ⟨.bl (g i j), H, I, rfl, q⟩
def CDiv (i j : Int) : Prop := 0 < j /\ j < 1073741824
def CPow (i j : Int) : Prop := 0 <= j /\ j <= 1000000 /\ i.natAbs < 2 ^ 64
theorem two_pow_nn (k : Nat) : (0 : Int) <= 2 ^ k := by
 rw [two_pow_cast]
 exact Int.natCast_nonneg _
theorem op_add : OpR X (binaryOp .Add) (rI0 fun i j => .int (i + j)) := opI0 fun _ _ _ _ _ _ _ q => add_int q
theorem op_sub : OpR X (binaryOp .Sub) (rI0 fun i j => .int (i - j)) := opI0 fun _ _ _ _ _ _ _ q => sub_int q
theorem op_fdiv : OpR X (binaryOp .FloorDiv) (rI CDiv fun i j => .int (i / j)) := opI fun i j _ _ _ _ _ hc q => by
 have h1 : (0 : Int) < j := hc.1
 have h2 : j < 1073741824 := hc.2
 exact floordiv_int (by omega) (by rw [Int.fdiv_eq_ediv_of_nonneg i (by omega)]; exact q) (.inl (PyProof.noPylong_small (by omega)))
theorem op_mod : OpR X (binaryOp .Mod) (rI (fun _ j => 0 < j) fun i j => .int (i % j)) := opI fun i j _ _ _ _ _ hc q => by
 have h1 : (0 : Int) < j := hc
 exact mod_int' (by omega) (by rw [Int.fmod_eq_emod_of_nonneg i (by omega)]; exact q)
theorem op_modN : OpR X (binaryOp .Mod) (rI (fun _ j => j ≠ 0) fun i j => .int (i.fmod j)) := opI fun _ _ _ _ _ _ _ hc q => mod_int' hc q
theorem op_pow : OpR X (binaryOp .Pow) (rI CPow fun i j => .int (i ^ j.toNat)) := opI fun _ _ _ _ _ _ _ hc q => pow_int_small hc.1 hc.2.1 hc.2.2 q
theorem op_shr : OpR X (binaryOp .RShift) (rI (fun _ j => 0 <= j) fun i j => .int (i / 2 ^ j.toNat)) := opI fun i j _ _ _ _ _ hc q =>
 rshift_int hc (by rw [Int.fdiv_eq_ediv_of_nonneg i (two_pow_nn _)]; exact q)
theorem op_and : OpR X (binaryOp .BitAnd) (rI0 fun i j => .int (Builtin.bitAnd i j)) := opI0 fun _ _ _ _ _ _ _ q => and_int q
theorem unI {f : Value -> Sem Value} {g : Int -> Int}
  (rule : ∀ (i : Int) (t : Tok) (s : Shared) (Q : Value -> Shared -> Prop) (E : Value -> Shared -> Prop), Q (.int (g i) s.toks) { s with toks := s.toks + 1 } -> wpAny (model X.prog X.w) X.A (f (.int i t)) Q E s) :
  UnR X f (rU fun i => .int (g i)) := by
 intro pins s σ H x v Q I rx h
 obtain ⟨i, rfl, q⟩ := h
 obtain ⟨t, rfl⟩ := rx
 exact rule i t s _ _ ⟨.int (g i), H, I.tok _, ⟨_, rfl⟩, q⟩
theorem un_neg : UnR X (unaryOp .USub) (rU fun i => .int (-i)) := unI fun _ _ _ _ _ q => neg_int q
end
def scal : V -> V -> Bool
 | .non, .non => true | .non, .int _ => true | .int _, .non => true | .non, .bl _ => true | .bl _, .non => true | .non, .str _ => true | .str _, .non => true
 | .int _, .int _ => true | .bl _, .bl _ => true | .str _, .str _ => true | .byt _, .byt _ => true
 | .int _, .str _ => true | .str _, .int _ => true | .bl _, .str _ => true | .str _, .bl _ => true
 | _, _ => false
def rEq : R2 := fun x y H Q => scal x y = true /\ Q (.bl (decide (x = y))) H
def rNe : R2 := fun x y H Q => scal x y = true /\ Q (.bl (!decide (x = y))) H
theorem dec_int {i j : Int} : decide (V.int i = V.int j) = (i == j) := by
 rw [Bool.eq_iff_iff]
 simp
theorem dec_bl {i j : Bool} : decide (V.bl i = V.bl j) = (i == j) := by
 rw [Bool.eq_iff_iff]
 simp
theorem dec_str {i j : Str} : decide (V.str i = V.str j) = (i == j) := by
 rw [Bool.eq_iff_iff]
 simp
theorem dec_byt {i j : Array UInt8} : decide (V.byt i = V.byt j) = (i.toList == j.toList) := by
 rw [Bool.eq_iff_iff]
 cases i
 cases j
 simp
section
variable {X : Cx} {a b c : Expr} {ta tb tc : TE} {pos : Pos}
theorem fin_bl {pins : List (Addr × Obj)} {σ : St} {H : Hp} {s : Shared} {Q : VK} {k k' : Bool} (I : Inv X pins σ H s) (q : Q (.bl k) H) (e : k = k') : EP X pins σ Q (.bool k') s := by
 subst e
 exact ⟨.bl k, H, I, rfl, q⟩
theorem op_eq : OpR X (compareOp .Eq) rEq := by
 intro pins s σ H x y v u Q I rx ry h
 obtain ⟨hs, q⟩ := h
 cases x with
 | non =>
  cases rx
  cases y with
  | non => cases ry; exact PySem.EqNone.eq_none_none (fin_bl I q (by simp))
  | bl j => cases ry; exact PySem.EqNone.eq_none_bool (fin_bl I q (by simp))
  | int j => obtain ⟨t', rfl⟩ := ry; exact PySem.EqNone.eq_none_int (fin_bl I q (by simp))
  | str j => obtain ⟨t', rfl⟩ := ry; exact PySem.EqNone.eq_none_str (fin_bl I q (by simp))
  | _ => exact absurd (show false = true from hs) Bool.false_ne_true
 | bl i =>
  cases rx
  cases y with
  | non => cases ry; exact PySem.EqNone.eq_bool_none (fin_bl I q (by simp))
  | bl j => cases ry; exact eq_bool (fin_bl I q dec_bl)
  | str j => obtain ⟨t', rfl⟩ := ry; exact PySem.EqMixed.eq_bool_str (fin_bl I q (by simp))
  | _ => exact absurd (show false = true from hs) Bool.false_ne_true
 | int i =>
  obtain ⟨t, rfl⟩ := rx
  cases y with
  | non => cases ry; exact PySem.EqNone.eq_int_none (fin_bl I q (by simp))
  | int j => obtain ⟨t', rfl⟩ := ry; exact eq_int (fin_bl I q dec_int)
  | str j => obtain ⟨t', rfl⟩ := ry; exact PySem.EqMixed.eq_int_str (fin_bl I q (by simp))
  | _ => exact absurd (show false = true from hs) Bool.false_ne_true
 | str i =>
  obtain ⟨t, rfl⟩ := rx
  cases y with
  | non => cases ry; exact PySem.EqNone.eq_str_none (fin_bl I q (by simp))
  | bl j => cases ry; exact PySem.EqMixed.eq_str_bool (fin_bl I q (by simp))
  | int j => obtain ⟨t', rfl⟩ := ry; exact PySem.EqMixed.eq_str_int (fin_bl I q (by simp))
  | str j => obtain ⟨t', rfl⟩ := ry; exact eq_str (fin_bl I q dec_str)
  | _ => exact absurd (show false = true from hs) Bool.false_ne_true
 | byt i =>
  obtain ⟨t, rfl⟩ := rx
  cases y with
  | byt j => obtain ⟨t', rfl⟩ := ry; exact W.eq_bytes (fin_bl I q dec_byt)
  | _ => exact absurd (show false = true from hs) Bool.false_ne_true
 | _ => cases y <;> exact absurd (show false = true from hs) Bool.false_ne_true
theorem op_ne : OpR X (compareOp .NotEq) rNe := by
 intro pins s σ H x y v u Q I rx ry h
 obtain ⟨hs, q⟩ := h
 cases x with
 | non =>
  cases rx
  cases y with
  | non => cases ry; exact PySem.EqNone.ne_none_none (fin_bl I q (by simp))
  | bl j => cases ry; exact PySem.EqNone.ne_none_bool (fin_bl I q (by simp))
  | int j => obtain ⟨t', rfl⟩ := ry; exact PySem.EqNone.ne_none_int (fin_bl I q (by simp))
  | str j => obtain ⟨t', rfl⟩ := ry; exact PySem.EqNone.ne_none_str (fin_bl I q (by simp))
  | _ => exact absurd (show false = true from hs) Bool.false_ne_true
 | bl i =>
  cases rx
  cases y with
  | non => cases ry; exact PySem.EqNone.ne_bool_none (fin_bl I q (by simp))
  | bl j => cases ry; exact ne_bool (fin_bl I q (congrArg not dec_bl))
  | str j => obtain ⟨t', rfl⟩ := ry; exact PySem.EqMixed.ne_bool_str (fin_bl I q (by simp))
  | _ => exact absurd (show false = true from hs) Bool.false_ne_true
 | int i =>
  obtain ⟨t, rfl⟩ := rx
  cases y with
  | non => cases ry; exact PySem.EqNone.ne_int_none (fin_bl I q (by simp))
  | int j => obtain ⟨t', rfl⟩ := ry; exact ne_int (fin_bl I q (congrArg not dec_int))
  | str j => obtain ⟨t', rfl⟩ := ry; exact PySem.EqMixed.ne_int_str (fin_bl I q (by simp))
  | _ => exact absurd (show false = true from hs) Bool.false_ne_true
 | str i =>
  obtain ⟨t, rfl⟩ := rx
  cases y with
  | non => cases ry; exact PySem.EqNone.ne_str_none (fin_bl I q (by simp))
  | bl j => cases ry; exact PySem.EqMixed.ne_str_bool (fin_bl I q (by simp))
  | int j => obtain ⟨t', rfl⟩ := ry; exact PySem.EqMixed.ne_str_int (fin_bl I q (by simp))
  | str j => obtain ⟨t', rfl⟩ := ry; exact ne_str (fin_bl I q (congrArg not dec_str))
  | _ => exact absurd (show false = true from hs) Bool.false_ne_true
 | byt i =>
  obtain ⟨t, rfl⟩ := rx
  cases y with
  | byt j => obtain ⟨t', rfl⟩ := ry; exact W.ne_bytes (fin_bl I q (congrArg not dec_byt))
  | _ => exact absurd (show false = true from hs) Bool.false_ne_true
 | _ => cases y <;> exact absurd (show false = true from hs) Bool.false_ne_true
theorem op_lt : OpR X (compareOp .Lt) (rI0 fun i j => .bl (decide (i < j))) := opB0 fun _ _ _ _ _ _ _ q => lt_int q
theorem op_le : OpR X (compareOp .LtE) (rI0 fun i j => .bl (decide (i <= j))) := opB0 fun _ _ _ _ _ _ _ q => le_int q
theorem op_gt : OpR X (compareOp .Gt) (rI0 fun i j => .bl (decide (j < i))) := opB0 fun _ _ _ _ _ _ _ q => gt_int q
theorem nomark (b : Expr) {op : CmpOp} (h : op ≠ .In := by decide) (h2 : op ≠ .NotIn := by decide) : behindInMarks op b = false := by
 have e1 : (op == CmpOp.In) = false := by cases op <;> first | rfl | exact absurd rfl h
 have e2 : (op == CmpOp.NotIn) = false := by cases op <;> first | rfl | exact absurd rfl h2
 cases b <;> simp [behindInMarks, e1, e2]
theorem pe_cmpR {op : CmpOp} {r : R2} (ho : OpR X (compareOp op) r) (ha : PE X a ta) (hb : PE X b tb) (hm : behindInMarks op b = false) : PE X (.Compare a [op] [b] pos) (tOp r ta tb) := by
 intro pins s σ H Q I h
 exact wpAny_Compare1 (binT ha hb I h fun v u s2 x y H2 I2 rx ry q => ho pins s2 σ H2 x y v u Q I2 rx ry q) hm
def tTest (t : TE) : TT := fun σ H Q => t σ H fun x H' => ∃ k, x = .bl k /\ Q k H'
theorem pt_cmpR {op : CmpOp} {r : R2} (ho : OpR X (compareOp op) r) (ha : PE X a ta) (hb : PE X b tb) (hm : behindInMarks op b = false) : PT X (.Compare a [op] [b] pos) (tTest (tOp r ta tb)) := by
 intro pins s σ H Q I h
 refine wpAny_isTrue_Compare1 (thn (ha pins s σ H _ I h) fun v s1 ⟨x, H1, I1, r1, q1⟩ => thn (hb pins s1 σ H1 _ I1 q1) fun u s2 ⟨y, H2, I2, r2, q2⟩ =>
  thn (ho pins s2 σ H2 x y v u _ I2 r1 r2 q2) fun c s3 ⟨z, H3, I3, r3, k, e, q3⟩ => ?_) hm
 subst e
 cases r3
 exact wpAny_truthy_bool ⟨H3, I3, q3⟩
theorem line63 : (sizeLine : Nat) < 2 ^ 63 := by rw [sizeLine_eq]; decide
theorem vals1 {x : V} {us : List Value} (r : Vals [x] us) : ∃ u, us = [u] /\ RelV x u := by
 cases r with
 | cons r1 r2 => cases r2; exact ⟨_, rfl, r1⟩
theorem call_abs : CallR X (.builtin "abs") (fun xs H Q => ∃ i, xs = [.int i] /\ Q (.int (if i < 0 then -i else i)) H) := by
 intro pins s σ H xs us Q I r h
 obtain ⟨i, rfl, q⟩ := h
 obtain ⟨u, rfl, t, rfl⟩ := vals1 r
 exact call_abs_int fun u tk => ⟨.int (if i < 0 then -i else i), H, I.tok _, ⟨_, rfl⟩, q⟩
end
end L2
namespace L2
open PySem PySem.Spec PyProof.Rows
structure ObjM (h : Heap) (x dx C : Addr) (mA : Str -> Option Value) : Prop where
 obj : h.get? x = some (W.instObj C dx)
 ns : h.Ns1 dx mA
 ne : dx ≠ x
theorem lookIn_ns {h : Heap} {dx : Addr} {mA : Str -> Option Value} (n : h.Ns1 dx mA) : ∃ od, h.get? dx = some od /\ ∀ name, W.lookIn name od = some (mA name) := by
 obtain ⟨o, es, ep, ho, hd, hk, _, hm⟩ := n
 refine ⟨o, ho, fun name => ?_⟩
 have e := hm name
 unfold nsFind findBy at e
 rw [<- Array.find?_toList] at e
 unfold W.lookIn
 rw [hd]
 dsimp only
 split
 ·rename_i y q
  rw [q] at e
  exact congrArg some e
 ·rename_i q
  rw [q] at e
  have a : es.toList.any (·.refKey) = false := by
   rw [List.any_eq_false]
   intro y hy
   obtain ⟨z, t, hkey⟩ := hk y (Array.mem_toList_iff.mp hy)
   simp [DictEntry.refKey, hkey]
  have a' : ¬ es.toList.any (·.refKey) = true := by rw [a]; exact Bool.false_ne_true
  rw [if_neg a']
  exact congrArg some e
theorem ObjM.look {h : Heap} {x dx C : Addr} {mA : Str -> Option Value} (I : ObjM h x dx C mA) : ∃ od, W.InstAt h x (W.instObj C dx) C (some od) /\ ∀ name, W.lookIn name od = some (mA name) :=
 let ⟨od, ho, hl⟩ := lookIn_ns I.ns
 ⟨od, ⟨I.obj, rfl, rfl, ho⟩, hl⟩
section
variable {prog : Program} {w : World} {A : Around} {E : Value -> Shared -> Prop} {s : Shared} {K : W.Frag} {x dx C f : Addr} {mA : Str -> Option Value} {name : Str} {v : Value}
end
theorem RelO.some_of {v : V} {o : Option Value} (r : RelO (some v) o) : ∃ u, o = some u /\ RelV v u := by
 cases o with
 | none => exact (show False from r).elim
 | some u => exact ⟨u, rfl, r⟩
theorem handed_of {v : V} {u : Value} (r : RelV v u) : W.handedIn u = true := by
 cases v with
 | non => cases (show u = Value.none from r); rfl
 | bl b => cases (show u = Value.bool b from r); rfl
 | int i => obtain ⟨t, e⟩ := (show ∃ t, u = Value.int i t from r); cases e; rfl
 | str x => obtain ⟨t, e⟩ := (show ∃ t, u = Value.str x t from r); cases e; rfl
 | byt b => obtain ⟨t, e⟩ := (show ∃ t, u = Value.bytes b t from r); cases e; rfl
 | flt b => obtain ⟨t, e⟩ := (show ∃ t, u = Value.float b t from r); cases e; rfl
 | ref a => cases (show u = Value.ref a from r); rfl
 | ty n => cases (show u = Value.type n from r); rfl
section
variable {P : Program} {w : World} {H H' : Hp} {h h' : Heap} {a C dx : Addr} {fs fs' : List (Str × V)}
theorem ins_get (hok : HOk P w H h) (e : H a = some (.ins C dx fs)) : ∃ mA, ObjM h a dx C mA /\ (∀ f, RelO (fs.lookup f) (mA f)) /\ PySem.Within mA (fs.map (·.1)) /\ fs.length <= 1000 /\ H dx = some (.own a) := by
 obtain ⟨d, z, ne, ob, mA, n, r, q⟩ := (show ObjOk P w H h a (.ins C dx fs) from hok a _ e)
 exact ⟨mA, ⟨ob, n, ne⟩, r, q, z, d⟩
end
structure Cls (K : W.Frag) (C : Addr) : Prop where
 pg : W.plainGet K C Str.empty = true
 hd : W.hasDictIn K C = true
 po : W.plainOver K C = true
 sa : W.findIn K (.ref C) "__setattr__" = some (some (.builtin "object.__setattr__"))
theorem Cls.get {K : W.Frag} {C : Addr} (c : Cls K C) (f : Str) : W.plainGet K C f = true := c.pg
section
variable {X : Cx} {pins : List (Addr × Obj)} {σ : St} {H : Hp} {s : Shared} {a C dx : Addr} {fs : List (Str × V)} {f : Str} {v : V} {A : Around} {E : Value -> Shared -> Prop}
theorem attr_of {prog : Program} {w : World} {env : Env} {e : Expr} {f : Str} {pos : Pos} {s : Shared} {Q : Value -> Shared -> Prop} (hb : attributeBase e f env (eval e env) = eval e env)
  (h : wpAny (model prog w) A (eval e env) (fun o s₁ => wpAny (model prog w) A (getAttr o f true) Q E s₁) E s) : wpAny (model prog w) A (eval (.Attribute e f pos) env) Q E s :=
 Attribute_any_ h (by rw [arm_eval_Attribute, hb])
end
section
variable {X : Cx} {o e value : Expr} {f : Str} {pos pos' tpos : Pos} {ta tv : TE}
end
section
variable {X : Cx} {pins : List (Addr × Obj)} {σ : St} {H : Hp} {s : Shared} {A : Around} {E : Value -> Shared -> Prop} {Q : Value -> Shared -> Prop} {c : Value} {b : Bool}
inductive TyOf (K : W.Frag) (H : Hp) : V -> Value -> Prop where
 | non : TyOf K H .non (.type "NoneType")
 | bl (x : Bool) : TyOf K H (.bl x) (.type "bool")
 | int (i : Int) : TyOf K H (.int i) (.type "int")
 | str (x : Str) : TyOf K H (.str x) (.type "str")
 | flt (x : UInt64) : TyOf K H (.flt x) (.type "float")
 | lst {a : Addr} {xs : List V} (e : H a = some (.lst xs)) : TyOf K H (.ref a) (.type "list")
 | frz {a : Addr} {o : Obj} {xs : List V} (e : H a = some (.frz o (.lst xs))) : TyOf K H (.ref a) (.type "list")
 | tup {a : Addr} {xs : List V} (e : H a = some (.tup xs)) : TyOf K H (.ref a) (.type "tuple")
 | dK {a : Addr} {kvs : List (Key × V)} (e : H a = some (.dK kvs)) : TyOf K H (.ref a) (.type "dict")
 | dT {a : Addr} {kvs : List (List Key × V)} (e : H a = some (.dT kvs)) : TyOf K H (.ref a) (.type "dict")
 | ins {a C dx : Addr} {fs : List (Str × V)} (e : H a = some (.ins C dx fs)) (cl : Cls K C) (ha : W.findIn K (.ref C) "__class__" = some (some (.builtin "object.__class__")))
   (hn : W.specialIn K (.builtin "object.__class__") "__get__" = some (some (.builtin "getset_descriptor.__get__"))) (htk : W.takesIn K (.builtin "object.__class__") = some true)
   (hm : W.mroIn K C (.type "object") = some true) : TyOf K H (.ref a) (.ref C)
theorem isinst_ok {x : V} {u t : Value} (I : Inv X pins σ H s) (rx : RelV x u) (ty : TyOf X.K H x t) (e : W.kitOne X.K t c = some b) (h : ∀ tk, Q (.bool b) { s with toks := tk }) :
  wpAny (model X.prog X.w) A (call (.builtin "isinstance") [u, c]) Q E s := by
 cases ty with
 | non => cases (show u = Value.none from rx); exact W.kia_one W.kitx_none I.kIn True.intro e (fun z => nomatch z) h
 | bl y => cases (show u = Value.bool y from rx); exact W.kia_one W.kitx_bool I.kIn True.intro e (fun z => nomatch z) h
 | int i => obtain ⟨t, q⟩ := (show ∃ t, u = Value.int i t from rx); cases q; exact W.kia_one W.kitx_int I.kIn True.intro e (fun z => nomatch z) h
 | str y => obtain ⟨t, q⟩ := (show ∃ t, u = Value.str y t from rx); cases q; exact W.kia_one W.kitx_str I.kIn True.intro e (fun z => nomatch z) h
 | flt y => obtain ⟨t, q⟩ := (show ∃ t, u = Value.float y t from rx); cases q; exact W.kia_one W.kitx_float I.kIn True.intro e (fun z => nomatch z) h
 | @lst a xs ea =>
  cases (show u = Value.ref a from rx)
  obtain ⟨_, _, n, _, h1⟩ := (show ObjOk X.prog X.w H s.heap a (.lst xs) from I.hok a _ ea)
  exact W.kia_one W.kitx_list I.kIn ⟨_, h1, rfl⟩ e (fun z => nomatch z) h
 | @frz a ob xs ea =>
  cases (show u = Value.ref a from rx)
  obtain ⟨_, _, _, n, _, h1⟩ := (show ObjOk X.prog X.w H s.heap a (.frz ob (.lst xs)) from I.hok a _ ea)
  exact W.kia_one W.kitx_list I.kIn ⟨_, h1, rfl⟩ e (fun z => nomatch z) h
 | @tup a xs ea =>
  cases (show u = Value.ref a from rx)
  obtain ⟨_, _, _, p⟩ := (show ObjOk X.prog X.w H s.heap a (.tup xs) from I.hok a _ ea)
  obtain ⟨o, h1, h2, _⟩ := p
  exact W.kia_one W.kitx_tuple I.kIn ⟨o, h1, h2⟩ e (fun z => nomatch z) h
 | @dK a kvs ea =>
  cases (show u = Value.ref a from rx)
  obtain ⟨_, _, vs, _, p⟩ := (show ObjOk X.prog X.w H s.heap a (.dK kvs) from I.hok a _ ea)
  obtain ⟨o, es, ep, h1, h2, _⟩ := p
  exact W.kia_one W.kitx_dict I.kIn ⟨o, h1, h2.1⟩ e (fun z => nomatch z) h
 | @dT a kvs ea =>
  cases (show u = Value.ref a from rx)
  obtain ⟨_, _, xs, _, o, es, ep, h1, h2, _⟩ := (show ObjOk X.prog X.w H s.heap a (.dT kvs) from I.hok a _ ea)
  exact W.kia_one W.kitx_dict I.kIn ⟨o, h1, h2.1⟩ e (fun z => nomatch z) h
 | @ins a C dx fs ea cl ha hn htk hm =>
  cases (show u = Value.ref a from rx)
  obtain ⟨mA, O, _⟩ := ins_get I.hok ea
  obtain ⟨od, J, _⟩ := O.look
  exact W.kia_one (W.kitx_own (cl.get _) cl.hd ha hn htk hm) I.kIn J e (fun z => nomatch z) h
end
end L2
namespace L2
open PySem PySem.Spec PyProof.Rows
structure Room (k : Nat) (A : Around) : Prop where
 hd : A.handled = none
 dp : A.depth + 3 * k + 5 < recursionLimit
 un : A.units + 16 * k + 200 < cLine
theorem Room.mono {j k : Nat} {A : Around} (r : Room k A) (h : j <= k) : Room j A := ⟨r.hd, by have := r.dp; omega, by have := r.un; omega⟩
theorem Room.deeper {k : Nat} {A : Around} (r : Room (k + 1) A) (env : Env) : Room k (A.deeper env) :=
 ⟨r.hd, by have := r.dp; show A.depth + 1 + 3 * k + 5 < _; omega, by have := r.un; show A.units + 3 + 16 * k + 200 < _; omega⟩
theorem make_depth {A : Around} {C : Addr} {us : List Value} {kw : List (Str × Value)} : (A.under (.builtin "type.__call__" ⟨.ref C :: us, kw⟩)).depth = A.depth + 1 := by
 first | rfl | simp [Around.under, Code.weight, Code.isCreation, Code.isGuard, Code.isCaller, Code.frames, Code.isFrame, guardIds]
theorem make_units {A : Around} {C : Addr} {us : List Value} {kw : List (Str × Value)} : (A.under (.builtin "type.__call__" ⟨.ref C :: us, kw⟩)).units = A.units + 1 := by
 first | rfl | simp [Around.under, Code.cUnits, Code.frames, Code.isFrame]
theorem Room.make {k : Nat} {A : Around} (r : Room (k + 1) A) (C : Addr) (us : List Value) (kw : List (Str × Value)) : Room k (A.under (.builtin "type.__call__" ⟨.ref C :: us, kw⟩)) :=
 ⟨r.hd, by have := r.dp; rw [make_depth]; omega, by have := r.un; rw [make_units]; omega⟩
theorem Room.depth {k : Nat} {A : Around} (r : Room k A) : A.depth < recursionLimit := by have := r.dp; omega
def tNil : TA := fun _ H Q => Q [] H
def tCons (ta : TE) (tr : TA) : TA := fun σ H Q => ta σ H fun x H1 => tr σ H1 fun xs H2 => Q (x :: xs) H2
section
variable {X : Cx} {e : Expr} {es : List Expr} {te : TE} {t : TA} {pos : Pos}
theorem pa_nil : PA X [] tNil := fun _ _ _ _ H Q I h => Calls.spliced_nil ⟨[], H, I, .nil, h⟩
theorem pa_cons (ha : PE X e te) (hr : PA X es t) (hs : starEach (e :: es) X.env = (false, eval e X.env) :: starEach es X.env := by rfl) : PA X (e :: es) (tCons te t) := by
 intro pos pins s σ H Q I h
 rw [hs]
 show wpAny _ _ (spliced ((false, eval e X.env) :: backTo pos (starEach es X.env))) _ _ s
 refine Calls.spliced_cons (thn (ha pins s σ H _ I h) fun u s1 ⟨x, H1, I1, r1, q1⟩ => ?_)
 exact thn (hr pos pins s1 σ H1 _ I1 q1) fun us s2 ⟨xs, H2, I2, r2, q2⟩ => ⟨x :: xs, H2, I2, .cons r1 r2, q2⟩
def tTup (t : TA) : TE := fun σ H Q => t σ H fun xs H1 => xs.length <= sizeLine /\ ∀ p, H1 p = none -> Q (.ref p) (upd H1 p (.tup xs))
def tLst (t : TA) : TE := fun σ H Q => t σ H fun xs H1 => xs.length <= sizeLine /\ ∀ p, H1 p = none -> Q (.ref p) (upd H1 p (.lst xs))
theorem pe_tup {x1} (h : PA X es t) : PE X (.Tuple es x1 pos) (tTup t) := by
 intro pins s σ H Q I hq
 refine wpAny_Tuple_spliced (thn (h pos pins s σ H _ I hq) fun us s1 ⟨xs, H1, I1, r, z, q⟩ => ⟨by rw [<- r.length]; exact z, ?_⟩)
 have hf : H1 s1.heap.objs.size = none := I1.hok.fresh (Nat.le_refl _)
 refine ⟨.ref s1.heap.objs.size, upd H1 s1.heap.objs.size (.tup xs), I1.laid (t' := s1.toks) (fun b u e => Heap.get?_push_of_some _ e) (Nat.le_refl _) ?_, rfl, q _ hf⟩
 exact ⟨z, us, r, ⟨_, Heap.get?_push_size _ rfl, rfl, _, rfl⟩⟩
theorem pe_lst (h : PA X es t) : PE X (.List es pos) (tLst t) := by
 intro pins s σ H Q I hq
 refine wpAny_List_spliced (thn (h pos pins s σ H _ I hq) fun us s1 ⟨xs, H1, I1, r, z, q⟩ => ⟨by rw [<- r.length]; exact z, ?_⟩)
 have hf : H1 s1.heap.objs.size = none := I1.hok.fresh (Nat.le_refl _)
 refine ⟨.ref s1.heap.objs.size, upd H1 s1.heap.objs.size (.lst xs), I1.laid (t' := s1.toks) (fun b u e => Heap.get?_push_of_some _ e) (Nat.le_refl _) ?_, rfl, q _ hf⟩
 exact ⟨z, us, 0, r, Heap.get?_push_size _ rfl⟩
end
abbrev Sp := List V -> Hp -> VK -> XK -> Prop
abbrev CXT := List Env -> Hp -> Shared -> XK -> Value -> Shared -> Prop
structure Env0 (P : Program) (w : World) (K : W.Frag) (mg : Str -> Option Value) (base : Heap) (A : Around) (outer : List Env) (s : Shared) (H : Hp) : Prop where
 frames : A.frames = some outer
 mod : Mod K mg base
 bs : ∀ b o, base.get? b = some o -> s.heap.get? b = some o /\ H b = none
 bsz : base.objs.size <= s.heap.objs.size
 funs : s.heap.FunFrames base outer
 frf : ∀ b ∈ frs outer, H b = none
 hok : HOk P w H s.heap
 bare : AllBare s.gens
def CE (outer : List Env) (P : Program) (w : World) (H : Hp) (s : Shared) (Q : VK) (u : Value) (s' : Shared) : Prop :=
 ∃ v H', s'.os = s.os /\ AllBare s'.gens /\ Un (frs outer) [] H H' s.heap s'.heap /\ HOk P w H' s'.heap /\ RelV v u /\ Q v H'
def CR (CX : CXT) (outer : List Env) (P : Program) (w : World) (H : Hp) (s : Shared) (Q : VK) (E : XK) (r : Result) (s' : Shared) : Prop :=
 match r with
 | .ok (.ret u) => CE outer P w H s Q u s'
 | .ok _ => False
 | .error e => CX outer H s E e s'
structure FnOk (P : Program) (w : World) (K : W.Frag) (mg : Str -> Option Value) (base : Heap) (CX : CXT) (k : Nat) (f : Addr) (fd : FuncData) (ps : List Str) (sp : Sp) : Prop where
 len : ∀ vs H Q E, sp vs H Q E -> vs.length = ps.length
 run : ∀ (A : Around) (outer : List Env) (s : Shared) (H : Hp) (args : Args) (us : List Value) (vs : List V) (Q : VK) (E : XK), Room k A -> Env0 P w K mg base A outer s H -> BindsTo s fd args (ps.zip us) -> Vals vs us -> sp vs H Q E ->
  codeAny (model P w) A (.call (.ref f) args) (CR CX outer P w H s Q E) s
theorem Env0.make {P : Program} {w : World} {K : W.Frag} {mg : Str -> Option Value} {base : Heap} {A : Around} {outer : List Env} {s : Shared} {H : Hp} (e : Env0 P w K mg base A outer s H) (C : Addr) (us : List Value) (kw : List (Str × Value)) :
  Env0 P w K mg base (A.under (.builtin "type.__call__" ⟨.ref C :: us, kw⟩)) outer s H := ⟨by first | exact e.frames | (simpa [Around.under, Code.envs, Code.isFrame, pushEnvs] using e.frames), e.mod, e.bs, e.bsz, e.funs, e.frf, e.hok, e.bare⟩
section
variable {X : Cx} {pins : List (Addr × Obj)} {σ : St} {H : Hp} {s s' : Shared}
theorem Inv.env0 (I : Inv X pins σ H s) : Env0 X.prog X.w X.K X.mg X.base X.A X.stack s H :=
 ⟨I.ok.frames, I.ok.mod, I.bs, Nat.le_trans I.ok.bsz I.sz, I.stack, I.stkFree, I.hok, I.bare⟩
theorem Inv.after {Q : VK} {u : Value} (I : Inv X pins σ H s) (h : CE X.stack X.prog X.w H s Q u s') : EP X pins σ Q u s' := by
 obtain ⟨v, H', os, bare, un, hok, r, q⟩ := h
 obtain ⟨hh, g, d, t, os'⟩ := s'
 obtain rfl : os' = s.os := os
 exact ⟨v, H', I.call (h' := hh) (g' := g) (d' := d) (t' := t) (ch := []) un hok bare (fun b z => absurd z (by simp)), r, q⟩
end
def tCall (sp : Sp) (dvs : List V) (E : XK) (t : TA) : TE := fun σ H Q => t σ H fun vs H1 => sp (vs ++ dvs) H1 Q E
def Binds (K : W.Frag) (fd : FuncData) (ps : List Str) (ds : List Value) : Prop :=
 ∀ (s : Shared) (us : List Value), K.In s.heap -> (us ++ ds).length = ps.length -> BindsTo s fd ⟨us, []⟩ (ps.zip (us ++ ds))
theorem Binds.all {K : W.Frag} {fd : FuncData} {ps : List Str} (h : ∀ us : List Value, us.length = ps.length -> bindArgs fd ⟨us, []⟩ = pure (ps.zip us)) : Binds K fd ps [] := fun s us _ hl => by
 rw [List.append_nil] at hl ⊢
 exact .of_eq (h us hl)
def Passes (CX : CXT) (X : Cx) (E : XK) : Prop := ∀ (pins : List (Addr × Obj)) (σ : St) (H : Hp) (s : Shared) (e : Value) (s' : Shared), Inv X pins σ H s -> CX X.stack H s E e s' -> X.xe e s'
section
variable {X : Cx} {CX : CXT} {k : Nat} {f C : Addr} {fd : FuncData} {ps : List Str} {sp : Sp} {dvs : List V} {ds : List Value} {E : XK} {x m : Str} {p pos apos : Pos} {e o : Expr} {es : List Expr} {ta : TE} {t : TA}
theorem run_fn {pins : List (Addr × Obj)} {σ : St} {H : Hp} {s : Shared} {Q : VK} {us : List Value} {vs : List V} (F : FnOk X.prog X.w X.K X.mg X.base CX k f fd ps sp) (hr : Room k X.A) (hb : Binds X.K fd ps ds) (hd : Vals dvs ds) (hx : Passes CX X E)
  (I : Inv X pins σ H s) (r : Vals vs us) (h : sp (vs ++ dvs) H Q E) : wpAny (model X.prog X.w) X.A (call (.ref f) us) (EP X pins σ Q) X.xe s := by
 have r2 : Vals (vs ++ dvs) (us ++ ds) := r.append hd
 have hl : (us ++ ds).length = ps.length := by rw [<- r2.length]; exact F.len _ _ _ _ h
 refine wpAny_call (codeAny_mono (F.run X.A X.stack s H ⟨us, []⟩ (us ++ ds) (vs ++ dvs) Q E hr I.env0 (hb s us I.kIn hl) r2 h) fun r s' hq => ?_)
 cases r with
 | error e => exact hx pins σ H s e s' I hq
 | ok fl =>
  cases fl with
  | ret u => exact I.after hq
  | next => exact False.elim hq
  | brk => exact False.elim hq
  | cont => exact False.elim hq
theorem pe_call (F : FnOk X.prog X.w X.K X.mg X.base CX k f fd ps sp) (hr : Room k X.A) (hg : Gl X x) (hm : X.mg x = some (.ref f)) (hk : W.keepIn X.K (.ref f) = true) (hb : Binds X.K fd ps ds) (hd : Vals dvs ds) (hx : Passes CX X E)
  (ha : PA X (e :: es) t) (hdb : (x == ("__debug__" : Str)) = false := by decide) (he : starEach (e :: es) X.env = (false, eval e X.env) :: starEach es X.env := by rfl) (hpl : (backTo pos (starEach es X.env)).any (·.1) = false := by rfl) :
  PE X (.Call (.Name x p) (e :: es) [] pos) (tCall sp dvs E t) := by
 intro pins s σ H Q I h
 refine wpAny_Call_Name_kw (ld_glob I hg hm ?_ hdb)
 refine W.callWith_K (h₀ := X.base) I.ok.mod.kin hk (thn (ha pos pins s σ H _ I h) fun us s1 ⟨vs, H1, I1, r, q⟩ => ⟨I1.kIn, ?_⟩) he hpl
 exact run_fn F hr hb hd hx I1 r q
end
section
variable {X : Cx} {CX : CXT} {k : Nat} {f C : Addr} {fd : FuncData} {ps ks : List Str} {sp : Sp} {E : XK} {x m : Str} {p pos apos kpos : Pos} {e o : Expr} {es : List Expr} {kws : List Keyword} {te ta : TE} {t tk : TA} {nm : Option Str}
variable {g : List Value -> List Value -> List Value} {gV : List V -> List V -> List V}
end
structure FnScope (N P : List Str) (sc : Scope) : Prop where
 kind : sc.kind = .function
 co : sc.isCoroutine = false
 gen : sc.isGenerator = false
 nd : N.Nodup
 pre : N.take P.length = P
 par : ∀ x ∈ P, sc.names.lookup x = some .local \/ sc.names.lookup x = some .cell
 nofree : ∀ y ∈ sc.names, y.2 ≠ .free
theorem bindL_out {kindOf : Str -> Option NameKind} {x : Str} : ∀ {binds : List (Str × Value)} {m : Str -> Option Value}, (∀ v, (x, v) ∉ binds) -> bindL kindOf binds m x = m x
 | [], _, _ => rfl
 | (n, v) :: r, m, h => by
  unfold bindL
  rw [bindL_out fun w hw => h w (List.mem_cons_of_mem _ hw)]
  split
  ·have : x ≠ n := by rintro rfl; exact h v List.mem_cons_self
   simp [this]
  ·rfl
theorem bindC_out {kindOf : Str -> Option NameKind} {x : Str} : ∀ {binds : List (Str × Value)} {m : Str -> Option Value}, (∀ v, (x, v) ∉ binds) -> bindC kindOf binds m x = m x
 | [], _, _ => rfl
 | (n, v) :: r, m, h => by
  unfold bindC
  rw [bindC_out fun w hw => h w (List.mem_cons_of_mem _ hw)]
  split
  ·rfl
  ·have : x ≠ n := by rintro rfl; exact h v List.mem_cons_self
   simp [this]
theorem bindL_get {kindOf : Str -> Option NameKind} {x : Str} {v : Value} : ∀ {P : List Str} {vs : List Value} {i : Nat} {m : Str -> Option Value}, P.Nodup -> P[i]? = some x -> vs[i]? = some v -> kindOf x = some .local ->
  bindL kindOf (P.zip vs) m x = some v
 | [], _, _, _, _, h, _, _ => by simp at h
 | _ :: _, [], _, _, _, _, h, _ => by simp at h
 | p :: P, w :: vs, 0, m, nd, h1, h2, hk => by
  simp at h1 h2; subst h1; subst h2
  show bindL kindOf ((p, w) :: P.zip vs) m p = _
  unfold bindL
  rw [bindL_out fun v hv => (List.nodup_cons.mp nd).1 (List.of_mem_zip hv).1, if_pos hk]
  simp
 | p :: P, w :: vs, i + 1, m, nd, h1, h2, hk => by
  show bindL kindOf ((p, w) :: P.zip vs) m x = _
  unfold bindL
  exact bindL_get (i := i) (List.nodup_cons.mp nd).2 (by simpa using h1) (by simpa using h2) hk
theorem bindC_get {kindOf : Str -> Option NameKind} {x : Str} {v : Value} : ∀ {P : List Str} {vs : List Value} {i : Nat} {m : Str -> Option Value}, P.Nodup -> P[i]? = some x -> vs[i]? = some v -> kindOf x ≠ some .local ->
  bindC kindOf (P.zip vs) m x = some v
 | [], _, _, _, _, h, _, _ => by simp at h
 | _ :: _, [], _, _, _, _, h, _ => by simp at h
 | p :: P, w :: vs, 0, m, nd, h1, h2, hk => by
  simp at h1 h2; subst h1; subst h2
  show bindC kindOf ((p, w) :: P.zip vs) m p = _
  unfold bindC
  rw [bindC_out fun v hv => (List.nodup_cons.mp nd).1 (List.of_mem_zip hv).1, if_neg hk]
  simp
 | p :: P, w :: vs, i + 1, m, nd, h1, h2, hk => by
  show bindC kindOf ((p, w) :: P.zip vs) m x = _
  unfold bindC
  exact bindC_get (i := i) (List.nodup_cons.mp nd).2 (by simpa using h1) (by simpa using h2) hk
def start (N : List Str) (vs : List V) : St := vs.map some ++ List.replicate (N.length - vs.length) none
def cxOf (CX : CXT) (P : Program) (w : World) (K : W.Frag) (mg : Str -> Option Value) (base : Heap) (N : List Str) (qual : Str) (scope : Scope) (f : Addr) (cd : Value) (A : Around) (outer : List Env) (s : Shared) (H : Hp) (E : XK) : Cx where
 prog := P
 w := w
 K := K
 mg := mg
 base := base
 A := A.deeper (envOfC qual scope s.heap.objs.size f cd)
 N := N
 s₀ := s
 H₀ := H
 env := envOfC qual scope s.heap.objs.size f cd
 outer := outer
 stack := envOfC qual scope s.heap.objs.size f cd :: outer
 ex := []
 calm := true
 still := true
 fz := []
 fn := fun _ => true
 pn := []
 xe := fun e s' => wpAny (model P w) (A.deeper (envOfC qual scope s.heap.objs.size f cd)) (leaving (envOfC qual scope s.heap.objs.size f cd) e) (fun _ s'' => CX outer H s E e s'') (fun e' s'' => CX outer H s E e' s'') s'
theorem cell_has {sc : Scope} {n : Nat} {x : Str} (h : sc.names.lookup x = some .cell) : ∃ c, (cellsFrom n sc.names []).lookup x = some c := by
 have q := W.cellsFrom_some sc.names n [] (.inl h)
 exact Option.isSome_iff_exists.mp q
theorem inv_start {CX : CXT} {P : Program} {w : World} {K : W.Frag} {mg : Str -> Option Value} {base : Heap} {N ps : List Str} {qual : Str} {scope : Scope} {f : Addr} {cd : Value} {A : Around} {outer : List Env} {s s1 : Shared} {H : Hp} {E : XK} {us : List Value} {vs : List V}
  (S : FnScope N ps scope) (hd : A.handled = none) (e0 : Env0 P w K mg base A outer s H) (hl : vs.length = ps.length) (r : Vals vs us)
  (x : InCallC s s.heap.objs.size (bindL (envOfC qual scope s.heap.objs.size f cd).kindOf (ps.zip us) fun _ => none) (cellsFrom (s.heap.objs.size + 1) scope.names []) (bindC (envOfC qual scope s.heap.objs.size f cd).kindOf (ps.zip us) fun _ => none) s1) :
  Inv (cxOf CX P w K mg base N qual scope f cd A outer s H E) [] (start N vs) H s1 := by
 have hpl : ps.length <= N.length := by have := congrArg List.length S.pre; rw [List.length_take] at this; omega
 obtain ⟨h1, tk, rfl, hk⟩ := x.done
 have noA : ∀ b : Addr, b ∉ (cxOf CX P w K mg base N qual scope f cd A outer s H E).ex := fun b z => absurd (show b ∈ ([] : List Addr) from z) (by simp)
 refine ⟨⟨e0.mod, S.kind, rfl, rfl, Nat.le_refl _, fun y z c h1 h2 => ?_, fun y hy => ?_, fun y c _ h => ?_, fun _ => hd, fun _ => .inl hd, Around.frames_deeper e0.frames, .inr ⟨rfl, rfl⟩, fun b z => absurd z (noA b), e0.bs, e0.bsz, fun b _ _ => noA b, fun b z => absurd z (noA b), e0.funs, e0.frf⟩,
  (fun p hp => nomatch hp), rfl, e0.bare, Un.kept hk, ⟨_, x.toInCall.ns, fun i y v h1 h2 h3 => ?_⟩, fun y c h => ⟨_, x.cell y c h⟩, e0.hok.fresh (Nat.le_refl _), fun y c h => ?_, fun p hp => absurd (show p ∈ ([] : List (Addr × Obj)) from hp) (by simp), e0.hok.kept hk, ?_⟩
 ·exact name_of_addr x.apart (PySem.mem_of_lookup h1) (PySem.mem_of_lookup h2)
 ·have hy : scope.names.lookup y = some .cell \/ scope.names.lookup y = some .free := hy
  rcases hy with hy | hy
  ·exact cell_has hy
  ·exact absurd rfl (S.nofree _ (PySem.mem_of_lookup hy))
 ·exact Nat.le_of_lt (x.above y c (PySem.mem_of_lookup h))
 ·have hi : i < vs.length := by
   unfold start at h2
   by_cases hi : i < vs.length
   ·exact hi
   ·rw [List.getElem?_append_right (by simpa using hi)] at h2
    rw [List.getElem?_replicate] at h2
    split at h2 <;> cases h2
  have ha : vs[i]? = some v := by
   unfold start at h2
   rw [List.getElem?_append_left (by simpa using hi), List.getElem?_map] at h2
   cases e : vs[i]? with
   | none => rw [e] at h2; cases h2
   | some a => rw [e] at h2; cases h2; rfl
  obtain ⟨u, hu, rv⟩ := r.get ha
  have hp : ps[i]? = some y := by
   rw [<- S.pre, List.getElem?_take_of_lt (by omega)]; exact h1
  have ndP : ps.Nodup := by rw [<- S.pre]; exact S.nd.sublist (List.take_sublist _ _)
  refine ⟨u, rv, ?_⟩
  rcases S.par y (List.mem_of_getElem? hp) with k | k
  ·exact .inl ⟨k, bindL_get ndP hp hu k⟩
  ·obtain ⟨c, e⟩ := cell_has (n := s.heap.objs.size + 1) k
   refine .inr ⟨.inl k, c, e, ?_⟩
   have q := x.cell y c e
   rw [bindC_get ndP hp hu (by show scope.names.lookup y ≠ _; rw [k]; decide)] at q
   exact q
 ·exact e0.hok.fresh (Nat.le_of_lt (x.above y c (PySem.mem_of_lookup h)))
 ·unfold start
  show _ = N.length
  rw [List.length_append, List.length_map, List.length_replicate]
  omega
theorem fn_of {CX : CXT} {P : Program} {w : World} {K : W.Frag} {mg : Str -> Option Value} {base : Heap} {k : Nat} {f : Addr} {name qual : Str} {params : Arguments} {body : List Stmt} {scope : Scope} {dV kV doc pm cdv ct oc : Value} {an od : Option Addr}
  {osl : Array (Option Value)} {N ps : List Str} {sp : Sp} (lk : K.lookup f = some ⟨oc, od, .func (W.fnOf name qual params body scope dV kV doc pm an cdv ct), osl⟩) (hcd : W.codeIn K cdv qual = true) (S : FnScope N ps scope)
  (len : ∀ vs H Q E, sp vs H Q E -> vs.length = ps.length)
  (hbody : ∀ (A : Around) (outer : List Env) (s : Shared) (H : Hp) (vs : List V) (Q : VK) (E : XK), Room k (A.deeper (envOfC qual scope s.heap.objs.size f cdv)) -> sp vs H Q E ->
   ∃ t, PSs (cxOf CX P w K mg base N qual scope f cdv A outer s H E) body t /\ t { nx := fun _ H' => Q .non H', rt := Q } (start N vs) H) :
  FnOk P w K mg base CX (k + 1) f (W.fnOf name qual params body scope dV kV doc pm an cdv ct) ps sp := by
 refine ⟨len, fun A outer s H args us vs Q E hr e0 hb r hsp => ?_⟩
 have hl := len _ _ _ _ hsp
 have KX : K.In s.heap := e0.mod.kin.keeps fun b o e => (e0.bs b o e).1
 have lim : s.heap.NoLimit := e0.mod.nolimit.keeps fun b o e => (e0.bs b o e).1
 have hkind : ∀ y ∈ ps.zip us, scope.names.lookup y.1 = some .local \/ (scope.names.lookup y.1 = some .cell /\ ((cellsFrom (s.heap.objs.size + 1) scope.names []).lookup y.1).isSome = true) := fun ⟨n, v⟩ hy => by
  rcases S.par n (List.of_mem_zip hy).1 with q | q
  ·exact .inl q
  ·exact .inr ⟨q, W.cellsFrom_some _ _ _ (.inl q)⟩
 refine codeAny_call_function hr.depth (KX _ _ lk) rfl S.co S.gen rfl (W.codeRec_of KX hcd) (hb _ _ _ _ ?_)
 refine wpAny_newFunctionEnv_cells S.kind hkind fun env he s1 x => ?_
 subst he
 refine ⟨lim.keeps x.toInCall.keep, codeAny_func ?_⟩
 obtain ⟨t, ht, hq⟩ := hbody A outer s H vs Q E (hr.deeper _) hsp
 have I : Inv (cxOf CX P w K mg base N qual scope f cdv A outer s H E) [] (start N vs) H s1 := inv_start S hr.hd e0 hl r x
 refine wpAny_mono (ht [] s1 (start N vs) H _ I hq) (fun fl s' hs => ?_) fun e s' hs => hs
 have fin : ∀ {σ' : St} {H' : Hp} {v : V} {u : Value}, Inv (cxOf CX P w K mg base N qual scope f cdv A outer s H E) [] σ' H' s' -> RelV v u -> Q v H' -> CE outer P w H s Q u s' :=
  fun {σ' H' v u} J rv q => ⟨v, H', J.os, J.bare, J.base, J.hok, rv, q⟩
 cases fl with
 | ret u =>
  obtain ⟨v, σ', H', J, rv, q⟩ := hs
  exact fin J rv q
 | next =>
  obtain ⟨σ', H', J, q⟩ := hs
  exact fin (v := V.non) (u := Value.none) J rfl q
 | brk =>
  obtain ⟨_, _, _, q⟩ := hs
  exact False.elim q
 | cont =>
  obtain ⟨_, _, _, q⟩ := hs
  exact False.elim q
end L2
namespace L2
open PySem PySem.Spec PyProof.Rows
section
variable {X : Cx} {x : Str} {p pos : Pos} {e : Expr} {es : List Expr} {t : TA} {id T : String} {r : List V -> Hp -> VK -> Prop}
def tCB (r : List V -> Hp -> VK -> Prop) (t : TA) : TE := fun σ H Q => t σ H fun vs H1 => r vs H1 Q
theorem pe_callB (hc : CallR X (.builtin id) r) (hg : Gl X x) (hm : X.mg x = none) (hv : bootBuiltins x = some (.builtin id)) (ha : PA X (e :: es) t) (hn : x ≠ "__name__" := by decide) (hdb : (x == ("__debug__" : Str)) = false := by decide)
  (he : starEach (e :: es) X.env = (false, eval e X.env) :: starEach es X.env := by rfl) (hpl : (backTo pos (starEach es X.env)).any (·.1) = false := by rfl) : PE X (.Call (.Name x p) (e :: es) [] pos) (tCB r t) := by
 intro pins s σ H Q I h
 refine wpAny_Call_Name_kw (ld_blt I hg hm hv ?_ hn hdb)
 exact PyProof.Rows.callWith_builtin1 (thn (ha pos pins s σ H _ I h) fun us s1 ⟨vs, H1, I1, r1, q1⟩ => hc pins s1 σ H1 vs us Q I1 r1 q1) he hpl
theorem pe_callTy (hc : CallR X (.type T) r) (hg : Gl X x) (hm : X.mg x = none) (hv : bootBuiltins x = some (.type T)) (ha : PA X (e :: es) t) (hn : x ≠ "__name__" := by decide) (hdb : (x == ("__debug__" : Str)) = false := by decide)
  (he : starEach (e :: es) X.env = (false, eval e X.env) :: starEach es X.env := by rfl) (hpl : (backTo pos (starEach es X.env)).any (·.1) = false := by rfl) : PE X (.Call (.Name x p) (e :: es) [] pos) (tCB r t) := by
 intro pins s σ H Q I h
 refine wpAny_Call_Name_kw (ld_blt I hg hm hv ?_ hn hdb)
 exact PyProof.Rows.callWith_type1 (thn (ha pos pins s σ H _ I h) fun us s1 ⟨vs, H1, I1, r1, q1⟩ => hc pins s1 σ H1 vs us Q I1 r1 q1) he hpl
end
end L2
namespace HT
open PySem PyProof.Rows
section
open PySem.SeqAt
open PySem.AutoSeq1 (wpAny_loadPart')
open PySem.MeetsSeq PySem.MeetsSeq2 PySem.MeetsSeq3
end
section
variable {prog : Program} {w : World} {A : Around} {E : Value -> Shared -> Prop} {s : Shared}
theorem cat_tup {t b : Addr} {vs ws : List Value} {Q : Value -> Shared -> Prop} (ht : IsTup s.heap t vs.toArray) (hb : IsTup s.heap b ws.toArray) (hv : vs ≠ [])
  (h1 : ws = [] -> Q (.ref t) s) (h2 : ws ≠ [] -> Q (.ref s.heap.objs.size) { s with heap := s.heap.push { cls := .type "tuple", data := .seq (vs ++ ws).toArray } })
  (hsz : vs.length + ws.length <= sizeLine) : wpAny (model prog w) A (binaryOp .Add (.ref t) (.ref b)) Q E s := by
 obtain ⟨⟨cls, dd, data, sl⟩, ho, hc, n, hd⟩ := id ht
 obtain ⟨⟨cls2, dd2, data2, sl2⟩, ho2, hc2, n2, hd2⟩ := id hb
 simp only at hc hd hc2 hd2
 subst hc hd hc2 hd2
 have e : vs.toArray ++ ws.toArray = (vs ++ ws).toArray := by simp
 by_cases hw : ws = []
 ·exact concat_meets ⟨_, ho, rfl⟩ ⟨_, ho2, rfl⟩ noFill_tuple_add seq_tuple_add PySem.F.slot_tuple_add PySem.F.entry_tuple_add (PySem.F.args_tuple_add_2 _ _)
   (tuple_addW1 t b vs.toArray ws.toArray n n2 dd dd2 sl sl2 (by simpa using hv) (by simp [hw])) ⟨ho, ho2, h1 hw⟩
 ·refine concat_meets ⟨_, ho, rfl⟩ ⟨_, ho2, rfl⟩ noFill_tuple_add seq_tuple_add PySem.F.slot_tuple_add PySem.F.entry_tuple_add (PySem.F.args_tuple_add_2 _ _)
   (tuple_addW2 t b vs.toArray ws.toArray n n2 dd dd2 sl sl2 (by simpa using hv) (by simpa using hw) (by rw [List.size_toArray, List.size_toArray]; exact hsz)) ⟨ho, ho2, ?_⟩
  rw [e]
  exact h2 hw
def sIx (n d : Nat) : Option Int -> Nat
 | none => d
 | some v => if v < 0 then (v + (n : Int)).toNat else min v.toNat n
theorem sIx_le (n d : Nat) (hd : d <= n) (o : Option Int) : sIx n d o <= n := by
 cases o with
 | none => exact hd
 | some v =>
  show (if v < 0 then (v + (n : Int)).toNat else min v.toNat n) <= n
  by_cases hv : v < 0
  ·rw [if_pos hv]; omega
  ·rw [if_neg hv]; exact Nat.min_le_right _ _
theorem clip_eq (v : Int) (n d : Nat) : (if v < 0 then max (v + (n : Int)) 0 else min v (n : Int)) = ((sIx n d (some v) : Nat) : Int) := by
 show (if v < 0 then max (v + (n : Int)) 0 else min v (n : Int)) = (((if v < 0 then (v + (n : Int)).toNat else min v.toNat n) : Nat) : Int)
 by_cases hv : v < 0
 ·simp only [if_pos hv]; omega
 ·simp only [if_neg hv]; omega
theorem adjust_gen (lo hi : Option Int) (n : Nat) : Builtin.Slice.sliceAdjust lo hi 1 (n : Int) = (((sIx n 0 lo : Nat) : Int), ((sIx n n hi : Nat) : Int)) := by
 have h1 : ¬ ((1 : Int) < 0) := by omega
 unfold Builtin.Slice.sliceAdjust
 simp only [h1, if_false]
 refine Prod.ext ?_ ?_
 ·cases lo with
  | none => rfl
  | some v => exact clip_eq v n 0
 ·cases hi with
  | none => rfl
  | some v => exact clip_eq v n n
theorem places_gen (i j : Nat) : Builtin.Slice.slicePlaces (i : Int) (j : Int) 1 = j - i := by
 unfold Builtin.Slice.slicePlaces
 have h1 : (1 : Int) > 0 := by omega
 simp only [h1, if_true, Int.ediv_one]
 split <;> omega
theorem slicePart_ {v : Value} {o : Option Int} {Q : Option Int -> Shared -> Prop} (p : IsPart v o) (h : Q o s) : wpAny (model prog w) A (Builtin.Slice.slicePartIndex v) Q E s := by
 cases p with
 | none => exact slicePart_none h
 | int i t => exact slicePart_int h
theorem sliceApplied_gen {sl : Addr} {vl vu : Value} {lo hi : Option Int} {n : Nat} {Q : Int × Int × Nat -> Shared -> Prop} (hs : s.heap.IsSliceOf sl vl vu .none) (pl : IsPart vl lo) (pu : IsPart vu hi)
  (h : Q (((sIx n 0 lo : Nat) : Int), 1, sIx n n hi - sIx n 0 lo) s) : wpAny (model prog w) A (Builtin.Slice.sliceApplied (.ref sl) (pure (n : Int))) Q E s := by
 obtain ⟨os, hos, hcs, hds⟩ := id hs
 unfold Builtin.Slice.sliceApplied Builtin.Slice.sliceFields
 refine wpAny_bind (wpAny_bind (wpAny_field hos hds (x := vl) rfl (wpAny_bind (wpAny_field hos hds (x := vu) rfl (wpAny_bind (wpAny_field hos hds (x := .none) rfl (wpAny_pure ?_)))))))
 refine wpAny_bind (slicePart_none ?_)
 show wpAny _ _ (if ((1 : Int) == 0) = true then _ else _) _ _ s
 rw [if_neg (by decide)]
 refine wpAny_bind (slicePart_ pl (wpAny_bind (slicePart_ pu (wpAny_bind (wpAny_pure ?_)))))
 show wpAny _ _ (match Builtin.Slice.sliceAdjust lo hi 1 (n : Int) with | (lo, hi) => pure (lo, (1 : Int), Builtin.Slice.slicePlaces lo hi 1)) _ _ s
 rw [adjust_gen lo hi n]
 show wpAny _ _ (pure (((sIx n 0 lo : Nat) : Int), (1 : Int), Builtin.Slice.slicePlaces ((sIx n 0 lo : Nat) : Int) ((sIx n n hi : Nat) : Int) 1)) _ _ s
 rw [places_gen]
 exact wpAny_pure h
theorem pick_gen (xs : Array Value) (i k : Nat) : ((List.range k).filterMap fun (m : Nat) => xs[((i : Int) + (m : Int) * 1).toNat]?).toArray = ((xs.toList.drop i).take k).toArray := by
 have e : (fun (m : Nat) => xs[((i : Int) + (m : Int) * 1).toNat]?) = fun m => xs[i + m]? := by
  funext m
  have : ((i : Int) + (m : Int) * 1).toNat = i + m := by omega
  rw [this]
 rw [e]
 have := pick_run xs i k
 rw [List.filterMap_map] at this
 have e2 : ((fun x => xs[x]?) ∘ fun x => i + x) = fun m => xs[i + m]? := rfl
 rw [e2] at this
 rw [this]
theorem getItem_tuple_cut {t sl : Addr} {items : Array Value} {vl vu : Value} {lo hi : Option Int} {Q : Value -> Shared -> Prop} (ht : IsTup s.heap t items) (hs : s.heap.IsSliceOf sl vl vu .none) (pl : IsPart vl lo) (pu : IsPart vu hi)
  (hw : ¬ (sIx items.size 0 lo = 0 /\ sIx items.size items.size hi = items.size))
  (h : Q (.ref s.heap.objs.size) { s with heap := s.heap.push { cls := .type "tuple", data := .seq ((items.toList.drop (sIx items.size 0 lo)).take (sIx items.size items.size hi - sIx items.size 0 lo)).toArray } })
  (hsz : items.size <= sizeLine) : wpAny (model prog w) A (getItem (.ref t) (.ref sl)) Q E s := by
 have htake : sizeOk (.seq ((items.toList.drop (sIx items.size 0 lo)).take (sIx items.size items.size hi - sIx items.size 0 lo)).toArray) := by
  show ((items.toList.drop (sIx items.size 0 lo)).take (sIx items.size items.size hi - sIx items.size 0 lo)).toArray.size <= sizeLine
  rw [List.size_toArray, List.length_take, List.length_drop, Array.length_toList]
  omega
 have hj : sIx items.size items.size hi <= items.size := sIx_le _ _ (Nat.le_refl _) hi
 obtain ⟨os, hos, hcs, hds⟩ := id hs
 have hTs : s.TypeIs (.ref sl) "slice" := ⟨os, hos, hcs⟩
 unfold getItem
 try with_reducible refine wpAny_holding ?_
 first | refine wpAny_bind (wpAny_pure ?_) | skip
 refine wpAny_bind (wpAny_sequenceKey ht.typeIs (by decide) ?_)
 refine wpAny_bind (wpAny_callSpecial?_slot (name := Str.ofString "__getitem__") ht.typeIs PyProof.Rows.slot_tuple_getitem
  (wpAny_call_entry PyProof.Rows.slot_tuple_getitem ht.typeIs entry_tuple_getitem ?_ (args_tuple_getitem _ _)))
 show wpAny _ _ (Builtin.Tuple.tupleItemsOf (.ref t) >>= _) _ _ s
 refine wpAny_bind (tupleItemsOf_ ht ?_)
 refine wpAny_bind (wpAny_typeOf hTs ?_)
 rw [if_pos (by decide)]
 refine wpAny_bind (sliceApplied_gen hs pl pu ?_)
 have hno : ¬ ((((sIx items.size 0 lo : Nat) : Int) == 0 && (1 : Int) == 1 && (sIx items.size items.size hi - sIx items.size 0 lo) == items.size) = true) := by
  intro q
  rw [Bool.and_eq_true, Bool.and_eq_true] at q
  have q1 : ((sIx items.size 0 lo : Nat) : Int) = 0 := eq_of_beq q.1.1
  have q2 : sIx items.size items.size hi - sIx items.size 0 lo = items.size := eq_of_beq q.2
  exact hw ⟨by omega, by omega⟩
 show wpAny _ _ (if (((sIx items.size 0 lo : Nat) : Int) == 0 && (1 : Int) == 1 && (sIx items.size items.size hi - sIx items.size 0 lo) == items.size) = true then _ else _) _ _ s
 rw [if_neg hno, pick_gen]
 first
  | exact wpAny_bind (m := Builtin.Tuple.tupleExact _) (wpAny_newObj_type (wpAny_pure ⟨_, rfl, wpAny_pure h⟩) htake)
  | exact wpAny_bind (m := Builtin.Tuple.tupleExact _) (wpAny_newObj_type (wpAny_bind (wpAny_pure (wpAny_pure ⟨_, rfl, wpAny_pure h⟩))) htake)
  | exact wpAny_bind (wpAny_bind (m := Builtin.Tuple.tupleExact _) (wpAny_newObj_type (wpAny_pure (wpAny_pure ⟨_, rfl, wpAny_pure h⟩)) htake))
  | exact wpAny_bind (wpAny_bind (m := Builtin.Tuple.tupleExact _) (wpAny_newObj_type (wpAny_pure ⟨_, rfl, wpAny_pure h⟩) htake))
end
end HT
namespace L2
open PySem PySem.Spec PyProof.Rows
abbrev TO := St -> Hp -> (Option Int -> Hp -> Prop) -> Prop
def PO (X : Cx) (e : Option Expr) (t : TO) : Prop :=
 ∀ (pins : List (Addr × Obj)) (s : Shared) (σ : St) (H : Hp) (Q : Option Int -> Hp -> Prop), Inv X pins σ H s -> t σ H Q ->
  wpAny (model X.prog X.w) X.A (evalPart e X.env) (fun u s' => ∃ o H', Inv X pins σ H' s' /\ IsPart u o /\ Q o H') X.xe s
def tNoPart : TO := fun _ H Q => Q none H
def tPart (t : TE) : TO := fun σ H Q => t σ H fun x H1 => ∃ i, x = .int i /\ Q (some i) H1
section
variable {X : Cx} {e : Expr} {te : TE} {lo hi : Option Expr} {tl th : TO} {pos p2 : Pos}
theorem po_none : PO X none tNoPart := by
 intro pins s σ H Q I h
 rw [evalPart_none]
 exact wpAny_pure ⟨none, H, I, .none, h⟩
theorem po_some (h : PE X e te) : PO X (some e) (tPart te) := by
 intro pins s σ H Q I hw
 rw [evalPart_some]
 refine thn (h pins s σ H _ I hw) fun u s1 ⟨x, H1, I1, r1, q1⟩ => ?_
 obtain ⟨i, rfl, q⟩ := q1
 obtain ⟨t, rfl⟩ := r1
 exact ⟨some i, H1, I1, .int i t, q⟩
def SlR (X : Cx) (r : V -> Option Int -> Option Int -> Hp -> VK -> Prop) : Prop :=
 ∀ (pins : List (Addr × Obj)) (s : Shared) (σ : St) (H : Hp) (x : V) (v vl vu : Value) (lo hi : Option Int) (sl : Addr) (Q : VK), Inv X pins σ H s -> RelV x v -> s.heap.IsSliceOf sl vl vu .none -> IsPart vl lo -> IsPart vu hi -> r x lo hi H Q ->
  ∃ T id, typeLookup (.type T) "__getitem__" = pure (some (.builtin id)) /\ s.TypeIs v T /\ wpAny (model X.prog X.w) X.A (getItem v (.ref sl)) (EP X pins σ Q) X.xe s
def tSl (r : V -> Option Int -> Option Int -> Hp -> VK -> Prop) (te : TE) (tl th : TO) : TE := fun σ H Q => te σ H fun x H1 => tl σ H1 fun l H2 => th σ H2 fun u H3 => r x l u H3 Q
theorem pe_slice {r : V -> Option Int -> Option Int -> Hp -> VK -> Prop} (hr : SlR X r) (he : PE X e te) (hl : PO X lo tl) (hu : PO X hi th) : PE X (.Subscript e (.Slice lo hi none p2) pos) (tSl r te tl th) := by
 intro pins s σ H Q I h
 refine Subscript_ (thn (he pins s σ H _ I h) fun v s1 ⟨x, H1, I1, r1, q1⟩ => ?_)
 refine wpAny_Slice (thn (hl pins s1 σ H1 _ I1 q1) fun vl s2 ⟨l, H2, I2, pl, q2⟩ => thn (hu pins s2 σ H2 _ I2 q2) fun vu s3 ⟨u, H3, I3, pu, q3⟩ => ?_)
 rw [evalPart_none]
 refine wpAny_pure ?_
 have I4 : Inv X pins σ H3 { s3 with heap := s3.heap.push { cls := .type "slice", data := .fields #[vl, vu, .none] } } := I3.kept (t' := s3.toks) fun b ob q => Heap.get?_push_of_some _ q
 obtain ⟨T, id, hT, ht, hg⟩ := hr pins { s3 with heap := s3.heap.push { cls := .type "slice", data := .fields #[vl, vu, .none] } } σ H3 x v vl vu l u s3.heap.objs.size Q I4 r1 (Heap.IsSliceOf.new ..) pl pu q3
 show wpAny (model X.prog X.w) X.A (subscriptTail e (.Slice lo hi none p2) v (.ref s3.heap.objs.size)) (EP X pins σ Q) X.xe { s3 with heap := s3.heap.push { cls := .type "slice", data := .fields #[vl, vu, .none] } }
 exact tail_any (ops := [.ref s3.heap.objs.size, v]) ht hT hg (by with_unfolding_all rfl)
def cutV (xs : List V) (lo hi : Option Int) : List V := (xs.drop (HT.sIx xs.length 0 lo)).take (HT.sIx xs.length xs.length hi - HT.sIx xs.length 0 lo)
theorem cutV_length (xs : List V) (lo hi : Option Int) : (cutV xs lo hi).length <= xs.length := by
 unfold cutV
 rw [List.length_take, List.length_drop]
 omega
def rSlT (K : W.Frag) : V -> Option Int -> Option Int -> Hp -> VK -> Prop := fun x lo hi H Q => ∃ a xs, x = .ref a /\ SqT K H a xs /\
 ¬ (HT.sIx xs.length 0 lo = 0 /\ HT.sIx xs.length xs.length hi = xs.length) /\ ∀ p, H p = none -> Q (.ref p) (upd H p (.tup (cutV xs lo hi)))
theorem sl_tup : SlR X (rSlT X.K) := by
 intro pins s σ H x v vl vu lo hi sl Q I rx hs pl pu h
 obtain ⟨a, xs, rfl, hx, hw, q⟩ := h
 cases rx
 obtain ⟨its, r, ht, hz⟩ := I.tuple hx
 have hlen : its.toArray.size = xs.length := by rw [List.size_toArray]; exact r.length.symm
 refine ⟨"tuple", _, PyProof.Rows.slot_tuple_getitem.lookup, ht.typeIs, ?_⟩
 refine HT.getItem_tuple_cut ht hs pl pu (by rw [hlen]; exact hw) ?_ (by rw [hlen]; exact hz)
 rw [hlen]
 refine ⟨.ref s.heap.objs.size, _, I.laid (t' := s.toks) (o := .tup (cutV xs lo hi)) (fun b ob q => Heap.get?_push_of_some _ q) (Nat.le_refl _) ?_, rfl, q _ (I.hok.fresh (Nat.le_refl _))⟩
 exact ⟨Nat.le_trans (cutV_length xs lo hi) hz, _, (r.drop (HT.sIx xs.length 0 lo)).take (HT.sIx xs.length xs.length hi - HT.sIx xs.length 0 lo), IsTup.new _ _⟩
def rCatT (K : W.Frag) : R2 := fun x y H Q => ∃ a b xs ys, x = .ref a /\ y = .ref b /\ SqT K H a xs /\ SqT K H b ys /\ xs ≠ [] /\ xs.length + ys.length <= sizeLine /\
 (ys = [] -> Q (.ref a) H) /\ (ys ≠ [] -> ∀ p, H p = none -> Q (.ref p) (upd H p (.tup (xs ++ ys))))
theorem Vals.nil_iff {xs : List V} {us : List Value} (r : Vals xs us) : us = [] ↔ xs = [] := by
 cases r with
 | nil => simp
 | cons _ _ => simp
theorem op_catT : OpR X (binaryOp .Add) (rCatT X.K) := by
 intro pins s σ H x y v u Q I rx ry h
 obtain ⟨a, b, xs, ys, rfl, rfl, ha, hb, hx, hz, q1, q2⟩ := h
 cases rx
 cases ry
 obtain ⟨its, r1, p1, _⟩ := I.tuple ha
 obtain ⟨its2, r2, p2, _⟩ := I.tuple hb
 refine HT.cat_tup p1 p2 (fun z => hx (r1.nil_iff.mp z)) (fun z => ⟨.ref a, H, I, rfl, q1 (r2.nil_iff.mp z)⟩) (fun z => ?_) (by rw [<- r1.length, <- r2.length]; exact hz)
 refine ⟨.ref s.heap.objs.size, _, I.laid (t' := s.toks) (o := .tup (xs ++ ys)) (fun b ob q => Heap.get?_push_of_some _ q) (Nat.le_refl _) ?_, rfl, q2 (fun w => z (r2.nil_iff.mpr w)) _ (I.hok.fresh (Nat.le_refl _))⟩
 exact ⟨by rw [List.length_append]; exact hz, _, r1.append r2, IsTup.new _ _⟩
end
end L2
namespace L2
open PySem PySem.Spec PyProof.Rows
def ixN (n : Nat) (i : Int) : Option Nat := if 0 <= i then (if i < n then some i.toNat else none) else if -(n : Int) <= i then some (i + n).toNat else none
def atI {α : Type} (xs : List α) (i : Int) : Option α := (ixN xs.length i).bind fun j => xs[j]?
theorem ixN_seq {n : Nat} {i : Int} {j : Nat} (h : ixN n i = some j) : seqIndex? i n = some j /\ j < n /\ -(n : Int) <= i /\ i < n := by
 unfold ixN at h
 by_cases h0 : 0 <= i
 ·rw [if_pos h0] at h
  by_cases h1 : i < n
  ·rw [if_pos h1] at h
   have e : i.toNat = j := Option.some.inj h
   exact ⟨by rw [seqIndex_of h0 h1, e], by omega, by omega, h1⟩
  ·rw [if_neg h1] at h; cases h
 ·rw [if_neg h0] at h
  by_cases h1 : -(n : Int) <= i
  ·rw [if_pos h1] at h
   have e : (i + n).toNat = j := Option.some.inj h
   exact ⟨by rw [seqIndex_neg (by omega) h1, e], by omega, h1, by omega⟩
  ·rw [if_neg h1] at h; cases h
theorem atI_get {α : Type} {xs : List α} {i : Int} {v : α} (h : atI xs i = some v) : ∃ j, seqIndex? i xs.length = some j /\ xs[j]? = some v /\ j < xs.length /\ -(xs.length : Int) <= i /\ i < xs.length := by
 unfold atI at h
 cases e : ixN xs.length i with
 | none => rw [e] at h; cases h
 | some j =>
  rw [e] at h
  obtain ⟨h1, h2, h3, h4⟩ := ixN_seq e
  exact ⟨j, h1, h, h2, h3, h4⟩
theorem atI_nat {α : Type} {xs : List α} {j : Nat} {v : α} (h : xs[j]? = some v) : atI xs (j : Int) = some v := by
 have hj : j < xs.length := (List.getElem?_eq_some_iff.mp h).1
 have e : ixN xs.length (j : Int) = some j := by
  unfold ixN
  rw [if_pos (by omega), if_pos (by omega)]; simp
 unfold atI; rw [e]; exact h
def PlainIx (b : Expr) : Prop := ∀ o i, subscripted b false o i = operate [o, i] (getItem o i)
def IxR (X : Cx) (r : R2) : Prop :=
 ∀ (value slice : Expr) (pins : List (Addr × Obj)) (s : Shared) (σ : St) (H : Hp) (x y : V) (v u : Value) (Q : VK), Inv X pins σ H s -> RelV x v -> RelV y u -> r x y H Q ->
  subscripted slice false v u = operate [v, u] (getItem v u) -> wpAny (model X.prog X.w) X.A (subscriptTail value slice v u) (EP X pins σ Q) X.xe s
def MtR (X : Cx) (id : String) (r : V -> List V -> Hp -> VK -> Prop) : Prop :=
 ∀ (pins : List (Addr × Obj)) (s : Shared) (σ : St) (H : Hp) (x : V) (xs : List V) (v : Value) (us : List Value) (Q : VK), Inv X pins σ H s -> RelV x v -> Vals xs us -> r x xs H Q ->
  wpAny (model X.prog X.w) X.A (call (.builtin id) (v :: us)) (EP X pins σ Q) X.xe s
section
variable {X : Cx} {a b : Expr} {ta tb : TE} {pos : Pos}
theorem IxR.or {r r' : R2} (h : IxR X r) (h' : IxR X r') : IxR X (fun x y H Q => r x y H Q \/ r' x y H Q) := by
 intro value slice pins s σ H x y v u Q I rx ry q hs
 rcases q with q | q
 ·exact h value slice pins s σ H x y v u Q I rx ry q hs
 ·exact h' value slice pins s σ H x y v u Q I rx ry q hs
theorem pe_ix {r : R2} (hr : IxR X r) (ha : PE X a ta) (hb : PE X b tb) (hs : PlainIx b) : PE X (.Subscript a b pos) (tOp r ta tb) := by
 intro pins s σ H Q I h
 exact Subscript_ (binT ha hb I h fun v u s2 x y H2 I2 rx ry q => hr a b pins s2 σ H2 x y v u Q I2 rx ry q (hs _ _))
def rIxL (K : W.Frag) : R2 := fun x y H Q => ∃ p xs i v, x = .ref p /\ y = .int i /\ SqL K H p xs /\ atI xs i = some v /\ Q v H
def rIxT (K : W.Frag) : R2 := fun x y H Q => ∃ p xs i v, x = .ref p /\ y = .int i /\ SqT K H p xs /\ atI xs i = some v /\ Q v H
def rIxS : R2 := fun x y H Q => ∃ z i c, x = .str z /\ y = .int i /\ z.length <= sizeLine /\ atI z.cps.toList i = some c /\ Q (.str ⟨#[c]⟩) H
theorem ix_list : IxR X (rIxL X.K) := by
 intro value slice pins s σ H x y v u Q I rx ry h hs
 obtain ⟨p, xs, i, z, rfl, rfl, hq, he, q⟩ := h
 cases rx
 obtain ⟨t, rfl⟩ := ry
 obtain ⟨its, r, pl, hz⟩ := I.list hq
 obtain ⟨j, h1, h2, h3, h4, h5⟩ := atI_get he
 obtain ⟨w, ew, rw'⟩ := r.get h2
 have hl := r.length
 have hn := line63
 have fin : EP X pins σ Q w s := ⟨z, H, I, rw', q⟩
 by_cases h0 : 0 <= i
 ·have hj : i.toNat = j := by
   rw [seqIndex_of h0 h5] at h1
   exact Option.some.inj h1
  exact item_listR pl.isList h0 (by omega) (by rw [hj]; simpa using ew) fin hs
 ·have hj : (i + (its.toArray.size : Int)).toNat = j := by
   rw [seqIndex_neg (by omega) h4] at h1
   rw [List.size_toArray, <- hl]
   exact Option.some.inj h1
  exact subscriptTail_builtinR (x := w) pl.isList.typeIs slot_list_getitem.lookup
   (wpAny_getItem_list_neg (Q := fun r s' => r = w /\ EP X pins σ Q r s') pl.isList (by omega) (by rw [List.size_toArray] <;> omega) (by omega) (by rw [hj]; simpa using ew) ⟨rfl, fin⟩) hs
theorem ix_tup : IxR X (rIxT X.K) := by
 intro value slice pins s σ H x y v u Q I rx ry h hs
 obtain ⟨p, xs, i, z, rfl, rfl, hq, he, q⟩ := h
 cases rx
 obtain ⟨t, rfl⟩ := ry
 obtain ⟨its, r, pl, hz⟩ := I.tuple hq
 obtain ⟨j, h1, h2, h3, h4, h5⟩ := atI_get he
 obtain ⟨w, ew, rw'⟩ := r.get h2
 have hl := r.length
 have hn := line63
 have fin : EP X pins σ Q w s := ⟨z, H, I, rw', q⟩
 exact subscriptTail_builtinR (x := w) pl.typeIs slot_tuple_getitem.lookup
  (getItem_tuple (j := j) (Q := fun r s' => r = w /\ EP X pins σ Q r s') pl (by omega) (by omega) (by rw [List.size_toArray, <- hl]; exact h1) (by simpa using ew) ⟨rfl, fin⟩) hs
theorem ix_str : IxR X rIxS := by
 intro value slice pins s σ H x y v u Q I rx ry h hs
 obtain ⟨z, i, c, rfl, rfl, hz, he, q⟩ := h
 obtain ⟨t, rfl⟩ := rx
 obtain ⟨t', rfl⟩ := ry
 obtain ⟨j, h1, h2, h3, h4, h5⟩ := atI_get he
 have hl : z.cps.toList.length = z.length := by simp [Str.length]
 rw [hl] at h1 h4 h5
 have hn := line63
 exact tail_any (typeIs_str s z t) slot_str_getitem.lookup (getItem_str (c := c) (by
  have e1 : decide (i < -(2 ^ 63 : Int)) = false := decide_eq_false (by omega)
  have e2 : decide (i >= 2 ^ 63) = false := decide_eq_false (by omega)
  rw [e1, e2, Bool.or_false]) (by rw [h1]; simpa using h2) ⟨.str ⟨#[c]⟩, H, I.tok _, ⟨_, rfl⟩, q⟩) hs
def rIx (K : W.Frag) : R2 := fun x y H Q => rIxL K x y H Q \/ rIxT K x y H Q \/ rIxS x y H Q
theorem ix_seq : IxR X (rIx X.K) := ix_list.or (ix_tup.or ix_str)
theorem mapSeq_set (its : List Value) (n j : Nat) (u : Value) : Obj.mapSeq (·.setIfInBounds j u) { cls := .type "list", data := .seq its.toArray n } = { cls := .type "list", data := .seq (its.set j u).toArray n } := by
 simp [Obj.mapSeq]
theorem Inv.lst {pins : List (Addr × Obj)} {σ : St} {H : Hp} {s : Shared} {p : Addr} {xs : List V} (I : Inv X pins σ H s) (h : H p = some (.lst xs)) :
  ∃ (its : List Value) (n : Nat), Vals xs its /\ s.heap.get? p = some { cls := .type "list", data := .seq its.toArray n } /\ xs.length <= sizeLine := by
 obtain ⟨z, its, n, r, e⟩ := I.hok p _ h
 exact ⟨its, n, r, e, z⟩
theorem Inv.lstUpd {pins : List (Addr × Obj)} {σ : St} {H : Hp} {s : Shared} {p : Addr} {xs ys : List V} {its its' : List Value} {n n' : Nat} {f : Obj -> Obj} (I : Inv X pins σ H s) (h : H p = some (.lst xs))
  (ho : s.heap.get? p = some { cls := .type "list", data := .seq its.toArray n }) (hf : f { cls := .type "list", data := .seq its.toArray n } = { cls := .type "list", data := .seq its'.toArray n' }) (r : Vals ys its') (hz : ys.length <= sizeLine) (t : Nat) :
  Inv X pins σ (upd H p (.lst ys)) { s with heap := s.heap.update p f, toks := t } := by
 have e : (s.heap.update p f).get? p = some { cls := .type "list", data := .seq its'.toArray n' } := by
  rw [Heap.get?_update_self f ho (by rw [hf] <;> rfl), hf]
 refine I.write (x := p) (e := p) (by rw [h]; trivial) (.inl rfl) (fun b u hb q => (Heap.get?_update_other _ _ (Ne.symm hb)).trans q) ⟨_, e⟩ ?_
 exact ⟨hz, its', n', r, e⟩
def rSetL : V -> V -> V -> Hp -> (Hp -> Prop) -> Prop := fun o i v H Q => ∃ p xs k j, o = .ref p /\ i = .int k /\ H p = some (.lst xs) /\ ixN xs.length k = some j /\ Q (upd H p (.lst (xs.set j v)))
theorem set_list : PSet X rSetL := by
 intro pins s σ H o i v ov iv u Q I ro ri rv h
 obtain ⟨p, xs, k, j, rfl, rfl, hp, hj, q⟩ := h
 cases ro
 obtain ⟨t, rfl⟩ := ri
 obtain ⟨its, n, r, ho, hz⟩ := I.lst hp
 obtain ⟨h1, h2, h3, h4⟩ := ixN_seq hj
 have hl := r.length
 have hn := line63
 have I' : Inv X pins σ (upd H p (.lst (xs.set j v))) { s with heap := s.heap.update p (Obj.mapSeq (·.setIfInBounds j u)) } :=
  I.lstUpd hp ho (mapSeq_set its n j u) (r.set rv j) (by rw [List.length_set]; exact hz) s.toks
 by_cases h0 : 0 <= k
 ·have hk : k.toNat = j := by
   rw [seqIndex_of h0 h4] at h1
   exact Option.some.inj h1
  exact W.ki_setAt ho h0 (by omega) (by rw [List.size_toArray, <- hl]; exact h4) (by rw [hk]; exact ⟨_, I', q⟩)
 ·have hk : (k + (its.toArray.size : Int)).toNat = j := by
   rw [seqIndex_neg (by omega) h3] at h1
   rw [List.size_toArray, <- hl]
   exact Option.some.inj h1
  exact W.ki_setBack ho (by omega) (by rw [List.size_toArray, <- hl]; exact h3) (by omega) (by rw [hk]; exact ⟨_, I', q⟩)
theorem call_len_seq : CallR X (.builtin "len") (fun xs H Q => ∃ p ys, xs = [.ref p] /\ (SqL X.K H p ys \/ SqT X.K H p ys) /\ Q (.int ys.length) H) := by
 intro pins s σ H xs us Q I r h
 obtain ⟨p, ys, rfl, hq, q⟩ := h
 obtain ⟨u, rfl, rx⟩ := vals1 r
 cases rx
 have hn := line63
 rcases hq with hq | hq
 ·obtain ⟨its, r', pl, hz⟩ := I.list hq
  have hlen := r'.length
  exact Calls.call_len_list pl.isList (by simp only [List.size_toArray] <;> omega) ⟨.int ys.length, H, I.tok _, ⟨s.toks + 1, by rw [List.size_toArray, hlen]⟩, q⟩
 ·obtain ⟨its, r', pl, hz⟩ := I.tuple hq
  have hlen := r'.length
  exact len_tuple pl (by simp only [List.size_toArray] <;> omega) ⟨.int ys.length, H, I.tok _, ⟨s.toks + 1, by rw [List.size_toArray, hlen]⟩, q⟩
theorem call_list_of : CallR X (.type "list") (fun xs H Q => ∃ p ys, xs = [.ref p] /\ (SqL X.K H p ys \/ SqT X.K H p ys) /\ ∀ l, H l = none -> Q (.ref l) (upd H l (.lst ys))) := by
 intro pins s σ H xs us Q I r h
 obtain ⟨p, ys, rfl, hq, q⟩ := h
 obtain ⟨u, rfl, rx⟩ := vals1 r
 cases rx
 have fin : ∀ (its : List Value), Vals ys its -> ys.length <= sizeLine -> ∀ (h' : Heap) (c' : Nat), (∀ b o', s.heap.get? b = some o' -> h'.get? b = some o') ->
   h'.get? s.heap.objs.size = some { cls := .type "list", dict := none, data := .seq its.toArray c', slots := #[] } -> EP X pins σ Q (.ref s.heap.objs.size) { s with heap := h' } := fun its r' hz h' c' kp e =>
  ⟨.ref s.heap.objs.size, _, I.laid (t' := s.toks) kp (Nat.le_refl _) (show ObjOk X.prog X.w _ h' _ (.lst ys) from ⟨hz, its, c', r', e⟩), rfl, q _ (I.hok.fresh (Nat.le_refl _))⟩
 rcases hq with hq | hq
 ·obtain ⟨its, r', pl, hz⟩ := I.list hq
  have hlen := r'.length
  obtain ⟨o, ho, hc, n, hd⟩ := pl.isList
  exact call_list_seq p (.inl rfl) ho hc hd (fun h' c' kp e => fin its r' hz h' c' kp e) (by simp only [List.size_toArray] <;> omega)
 ·obtain ⟨its, r', pl, hz⟩ := I.tuple hq
  have hlen := r'.length
  obtain ⟨o, ho, hc, n, hd⟩ := pl
  exact call_list_seq p (.inr rfl) ho hc hd (fun h' c' kp e => fin its r' hz h' c' kp e) (by simp only [List.size_toArray] <;> omega)
theorem call_tuple_of : CallR X (.type "tuple") (fun xs H Q => ∃ p ys, xs = [.ref p] /\ ((SqL X.K H p ys /\ ∀ l, H l = none -> Q (.ref l) (upd H l (.tup ys))) \/ (SqT X.K H p ys /\ Q (.ref p) H))) := by
 intro pins s σ H xs us Q I r h
 obtain ⟨p, ys, rfl, h⟩ := h
 obtain ⟨u, rfl, rx⟩ := vals1 r
 cases rx
 rcases h with ⟨hq, q⟩ | ⟨hq, q⟩
 ·obtain ⟨its, r', pl, hz⟩ := I.list hq
  have hlen := r'.length
  refine call_tuple_list pl.isList (fun h' kp => ?_) (by simp only [List.size_toArray] <;> omega)
  have I1 : Inv X pins σ H { s with heap := h' } := I.kept (t' := s.toks) kp
  have I2 : Inv X pins σ (upd H h'.objs.size (.tup ys)) { s with heap := h'.push { cls := .type "tuple", data := .seq its.toArray } } :=
   I1.laid (t' := s.toks) (fun b o e => Heap.get?_push_of_some _ e) (Nat.le_refl _) (show ObjOk X.prog X.w _ _ _ (.tup ys) from ⟨hz, its, r', IsTup.new _ _⟩)
  exact ⟨.ref h'.objs.size, _, I2, rfl, q _ (I1.hok.fresh (Nat.le_refl _))⟩
 ·obtain ⟨its, r', pl, hz⟩ := I.tuple hq
  exact call_tuple_same pl ⟨.ref p, H, I, rfl, q⟩
def tyV (K : W.Frag) (T : String) (x : V) (H : Hp) : Prop := match x with
 | .str _ => T = "str"
 | .int _ => T = "int"
 | .ref p => (T = "list" /\ ∃ xs, SqL K H p xs) \/ (T = "tuple" /\ ∃ o, K.lookup p = some o /\ o.cls = .type "tuple" /\ o.dict = none) \/
   (T = "dict" /\ ((∃ kvs, H p = some (.dK kvs)) \/ ∃ kvs, H p = some (.dT kvs))) \/ (T = "set" /\ ∃ S n, H p = some (.set S n))
 | _ => False
theorem tyV_is {pins : List (Addr × Obj)} {σ : St} {H : Hp} {s : Shared} {T : String} {x : V} {v : Value} (I : Inv X pins σ H s) (r : RelV x v) (ty : tyV X.K T x H) :
  s.TypeIs v T /\ ∀ a, v = .ref a -> ∃ ob, s.heap.get? a = some ob /\ ob.dict = none := by
 cases x with
 | str z =>
  obtain ⟨t, rfl⟩ := r
  cases (show T = "str" from ty)
  exact ⟨typeIs_str s z t, fun _ e => nomatch e⟩
 | int i =>
  obtain ⟨t, rfl⟩ := r
  cases (show T = "int" from ty)
  exact ⟨typeIs_int s i t, fun _ e => nomatch e⟩
 | ref p =>
  cases r
  rcases ty with ⟨rfl, xs, hq⟩ | ⟨rfl, o, hk, hc, hd⟩ | ⟨rfl, hk⟩ | ⟨rfl, S, n, hk⟩
  ·obtain ⟨its, _, pl, _⟩ := I.list hq
   refine ⟨pl.isList.typeIs, fun a e => ?_⟩
   cases e
   obtain ⟨o, n, e, c, hd, _⟩ := pl
   exact ⟨o, e, hd⟩
  ·refine ⟨⟨o, I.kIn p o hk, hc⟩, fun a e => ?_⟩
   cases e
   exact ⟨o, I.kIn _ o hk, hd⟩
  ·have z : ∃ o, s.heap.get? p = some o /\ o.ExactDict := by
    rcases hk with ⟨kvs, hk⟩ | ⟨kvs, hk⟩
    ·obtain ⟨_, _, _, _, o, _, _, e, ex, _⟩ := I.hok p _ hk
     exact ⟨o, e, ex⟩
    ·obtain ⟨_, _, _, _, o, _, _, e, ex, _⟩ := I.hok p _ hk
     exact ⟨o, e, ex⟩
   obtain ⟨o, e, ex⟩ := z
   refine ⟨⟨o, e, ex.1⟩, fun a e2 => ?_⟩
   cases e2
   exact ⟨o, e, ex.2.1⟩
  ·obtain ⟨o, _, _, _, e, ex, _⟩ := I.hok p _ hk
   refine ⟨⟨o, e, ex.1⟩, fun a e2 => ?_⟩
   cases e2
   exact ⟨o, e, ex.2.1⟩
 | _ => exact False.elim ty
def tBM (K : W.Frag) (T : String) (r : V -> List V -> Hp -> VK -> Prop) (to : TE) (t : TA) : TE := fun σ H Q => to σ H fun x H1 => tyV K T x H1 /\ t σ H1 fun xs H2 => r x xs H2 Q
variable {o e : Expr} {es : List Expr} {to : TE} {t : TA} {name : Str} {apos cpos : Pos} {T id : String} {r : V -> List V -> Hp -> VK -> Prop}
theorem pe_bm (pa : PlainAttrs T) (slot : Slot T name id) (hty : typeOf (.builtin id) = pure (.type "method_descriptor")) (hm : MtR X id r) (ho : PE X o to) (ha : PA X (e :: es) t)
  (hbase : attributeBase o name X.env (eval o X.env) = eval o X.env := by rfl)
  (hfew : ((backTo cpos (starEach (e :: es) X.env)).all (fun x => !x.1) && (backToKw cpos (keywordEach [] X.env)).all (fun x => x.1.isSome)
   && decide ((e :: es).length + ([] : List Keyword).length + (if ([] : List Keyword).isEmpty then 0 else 1) < 30)) = true := by rfl)
  (hline : (apos.endLine == cpos.line) = true := by rfl) (hs : starEach (e :: es) X.env = (false, eval e X.env) :: starEach es X.env := by rfl) (hplain : (backTo cpos (starEach es X.env)).any (·.1) = false := by rfl) :
  PE X (.Call (.Attribute o name apos) (e :: es) [] cpos) (tBM X.K T r to t) := by
 intro pins s σ H Q I h
 refine wpAny_Call_method_late hbase hfew hline rfl (thn (ho pins s σ H _ I h) fun v s1 ⟨x, H1, I1, r1, ty, q1⟩ => ?_)
 obtain ⟨h1, h2⟩ := tyV_is I1 r1 ty
 refine ⟨T, id, pa, slot, hty, h1, h2, ?_⟩
 have hA := ha cpos pins s1 σ H1 _ I1 q1
 rw [hs] at hA ⊢
 refine Calls.callWith_builtin (by show (false || (backTo cpos (starEach es X.env)).any (·.1)) = false; rw [hplain] <;> rfl) (Calls.evalArgs_plain ?_)
 exact thn hA fun us s2 ⟨vs, H2, I2, r2, q2⟩ => hm pins s2 σ H2 x vs v us Q I2 r1 r2 q2
/- xs.append(e), list.index on a module's tuple .. are MtR facts of 06m -/
end
end L2
namespace L2
open PySem PySem.Spec PyProof.Rows
def MtM (X : Cx) (id : String) (r : V -> List V -> Hp -> VK -> Prop) : Prop :=
 ∀ (pins : List (Addr × Obj)) (s : Shared) (σ : St) (H : Hp) (x : V) (xs : List V) (v : Value) (us : List Value) (Q : VK), Inv X pins σ H s -> RelV x v -> Vals xs us -> r x xs H Q ->
  wpAny (model X.prog X.w) X.A (call (.builtin id) (v :: us)) (EP X pins σ Q) X.xe s
theorem Vals.one : ∀ {x : V} {us : List Value}, Vals [x] us -> ∃ u, us = [u] /\ RelV x u
 | _, _, .cons r .nil => ⟨_, rfl, r⟩
theorem Vals.two : ∀ {x y : V} {us : List Value}, Vals [x, y] us -> ∃ u v, us = [u, v] /\ RelV x u /\ RelV y v
 | _, _, _, .cons r (.cons q .nil) => ⟨_, _, rfl, r, q⟩
section
variable {X : Cx} {pins : List (Addr × Obj)} {σ : St} {H : Hp} {s : Shared} {l b : Addr} {xs ys zs : List V}
theorem Inv.lset {its its' : List Value} {n : Nat} {f : Array Value -> Array Value} {t' : Nat} (I : Inv X pins σ H s) (hH : H l = some (.lst xs))
  (e : s.heap.get? l = some { cls := .type "list", data := .seq its.toArray n }) (hf : f its.toArray = its'.toArray) (hv : Vals ys its') (hz : ys.length <= sizeLine) :
  Inv X pins σ (upd H l (.lst ys)) { s with heap := s.heap.update l (Obj.mapSeq f), toks := t' } := by
 have q := PySem.IsL.update e f
 rw [hf] at q
 refine I.write (x := l) (e := l) (by rw [hH]; exact trivial) (.inl rfl) (fun b' u hb hu => (Heap.get?_update_other s.heap (Obj.mapSeq f) (Ne.symm hb)).trans hu) ⟨_, q⟩ ?_
 exact ⟨hz, its', _, hv, q⟩
theorem Inv.lnew {its : List Value} {t' : Nat} (I : Inv X pins σ H s) (hv : Vals ys its) (hz : ys.length <= sizeLine) :
  Inv X pins σ (upd H s.heap.objs.size (.lst ys)) { s with heap := s.heap.push { cls := .type "list", data := .seq its.toArray }, toks := t' } :=
 I.laid (fun _ _ q => Heap.get?_push_of_some _ q) (Nat.le_refl _) ⟨hz, its, 0, hv, Heap.get?_push_size _ rfl⟩
theorem Inv.fresh (I : Inv X pins σ H s) : H s.heap.objs.size = none := I.hok.fresh (Nat.le_refl _)
theorem Inv.lstM (I : Inv X pins σ H s) (hH : H l = some (.lst xs)) : xs.length <= sizeLine /\ ∃ (its : List Value) (n : Nat), Vals xs its /\ xs.length = its.length /\ s.heap.get? l = some { cls := .type "list", data := .seq its.toArray n } := by
 obtain ⟨z, its, n, r, e⟩ := I.hok l _ hH
 exact ⟨z, its, n, r, r.length, e⟩
theorem notLongL {n : Nat} (h : n <= sizeLine) : Builtin.List.listTooLong n = false := by
 unfold Builtin.List.listTooLong
 exact decide_eq_false (by omega)
end
section
variable {X : Cx}
def rAppend : V -> List V -> Hp -> VK -> Prop := fun x vs H Q => ∃ l xs y, x = .ref l /\ vs = [y] /\ H l = some (.lst xs) /\ xs.length < sizeLine /\ Q .non (upd H l (.lst (xs ++ [y])))
theorem mt_append : MtM X "list.append" rAppend := by
 intro pins s σ H x vs v us Q I rx rv h
 obtain ⟨l, xs, y, rfl, rfl, hH, hz, q⟩ := h
 cases rx
 obtain ⟨u, rfl, ru⟩ := rv.one
 obtain ⟨z, its, n, r, hl, e⟩ := I.lstM hH
 refine call_meets F.slot_list_append ⟨_, e, rfl⟩ F.entry_list_append (F.args_list_append_2 _ _) (PySem.list_append l its.toArray n u (by rw [List.size_toArray]; omega)) ⟨e, ?_⟩
 refine ⟨.non, _, I.lset (its' := its ++ [u]) hH e (by simp) (r.append (.cons ru .nil)) ?_, rfl, q⟩
 rw [List.length_append, List.length_singleton]
 omega
def rExtend : V -> List V -> Hp -> VK -> Prop := fun x vs H Q => ∃ l b xs zs, x = .ref l /\ vs = [.ref b] /\ H l = some (.lst xs) /\ H b = some (.lst zs) /\ xs.length + zs.length <= sizeLine /\ Q .non (upd H l (.lst (xs ++ zs)))
theorem mt_extend : MtM X "list.extend" rExtend := by
 intro pins s σ H x vs v us Q I rx rv h
 obtain ⟨l, b, xs, zs, rfl, rfl, hH, hB, hz, q⟩ := h
 cases rx
 obtain ⟨u, rfl, ru⟩ := rv.one
 cases ru
 obtain ⟨z, its, n, r, hl, e⟩ := I.lstM hH
 obtain ⟨z2, its2, n2, r2, hl2, e2⟩ := I.lstM hB
 have hsz : its.toArray.size + its2.toArray.size <= sizeLine := by rw [List.size_toArray, List.size_toArray]; omega
 have hlong : ¬ (!its.toArray.isEmpty && Builtin.List.listTooLong (its.toArray.size + its2.toArray.size)) = true := by
  rw [notLongL hsz, Bool.and_false]
  exact Bool.false_ne_true
 refine call_meets F.slot_list_extend ⟨_, e, rfl⟩ F.entry_list_extend (F.args_list_extend_2 _ _)
  (AutoSeq1.list_extend_list_list_0 l its.toArray n b its2.toArray n2 hlong (by rw [List.size_toArray]; omega) (by omega)) ⟨e, e2, ?_⟩
 refine ⟨.non, _, I.lset (its' := its ++ its2) hH e (by simp) (r.append r2) ?_, rfl, q⟩
 rw [List.length_append]
 omega
def rCat : R2 := fun x y H Q => ∃ l b xs zs, x = .ref l /\ y = .ref b /\ H l = some (.lst xs) /\ H b = some (.lst zs) /\ xs.length + zs.length <= sizeLine /\ ∀ p, H p = none -> Q (.ref p) (upd H p (.lst (xs ++ zs)))
theorem op_cat : OpR X (binaryOp .Add) rCat := by
 intro pins s σ H x y v u Q I rx ry h
 obtain ⟨l, b, xs, zs, rfl, rfl, hH, hB, hz, q⟩ := h
 cases rx
 cases ry
 obtain ⟨z, its, n, r, hl, e⟩ := I.lstM hH
 obtain ⟨z2, its2, n2, r2, hl2, e2⟩ := I.lstM hB
 refine PySem.P.add_list e e2 ?_ (by rw [List.size_toArray, List.size_toArray]; omega)
 have ea : its.toArray ++ its2.toArray = (its ++ its2).toArray := by simp
 rw [ea]
 exact ⟨.ref _, _, I.lnew (t' := s.toks) (r.append r2) (by rw [List.length_append]; omega), rfl, q _ I.fresh⟩
end
section
variable {prog : Program} {w : World} {A : Around} {E : Value -> Shared -> Prop} {s : Shared}
end
section
variable {X : Cx}
end
end L2
namespace Att
open PySem PySem.W PySem.Calls PyProof.Rows
theorem ints_of_wellAll {P : Params} {h : Heap} : ∀ (ns : List Int) (vs : List Value), WellAll P h vs (ns.map WData.int) -> IntsAre vs ns := by
 intro ns
 induction ns with
 | nil =>
  intro vs w
  rw [List.map_nil] at w
  cases w
  exact .nil
 | cons n ns ih =>
  intro vs w
  rw [List.map_cons] at w
  cases w with
  | cons a b =>
   cases a
   exact .cons _ _ (ih _ b)
theorem script_of {l : OpenLaw} {n : Nat} (hn : l.most = some n) {P : Params} {h : Heap} {args : List WData} {vals : List Value}
  (hpre : l.row.toRowW.claim.pre args = true) (hwl : WellAll P h vals args) :
  ∃ a vs ns, vals = [Value.ref a] /\ args = [WData.list (ns.map WData.int)] /\ h.get? a = some { cls := .type "list", data := .seq vs.toArray } /\ IntsAre vs ns /\ ns.length <= n := by
 have hsh : WShape.hasAll [] args [.list .int] = true := (pre_splitW hpre).1
 have hc : l.pre.holds [] { args := args } = true := (pre_splitW hpre).2
 obtain ⟨d, r, rfl, h1, h2⟩ := hasAllW_cons hsh
 obtain rfl := hasAllW_nil h2
 obtain ⟨xs, rfl, h3⟩ := hasW_list h1
 obtain ⟨ns, rfl⟩ := items_int h3
 have hlen : ns.length <= n := by
  unfold OpenLaw.pre at hc
  have h4 : (WTm.not (.lt (.lit (.int (n : Int))) (.len (.arg 0)))).holds [] { args := [.list (ns.map .int)] } = true := by
   have h4 := (holds_andW hc).1
   rw [hn] at h4
   exact h4
  have h5 := condW_of h4 (w_not (w_lt w_lit (w_len_list (w_arg rfl))))
  rw [List.length_map] at h5
  refine Nat.le_of_not_lt fun q => ?_
  have q' : (n : Int) < ((ns.length : Nat) : Int) := by omega
  first
   | (rw [decide_eq_true q'] at h5; exact absurd h5 (by decide))
   | (simp at h5; omega)
 cases hwl with
 | cons w1 w2 =>
  cases w2
  cases w1 with
  | list ho hall => exact ⟨_, _, ns, rfl, rfl, ho, ints_of_wellAll ns _ hall, hlen⟩
theorem post_true (l : OpenLaw) (args : List WData) : l.row.toRowW.claim.post args (.bool true) args = true :=
 postW_of (r := l.row.toRowW) (X := (true == true))
  (show WShape.has [] (.bool true) .bool = true by first | rfl | decide | simp [WShape.has, WShape.arms, WShape.armsAll])
  (show (WTm.eq .res (.lit (.bool true))).value [] { args := args, res := some (.bool true), after := args } = some (.bool (true == true)) from w_eq_bool (w_res rfl) w_lit) rfl
section
variable {prog : Program} {w : World} {A : Around} {E : Value -> Shared -> Prop} {s : Shared} {K : Frag}
end
end Att
namespace L2
open PySem PySem.Spec PyProof.Rows
theorem vals_ints : ∀ {vs : List Value} {ns : List Int}, IntsAre vs ns -> Vals (ns.map V.int) vs
 | _, _, .nil => .nil
 | _, _, .cons n t h => .cons ⟨t, rfl⟩ (vals_ints h)
def Only (H : Hp) : Prop := ∀ b, H b = none \/ ∃ o xs, H b = some (.frz o (.lst xs))
theorem law_call {P : Program} {w : World} {K : W.Frag} {mg mb : Str -> Option Value} {CX : CXT} {k : Nat} {fa a : Addr} {fd : FuncData} {x : Str} {sp : Sp} {s₁ : Shared} {vs : List Value} {ns : List Int}
  (KX : K.In s₁.heap) (hns : s₁.heap.Ns mainGlobals mg) (hb : s₁.heap.Ns builtinsNs mb) (hbb : ∀ x : Str, x ≠ "__name__" -> mb x = bootBuiltins x) (hlim : s₁.heap.NoLimit) (hg : s₁.gens = #[])
  (ha : s₁.heap.get? a = some { cls := .type "list", data := .seq vs.toArray }) (hi : IntsAre vs ns) (hl : ns.length <= sizeLine) (hr : Room k callerA)
  (F : ∀ base : Heap, K.In base -> base.Ns mainGlobals mg -> FnOk P w K mg base CX k fa fd [x] sp) (hbind : ∀ (s : Shared) (u : Value), BindsTo s fd ⟨[u], []⟩ [(x, u)])
  (hsp : ∀ H : Hp, Only H -> SqL K H a (ns.map V.int) -> sp [.ref a] H (fun v _ => v = .bl true) fun _ _ _ => False)
  (hCX : ∀ H e s', CX [] H s₁ (fun _ _ _ => False) e s' -> False) :
  codeAny (model P w) callerA (.call (.ref fa) ⟨[.ref a], []⟩) (fun r s' => r = .ok (.ret (.bool true)) /\ OldK s₁.heap s'.heap /\ s'.os = s₁.os /\ AllBare s'.gens) s₁ := by
 have rv := vals_ints hi
 have lenV := hi.length
 -- from an abstract heap in which nothing but the script may be tracked
 have core : ∀ H : Hp, Only H -> SqL K H a (ns.map V.int) -> HOk P w H s₁.heap -> (∀ b, H b ≠ none -> b = a) -> (H a ≠ none -> K.lookup a = none) ->
   codeAny (model P w) callerA (.call (.ref fa) ⟨[.ref a], []⟩) (fun r s' => r = .ok (.ret (.bool true)) /\ OldK s₁.heap s'.heap /\ s'.os = s₁.os /\ AllBare s'.gens) s₁ := by
  intro H hO hS hok hA hK
  have base_of : ∀ {b : Addr} {o : Obj}, s₁.heap.get? b = some o -> H b = none -> (hidT s₁.heap H).get? b = some o := fun e n => hidT_get e n
  have noA : ∀ {b : Addr} {o : Obj} {es : Array DictEntry} {ep : Nat}, s₁.heap.get? b = some o -> o.data = .dict es ep -> H b = none := fun {b o es ep} e d => by
   cases q : H b with
   | none => rfl
   | some u =>
    have e' : b = a := hA b (by rw [q]; simp)
    subst e'
    rw [ha] at e; cases e
    have d' : Data.seq vs.toArray _ = Data.dict es ep := d
    cases d'
  have nsK : ∀ {b : Addr} {m : Str -> Option Value}, s₁.heap.Ns b m -> (hidT s₁.heap H).Ns b m := fun {b m} ⟨o, es, ep, e, d, r⟩ => ⟨o, es, ep, base_of e (noA e d), d, r⟩
  have hKb : K.In (hidT s₁.heap H) := fun b o e => base_of (KX b o e) (by
   cases q : H b with
   | none => rfl
   | some u =>
    have e' : b = a := hA b (by rw [q]; simp)
    subst e'
    rw [hK (by rw [q]; simp)] at e; cases e)
  have hM : Mod K mg (hidT s₁.heap H) := ⟨hKb, nsK hns, ⟨mb, nsK hb, hbb⟩, let ⟨mc, h1, h2⟩ := hlim; ⟨mc, nsK h1, h2⟩⟩
  have e0 : Env0 P w K mg (hidT s₁.heap H) callerA [] s₁ H := ⟨rfl, hM, fun b o e => of_hidT e, Nat.le_of_eq (hidT_size _ _), trivial, fun b hb => absurd (show b ∈ ([] : List Addr) from hb) (by simp), hok, .of_eq hg⟩
  refine codeAny_mono ((F _ hKb (nsK hns)).run callerA [] s₁ H ⟨[.ref a], []⟩ [.ref a] [.ref a] _ _ hr e0 (hbind s₁ (.ref a)) (.cons rfl .nil) (hsp H hO hS)) fun r s' h => ?_
  cases r with
  | error e => exact (hCX H e s' h).elim
  | ok fl =>
   cases fl with
   | next => exact False.elim h
   | brk => exact False.elim h
   | cont => exact False.elim h
   | ret u =>
    obtain ⟨v, H', os, bare, un, hok', r', q⟩ := h
    have q' : v = .bl true := q
    subst q'
    obtain rfl : u = Value.bool true := r'
    refine ⟨rfl, OldK.of_keep fun b o e => ?_, os, bare⟩
    cases q : H b with
    | none => exact un.keep b o e q (by intro z; exact absurd (show b ∈ ([] : List Addr) from z) (by simp)) (by simp)
    | some u =>
     rcases hO b with z | ⟨ob, xs, z⟩
     ·rw [q] at z; cases z
     ·have z2 := un.frzs b ob _ z
      obtain ⟨e1, _⟩ := hok b _ z
      obtain ⟨e2, _⟩ := hok' b _ z2
      rw [e] at e1; cases e1
      exact e2
 cases hk : K.lookup a with
 | some o =>
  -- the script is one of the module's own objects
  have e := KX a o hk
  rw [ha] at e
  cases e
  refine core (fun _ => none) (fun _ => .inl rfl) (.inr ⟨_, vs.toArray, _, hk, rfl, rfl, rfl, by rw [List.size_toArray, lenV]; exact hl, by simpa using rv⟩) (fun b u z => by have z' : (none : Option HO) = some u := z; cases z') (fun b z => absurd rfl z) fun z => absurd rfl z
 | none =>
  refine core (fun b => if b = a then some (.frz { cls := .type "list", data := .seq vs.toArray } (.lst (ns.map V.int))) else none) (fun b => ?_) (.inl (.inr ⟨{ cls := .type "list", data := .seq vs.toArray }, if_pos rfl⟩)) (fun b u z => ?_) (fun b z => ?_) fun _ => hk
  ·by_cases hb : b = a
   ·exact .inr ⟨_, _, if_pos hb⟩
   ·exact .inl (if_neg hb)
  ·by_cases hb : b = a
   ·have z' := (if_pos hb).symm.trans z
    cases z'
    subst hb
    exact ⟨ha, by rw [List.length_map]; exact hl, vs, _, rv, ha⟩
   ·have z' := (if_neg hb).symm.trans z
    cases z'
  ·by_cases hb : b = a
   ·exact hb
   ·exact absurd (if_neg hb) z
end L2
namespace L2
open PySem PySem.Spec PyProof.Rows
end L2
namespace L2
open PySem PySem.Spec PyProof.Rows
def inClass (s : Stmt) (j : Nat) : Stmt := match s with
 | .ClassDef _ _ _ body _ _ _ _ _ _ _ => body.getD j (.Pass ⟨0, 0, 0, 0⟩)
 | _ => .Pass ⟨0, 0, 0, 0⟩
def defArgs (s : Stmt) : Arguments := match s with
 | .FunctionDef _ a _ _ _ _ _ _ _ _ => a
 | _ => { posonlyargs := [], args := [], vararg := none, kwonlyargs := [], kw_defaults := [], kwarg := none, defaults := [] }
def defBody (s : Stmt) : List Stmt := match s with
 | .FunctionDef _ _ b _ _ _ _ _ _ _ => b
 | _ => []
def defScope (s : Stmt) : Scope := match s with
 | .FunctionDef _ _ _ _ _ _ sc _ _ _ => sc
 | _ => { kind := .function, names := [], isGenerator := false, isCoroutine := false }
abbrev CX0 : CXT := fun _ _ _ _ _ _ => False
abbrev E0 : XK := fun _ _ _ => False
theorem pass0 {X : Cx} : Passes CX0 X E0 := fun _ _ _ _ _ _ _ h => h.elim
structure Fun (K : W.Frag) (x qual : Str) (st : Stmt) (f : Addr) (fd : FuncData) : Prop where
 ex : ∃ (oc : Value) (od : Option Addr) (kV doc pm : Value) (an : Option Addr) (cdv ct : Value) (osl : Array (Option Value)),
  fd = W.fnOf x qual (defArgs st) (defBody st) (defScope st) .none kV doc pm an cdv ct /\ K.lookup f = some ⟨oc, od, .func fd, osl⟩ /\ W.codeIn K cdv qual = true
 kp : W.keepIn K (.ref f) = true
section
variable {P : Program} {w : World} {K : W.Frag} {mg : Str -> Option Value} {base : Heap}
theorem Fun.ok {x qual : Str} {st : Stmt} {f : Addr} {fd : FuncData} {N ps : List Str} {k : Nat} {sp : Sp} (F : Fun K x qual st f fd) (S : FnScope N ps (defScope st)) (len : ∀ vs H Q E, sp vs H Q E -> vs.length = ps.length)
  (hbody : ∀ (cdv : Value) (A : Around) (outer : List Env) (s : Shared) (H : Hp) (vs : List V) (Q : VK) (E : XK), Room k (A.deeper (envOfC qual (defScope st) s.heap.objs.size f cdv)) -> sp vs H Q E ->
   ∃ t, PSs (cxOf CX0 P w K mg base N qual (defScope st) f cdv A outer s H E).nox (defBody st) t /\ t { nx := fun _ H' => Q .non H', rt := Q } (start N vs) H) : FnOk P w K mg base CX0 (k + 1) f fd ps sp := by
 obtain ⟨oc, od, kV, doc, pm, an, cdv, ct, osl, rfl, lk, hcd⟩ := F.ex
 refine fn_of lk hcd S len fun A outer s H vs Q E hr hsp => ?_
 obtain ⟨t, h, q⟩ := hbody cdv A outer s H vs Q E hr hsp
 exact ⟨t, h.nox, q⟩
theorem Fun.binds {x qual : Str} {st : Stmt} {f : Addr} {fd : FuncData} {ps : List Str} (F : Fun K x qual st f fd)
  (h : ∀ (kV doc pm : Value) (an : Option Addr) (cdv ct : Value) (us : List Value), us.length = ps.length -> bindArgs (W.fnOf x qual (defArgs st) (defBody st) (defScope st) .none kV doc pm an cdv ct) ⟨us, []⟩ = pure (ps.zip us)) : Binds K fd ps [] := by
 obtain ⟨oc, od, kV, doc, pm, an, cdv, ct, osl, rfl, lk, hcd⟩ := F.ex
 exact .all (h kV doc pm an cdv ct)
theorem fun_mk {x qual : Str} {st : Stmt} {f : Addr} {oc : Value} {od an : Option Addr} {osl : Array (Option Value)} {kV doc pm cdv ct : Value} (l : K.lookup f = some ⟨oc, od, .func (W.fnOf x qual (defArgs st) (defBody st) (defScope st) .none kV doc pm an cdv ct), osl⟩)
  (c : W.codeIn K cdv qual = true) (k : W.keepIn K (.ref f) = true) : Fun K x qual st f (W.fnOf x qual (defArgs st) (defBody st) (defScope st) .none kV doc pm an cdv ct) := ⟨⟨oc, od, kV, doc, pm, an, cdv, ct, osl, rfl, l, c⟩, k⟩
end
section
variable {X : Cx}
theorem pv (i : Nat) {x : Str} {pos : Pos} (hN : X.N[i]? = some x := by rfl) (hv : Vis X.env.scope x := by first | exact Or.inl rfl | exact Or.inr (Or.inl rfl) | exact Or.inr (Or.inr rfl)) (hd : (x == ("__debug__" : Str)) = false := by decide)
  (hcd : (x == ("__classdict__" : Str)) = false := by decide) : PE X (.Name x pos) (tVar i) := pe_var hN hv hd hcd
end
theorem iteF {A B : Prop} (h : B) : if false = true then A else B := by
 rw [if_neg Bool.false_ne_true]
 exact h
theorem iteT {A B : Prop} (h : A) : if true = true then A else B := by
 rw [if_pos rfl]
 exact h
theorem ite2 {c A B : Prop} [Decidable c] (h1 : c -> A) (h2 : ¬ c -> B) : if c then A else B := by
 by_cases h : c
 ·rw [if_pos h]
  exact h1 h
 ·rw [if_neg h]
  exact h2 h
theorem iteNS {c A B : Prop} [Decidable c] (hc : c) (h : B) : if (!decide c) = true then A else B := by
 rw [decide_eq_true hc]
 exact iteF h
def Same (H H' : Hp) : Prop := ∀ b o, H b = some o -> H' b = some o
theorem Same.refl (H : Hp) : Same H H := fun _ _ h => h
theorem Same.trans {H H1 H2 : Hp} (a : Same H H1) (b : Same H1 H2) : Same H H2 := fun c o h => b c o (a c o h)
theorem Same.seq {K : W.Frag} {H H' : Hp} {a : Addr} {xs : List V} (e : Same H H') (h : SqL K H a xs) : SqL K H' a xs := by
 rcases h with (h | ⟨o, h⟩) | h
 ·exact .inl (.inl (e _ _ h))
 ·exact .inl (.inr ⟨o, e _ _ h⟩)
 ·exact .inr h
end L2
namespace L2
open PySem PySem.Spec PyProof.Rows
section
variable {X : Cx}
theorem op_mulG : OpR X (binaryOp .Mult) (rI IntMulOk fun i j => .int (i * j)) := opI fun _ _ _ _ _ _ _ hc q => mul_int q hc
def CDivL (_ j : Int) : Prop := j ≠ 0 /\ j.natAbs.log2 < 9000
theorem op_fdivL : OpR X (binaryOp .FloorDiv) (rI CDivL fun i j => .int (i.fdiv j)) :=
 opI fun _ _ _ _ _ _ _ hc q => floordiv_int hc.1 q (.inl (PyProof.noPylong_of_log2 hc.2))
end
section
variable {P : Program} {w : World} {H H1 H2 : Hp} {h h1 h2 : Heap} {a : Addr} {o : HO}
theorem ObjOk.there (x : ObjOk P w H h a o) : ∃ ob, h.get? a = some ob := by
 cases o with
 | lst xs => obtain ⟨_, _, _, _, e⟩ := x; exact ⟨_, e⟩
 | tup xs => obtain ⟨_, _, _, ob, e, _⟩ := x; exact ⟨_, e⟩
 | dK kvs => obtain ⟨_, _, _, _, ob, _, _, e, _⟩ := x; exact ⟨_, e⟩
 | dT kvs => obtain ⟨_, _, _, _, ob, _, _, e, _⟩ := x; exact ⟨_, e⟩
 | set S n => obtain ⟨ob, _, _, _, e, _⟩ := x; exact ⟨_, e⟩
 | ins C dx fs => obtain ⟨_, _, _, e, _⟩ := x; exact ⟨_, e⟩
 | own y => exact x
 | xd fs => obtain ⟨_, ⟨ob, _, _, e, _⟩, _⟩ := x; exact ⟨_, e⟩
 | rng lo hi => obtain ⟨_, _, _, e⟩ := x; exact ⟨_, e⟩
 | frz ob u => obtain ⟨e, _⟩ := x; exact ⟨_, e⟩
 | tbl ps => exact ⟨_, (show h.get? a = some _ from x)⟩
 | met f y => exact ⟨_, (show h.get? a = some _ from x)⟩
 | ext φ => obtain ⟨_, ⟨ob, e⟩, _⟩ := x; exact ⟨_, e⟩
theorem HOk.onward (x : HOk P w H h1) (k : ∀ b ob, H b ≠ none -> h1.get? b = some ob -> h2.get? b = some ob) : HOk P w H h2 := fun c u e =>
  (x c u e).stay (fun b v hb q => k b v (by rcases hb with rfl | hb
                                            · rw [e]; simp
                                            · rw [hb]; simp) q) (fun _ q => q) fun _ _ q => q
theorem Un.onward {fs : List Addr} (u : Un fs [] H H1 h h1) (keep : ∀ b ob, h1.get? b = some ob -> b ∉ fs -> (∃ o', h.get? b = some o') -> h2.get? b = some ob)
  (slot : ∀ b ob, h1.get? b = some ob -> b ∈ fs -> (∃ o', h.get? b = some o') -> ∃ sl, h2.get? b = some { ob with slots := sl }) : Un fs [] H H1 h h2 where
 keep := fun b ob e n hb hx => keep b ob (u.keep b ob e n hb hx) hb ⟨ob, e⟩
 slot := fun b ob e n hb hx => by
  obtain ⟨sl, e1⟩ := u.slot b ob e n hb hx
  obtain ⟨sl2, e2⟩ := slot b _ e1 hb ⟨ob, e⟩
  exact ⟨sl2, e2⟩
 free := u.free
 there := fun b ob e hx => by
  obtain ⟨o1, e1⟩ := u.there b ob e hx
  by_cases hb : b ∈ fs
  ·obtain ⟨sl, e2⟩ := slot b o1 e1 hb ⟨ob, e⟩
   exact ⟨_, e2⟩
  ·exact ⟨_, keep b o1 e1 hb ⟨ob, e⟩⟩
 tups := u.tups
 frzs := u.frzs
 tbls := u.tbls
theorem Un.andThen {fs fs2 : List Addr} (a : Un fs [] H H1 h h1) (b : Un fs2 [] H1 H2 h1 h2) (hs : ∀ c ob, h.get? c = some ob -> c ∈ fs2 -> c ∈ fs) : Un fs [] H H2 h h2 where
 keep := fun c ob q n hc hx => b.keep c ob (a.keep c ob q n hc hx) (a.free c ob q n hx) (fun z => hc (hs c ob q z)) hx
 slot := fun c ob q n hc hx => by
  obtain ⟨sl, e1⟩ := a.slot c ob q n hc hx
  obtain ⟨sl2, e2⟩ := b.any e1 (a.free c ob q n hx) hx
  exact ⟨sl2, e2⟩
 free := fun c ob q n hx => by
  obtain ⟨o1, e1⟩ := a.there c ob q hx
  exact b.free c o1 e1 (a.free c ob q n hx) hx
 there := fun c ob q hx => by
  obtain ⟨o1, e1⟩ := a.there c ob q hx
  exact b.there c o1 e1 hx
 tups := fun c xs q => b.tups c xs (a.tups c xs q)
 frzs := fun c ob u q => b.frzs c ob u (a.frzs c ob u q)
 tbls := fun c ps q => by
  obtain ⟨m1, e1⟩ := a.tbls c ps q
  obtain ⟨m2, e2⟩ := b.tbls c _ e1
  exact ⟨m1 ++ m2, by rw [e2, Array.append_assoc]⟩
end
section
variable {P : Program} {w : World} {K : W.Frag} {mg : Str -> Option Value} {base : Heap} {N : List Str} {qual : Str} {scope : Scope} {f : Addr} {cd : Value} {A : Around} {outer : List Env} {s0 s1 : Shared} {H0 H1 : Hp} {E : XK}
 {pins : List (Addr × Obj)} {σ : St}
theorem frs_tail {env : Env} {l : List Env} {b : Addr} (h : b ∈ frs l) : b ∈ frs (env :: l) := by
 unfold frs at h ⊢
 rw [List.filterMap_cons]
 split
 ·exact h
 ·exact List.mem_cons_of_mem _ h
end
end L2
namespace L2
open PySem PySem.Spec PyProof.Rows PySem.W PySem.Calls Builtin Builtin.ObjectAttr Builtin.Getset_descriptor
def ExcAt (C e : Addr) (h : Heap) : Prop := ∃ o, h.get? e = some o /\ o.cls = .ref C /\ notCls o = true
theorem ExcAt.type {C e : Addr} {h : Heap} {M : Model} (x : ExcAt C e h) : Looks M h (typeOf (.ref e)) (.ref C) := by
 obtain ⟨o, a, b, _⟩ := x
 exact b ▸ (Looks.ld a).andThen .now
structure ExcCls (K : Frag) (C : Addr) : Prop where
 cls : (clsIn K C).isSome = true
 ga : findIn K (.ref C) "__getattribute__" = some (some (.builtin "BaseException.__getattribute__"))
 gt : findIn K (.ref C) "__getattr__" = some none
 cl : findIn K (.ref C) "__class__" = some (some (.builtin "object.__class__"))
 get : specialIn K (.builtin "object.__class__") "__get__" = some (some (.builtin "getset_descriptor.__get__"))
 tk : takesIn K (.builtin "object.__class__") = some true
 ob : mroIn K C (.type "object") = some true
 be : mroIn K C (.type "BaseException") = some true
section
variable {prog : Program} {w : World} {A : Around} {E : Value -> Shared -> Prop} {s : Shared} {K : Frag} {e C : Addr}
theorem exc_find {M : Model} {h : Heap} (X : K.In h) (T : ExcCls K C) : Looks M h (Builtin.ObjectAttr.find (.ref e) (.ref C) "__class__") (.bind (.builtin "getset_descriptor.__get__") (.builtin "object.__class__")) := by
 have d : Looks M h (Builtin.ObjectAttr.dataDescriptor? (some (.builtin "object.__class__")) (some (.builtin "getset_descriptor.__get__"))) (some (.builtin "getset_descriptor.__get__", .builtin "object.__class__")) := (looks_takesIn X T.tk).andThen .now
 exact (looks_findIn X T.cl).andThen ((looks_specialIn X T.get).andThen (d.andThen (Looks.tag .now)))
theorem exc_class_get {R : Result -> Shared -> Prop} {tp : Value} (X : K.In s.heap) (I : ExcAt C e s.heap) (hm : mroIn K C (.type "object") = some true)
  (h : R (.ok (.ret (.ref C))) s) : codeAny (model prog w) A (.call (.builtin "getset_descriptor.__get__") ⟨[.builtin "object.__class__", .ref e, tp], []⟩) R s := by
 obtain ⟨hp, gs, dr, tk, os⟩ := s
 have l0 := I.type (M := model prog w)
 have l1 := looks_mroIn (M := model prog w) X hm
 refine codeAny_call_builtin KF.slot_gs.plain KF.entry_gs ?_
 refine KF.slot_gs.check _ _ _ _ _ _ _ _ KF.type_class (KF.args_gs _ _ _) ?_
 unfold Builtin.«getset_descriptor.__get__» descrGet
 rw [dga_obj]
 refine wpAny_bind (wpAny_pure ?_)
 unfold descrGetter descrCheckInstance descrNameAndClass isInstance
 simp only [KF.owner_class]
 repeat lk
 refine ⟨Code.quiet_builtin _ (by decide +kernel), codeAny_builtin KF.entry_class ?_⟩
 unfold Builtin.«object.__class__» shownTypeOf
 repeat lk
 exact h
theorem exc_entry {tk : Tok} {Q : PySem.Fin -> Shared -> Prop} (X : K.In s.heap) (T : ExcCls K C) (I : ExcAt C e s.heap) (h : Q (.done (.ret (.ref C))) s) :
  wpAny (model prog w) A (Builtin.«object.__getattribute__» ⟨[.ref e, .str "__class__" tk], []⟩) Q E s := by
 obtain ⟨hp, gs, dr, t, os⟩ := s
 have l0 := I.type (M := model prog w)
 have l1 := exc_find (e := e) (M := model prog w) X T
 unfold Builtin.«object.__getattribute__»
 repeat (first | with_reducible refine wpAny_call ?_ | lk)
 refine exc_class_get X I T.ob ?_
 repeat lk
 exact h
theorem exc_class {Q : Option Value -> Shared -> Prop} (X : K.In s.heap) (T : ExcCls K C) (I : ExcAt C e s.heap) (h : Q (some (.ref C)) { s with toks := s.toks + 1 }) : wpAny (model prog w) A (getAttr? (.ref e) "__class__") Q E s := by
 obtain ⟨hp, gs, dr, t, os⟩ := s
 have l0 := I.type (M := model prog w)
 have l1 := looks_findIn (M := model prog w) X T.ga
 have l2 := looks_findIn (M := model prog w) X T.gt
 have l3 := looks_mroIn (M := model prog w) X T.be
 unfold getAttr? getAttrBy? getAttrBy
 refine wpAny_bind (wpAny_mkText (wpAny_bind (wpAny_attempt (wpAny_holding (wpAny_bind (l0.at (wpAny_bind (l1.at ?_))))))))
 dsimp only
 have ne : (Value.builtin "BaseException.__getattribute__" == Value.builtin "object.__getattribute__") = false := by decide +kernel
 rw [if_neg (by rw [ne, Bool.and_false]; exact Bool.false_ne_true)]
 unfold getAttrByItsOwn hookBefore
 repeat (first | with_reducible refine wpAny_call ?_ | with_reducible refine wpAny_attempt ?_ | lk)
 have hk : builtinKind "BaseException.__getattribute__" = some .slot := by decide +kernel
 have hsplit : splitId "BaseException.__getattribute__" = some ("BaseException", "__getattribute__") := by decide +kernel
 refine codeAny_call_builtin (by decide +kernel) F.entry_bexc_ga ?_
 have ha := F.args_bexc_ga (.ref e) (.str (Str.ofString "__class__") t)
 show wpAny _ _ (checkBuiltinCall "BaseException.__getattribute__" ⟨[.ref e, .str (Str.ofString "__class__") t], []⟩) _ _ _
 simp only [checkBuiltinCall, hk, hsplit]
 unfold isInstance
 refine wpAny_bind (wpAny_bind (l0.at (l3.at ?_)))
 simp only [Bool.not_true, Bool.false_eq_true, if_false]
 refine wpAny_of_eq (show _ = pure () from ha) ?_
 refine wpAny_mono (exc_entry (E := fun _ _ => False) (Q := fun fin s' => fin = .done (.ret (.ref C)) /\ s' = ⟨hp, gs, dr, t + 1, os⟩) X T I ⟨rfl, rfl⟩) (fun fin s' z => ?_) fun _ _ z => z.elim
 obtain ⟨rfl, rfl⟩ := z
 exact wpAny_pure (wpAny_pure h)
end
theorem kitx_exc {K : Frag} {e C : Addr} (T : ExcCls K C) : KitX K (.ref e) (.ref C) (ExcAt C e) where
 ty := fun _ _ _ I => I.type
 it := fun M h X _ => by
  obtain ⟨cd, hc⟩ := Option.isSome_iff_exists.mp T.cls
  unfold clsIn at hc
  split at hc
  ·rename_i c' d' cd' sl' ho
   intro A' Q' E' s' k q
   unfold isType loadHead
   exact wpAny_bind (wpAny_loadPart (k _ _ (X _ _ ho)) (wpAny_pure q))
  ·cases hc
 ne := fun h tp dd its n sl X htp => by
  obtain ⟨cd, hc⟩ := Option.isSome_iff_exists.mp T.cls
  refine Bool.eq_false_iff.mpr fun q => ?_
  have ee : C = tp := Value.ref.inj (beq_iff_eq.mp q)
  subst ee
  unfold clsIn at hc
  split at hc
  ·rename_i c' d' cd' sl' ho
   have z := (X _ _ ho).symm.trans htp
   cases z
  ·cases hc
 ca := fun X I k => exc_class X T I k
end L2
namespace L2
open PySem PySem.Spec PyProof.Rows
structure RoomQ (k : Nat) (A : Around) : Prop where
 dp : A.depth + 3 * k + 5 < recursionLimit
 un : A.units + 16 * k + 200 < cLine
theorem Room.q {k : Nat} {A : Around} (r : Room k A) : RoomQ k A := ⟨r.dp, r.un⟩
theorem RoomQ.mark {k : Nat} {A : Around} (r : RoomQ k A) (h : Option Value) : RoomQ k (A.mark h) := ⟨r.dp, r.un⟩
theorem RoomQ.mono {j k : Nat} {A : Around} (r : RoomQ k A) (h : j <= k) : RoomQ j A := ⟨by have := r.dp; omega, by have := r.un; omega⟩
theorem RoomQ.deeper {k : Nat} {A : Around} (r : RoomQ (k + 1) A) (env : Env) : RoomQ k (A.deeper env) :=
 ⟨by have := r.dp; show A.depth + 1 + 3 * k + 5 < _; omega, by have := r.un; show A.units + 3 + 16 * k + 200 < _; omega⟩
section
variable {P : Program} {w : World} {K : W.Frag} {mg : Str -> Option Value} {base : Heap}
end
section
variable {X : Cx} {k : Nat} {f : Addr} {fd : FuncData} {ps : List Str} {sp : Sp} {dvs : List V} {ds : List Value} {x : Str} {p pos : Pos} {e : Expr} {es : List Expr} {t : TA}
end
theorem PS.nox {X : Cx} {st : Stmt} {t : TS} (h : PS X.nox st t) : PS X st t := fun pins s σ H D I hw =>
 wpAny_mono (h pins s σ H D (I.wish _) hw) (fun _ _ q => q.unwish) fun _ _ z => z.elim
theorem exc_obj {K : W.Frag} {h : Heap} {C : Addr} {bmB : List Value} {newId : String} (X : K.In h) (q : W.excIn K C bmB newId = true) :
  ∃ bm N nm qn bs hdct sn sub ab col dd k0 k1 k2 k3 k5 mN, h.get? C = some (excClassObj nm qn C N bs bm hdct sn sub ab col dd k0 k1 k2 k3 k5 newId) /\ h.Ns N mN /\ mN "__init__" = none /\ OwnTail h bmB bm := by
 unfold W.excIn at q
 split at q
 ·rename_i dd cd sl ho
  split at q
  ·rename_i C' bm k0 k1 k2 k3 n k5 hm hs
   simp only [Bool.and_eq_true, beq_iff_eq, Bool.not_eq_true'] at q
   obtain ⟨⟨⟨⟨⟨c1, c2⟩, c3⟩, c4⟩, c5⟩, c6⟩ := q
   subst c1 c2
   obtain ⟨nm, bs, mro, ns, qn, hd, sn, sub, ab, col, del⟩ := cd
   dsimp only at hm c3 c5 c6
   subst hm c3
   obtain ⟨l⟩ := sl
   have hs' : l = [k0, k1, k2, k3, some (.builtin n), k5] := hs
   subst hs'
   exact ⟨bm, ns, nm, qn, bs, hd, sn, sub, ab, col, dd, k0, k1, k2, k3, k5, _, X _ _ ho, .of_isNs (W.isNs_of_in X c5), W.nsMap_none_of_in X c5 c6, W.tail_of_in X c4⟩
  ·cases q
 ·cases q
abbrev bmVE : List Value := [.type "ValueError", .type "Exception", .type "BaseException", .type "object"]
section
variable {P : Program} {w : World} {K : W.Frag} {mg : Str -> Option Value} {base : Heap} {N : List Str} {qual : Str} {scope : Scope} {f : Addr} {cd : Value} {A : Around} {outer : List Env} {s0 : Shared} {H0 : Hp} {E : XK}
 {x : Str} {C : Addr} {np cpos pos : Pos} {e : Expr} {es : List Expr} {t : TA}
end
end L2
namespace L2
open PySem PySem.Spec PyProof.Rows
abbrev Cx.marked (X : Cx) (e : Addr) : Cx := { X with A := X.A.mark (some (.ref e)), calm := false, still := false, xe := fun _ _ => False }
theorem Cx.Ok.marked {X : Cx} (ok : X.Ok) (e : Addr) : (X.marked e).Ok :=
 ⟨ok.mod, ok.kind, ok.glob, ok.blt, ok.above, ok.inj, ok.has, ok.cab, (fun h => by cases h), (fun h => by cases h), ok.frames, ok.stk, ok.exf, ok.bs, ok.bsz, ok.noex, ok.exfs, ok.funs, ok.frf⟩
section
variable {X : Cx} {pins : List (Addr × Obj)} {σ : St} {H H' : Hp} {s s' : Shared} {e : Addr}
theorem Inv.marked (I : Inv X pins σ H s) (e : Addr) : Inv (X.marked e) pins σ H s := ⟨I.ok.marked e, I.fzs, I.os, I.bare, I.base, I.loc, I.cell, I.free, I.freeC, I.pin, I.hok, I.len⟩
theorem Un.more {fs : List Addr} {H H1 : Hp} {h h1 : Heap} {a : Addr} {o : HO} (u : Un fs [] H H1 h h1) (n : h.get? a = none) (n1 : H1 a = none) : Un fs [] H (upd H1 a o) h h1 where
 keep := u.keep
 slot := u.slot
 free := fun b ob q m hx => by
  have ne : b ≠ a := fun z => by subst z; rw [n] at q; cases q
  rw [upd_ne ne]
  exact u.free b ob q m hx
 there := u.there
 tups := fun b xs q => by
  have z := u.tups b xs q
  rw [upd_ne (ne_of_none z n1)]
  exact z
 frzs := fun b ob v q => by
  have z := u.frzs b ob v q
  rw [upd_ne (ne_of_none z n1)]
  exact z
 tbls := fun b ps q => by
  obtain ⟨m, z⟩ := u.tbls b ps q
  exact ⟨m, by rw [upd_ne (ne_of_none z n1)]; exact z⟩
theorem HOk.more {P : Program} {w : World} {H1 : Hp} {h1 : Heap} {a : Addr} {o : HO} (x : HOk P w H1 h1) (n1 : H1 a = none) (new : ObjOk P w (upd H1 a o) h1 a o) : HOk P w (upd H1 a o) h1 := fun b u e => by
 by_cases hb : b = a
 ·subst hb; rw [upd_same] at e; cases e; exact new
 ·rw [upd_ne hb] at e
  exact (x b u e).stay (fun _ _ _ q => q) (fun c q => by rw [upd_ne (ne_of_none q n1)]; exact q) fun c xs q => by rw [upd_ne (ne_of_none q n1)]; exact q
variable {cls a0 : Value} {ea C : Addr} {B h' : Heap} {t' : Nat}
theorem unbind_ok {M : Model} {A : Around} {E : Value -> Shared -> Prop} {i : Nat} {n : Str} {pos : Pos} {Q : Unit -> Shared -> Prop} (I : Inv X pins σ H s) (hN : X.N.Nodup) (hi : X.N[i]? = some n) (hk : X.env.scope.names.lookup n = some .local)
  (h : ∀ s', Inv X pins (σ.set i none) H s' -> Q () s') : wpAny M A (do bindName X.env n .none; unbindBehindTheSuite X.env n pos) Q E s := by
 obtain ⟨m, hn, hl⟩ := id I.loc
 have hcls : (X.env.scope.kind == .class || (X.env.scope.kind == .module && X.env.locals != X.env.globals)) = false := by rw [I.ok.kind]; rfl
 have cne := I.cne
 obtain ⟨oL, _, _, hoL, _⟩ := id hn
 refine wpAny_nameGoes_keeps hk hn hcls fun h' v hn' hs => ?_
 have old : ∀ b o, X.s₀.heap.get? b = some o -> h'.get? b = s.heap.get? b := fun b o e => hs.2 b (Nat.ne_of_lt (Nat.lt_of_lt_of_le (Heap.lt_size e) I.ok.above))
 refine h _ ⟨I.ok, I.fzs, I.os, I.bare, ⟨fun b o e k hb hx => (old b o e).trans (I.base.keep b o e k hb hx), fun b o e k hb hx => ?_, I.base.free, fun b o e hx => ?_, I.base.tups, I.base.frzs, I.base.tbls⟩, ⟨_, hn', fun j y v' e1 e2 e3 => ?_⟩, fun y c e => ?_, I.free, I.freeC, fun p hp => ?_, fun b ob e => ?_, by simpa using I.len⟩
 ·obtain ⟨sl, e1⟩ := I.base.slot b o e k hb hx
  exact ⟨sl, (old b o e).trans e1⟩
 ·obtain ⟨o', e1⟩ := I.base.there b o e hx
  exact ⟨o', (old b o e).trans e1⟩
 ·by_cases hj : j = i
  ·subst hj
   exfalso
   have hlt : j < σ.length := by rw [I.len]; exact (List.getElem?_eq_some_iff.mp hi).1
   rw [List.getElem?_set_self hlt] at e2
   cases e2
  ·rw [List.getElem?_set_ne (Ne.symm hj)] at e2
   obtain ⟨u', r', q⟩ := hl j y v' e1 e2 e3
   refine ⟨u', r', ?_⟩
   rcases q with ⟨k, e⟩ | ⟨k, c, e, z⟩
   ·refine .inl ⟨k, ?_⟩
    have ne : y ≠ n := fun z => hj (nodup_ix hN e1 (z ▸ hi))
    show (if y = n then v else m y) = some u'
    rw [if_neg ne]
    exact e
   ·exact .inr ⟨k, c, e, z.sameBut hs (cne y c e)⟩
 ·obtain ⟨w', z⟩ := I.cell y c e
  exact ⟨w', z.sameBut hs (cne y c e)⟩
 ·obtain ⟨e, k, ne, nf, d⟩ := I.pin p hp
  exact ⟨(hs.2 p.1 ne).trans e, k, ne, nf, d⟩
 ·refine (I.hok b ob e).stay (fun c w' hc q => (hs.2 c ?_).trans q) (fun _ q => q) fun _ _ q => q
  rintro rfl
  rcases hc with rfl | hc
  ·rw [I.free] at e; cases e
  ·rw [I.free] at hc; cases hc
def asEnds (D : Ends) (i : Nat) : Ends := { nx := fun σ H => D.nx (σ.set i none) H, rt := D.rt, bk := fun σ H => D.bk (σ.set i none) H, ct := fun σ H => D.ct (σ.set i none) H }
end
section
variable {X : Cx} {k : Nat} {f C : Addr} {fd : FuncData} {ps : List Str} {sp : Sp} {g x n : Str} {p pos pos2 pos3 np hpos : Pos} {e : Expr} {es : List Expr} {t : TA} {ts : TS} {b₀ : Stmt} {suite : List Stmt} {i : Nat}
end
end L2
namespace L2
open PySem PySem.Spec PyProof.Rows
inductive TyX (K : W.Frag) (H : Hp) : V -> Value -> Prop where
 | of {x : V} {t : Value} (h : TyOf K H x t) : TyX K H x t
 | exc {e C : Addr} (T : ExcCls K C) (h : H e = some (.ext (ExcAt C e))) : TyX K H (.ref e) (.ref C)
def valOf : V -> Value
 | .ref a => .ref a
 | .ty n => .type n
 | _ => .none
def rIsi (K : W.Frag) : List V -> Hp -> VK -> Prop := fun xs H Q => ∃ x c t b, xs = [x, c] /\ ((∃ a, c = .ref a) \/ ∃ n, c = .ty n) /\ TyX K H x t /\ W.kitOne K t (valOf c) = some b /\ Q (.bl b) H
theorem call_isi {X : Cx} : CallR X (.builtin "isinstance") (rIsi X.K) := by
 intro pins s σ H xs us Q I rv h
 obtain ⟨x, c, t, b, rfl, hc, ty, e, q⟩ := h
 obtain ⟨u, uc, rfl, ru, rc⟩ := rv.two
 have huc : uc = valOf c := by
  rcases hc with ⟨a, rfl⟩ | ⟨n, rfl⟩
  ·exact rc
  ·exact rc
 subst huc
 have fin : ∀ tk, EP X pins σ Q (.bool b) { s with toks := tk } := fun tk => ⟨.bl b, H, I.tok tk, rfl, q⟩
 cases ty with
 | of ty => exact isinst_ok I ru ty e fin
 | @exc ea C T he =>
  have ru' : u = Value.ref ea := ru
  subst ru'
  obtain ⟨p, _, _⟩ := (show ObjOk X.prog X.w H s.heap ea (.ext (ExcAt C ea)) from I.hok ea _ he)
  exact W.kia_one (kitx_exc T) I.kIn p e (fun z => nomatch z) fin
theorem bits_of_lay {ns : List Int} (h : W.WData.layableAll [W.WData.list (ns.map W.WData.int)] = true) : ∀ n ∈ ns, Builtin.Int.intBits n <= 1048576 := fun n hn => by
 have h1 := (W.layW_cons h).1
 have h2 := W.layableW_item h1 (.int n) (List.mem_map.mpr ⟨n, hn, rfl⟩)
 have h3 : PyData.layable0 (.int n) = true := h2
 exact PyData.bits_of_layable h3
theorem walk_b {l : W.OpenLaw} {n k : Nat} {q : Program} {loose : List Str} {XP : (Str -> Option Value) -> Heap -> Prop} {YP : World -> Heap -> Prop} {d : DefRec} {K : Params -> W.Frag} {CX : World -> CXT} {sp : World -> Sp} {x : Str}
  (hn : l.most = some n) (hn2 : n <= sizeLine) (hdf : d.params.defaults = []) (hr : Room k callerA)
  (hY : ∀ (w : World) (h : Heap), YP w h -> (K w.params).In h)
  (F : ∀ (w : World) (mg : Str -> Option Value) (fa : Addr) (h : Heap), (K w.params).In h -> h.Ns mainGlobals mg -> mg d.name = some (.ref fa) ->
   ∃ fd : FuncData, (∀ (s : Shared) (u : Value), BindsTo s fd ⟨[u], []⟩ [(x, u)]) /\
    ∀ base : Heap, (K w.params).In base -> base.Ns mainGlobals mg -> FnOk l.prog w (K w.params) mg base (CX w) k fa fd [x] (sp w))
  (hsp : ∀ (w : World) (H : Hp) (a : Addr) (ns : List Int), ns.length <= n -> (∀ m ∈ ns, Builtin.Int.intBits m <= 1048576) -> SqL (K w.params) H a (ns.map V.int) -> sp w [.ref a] H (fun v _ => v = .bl true) fun _ _ _ => False)
  (hCX : ∀ (w : World) (H : Hp) (s : Shared) (e : Value) (s' : Shared), CX w [] H s (fun _ _ _ => False) e s' -> False) :
  W.WalkO q loose XP YP l.row.toRowW d [] (fun f vs => PySem.call f vs) := by
 intro w s₀ s₁ mg mb G Y fa o pm cd doc dV kV ho hd hcd hD hmg hg args vals as hpre hlay hrd hwl hlo
 obtain ⟨a, vs, ns, rfl, rfl, hobj, hints, hlen⟩ := Att.script_of hn hpre hwl
 have KX := hY w _ Y
 obtain ⟨fd, hb, hF⟩ := F w mg fa _ KX G.T.g hmg
 have call := law_call KX G.T.g G.T.b G.T.builtins G.T.nolimit hg hobj hints (Nat.le_trans hlen hn2) hr hF hb (fun H hO hS => hsp w H a ns hlen (bits_of_lay hlay) hS) fun H e s' => hCX w H s₁ e s'
 refine W.enter_call (codeAny_mono call fun r s' hq => ?_)
 obtain ⟨rfl, h2, h3, h4⟩ := hq
 exact ⟨.inl ⟨.bool true, .bool true, [], rfl, fun _ => rfl, .bool true, Att.post_true l _, fun _ => ⟨List.Pairwise.nil, fun _ hm => (nomatch hm)⟩⟩, h2, h3, h4⟩
def spLaw (K : W.Frag) : Sp := fun vs H Q _ => ∃ (a : Addr) (ns : List Int), vs = [.ref a] /\ SqL K H a (ns.map V.int) /\ ns.length <= 63 /\ (∀ m ∈ ns, Builtin.Int.intBits m <= 1048576) /\ ∀ H', Q (.bl true) H'
end L2
namespace L2
open PySem PySem.Spec PyProof.Rows
def tCut (t u : TS) : TS := fun D σ H => ∃ R : St -> Hp -> Prop, t { D with nx := R } σ H /\ ∀ σ' H', R σ' H' -> u D σ' H'
theorem pss_cut {X : Cx} {st : Stmt} {rest : List Stmt} {t u : TS} (h1 : PS X st t) (h2 : PSs X rest u) : PSs X (st :: rest) (tCut t u) := by
 intro pins s σ H D I h
 obtain ⟨R, h, k⟩ := h
 refine wpAny_execs_cons (thn (h1 pins s σ H { D with nx := R } I h) fun f s1 q => ?_)
 cases f with
 | next =>
  obtain ⟨σ', H', I', q⟩ := q
  exact h2 pins s1 σ' H' D I' (k _ _ q)
 | ret v => exact q
 | brk => exact q
 | cont => exact q
theorem bits_lit {i : Int} {k : Nat} (h : i.natAbs < 2 ^ k) (hk : k <= 1048576) : Builtin.Int.intBits i <= 1048576 := Nat.le_trans (intBits_le h) hk
theorem mulOk {a b : Int} (ha : Builtin.Int.intBits a <= 1048576) (hb : Builtin.Int.intBits b <= 1048576) : IntMulOk a b := IntMulOk.of_bits ha hb
theorem log2_lt_of {i : Int} {k : Nat} (h : i.natAbs < 2 ^ k) (hk : 0 < k) : i.natAbs.log2 < k := by
 by_cases h0 : i.natAbs = 0
 ·rw [h0]; exact hk
 ·exact (Nat.log2_lt h0).mpr h
theorem cell_in {ns : List Int} {k : Int} (h0 : 0 <= k) (h : k < ((ns.map V.int).length : Nat)) : atI (ns.map V.int) k = some (.int (ns.getD k.toNat 0)) := by
 rw [List.length_map] at h
 have hk : k.toNat < ns.length := by omega
 have ek : k = ((k.toNat : Nat) : Int) := by omega
 have q : atI (ns.map V.int) ((k.toNat : Nat) : Int) = some (.int (ns.getD k.toNat 0)) := atI_nat (by
  rw [List.getElem?_map, List.getElem?_eq_getElem hk, List.getD_eq_getElem?_getD, List.getElem?_eq_getElem hk]
  rfl)
 rw [<- ek] at q
 exact q
def spWhole : Sp := fun vs H Q _ => ∃ n, vs = [.int n] /\ Q (.bl true) H
theorem same_new {H : Hp} {p : Addr} (h : H p = none) (o : HO) : Same H (upd H p o) := fun b u q => by rw [upd_ne (ne_of_none q h)]; exact q
end L2
namespace L2
open PySem PySem.Spec PyProof.Rows
def Has (P : Program) (w : World) (K : W.Frag) (mg : Str -> Option Value) (base : Heap) (CX : CXT) (k : Nat) (x : Str) (ps : List Str) (sp : Sp) : Prop :=
 ∃ (f : Addr) (fd : FuncData), FnOk P w K mg base CX k f fd ps sp /\ Binds K fd ps [] /\ W.keepIn K (.ref f) = true /\ mg x = some (.ref f)
theorem decT {p : Prop} [Decidable p] (h : decide p = true) : p := of_decide_eq_true h
theorem decF {p : Prop} [Decidable p] (h : ¬ decide p = true) : ¬ p := of_decide_eq_false (Bool.eq_false_iff.mpr h)
theorem int_inj {a b : Int} (h : V.int a = V.int b) : a = b := V.int.inj h
end L2
namespace L2
open PySem PySem.Spec PyProof.Rows
end L2
namespace L2
open PySem PySem.Spec PyProof.Rows
end L2
namespace L2
open PySem PySem.Spec PyProof.Rows
theorem dict_map (o : Obj) (f : Array Value -> Array Value) : (o.mapFields f).dict = o.dict := by
 unfold Obj.mapFields
 split <;> rfl
def TrD (h base : Heap) (e : Addr) (cls : Value) (dx : Option Addr) (fl : Value) : Prop :=
 ∃ oe vs T oT ts, h.get? e = some oe /\ (oe.cls = cls /\ oe.dict = dx) /\ oe.data = .fields vs /\ vs[1]? = some (.ref T) /\ vs[2]? = some .none /\ base.get? T = none /\ T ≠ e /\ h.get? T = some oT /\ oT.data = .fields ts /\ ts[3]? = some fl
structure FlyAt (base : Heap) (l : List Env) (e : Addr) (cls : Value) (dx : Option Addr) (fl : Value) (h : Heap) : Prop where
 (stays : base.StaysIn h) (new : base.get? e = none) (frm : h.FunFrames base l) (tr : TrD h base e cls dx fl)
theorem FlyAt.there {base h : Heap} {l : List Env} {e : Addr} {cls fl : Value} {dx : Option Addr} (x : FlyAt base l e cls dx fl h) : ∃ ob, h.get? e = some ob /\ ob.cls = cls /\ ob.dict = dx /\ ∃ vs, ob.data = .fields vs := by
 obtain ⟨oe, vs, _, _, _, he, hc, hd, _⟩ := x.tr
 exact ⟨oe, he, hc.1, hc.2, vs, hd⟩
section
variable {M : Model} {A : Around} {E : Value -> Shared -> Prop} {s : Shared}
theorem entryD {base : Heap} {env : Env} {outer : List Env} {L e : Addr} {oe : Obj} {vs : Array Value} {head : Value} {more : Bool} {Q : Unit -> Shared -> Prop}
  (fr : A.frames = some (env :: outer)) (fl : s.heap.FunFrames base (env :: outer)) (ef : env.frame = some L) (oe' : s.heap.get? e = some oe) (sb : base.StaysIn s.heap) (nb : base.get? e = none) (od : oe.data = .fields vs) (z1 : 1 < vs.size) (v2 : vs[2]? = some .none)
  (k : ∀ h', FlyAt base (env :: outer) e oe.cls oe.dict (rawInt L) h' -> s.heap.UpToSlots h' -> Q () { s with heap := h' }) :
  wpAny M A (do let a <- frameOf env; let pl <- entryPlaceOf L more; let b <- EntryCells.newEntry head a .none (rawInt L) .none pl; setField (.ref e) 1 b) Q E s := by
 have nf : e ∉ (env :: outer).filterMap (·.frame) := fun m => by
  obtain ⟨_, o, h1, h2⟩ := fl.mem m
  rw [oe'] at h1
  cases h1
  exact h2 vs od
 refine wpAny_bind (wpAny_frameOf_fun fr fl ef fun h1 q1 => wpAny_bind (wpAny_entryPlaceOf fun pl sp => ?_))
 unfold EntryCells.newEntry newFields
 refine wpAny_bind (wpAny_newObj_type ?_ (sp.sizeOk5 _ _ _ _ _))
 generalize hob : ([head, Value.ref L, .none, rawInt L, .none] ++ (if pl.isEmpty then List.replicate 6 Value.none else pl)).toArray = tb
 have e1 : h1.get? e = some oe := (q1.2.1 e nf).trans oe'
 have s1 : base.StaysIn h1 := fun b o x => (q1.2.1 b fun m => by rw [(fl.mem m).1] at x; cases x).trans (sb b o x)
 have e2 := Heap.get?_push_of_some (h := h1) { cls := .type "traceback", dict := none, data := .fields tb } e1
 have ne : h1.objs.size ≠ e := Nat.ne_of_gt (Heap.lt_size e1)
 have d3 := Obj.data_mapFields od (·.setIfInBounds 1 (Value.ref h1.objs.size))
 have e3 := Heap.get?_update_self (Obj.mapFields (·.setIfInBounds 1 (Value.ref h1.objs.size))) e2 (Obj.isFreed_of_fields d3)
 have t3 := (Heap.get?_update_other (h1.push { cls := .type "traceback", dict := none, data := .fields tb }) (Obj.mapFields (·.setIfInBounds 1 (Value.ref h1.objs.size))) (Ne.symm ne)).trans (Heap.get?_push_size h1 rfl)
 have kp : ∀ b o, b ≠ e -> h1.get? b = some o -> ((h1.push { cls := .type "traceback", dict := none, data := .fields tb }).update e (Obj.mapFields (·.setIfInBounds 1 (Value.ref h1.objs.size)))).get? b = some o := fun b o ne' x => by
  rw [Heap.get?_update_other _ _ (Ne.symm ne')]
  exact Heap.get?_push_of_some _ x
 have nr : ∀ b o, s.heap.get? b = some o -> (∀ vs, o.data ≠ .fields vs) -> b ≠ e := fun b o x y z => by
  rw [z, oe'] at x
  cases x
  exact y vs od
 have f3 : tb[3]? = some (rawInt L) := by
  rw [<- hob]
  first | (simp; done) | (rcases sp with rfl | ⟨_, _, _, _, _, _, _, rfl⟩ <;> simp)
 refine wpAny_setField e2 od z1 (k _ ⟨fun b o x => kp b o (fun z => by rw [z, nb] at x; cases x) (s1 b o x), nb, fl.of_keeps fun b o x y => ?_, ⟨_, _, h1.objs.size, _, _, e3, ⟨Obj.cls_mapFields _ _, dict_map _ _⟩, d3, by simp [z1], by simpa [Array.getElem?_setIfInBounds] using v2, s1.fresh, ne, t3, rfl, f3⟩⟩ fun b o x y => ?_)
 ·obtain ⟨sl, z⟩ := q1.2.2 b o x
  exact ⟨_, kp b _ (nr b o x y) z, rfl⟩
 ·obtain ⟨sl, z⟩ := q1.2.2 b o x
  exact ⟨sl, kp b _ (nr b o x y) z⟩
theorem noteFirstD {base : Heap} {env : Env} {outer : List Env} {L e : Addr} {oe : Obj} {vs : Array Value} {Q : Unit -> Shared -> Prop}
  (fr : A.frames = some (env :: outer)) (fl : s.heap.FunFrames base (env :: outer)) (ef : env.frame = some L) (oe' : s.heap.get? e = some oe) (sb : base.StaysIn s.heap) (nb : base.get? e = none) (od : oe.data = .fields vs) (v1 : vs[1]? = some .none) (v2 : vs[2]? = some .none)
  (k : ∀ h', FlyAt base (env :: outer) e oe.cls oe.dict (rawInt L) h' -> s.heap.UpToSlots h' -> Q () { s with heap := h' }) : wpAny M A (noteFrame (.ref e) env) Q E s := by
 unfold noteFrame
 simp only [ef]
 refine wpAny_bind (wpAny_field oe' od v1 ?_)
 rw [if_neg (by decide)]
 exact entryD fr fl ef oe' sb nb od (Array.getElem?_eq_some_iff.mp v1).1 v2 k
theorem noteNextD {base : Heap} {env : Env} {outer : List Env} {L e : Addr} {cls : Value} {dx : Option Addr} {Q : Unit -> Shared -> Prop}
  (fr : A.frames = some (env :: outer)) (ef : env.frame = some L) (x : FlyAt base (env :: outer) e cls dx .none s.heap)
  (k : ∀ h', FlyAt base (env :: outer) e cls dx (rawInt L) h' -> s.heap.UpToSlots h' -> Q () { s with heap := h' }) : wpAny M A (noteFrame (.ref e) env) Q E s := by
 obtain ⟨sb, nb, fl, oe, vs, T, oT, ts, oe', ⟨rfl, rfl⟩, od, v1, v2, nT, ne, hT, dT, t3⟩ := x
 unfold noteFrame
 simp only [ef]
 refine wpAny_bind (wpAny_field oe' od v1 ?_)
 rw [if_pos (show (Value.ref T != Value.none) = true by simp)]
 refine wpAny_bind (wpAny_field hT dT t3 ?_)
 rw [if_neg (show ¬ ((Value.none == rawInt L) = true) by simp [rawInt])]
 refine wpAny_bind (wpAny_setField hT dT (Array.getElem?_eq_some_iff.mp t3).1 ?_)
 have ot : ∀ b, b ≠ T -> (s.heap.update T (Obj.mapFields (·.setIfInBounds 3 Value.none))).get? b = s.heap.get? b := fun b z => Heap.get?_update_other _ _ (Ne.symm z)
 have nr : ∀ b o, s.heap.get? b = some o -> (∀ vs, o.data ≠ .fields vs) -> b ≠ T := fun b o x y z => by
  rw [z, hT] at x
  cases x
  exact y ts dT
 exact entryD fr (fl.of_keeps fun b o x y => ⟨o, (ot b (nr b o x y)).trans x, rfl⟩) ef ((ot e (Ne.symm ne)).trans oe') (fun b o x => (ot b fun z => by rw [z, nT] at x; cases x).trans (sb b o x)) nb od (Array.getElem?_eq_some_iff.mp v1).1 v2
  fun h' a b => k h' a fun c o x y => b c o ((ot c (nr c o x y)).trans x) y
theorem landD {base : Heap} {l : List Env} {e : Addr} {cls fl : Value} {dx : Option Addr} {Q : Unit -> Shared -> Prop} (x : FlyAt base l e cls dx fl s.heap)
  (k : ∀ h', FlyAt base l e cls dx .none h' -> s.heap.UpToSlots h' -> Q () { s with heap := h' }) : wpAny M A (setFlight (.ref e) none) Q E s := by
 obtain ⟨sb, nb, frm, oe, vs, T, oT, ts, oe', hc, od, v1, v2, nT, ne, hT, dT, t3⟩ := x
 have z3 : 3 < ts.size := (Array.getElem?_eq_some_iff.mp t3).1
 have ot : ∀ b, b ≠ T -> (s.heap.update T (Obj.mapFields (·.setIfInBounds 3 ((none : Option Addr).elim Value.none fun f => rawInt f)))).get? b = s.heap.get? b := fun b z => Heap.get?_update_other _ _ (Ne.symm z)
 have nr : ∀ b o, s.heap.get? b = some o -> (∀ vs, o.data ≠ .fields vs) -> b ≠ T := fun b o x y z => by
  rw [z, hT] at x
  cases x
  exact y ts dT
 unfold setFlight
 refine wpAny_bind (wpAny_field oe' od v1 ?_)
 rw [if_pos (show (Value.ref T != Value.none) = true by simp)]
 exact wpAny_setField hT dT z3 (k _ ⟨fun b o x => (ot b fun z => by rw [z, nT] at x; cases x).trans (sb b o x), nb, frm.of_keeps fun b o x y => ⟨o, (ot b (nr b o x y)).trans x, rfl⟩,
  ⟨oe, vs, T, _, _, (ot e (Ne.symm ne)).trans oe', hc, od, v1, v2, nT, ne, Heap.get?_update_self _ hT (Obj.isFreed_of_fields (Obj.data_mapFields dT _)), Obj.data_mapFields dT _, by simp [z3]⟩⟩ fun b o x y => ⟨o.slots, (ot b (nr b o x y)).trans x⟩)
theorem leaveFirstD {base : Heap} {env : Env} {outer : List Env} {L e : Addr} {oe : Obj} {vs : Array Value} {Q : Unit -> Shared -> Prop}
  (fr : A.frames = some (env :: outer)) (fl : s.heap.FunFrames base (env :: outer)) (ef : env.frame = some L) (oe' : s.heap.get? e = some oe) (sb : base.StaysIn s.heap) (nb : base.get? e = none) (od : oe.data = .fields vs) (v1 : vs[1]? = some .none) (v2 : vs[2]? = some .none)
  (k : ∀ h', FlyAt base outer e oe.cls oe.dict .none h' -> s.heap.UpToSlots h' -> Q () { s with heap := h' }) : wpAny M A (leaving env (.ref e)) Q E s := by
 unfold leaving
 refine wpAny_bind (noteFirstD fr fl ef oe' sb nb od v1 v2 fun h1 x1 u1 => ?_)
 refine landD (s := { s with heap := h1 }) x1 fun h2 x2 u2 => ?_
 obtain ⟨a, b, ⟨_, _, c⟩, d⟩ := x2
 exact k h2 ⟨a, b, c, d⟩ (u1.trans u2)
theorem leaveNextD {base : Heap} {env : Env} {outer : List Env} {L e : Addr} {cls : Value} {dx : Option Addr} {Q : Unit -> Shared -> Prop}
  (fr : A.frames = some (env :: outer)) (ef : env.frame = some L) (x : FlyAt base (env :: outer) e cls dx .none s.heap)
  (k : ∀ h', FlyAt base outer e cls dx .none h' -> s.heap.UpToSlots h' -> Q () { s with heap := h' }) : wpAny M A (leaving env (.ref e)) Q E s := by
 unfold leaving
 refine wpAny_bind (noteNextD fr ef x fun h1 x1 u1 => ?_)
 refine landD (s := { s with heap := h1 }) x1 fun h2 x2 u2 => ?_
 obtain ⟨a, b, ⟨_, _, c⟩, d⟩ := x2
 exact k h2 ⟨a, b, c, d⟩ (u1.trans u2)
end
end L2
namespace L2
open PySem PySem.Spec PyProof.Rows PySem.W PySem.Calls Builtin Builtin.ObjectAttr
def ExcD (C e dx : Addr) (h : Heap) : Prop := ∃ o, h.get? e = some o /\ o.cls = .ref C /\ o.dict = some dx /\ notCls o = true
theorem ExcD.exc {C e dx : Addr} {h : Heap} (x : ExcD C e dx h) : ExcAt C e h := let ⟨o, a, b, _, c⟩ := x; ⟨o, a, b, c⟩
structure ExcFld (K : Frag) (C : Addr) (f : Str) : Prop where
 cls : ExcCls K C
 no : findIn K (.ref C) f = some none
 hd : (clsIn K C).map (·.hasDict) = some true
section
variable {prog : Program} {w : World} {A : Around} {E : Value -> Shared -> Prop} {s : Shared} {K : Frag} {e C dx : Addr} {f : Str}
theorem own_find {M : Model} {h : Heap} {mA : Str -> Option Value} {v : Value} (X : K.In h) (T : ExcFld K C f) (I : ExcD C e dx h) (N : h.Ns dx mA) (hv : mA f = some v) : Looks M h (Builtin.ObjectAttr.find (.ref e) (.ref C) f) (.value v) := by
 obtain ⟨cd, hc⟩ : ∃ cd, clsIn K C = some cd := by
  cases q : clsIn K C with
  | none => have := T.hd; rw [q] at this; cases this
  | some cd => exact ⟨cd, rfl⟩
 have hd : cd.hasDict = true := by
  have := T.hd
  rw [hc] at this
  exact Option.some.inj this
 obtain ⟨o, he, ho, hdx, hn⟩ := I
 intro A Q E s k q
 have lc := looks_clsIn (M := M) X hc
 unfold Builtin.ObjectAttr.find
 refine wpAny_bind (looks_findIn (M := M) X T.no A _ E s k ?_)
 unfold getOf dataDescriptor? ownThenClass inOwnDict ObjectAttr.ownDict
 refine wpAny_bind (wpAny_pure (wpAny_bind (wpAny_pure ?_)))
 refine wpAny_bind (wpAny_bind (wpAny_bind ?_))
 unfold loadHead
 refine wpAny_loadPart (k _ _ he) ?_
 have key : wpAny M A (instanceDict e false) (fun d s' => d = some dx /\ s' = s) E s := by
  unfold instanceDict
  refine wpAny_bind (wpAny_loadPart (k _ _ he) ?_)
  rw [ho]
  refine wpAny_bind (lc A _ E s k ?_)
  simp only [hd, hdx, Bool.not_true, Bool.false_eq_true, if_false]
  exact wpAny_pure ⟨rfl, rfl⟩
 have key2 : wpAny M A (instanceDict e false) (fun d s' => wpAny M A (inDict f d) (fun r s'' => wpAny M A (match r with | some v => do rule "getattr.instance-dict"; pure (Found.value v) | none => do copiedAttributeGuard f (.ref e); byTheClass none none) Q E s'') E s') E s := by
  refine wpAny_mono key (fun d s' z => ?_) fun _ _ z => z
  obtain ⟨rfl, rfl⟩ := z
  unfold inDict
  refine wpAny_nsGet (let ⟨o', es, ep, a, b⟩ := N; ⟨o', es, ep, k _ _ a, b⟩) ?_
  rw [hv]
  exact wpAny_bind (wpAny_rule (wpAny_pure q))
 unfold notCls at hn
 split at hn
 ·cases hn
 ·rename_i hnc
  split
  ·rename_i c hc'
   exact absurd hc' (hnc c)
  ·exact key2
theorem own_entry {tk : Tok} {Q : PySem.Fin -> Shared -> Prop} {mA : Str -> Option Value} {v : Value} (X : K.In s.heap) (T : ExcFld K C f) (I : ExcD C e dx s.heap) (N : s.heap.Ns dx mA) (hv : mA f = some v) (h : Q (.done (.ret v)) s) :
  wpAny (model prog w) A (Builtin.«object.__getattribute__» ⟨[.ref e, .str f tk], []⟩) Q E s := by
 obtain ⟨hp, gs, dr, t, os⟩ := s
 have l0 := I.exc.type (M := model prog w)
 have l1 := own_find (M := model prog w) X T I N hv
 unfold Builtin.«object.__getattribute__»
 repeat (first | with_reducible refine wpAny_call ?_ | lk)
 exact h
theorem own_field {Q : Value -> Shared -> Prop} {mA : Str -> Option Value} {v : Value} (X : K.In s.heap) (T : ExcFld K C f) (I : ExcD C e dx s.heap) (N : s.heap.Ns dx mA) (hv : mA f = some v) (hh : handedOut v = pure v)
  (h : Q v { s with toks := s.toks + 1 }) : wpAny (model prog w) A (getAttr (.ref e) f true) Q E s := by
 obtain ⟨hp, gs, dr, t, os⟩ := s
 have l0 := I.exc.type (M := model prog w)
 have l1 := looks_findIn (M := model prog w) X T.cls.ga
 have l2 := looks_findIn (M := model prog w) X T.cls.gt
 have l3 := looks_mroIn (M := model prog w) X T.cls.be
 unfold getAttr getAttrBy
 refine wpAny_bind (wpAny_mkText (wpAny_holding (wpAny_bind (l0.at (wpAny_bind (l1.at ?_))))))
 dsimp only
 have ne : (Value.builtin "BaseException.__getattribute__" == Value.builtin "object.__getattribute__") = false := by decide +kernel
 rw [if_neg (by rw [ne, Bool.and_false]; exact Bool.false_ne_true)]
 unfold getAttrByItsOwn hookBefore
 repeat (first | with_reducible refine wpAny_call ?_ | with_reducible refine wpAny_attempt ?_ | lk)
 have hk : builtinKind "BaseException.__getattribute__" = some .slot := by decide +kernel
 have hsplit : splitId "BaseException.__getattribute__" = some ("BaseException", "__getattribute__") := by decide +kernel
 refine codeAny_call_builtin (by decide +kernel) F.entry_bexc_ga ?_
 have ha := F.args_bexc_ga (.ref e) (.str f t)
 show wpAny _ _ (checkBuiltinCall "BaseException.__getattribute__" ⟨[.ref e, .str f t], []⟩) _ _ _
 simp only [checkBuiltinCall, hk, hsplit]
 unfold isInstance
 refine wpAny_bind (wpAny_bind (l0.at (l3.at ?_)))
 simp only [Bool.not_true, Bool.false_eq_true, if_false]
 refine wpAny_of_eq (show _ = pure () from ha) ?_
 refine wpAny_mono (own_entry (E := fun _ _ => False) (Q := fun fin s' => fin = .done (.ret v) /\ s' = ⟨hp, gs, dr, t + 1, os⟩) X T I N hv ⟨rfl, rfl⟩) (fun fin s' z => ?_) fun _ _ z => z.elim
 obtain ⟨rfl, rfl⟩ := z
 exact wpAny_of_eq hh h
end
end L2
namespace L2
open PySem PySem.Spec PyProof.Rows PySem.W PySem.Calls Builtin Builtin.ObjectAttr
def onlyVE : List Value -> Bool
 | .ref _ :: r => onlyVE r
 | l => l == bmVE
theorem refuse_VE (self : Value) : ∀ {l : List Value}, onlyVE l = true -> refuseLoop self "__setattr__" l = pure ()
 | .ref c :: r, e => by rw [refuseLoop_ref]; exact refuse_VE self e
 | [], e => by cases e
 | .type n :: r, e => by
  have : (Value.type n :: r) = bmVE := beq_iff_eq.mp e
  rw [this]
  exact PySem.F.store_ValueError.passes self
 | .none :: r, e => by have : (Value.none :: r) = bmVE := beq_iff_eq.mp e; cases this
 | .bool _ :: r, e => by have : (_ :: r) = bmVE := beq_iff_eq.mp e; cases this
 | .int _ _ :: r, e => by have : (_ :: r) = bmVE := beq_iff_eq.mp e; cases this
 | .str _ _ :: r, e => by have : (_ :: r) = bmVE := beq_iff_eq.mp e; cases this
 | .bytes _ _ :: r, e => by have : (_ :: r) = bmVE := beq_iff_eq.mp e; cases this
 | .float _ _ :: r, e => by have : (_ :: r) = bmVE := beq_iff_eq.mp e; cases this
 | .ellipsis :: r, e => by have : (_ :: r) = bmVE := beq_iff_eq.mp e; cases this
 | .notImplemented :: r, e => by have : (_ :: r) = bmVE := beq_iff_eq.mp e; cases this
 | .builtin _ :: r, e => by have : (_ :: r) = bmVE := beq_iff_eq.mp e; cases this
structure ExcSet (K : Frag) (C : Addr) (f : Str) : Prop where
 fld : ExcFld K C f
 sa : findIn K (.ref C) "__setattr__" = some (some (.builtin "object.__setattr__"))
 over : (clsIn K C).any (fun cd => onlyVE cd.mro) = true
section
variable {prog : Program} {w : World} {A : Around} {E : Value -> Shared -> Prop} {s : Shared} {K : Frag} {e C : Addr} {f : Str} {R : Result -> Shared -> Prop}
theorem exc_looks {M : Model} {h : Heap} {o : Obj} (he : h.get? e = some o) (hc : o.cls = .ref C) : Looks M h (typeOf (.ref e)) (.ref C) := hc ▸ (Looks.ld he).andThen .now
theorem osaD {vs : Array Value} {sl : Array (Option Value)} {tk : Tok} {v : Value} (X : K.In s.heap) (T : ExcSet K C f) (he : s.heap.get? e = some ⟨.ref C, none, .fields vs, sl⟩)
  (h : ∀ h', h'.get? e = some ⟨.ref C, some s.heap.objs.size, .fields vs, sl⟩ -> h'.Ns1 s.heap.objs.size (fun y => if y = f then some v else none) -> (∀ b o, b ≠ e -> s.heap.get? b = some o -> h'.get? b = some o) -> R (.ok (.ret .none)) { s with heap := h', toks := s.toks + 1 }) :
  codeAny (model prog w) A (.call (.builtin "object.__setattr__") ⟨[.ref e, .str f tk, v], []⟩) R s := by
 have SF := PySem.F.store_object
 obtain ⟨cd, hc, ho⟩ := any_some T.over
 have hd : cd.hasDict = true := by
  have := T.fld.hd
  rw [hc] at this
  exact Option.some.inj this
 have l0 : Looks (model prog w) s.heap (typeOf (.ref e)) (.ref C) := exc_looks he rfl
 have sub : Looks (model prog w) s.heap (isInstance (.ref e) (.type "object")) true := l0.andThen (looks_mroIn X T.fld.cls.ob)
 refine codeAny_call_builtin SF.slot.plain SF.entry (@check_slot (model prog w) _ _ s "object.__setattr__" "object" "__setattr__" (.ref e) [.str f tk, v] [] _ SF.kind SF.split sub (SF.args (.ref e) (.str f tk) v) ?_)
 have hm : Looks (model prog w) s.heap (mroOf (.ref C)) cd.mro := (looks_clsIn X hc).andThen .now
 rw [osa_eq, refuse_eq]
 refine wpAny_bind (wpAny_bind (l0.here (wpAny_bind (hm.here ?_))))
 rw [refuse_VE _ ho]
 refine wpAny_pure (wpAny_bind (l0.here (wpAny_bind ((looks_findIn X T.fld.no).here (wpAny_bind (wpAny_pure ?_))))))
 have ns : e ≠ s.heap.objs.size := Nat.ne_of_lt (Heap.lt_size he)
 have h1 : (s.heap.push { cls := .type "dict", data := .dict #[] }).get? e = some ⟨.ref C, none, .fields vs, sl⟩ := Heap.get?_push_of_some _ he
 show wpAny _ _ (storeInOwnDict (.ref e) (.ref C) (.str f tk) f v _) _ _ _
 unfold storeInOwnDict ownDictForStores instanceDict
 refine wpAny_bind (wpAny_pure (wpAny_bind (wpAny_bind (wpAny_loadPart he (wpAny_bind ((looks_clsIn X hc).here ?_))))))
 simp only [hd, Bool.not_true, Bool.false_eq_true, if_false, typeHasDict, Bool.or_self]
 refine wpAny_bind (wpAny_alloc' ?_)
 refine wpAny_bind (wpAny_update' h1 ?_)
 have gd : ((s.heap.push { cls := .type "dict", data := .dict #[] }).update e fun o => { cls := o.cls, dict := some s.heap.objs.size, data := o.data, slots := o.slots }).get? s.heap.objs.size = some { cls := .type "dict", data := .dict #[] } :=
  (Heap.get?_update_ne _ _ _ _ (Ne.symm ns)).trans (Heap.get?_push_at rfl rfl)
 have nd : ((s.heap.push { cls := .type "dict", data := .dict #[] }).update e fun o => { cls := o.cls, dict := some s.heap.objs.size, data := o.data, slots := o.slots }).Ns s.heap.objs.size (fun _ => none) :=
  ⟨_, #[], _, gd, rfl, fun x hx => absurd hx (by simp), fun _ => rfl⟩
 refine wpAny_pure ?_
 show wpAny _ _ (storeInDict s.heap.objs.size (.str f tk) f v) _ _ _
 unfold storeInDict newKeyGuard
 refine wpAny_bind (wpAny_pure (wpAny_bind (wpAny_nsSet1 (Heap.Ns1.of_empty nd) fun h' hn' hs => ?_)))
 obtain ⟨oD, esD, epD, hoD, hdD, hcD⟩ := hn'.count (Within.cons f v Within.nil)
 refine wpAny_bind (wpAny_lookBehind hoD (by rw [hdD]; exact pastItsLine_dict (Nat.le_trans hcD (by rw [List.length_cons, List.length_nil, sizeLine_eq]; omega))) ?_)
 refine wpAny_pure (h h' ((hs.2 e ns).trans (Heap.get?_update_self _ h1 rfl)) hn' fun b o nb hb => ?_)
 exact (hs.2 b (Nat.ne_of_lt (Heap.lt_size hb))).trans ((Heap.get?_update_ne _ _ _ _ nb).trans (Heap.get?_push_of_some _ hb))
theorem setD {vs : Array Value} {sl : Array (Option Value)} {v : Value} {Q : Unit -> Shared -> Prop} (X : K.In s.heap) (T : ExcSet K C f) (he : s.heap.get? e = some ⟨.ref C, none, .fields vs, sl⟩)
  (h : ∀ h', h'.get? e = some ⟨.ref C, some s.heap.objs.size, .fields vs, sl⟩ -> h'.Ns1 s.heap.objs.size (fun y => if y = f then some v else none) -> (∀ b o, b ≠ e -> s.heap.get? b = some o -> h'.get? b = some o) -> Q () { s with heap := h', toks := s.toks + 1 + 1 }) :
  wpAny (model prog w) A (setAttr (.ref e) f v) Q E s := by
 have l0 : Looks (model prog w) s.heap (typeOf (.ref e)) (.ref C) := exc_looks he rfl
 refine wpAny_bind (wpAny_mkText (wpAny_bind (wpAny_bind (wpAny_bind (l0 _ _ _ _ (fun _ _ e => e) (looks_findIn X T.sa _ _ _ _ (fun _ _ e => e) (wpAny_holding ?_)))))))
 rw [PySem.F.store_object.slot.bind]
 refine wpAny_bind (wpAny_pure (wpAny_bind (wpAny_call ?_)))
 refine osaD (s := { s with toks := s.toks + 1 }) X T he fun h' a b c => ?_
 exact wpAny_pure (wpAny_pure (h h' a b c))
end
end L2
namespace L2
open PySem PySem.Spec PyProof.Rows PySem.W PySem.Calls
def excInB (K : Frag) (C fI : Addr) : Bool := match K.lookup C with
 | some ⟨.type "type", _, .cls cd, sl⟩ => (match cd.mro, sl.toList with
  | .ref C' :: bm, [_, _, _, _, some (.builtin n), _] => C' == C && n == "ValueError.__new__" && !cd.hasDel && tailIn K bmVE bm && nsOkIn K cd.ns && nsIn K cd.ns "__init__" == some (some (.ref fI))
  | _, _ => false)
 | _ => false
theorem ns_some_of {K : Frag} {h : Heap} {N : Addr} {mg : Str -> Option Value} {n : Str} {v : Value} (X : K.In h) (G : h.Ns N mg) (e : nsIn K N n = some (some v)) : mg n = some v := by
 obtain ⟨o, es, ep, ho, hd, _, hf⟩ := G
 unfold nsIn at e
 split at e
 ·rename_i q
  have z := (X _ _ q).symm.trans ho
  cases z
  cases hd
  split at e
  ·rename_i en fe
   have ev : en.val = v := Option.some.inj (Option.some.inj e)
   rw [<- hf n, <- ev]
   show Option.map _ (Array.find? _ es) = _
   rw [<- Array.find?_toList, fe]
   rfl
  ·split at e <;> cases e
 ·cases e
theorem exc_objI {K : Frag} {h : Heap} {C fI : Addr} (X : K.In h) (q : excInB K C fI = true) :
  ∃ bm N nm qn bs hdct sn sub ab col dd k0 k1 k2 k3 k5 mN, h.get? C = some (excClassObj nm qn C N bs bm hdct sn sub ab col dd k0 k1 k2 k3 k5 "ValueError.__new__") /\ h.Ns N mN /\ mN "__init__" = some (.ref fI) /\ OwnTail h bmVE bm := by
 unfold excInB at q
 split at q
 ·rename_i dd cd sl ho
  split at q
  ·rename_i C' bm k0 k1 k2 k3 n k5 hm hs
   simp only [Bool.and_eq_true, beq_iff_eq, Bool.not_eq_true'] at q
   obtain ⟨⟨⟨⟨⟨c1, c2⟩, c3⟩, c4⟩, c5⟩, c6⟩ := q
   subst c1 c2
   obtain ⟨nm, bs, mro, ns, qn, hd, sn, sub, ab, col, del⟩ := cd
   dsimp only at hm c3 c5 c6
   subst hm c3
   obtain ⟨l⟩ := sl
   have hs' : l = [k0, k1, k2, k3, some (.builtin "ValueError.__new__"), k5] := hs
   subst hs'
   exact ⟨bm, ns, nm, qn, bs, hd, sn, sub, ab, col, dd, k0, k1, k2, k3, k5, _, X _ _ ho, .of_isNs (W.isNs_of_in X c5), ns_some_of X (.of_isNs (W.isNs_of_in X c5)) c6, W.tail_of_in X c4⟩
  ·cases q
 ·cases q
abbrev excNew (C t : Addr) : Obj := { cls := .ref C, data := .fields #[.ref t, .none, .none, .none, .bool false, .none] }
abbrev excLaid (C t dx : Addr) : Obj := { cls := .ref C, dict := some dx, data := .fields #[.ref t, .none, .none, .none, .bool false, .none] }
section
variable {prog : Program} {w : World} {A : Around} {E : Value -> Shared -> Prop} {h : Heap} {g : Array GenState} {d : Drawn} {t : Nat} {os : OsState}
variable {nm q : Str} {C N : Addr} {bs bm : List Value} {hdct : Bool} {sn : List Str} {sub : List Value} {ab : Bool} {col : Option Bool} {dd : Option Addr} {k0 k1 k2 k3 k5 : Option Value}
theorem type_initT (T : OwnTail h bmVE bm) {mN : Str -> Option Value} {rest : List Value} {fI : Addr} {oI : Obj} {Q : Fin -> Shared -> Prop}
  (hC : h.get? C = some (excClassObj nm q C N bs bm hdct sn sub ab col dd k0 k1 k2 k3 k5 "ValueError.__new__")) (hn : h.Ns N mN) (hi : mN "__init__" = some (.ref fI)) (hfI : h.get? fI = some oI) (hfc : oI.cls = .type "function")
  (hq : wpAny (model prog w) A (call (.ref fI) (.ref (h.objs.size + 1) :: rest)) (fun r s' => r = .none /\ Q (.done (.ret (.ref (h.objs.size + 1)))) s') E
   ⟨(h.push { cls := .type "tuple", data := .seq rest.toArray }).push (excNew C h.objs.size), g, d, t, os⟩) (hrest : rest.length <= sizeLine) :
  wpAny (model prog w) A (Builtin.«type.__call__» ⟨.ref C :: rest, []⟩) Q E ⟨h, g, d, t, os⟩ := by
 have BF := PySem.F.excBase_ValueError
 have hB : bmVE.contains (.type "ValueError") = true := by decide
 repeat (first | with_reducible refine wpAny_loadPart_at hC ?_ | with_reducible refine wpAny_madeBy_exc hC ?_ | wp_step)
 refine codeAny_call_builtin_code (Code.quiet_builtin _ BF.quiet) (wpAny_check_new_subU BF hB T hC (codeAny_exc_new_subU BF hB BF T hC ?_ hrest))
 show wpAny _ _ _ _ _ _
 have p1 : ∀ b o, h.get? b = some o -> ((h.push { cls := .type "tuple", data := .seq rest.toArray }).push (excNew C h.objs.size)).get? b = some o := fun b o z => Heap.get?_push_of_some _ (Heap.get?_push_of_some _ z)
 have C1 := p1 _ _ hC
 have f1 := p1 _ _ hfI
 have n1 : ((h.push { cls := .type "tuple", data := .seq rest.toArray }).push (excNew C h.objs.size)).Ns N mN := let ⟨o, es, ep, z, r⟩ := hn; ⟨o, es, ep, p1 _ _ z, r⟩
 have g1 : ((h.push { cls := .type "tuple", data := .seq rest.toArray }).push (excNew C h.objs.size)).get? (h.objs.size + 1) = some (excNew C h.objs.size) := by heap_get
 have cc : (Value.ref C :: bm).contains (.ref C) = true := by simp
 have T1 := T.keeps p1
 unfold isInstance
 repeat (first | with_reducible refine wpAny_loadPart_at g1 ?_ | (with_reducible refine wpAny_isSubtype_exc C1 ?_; rw [cc]) | wp_step)
 show wpAny _ _ (typeLookup (.ref C) _) _ _ _
 refine wpAny_typeLookup_tail C1 n1 T1 BF.mroIs BF.init.lookup ?_
 rw [hi]
 refine wpAny_holding (wpAny_bind ?_)
 unfold bindSpecial
 refine wpAny_bind (wpAny_typeOf (T := "function") ⟨_, f1, hfc⟩ ?_)
 rw [if_pos (by decide)]
 refine wpAny_pure (wpAny_bind (wpAny_mono hq (fun r s' hr => ?_) fun _ _ x => x))
 obtain ⟨rfl, z⟩ := hr
 wp_walk
 exact z
theorem call_initT (T : OwnTail h bmVE bm) {mN : Str -> Option Value} {rest : List Value} {fI : Addr} {oI : Obj} {Q : Value -> Shared -> Prop}
  (hC : h.get? C = some (excClassObj nm q C N bs bm hdct sn sub ab col dd k0 k1 k2 k3 k5 "ValueError.__new__")) (hn : h.Ns N mN) (hi : mN "__init__" = some (.ref fI)) (hfI : h.get? fI = some oI) (hfc : oI.cls = .type "function")
  (hq : wpAny (model prog w) (A.under (.builtin "type.__call__" ⟨.ref C :: rest, []⟩)) (call (.ref fI) (.ref (h.objs.size + 1) :: rest)) (fun r s' => r = .none /\ Q (.ref (h.objs.size + 1)) s') E
   ⟨(h.push { cls := .type "tuple", data := .seq rest.toArray }).push (excNew C h.objs.size), g, d, t, os⟩) (hrest : rest.length <= sizeLine) :
  wpAny (model prog w) A (call (.ref C) rest) Q E ⟨h, g, d, t, os⟩ := by
 have f1 := tc_lookup
 have f2 := tc_bind (.ref C)
 have hT : (⟨h, g, d, t, os⟩ : Shared).TypeIs (.ref C) "type" := ⟨_, hC, rfl⟩
 refine wpAny_call (codeAny_of_tree ?_)
 show wpAny _ _ (callAny (.ref C) _) _ _ _
 repeat (any_goals (first | assumption | with_reducible refine wpAny_loadPart_at hC ?_ | wp_step))
 refine ⟨rfl, codeAny_call_builtin_at (Code.quiet_builtin _ (by decide +kernel)) entry_typeCall (wpAny_check_type_call_sub hC (type_initT T hC hn hi hfI hfc ?_ hrest))⟩
 exact hq
theorem base_init (T : OwnTail h bmVE bm) {e a : Addr} {x : Value} {Q : Value -> Shared -> Prop} (hC : h.get? C = some (excClassObj nm q C N bs bm hdct sn sub ab col dd k0 k1 k2 k3 k5 "ValueError.__new__")) (he : h.get? e = some (excNew C a))
  (hq : ∀ h', h'.get? e = some (excNew C h.objs.size) -> (∀ b o, b ≠ e -> h.get? b = some o -> h'.get? b = some o) -> Q .none ⟨h', g, d, t, os⟩) :
  wpAny (model prog w) A (call (.builtin "ValueError.__init__") [.ref e, x]) Q E ⟨h, g, d, t, os⟩ := by
 have BF := PySem.F.excBase_ValueError
 refine wpAny_call (codeAny_call_builtin BF.init.plain BF.initEntry (wpAny_check_init_subU BF T hC he rfl ?_))
 wp_walk
 refine hq _ ?_ fun b o nb hb => ?_
 ·rw [Heap.get?_update_self _ (Heap.get?_push_of_some _ he) rfl]
  rfl
 ·rw [Heap.get?_update_other _ _ (Ne.symm nb)]
  exact Heap.get?_push_of_some _ hb
end
end L2
namespace L2
open PySem PySem.Spec PyProof.Rows PySem.W PySem.Calls
def ExcN (C e : Addr) (h : Heap) : Prop := ∃ a, h.get? e = some (excNew C a)
def ExcL (C e dx : Addr) (h : Heap) : Prop := ∃ a, h.get? e = some (excLaid C a dx)
theorem okN {P : Program} {w : World} {H : Hp} {h : Heap} {C e a : Addr} (he : h.get? e = some (excNew C a)) : ObjOk P w H h e (.ext (ExcN C e)) := ⟨⟨a, he⟩, ⟨_, he⟩, fun _ _ ⟨b, z⟩ k => ⟨b, k _ z⟩⟩
theorem okL {P : Program} {w : World} {H : Hp} {h : Heap} {C e dx a : Addr} (he : h.get? e = some (excLaid C a dx)) : ObjOk P w H h e (.ext (ExcL C e dx)) := ⟨⟨a, he⟩, ⟨_, he⟩, fun _ _ ⟨b, z⟩ k => ⟨b, k _ z⟩⟩
def tBI (K : Frag) (ta : TA) : TE := fun σ H Q => ta σ H fun vs H1 => ∃ e C fI x, vs = [.ref e, x] /\ H1 e = some (.ext (ExcN C e)) /\ excInB K C fI = true /\ Q .non (upd H1 e (.ext (ExcN C e)))
theorem callWith_B {M : Model} {A : Around} {K : Frag} {pos : Pos} {env : Env} {n : String} {first : List Value} {e : Expr} {rest : List Expr} {Q : Value -> Shared -> Prop} {E : Value -> Shared -> Prop} {s : Shared}
  (h : wpAny M A (spliced (backTo pos (starEach (e :: rest) env))) (fun vs s₁ => K.In s₁.heap /\ wpAny M A (call (.builtin n) (first ++ vs)) Q E s₁) E s)
  (he : starEach (e :: rest) env = (false, eval e env) :: starEach rest env := by rfl) (hplain : (backTo pos (starEach rest env)).any (·.1) = false := by rfl) :
  wpAny M A (callWith pos (.builtin n) first (backTo pos (starEach (e :: rest) env)) []) Q E s := by
 rw [he] at h ⊢
 exact W.callWith_of (by show ((false || (backTo pos (starEach rest env)).any (·.1)) || false) = false; rw [hplain]; rfl) (fun h (_ : K.In h) => ⟨.machine, .inr (.inl rfl), .now⟩) (evalArgs_plain h)
section
variable {X : Cx}
theorem pe_baseInit {cn : Str} {B : Addr} {np ap pos : Pos} {a : Expr} {es : List Expr} {t : TA} {pl : Sem Bool} (hg : Gl X cn) (hm : X.mg cn = some (.ref B)) (h1 : specialIn X.K (.ref B) "__getattribute__" = some (some (.builtin "type.__getattribute__")))
  (h2 : readsIn X.K B (.type "type") = true) (h3 : findCls X.K (.ref B) (.type "type") "__init__" = some (.val (.builtin "ValueError.__init__"))) (ha : PA X (a :: es) t)
  (hdb : (cn == ("__debug__" : Str)) = false := by decide)
  (hst : starEach (a :: es) X.env = (false, eval a X.env) :: starEach es X.env := by rfl) (hpl : (backTo pos (starEach es X.env)).any (·.1) = false := by rfl)
  (ht : eval (.Call (.Attribute (.Name cn np) "__init__" ap) (a :: es) [] pos) X.env = (do
   let ov <- eval (.Name cn np) X.env
   standAt ap.atName
   let (f, first) <- holding [ov] (getMethod ov "__init__" pl)
   callWith pos f first (backTo pos (starEach (a :: es) X.env)) (backToKw pos (keywordEach [] X.env))) := by rfl) :
  PE X (.Call (.Attribute (.Name cn np) "__init__" ap) (a :: es) [] pos) (tBI X.K t) := by
 intro pins s σ H Q I h
 refine W.methodCall_KW (pl := pl) (ld_glob I hg hm ?_ hdb) ht
 refine method_cls I.kIn h1 (cls_value I.kIn h2 h3 (by decide +kernel) ?_)
 have I' := I.tok (s.toks + 1)
 refine callWith_B (K := X.K) (first := []) (thn (ha pos pins _ σ H _ I' h) fun us s1 ⟨vs, H1, I1, r, q⟩ => ⟨I1.kIn, ?_⟩) hst hpl
 obtain ⟨e, C, fI, x, rfl, hH, hI, q⟩ := q
 obtain ⟨u1, u2, rfl, r1, r2⟩ := r.two
 obtain rfl : u1 = Value.ref e := r1
 obtain ⟨bm, Nn, nm, qn, bs, hdct, sn, sub, ab, col, dd, k0, k1, k2, k3, k5, mN, hC, hNs, hni, TL⟩ := exc_objI I1.kIn hI
 obtain ⟨⟨a0, he⟩, _, _⟩ := (show ObjOk X.prog X.w H1 s1.heap e (.ext (ExcN C e)) from I1.hok e _ hH)
 obtain ⟨hp, gs, dr, tk, os⟩ := s1
 show wpAny _ _ (call (.builtin "ValueError.__init__") [.ref e, u2]) _ _ _
 refine base_init TL hC he fun h' he' kp => ?_
 exact ⟨.non, _, I1.write (t' := tk) (x := e) (e := e) (by rw [hH]; exact True.intro) (.inl rfl) (fun b u nb z => kp b u nb z) ⟨_, he'⟩ (okN he'), rfl, q⟩
def sXF (K : Frag) (ta tv : TE) (f : Str) : TS := fun D σ H => tv σ H fun y H1 => ta σ H1 fun x H2 => ∃ e C, x = .ref e /\ H2 e = some (.ext (ExcN C e)) /\ ExcSet K C f /\ ∀ dx, H2 dx = none -> D.nx σ (upd (upd H2 dx (.xd [(f, y)])) e (.ext (ExcL C e dx)))
theorem ps_excfld {o value : Expr} {f : Str} {pos pos' : Pos} {ta tv : TE} (ha : PE X o ta) (hv : PE X value tv) (hs : swapsWith value (some (.Attribute o f pos')) pos.line X.env = pure false) : PS X (.Assign [.Attribute o f pos'] value pos) (sXF X.K ta tv f) := by
 intro pins s σ H D I h
 refine plainObj_wpAny_Assign_Attribute (thn (hv pins s σ H _ I h) fun u s1 ⟨y, H1, I1, ry, q⟩ => thn (ha pins s1 σ H1 _ I1 q) fun ov s2 ⟨x, H2, I2, rx, e, C, ex, hH, T, q2⟩ => ?_) hs
 subst ex
 obtain rfl : ov = Value.ref e := rx
 obtain ⟨⟨a0, he⟩, _, _⟩ := (show ObjOk X.prog X.w H2 s2.heap e (.ext (ExcN C e)) from I2.hok e _ hH)
 refine setD I2.kIn T he fun h' he' ns kp => ?_
 obtain ⟨oD, es, ep, gD, dD⟩ := id ns
 have fr : H2 s2.heap.objs.size = none := I2.hok.fresh (Nat.le_refl _)
 have ne : e ≠ s2.heap.objs.size := Nat.ne_of_lt (Heap.lt_size he)
 have nfr : oD.isFreed = false := by
  have := (Heap.get?_some_iff.mp gD).2
  exact this
 have g1 : (s2.heap.push oD).get? s2.heap.objs.size = some oD := Heap.get?_push_size _ nfr
 have n1 : (s2.heap.push oD).Ns1 s2.heap.objs.size (fun y => if y = f then some u else none) := ⟨oD, es, ep, g1, dD⟩
 have J := I2.laid (a := s2.heap.objs.size) (o := .xd [(f, y)]) (h' := s2.heap.push oD) (t' := s2.toks) (fun b v z => Heap.get?_push_of_some _ z) (Nat.le_refl _) ⟨_, n1, fun g => by
  show RelO (List.lookup g [(f, y)]) (if g = f then some u else none)
  by_cases c : g = f
  ·subst c
   rw [if_pos rfl, List.lookup_cons_self]
   exact ry
  ·rw [if_neg c, List.lookup_cons]
   have : (g == f) = false := by simpa using c
   rw [this]
   exact True.intro⟩
 have hH' : (upd H2 s2.heap.objs.size (.xd [(f, y)])) e = some (.ext (ExcN C e)) := by rw [upd_ne ne]; exact hH
 have J2 := J.write (x := e) (e := e) (o := .ext (ExcL C e s2.heap.objs.size)) (h' := h') (t' := s2.toks + 1 + 1) (by rw [hH']; exact True.intro) (.inl rfl) (fun b v nb z => by
  by_cases c : b = s2.heap.objs.size
  ·subst c
   have z' : (s2.heap.push oD).get? s2.heap.objs.size = some v := z
   rw [g1] at z'
   cases z'
   exact gD
  ·have z' : (s2.heap.push oD).get? b = some v := z
   rw [Heap.get?_push_ne _ _ _ c] at z'
   exact kp b v nb z') ⟨_, he'⟩ (okL he')
 exact ⟨σ, _, J2, q2 _ fr⟩
end
end L2
namespace L2
open PySem PySem.Spec PyProof.Rows PySem.W PySem.Calls
structure FlyX (P : Program) (w : World) (outer : List Env) (H : Hp) (s : Shared) (cls : Value) (dx ea : Addr) (B : Heap) (H' : Hp) (s' : Shared) : Prop where
 os : s'.os = s.os
 bare : AllBare s'.gens
 un : Un (frs outer) [] H H' s.heap s'.heap
 hok : HOk P w H' s'.heap
 fly : FlyAt B outer ea cls (some dx) .none s'.heap
 frf : ∀ b ∈ frs outer, H' b = none
 cov : ∀ b o, s'.heap.get? b = some o -> b ∉ frs outer -> (H' b ≠ none \/ ∃ o', s.heap.get? b = some o') -> B.get? b = some o
 he : H' ea = none
 hs : s.heap.get? ea = none
def XD (P : Program) (w : World) : CXT := fun outer H s E e s' => ∃ (ea : Addr) (cls : Value) (dx : Addr) (B : Heap) (H' : Hp), e = .ref ea /\ FlyX P w outer H s cls dx ea B H' s' /\ E cls (some dx) H'
def without (H : Hp) (e : Addr) : Hp := fun b => if b = e then none else H b
theorem without_ne {H : Hp} {e b : Addr} (h : b ≠ e) : without H e b = H b := if_neg h
theorem without_at {H : Hp} {e : Addr} : without H e e = none := if_pos rfl
theorem without_some {H : Hp} {e b : Addr} {o : HO} (h : without H e b = some o) : b ≠ e /\ H b = some o := by
 unfold without at h
 split at h
 ·cases h
 ·rename_i c; exact ⟨c, h⟩
section
variable {P : Program} {w : World} {K : W.Frag} {mg : Str -> Option Value} {base : Heap} {N : List Str} {qual : Str} {scope : Scope} {f : Addr} {cd : Value} {A : Around} {outer : List Env} {s0 s1 : Shared} {H0 H1 : Hp} {E : XK}
 {pins : List (Addr × Obj)} {σ : St}
theorem raise_xeD {e C dx : Addr} (I : Inv (cxOf (XD P w) P w K mg base N qual scope f cd A outer s0 H0 E) pins σ H1 s1) (hH : H1 e = some (.ext (ExcL C e dx))) (h0 : s0.heap.get? e = none) (hE : E (.ref C) (some dx) (without H1 e)) :
  (cxOf (XD P w) P w K mg base N qual scope f cd A outer s0 H0 E).xe (.ref e) s1 := by
 have st : s1.heap.FunFrames base (envOfC qual scope s0.heap.objs.size f cd :: outer) := I.stack
 have fz : ∀ b ∈ frs (envOfC qual scope s0.heap.objs.size f cd :: outer), H1 b = none := I.stkFree
 have sub : ∀ b ∈ frs (envOfC qual scope s0.heap.objs.size f cd :: outer), b = (envOfC qual scope s0.heap.objs.size f cd).locals \/ b ∈ frs outer := fun b hb => List.mem_cons.mp (I.stkSub b hb)
 have above : s0.heap.objs.size <= (envOfC qual scope s0.heap.objs.size f cd).locals := I.ok.above
 have old : ∀ b o, s0.heap.get? b = some o -> b ∉ frs outer -> b ∉ frs (envOfC qual scope s0.heap.objs.size f cd :: outer) := fun b o q nb z => by
  rcases sub b z with z | z
  ·subst z
   exact absurd (Nat.lt_of_lt_of_le (Heap.lt_size q) above) (Nat.lt_irrefl _)
  ·exact nb z
 obtain ⟨⟨a, he⟩, _, _⟩ := (show ObjOk P w H1 s1.heap e (.ext (ExcL C e dx)) from I.hok e _ hH)
 show wpAny (model P w) (A.deeper (envOfC qual scope s0.heap.objs.size f cd)) (leaving (envOfC qual scope s0.heap.objs.size f cd) (.ref e)) _ _ _
 refine leaveFirstD (base := W.hideAll s1.heap (e :: frs (envOfC qual scope s0.heap.objs.size f cd :: outer))) I.ok.frames (W.funFrames_hide st fun env' h' a ha => List.mem_cons_of_mem _ (List.mem_filterMap.mpr ⟨env', h', ha⟩)) rfl he (fun b o q => W.of_hideAll _ q) (W.hideAll_none _ (List.mem_cons_self ..)) rfl rfl rfl fun h'' fl ups => ?_
 have kept : ∀ b o, s1.heap.get? b = some o -> b ≠ e -> b ∉ frs (envOfC qual scope s0.heap.objs.size f cd :: outer) -> h''.get? b = some o := fun b o q ne nb => fl.stays b o (W.hideAll_get _ q fun z => by
  rcases List.mem_cons.mp z with z | z
  ·exact ne z
  ·exact nb z)
 have u : Un (frs outer) [] H0 H1 s0.heap s1.heap := I.base
 have u' : Un (frs outer) [] H0 (without H1 e) s0.heap s1.heap := ⟨u.keep, u.slot, fun b o q n hx => by
   by_cases c : b = e
   ·subst c; exact without_at
   ·rw [without_ne c]; exact u.free b o q n hx, u.there, fun b xs q => by
   have z := u.tups b xs q
   rw [without_ne fun c => by subst c; rw [hH] at z; cases z]
   exact z, fun b o v q => by
   have z := u.frzs b o v q
   rw [without_ne fun c => by subst c; rw [hH] at z; cases z]
   exact z, fun b ps q => by
   obtain ⟨m, z⟩ := u.tbls b ps q
   exact ⟨m, by rw [without_ne fun c => by subst c; rw [hH] at z; cases z]; exact z⟩⟩
 refine ⟨e, .ref C, dx, _, without H1 e, rfl, ⟨I.os, I.bare, u'.onward (fun b o q nb old' => ?_) (fun b o q hb old' => ?_), fun c v hc => ?_, fl, fun b hb => ?_, fun b o q nb hc => ?_, without_at, h0⟩, hE⟩
 ·obtain ⟨o', q'⟩ := old'
  exact kept b o q (fun z => by subst z; rw [h0] at q'; cases q') (old b o' q' nb)
 ·obtain ⟨_, o', ho', nf⟩ := st.mem (frs_tail hb)
  rw [q] at ho'; cases ho'
  exact ups b o q nf
 ·obtain ⟨ne, hc'⟩ := without_some hc
  have no : ∀ b y, H1 b = some (.own y) -> b ≠ e := fun b y z c => by subst c; rw [hH] at z; cases z
  refine (I.hok c v hc').stay (fun b o hb q => ?_) (fun b z => by rw [without_ne (no b _ z)]; exact z) fun b xs z => by
   rw [without_ne fun c => by subst c; rw [hH] at z; cases z]
   exact z
  rcases hb with rfl | hb
  ·exact kept b o q ne fun z => by rw [fz b z] at hc'; cases hc'
  ·exact kept b o q (no b _ hb) fun z => by rw [fz b z] at hb; cases hb
 ·by_cases c : b = e
  ·subst c; exact without_at
  ·rw [without_ne c]; exact fz b (frs_tail hb)
 ·have key : ∃ o1, s1.heap.get? b = some o1 /\ b ≠ e /\ b ∉ frs (envOfC qual scope s0.heap.objs.size f cd :: outer) := by
   rcases hc with hc | ⟨o', q'⟩
   ·cases e1 : without H1 e b with
    | none => exact absurd e1 hc
    | some u1 =>
     obtain ⟨ne, e2⟩ := without_some e1
     obtain ⟨o1, q1⟩ := (I.hok b u1 e2).there
     exact ⟨o1, q1, ne, fun z => by rw [fz b z] at e2; cases e2⟩
   ·obtain ⟨o1, q1⟩ := u.there b o' q' (by simp)
    exact ⟨o1, q1, (fun z => by subst z; rw [h0] at q'; cases q'), old b o' q' nb⟩
  obtain ⟨o1, q1, ne, n1⟩ := key
  have z := kept b o1 q1 ne n1
  have q2 : h''.get? b = some o := q
  rw [q2] at z; cases z
  exact W.hideAll_get _ q1 fun z => by
   rcases List.mem_cons.mp z with z | z
   ·exact ne z
   ·exact n1 z
theorem passD : Passes (XD P w) (cxOf (XD P w) P w K mg base N qual scope f cd A outer s0 H0 E) E := by
 rintro pins σ H s e s' I ⟨ea, cls, dx, B, H', rfl, x, hE⟩
 have sub : ∀ b ∈ frs (envOfC qual scope s0.heap.objs.size f cd :: outer), b = (envOfC qual scope s0.heap.objs.size f cd).locals \/ b ∈ frs outer := fun b hb => List.mem_cons.mp (I.stkSub b hb)
 have above : s0.heap.objs.size <= (envOfC qual scope s0.heap.objs.size f cd).locals := I.ok.above
 have oldT : ∀ b o, s0.heap.get? b = some o -> b ∈ frs (envOfC qual scope s0.heap.objs.size f cd :: outer) -> b ∈ frs outer := fun b o q z => by
  rcases sub b z with z | z
  ·subst z
   exact absurd (Nat.lt_of_lt_of_le (Heap.lt_size q) above) (Nat.lt_irrefl _)
  ·exact z
 have x' : FlyX P w (envOfC qual scope s0.heap.objs.size f cd :: outer) H s cls dx ea B H' s' := x
 have u0 : Un (frs outer) [] H0 H s0.heap s.heap := I.base
 have u : Un (frs outer) [] H0 H' s0.heap s'.heap := u0.andThen x'.un oldT
 have h0 : s0.heap.get? ea = none := by
  cases q : s0.heap.get? ea with
  | none => rfl
  | some o =>
   obtain ⟨o1, q1⟩ := u0.there ea o q (by simp)
   rw [x'.hs] at q1; cases q1
 show wpAny (model P w) (A.deeper (envOfC qual scope s0.heap.objs.size f cd)) (leaving (envOfC qual scope s0.heap.objs.size f cd) (.ref ea)) _ _ _
 refine leaveNextD I.ok.frames rfl x'.fly fun h' fl ups => ?_
 have kept : ∀ b o, s'.heap.get? b = some o -> b ∉ frs (envOfC qual scope s0.heap.objs.size f cd :: outer) -> (H' b ≠ none \/ ∃ o', s.heap.get? b = some o') -> h'.get? b = some o := fun b o q nb hc => fl.stays b o (x'.cov b o q nb hc)
 refine ⟨ea, cls, dx, B, H', rfl, ⟨x'.os.trans I.os, x'.bare, u.onward (fun b o q nb old' => ?_) (fun b o q hb old' => ?_), x'.hok.onward fun b o hb q => kept b o q (fun z => hb (x'.frf b z)) (.inl hb), fl, fun b hb => x'.frf b (frs_tail hb), fun b o q nb hc => ?_, x'.he, h0⟩, hE⟩
 ·obtain ⟨o', q'⟩ := old'
  obtain ⟨o1, q1⟩ := u0.there b o' q' (by simp)
  exact kept b o q (fun z => nb (oldT b o' q' z)) (.inr ⟨o1, q1⟩)
 ·obtain ⟨_, o', ho', nf⟩ := x'.fly.frm.mem (frs_tail hb)
  rw [q] at ho'; cases ho'
  exact ups b o q nf
 ·have key : ∃ o1, s'.heap.get? b = some o1 /\ b ∉ frs (envOfC qual scope s0.heap.objs.size f cd :: outer) /\ (H' b ≠ none \/ ∃ o', s.heap.get? b = some o') := by
   rcases hc with hc | ⟨o', q'⟩
   ·cases e1 : H' b with
    | none => exact absurd e1 hc
    | some u1 =>
     obtain ⟨o1, q1⟩ := (x'.hok b u1 e1).there
     exact ⟨o1, q1, fun z => hc (x'.frf b z), .inl (by rw [e1] at hc; exact hc)⟩
   ·obtain ⟨o1, q1⟩ := u.there b o' q' (by simp)
    obtain ⟨o2, q2⟩ := u0.there b o' q' (by simp)
    exact ⟨o1, q1, fun z => nb (oldT b o' q' z), .inr ⟨o2, q2⟩⟩
  obtain ⟨o1, q1, n1, c1⟩ := key
  have z := kept b o1 q1 n1 c1
  have q2 : h'.get? b = some o := q
  rw [q2] at z; cases z
  exact x'.cov b _ q1 n1 c1
theorem Fun.okD {x qual : Str} {st : Stmt} {f : Addr} {fd : FuncData} {N ps : List Str} {k : Nat} {sp : Sp} (F : Fun K x qual st f fd) (S : FnScope N ps (defScope st)) (len : ∀ vs H Q E, sp vs H Q E -> vs.length = ps.length)
  (hbody : ∀ (cdv : Value) (A : Around) (outer : List Env) (s : Shared) (H : Hp) (vs : List V) (Q : VK) (E : XK), Room k (A.deeper (envOfC qual (defScope st) s.heap.objs.size f cdv)) -> sp vs H Q E ->
   ∃ t, PSs (cxOf (XD P w) P w K mg base N qual (defScope st) f cdv A outer s H E) (defBody st) t /\ t { nx := fun _ H' => Q .non H', rt := Q } (start N vs) H) : FnOk P w K mg base (XD P w) (k + 1) f fd ps sp := by
 obtain ⟨oc, od, kV, doc, pm, an, cdv, ct, osl, rfl, lk, hcd⟩ := F.ex
 exact fn_of lk hcd S len fun A outer s H vs Q E hr hsp => hbody cdv A outer s H vs Q E hr hsp
end
structure MkX (K : Frag) (C fI : Addr) : Prop where
 ex : excInB K C fI = true
 fn : isFn K (.ref fI) = true
section
variable {X : Cx} {CX : CXT} {k : Nat} {fI C : Addr} {fd : FuncData} {ps : List Str} {sp : Sp} {E : XK}
theorem run_excmake {pins : List (Addr × Obj)} {σ : St} {H : Hp} {s : Shared} {us : List Value} {vs : List V} {QQ : Addr -> Hp -> Prop} (M : MkX X.K C fI) (F : FnOk X.prog X.w X.K X.mg X.base CX k fI fd ps sp) (hr : Room (k + 1) X.A) (hb : Binds X.K fd ps [])
  (hx : Passes CX X E) (I : Inv X pins σ H s) (r : Vals vs us) (hz : us.length <= sizeLine)
  (h : ∀ e, H e = none -> sp (.ref e :: vs) (upd H e (.ext (ExcN C e))) (fun v H2 => v = .non /\ QQ e H2) E) :
  wpAny (model X.prog X.w) X.A (call (.ref C) us) (fun v s' => ∃ e H', v = .ref e /\ Inv X pins σ H' s' /\ s.heap.get? e = none /\ QQ e H') X.xe s := by
 obtain ⟨bm, Nn, nm, qn, bs, hdct, sn, sub, ab, col, dd, k0, k1, k2, k3, k5, mN, hC, hNs, hni, TL⟩ := exc_objI I.kIn M.ex
 have ty : typeIn X.K (.ref fI) = some (.type "function") := beq_iff_eq.mp M.fn
 obtain ⟨oI, lk, hfc⟩ : ∃ oI, X.K.lookup fI = some oI /\ oI.cls = .type "function" := by
  have ty' : (X.K.lookup fI).map (·.cls) = some (.type "function") := ty
  cases q : X.K.lookup fI with
  | none => rw [q] at ty'; cases ty'
  | some oI => rw [q] at ty'; exact ⟨oI, rfl, Option.some.inj ty'⟩
 have hfI := I.kIn _ _ lk
 have hq := h (s.heap.objs.size + 1) (I.hok.fresh (Nat.le_succ _))
 have nn : s.heap.get? (s.heap.objs.size + 1) = none := Heap.get?_none_of_le (Nat.le_succ _)
 have g1 : ((s.heap.push { cls := .type "tuple", data := .seq us.toArray }).push (excNew C s.heap.objs.size)).get? (s.heap.objs.size + 1) = some (excNew C s.heap.objs.size) := by heap_get
 have I2 := I.laid (a := s.heap.objs.size + 1) (o := .ext (ExcN C (s.heap.objs.size + 1))) (h' := (s.heap.push { cls := .type "tuple", data := .seq us.toArray }).push (excNew C s.heap.objs.size)) (t' := s.toks)
  (fun b u q => Heap.get?_push_of_some _ (Heap.get?_push_of_some _ q)) (Nat.le_succ _) (okN g1)
 have r2 : Vals (V.ref (s.heap.objs.size + 1) :: vs) (Value.ref (s.heap.objs.size + 1) :: us) := .cons rfl r
 have hl : (Value.ref (s.heap.objs.size + 1) :: us).length = ps.length := by
  have e := r2.length
  rw [F.len _ _ _ _ hq] at e
  exact e.symm
 have hb' := hb { s with heap := (s.heap.push { cls := .type "tuple", data := .seq us.toArray }).push (excNew C s.heap.objs.size) } (Value.ref (s.heap.objs.size + 1) :: us) I2.kIn (by rw [List.append_nil]; exact hl)
 rw [List.append_nil] at hb'
 obtain ⟨hp, gs, dr, tk, os⟩ := s
 refine call_initT TL hC hNs hni hfI hfc ?_ hz
 refine wpAny_call (codeAny_mono (F.run _ X.stack _ _ ⟨Value.ref (hp.objs.size + 1) :: us, []⟩ (Value.ref (hp.objs.size + 1) :: us) _ _ E (hr.make C us []) (I2.env0.make C us []) hb' r2 hq) fun rr s' hq' => ?_)
 cases rr with
 | error e => exact hx pins σ _ _ e s' I2 hq'
 | ok fl =>
  cases fl with
  | ret u =>
   obtain ⟨v, H', I3, rv, ev, q3⟩ := I2.after hq'
   subst ev
   exact ⟨rv, _, H', rfl, I3, nn, q3⟩
  | next => exact False.elim hq'
  | brk => exact False.elim hq'
  | cont => exact False.elim hq'
end
end L2
namespace L2
open PySem PySem.Spec PyProof.Rows PySem.W PySem.Calls
section
variable {M : Model} {A : Around} {E : Value -> Shared -> Prop} {s : Shared} {env : Env}
variable {nm q : Str} {C N : Addr} {bs bm : List Value} {hdct : Bool} {sn : List Str} {sub : List Value} {ab : Bool} {col : Option Bool} {dd : Option Addr} {k0 k1 k2 k3 k5 : Option Value}
theorem raise_laid {x : Sem Value} {Q : Flow -> Shared -> Prop} (hB : bm.contains (.type "BaseException") = true) (hh : A.handled = none)
  (h : wpAny M A x (fun v s1 => ∃ e t dx, v = .ref e /\ s1.heap.get? C = some (excClassObj nm q C N bs bm hdct sn sub ab col dd k0 k1 k2 k3 k5 "ValueError.__new__") /\ s1.heap.get? e = some (excLaid C t dx) /\ E (.ref e) s1) E s) :
  wpAny M A (raiseStmt env (some x) none) Q E s := by
 have cB : (Value.ref C :: bm).contains (.type "BaseException") = true := by rw [List.contains_cons, hB, Bool.or_true]
 unfold raiseStmt
 refine wpAny_bind (wpAny_mono h (fun v s1 z => ?_) fun _ _ y => y)
 obtain ⟨e, t, dx, rfl, hC, he, hE⟩ := z
 obtain ⟨hp, g, d, tk, os⟩ := s1
 repeat (first | with_reducible refine wpAny_loadPart_at he ?_ | with_reducible refine wpAny_loadPart_at hC ?_ | (with_reducible refine wpAny_isSubtype_exc hC ?_; rw [cB]) | wp_step)
 exact wpAny_raiseNew_none hh hE
end
section
variable {prog : Program} {w : World} {A : Around} {E : Value -> Shared -> Prop} {s : Shared} {env : Env}
variable {nm q : Str} {C N : Addr} {bs bm : List Value} {hdct : Bool} {sn : List Str} {sub : List Value} {ab : Bool} {col : Option Bool} {dd : Option Addr} {k0 k1 k2 k3 k5 : Option Value}
theorem Raise_laid {x : Str} {np cpos pos : Pos} {args : List Expr} {Q : Flow -> Shared -> Prop} (hB : bm.contains (.type "BaseException") = true) (hh : A.handled = none) (hp : (backTo cpos (starEach args env)).any (·.1) = false)
  (h : wpAny (model prog w) A (eval (.Name x np) env) (fun f s1 => f = .ref C /\ wpAny (model prog w) A (evalArgs (.ref C) true (backTo cpos (starEach args env)) [])
   (fun a s2 => a.kw = [] /\ s2.heap.get? C = some (excClassObj nm q C N bs bm hdct sn sub ab col dd k0 k1 k2 k3 k5 "ValueError.__new__") /\
    wpAny (model prog w) A (call (.ref C) a.pos) (fun v s3 => ∃ e t dx, v = .ref e /\ s3.heap.get? C = some (excClassObj nm q C N bs bm hdct sn sub ab col dd k0 k1 k2 k3 k5 "ValueError.__new__") /\ s3.heap.get? e = some (excLaid C t dx) /\ E (.ref e) s3) E s2) E s1) E s) :
  wpAny (model prog w) A (exec (.Raise (some (.Call (.Name x np) args [] cpos)) none pos) env) Q E s := by
 rw [arm_exec_Raise]
 first
  | refine wpAny_bind (wpAny_standAt (raise_laid (C := C) (nm := nm) (q := q) (N := N) (bs := bs) (bm := bm) (hdct := hdct) (sn := sn) (sub := sub) (ab := ab) (col := col) (dd := dd) (k0 := k0) (k1 := k1) (k2 := k2) (k3 := k3) (k5 := k5) hB hh (wpAny_bind (wpAny_mono (wpAny_Call_ofName (wpAny_mono h (fun f s1 z => ?_) fun _ _ y => y)) (fun v s3 z => wpAny_bind (wpAny_standAt (wpAny_pure z))) fun _ _ y => y))))
  | (simp only [evalOpt, Option.map]; refine wpAny_bind (wpAny_standAt (raise_laid (C := C) (nm := nm) (q := q) (N := N) (bs := bs) (bm := bm) (hdct := hdct) (sn := sn) (sub := sub) (ab := ab) (col := col) (dd := dd) (k0 := k0) (k1 := k1) (k2 := k2) (k3 := k3) (k5 := k5) hB hh (wpAny_bind (wpAny_mono (wpAny_Call_ofName (wpAny_mono h (fun f s1 z => ?_) fun _ _ y => y)) (fun v s3 z => wpAny_bind (wpAny_standAt (wpAny_pure z))) fun _ _ y => y)))))
  | (refine wpAny_bind (wpAny_standAt (raise_laid (C := C) (nm := nm) (q := q) (N := N) (bs := bs) (bm := bm) (hdct := hdct) (sn := sn) (sub := sub) (ab := ab) (col := col) (dd := dd) (k0 := k0) (k1 := k1) (k2 := k2) (k3 := k3) (k5 := k5) hB hh ?_)); refine wpAny_bind (wpAny_mono (wpAny_Call_ofName (wpAny_mono h (fun f s1 z => ?_) fun _ _ y => y)) (fun v s3 z => wpAny_bind (wpAny_standAt (wpAny_pure z))) fun _ _ y => y))
 obtain ⟨rfl, z⟩ := z
 unfold callWith
 refine wpAny_bind (wpAny_holding (wpAny_mono z (fun a s2 z2 => wpAny_bind (wpAny_standAt ?_)) fun _ _ y => y))
 obtain ⟨ap, ak⟩ := a
 obtain ⟨hk, hC, z3⟩ := z2
 obtain rfl : ak = [] := hk
 obtain ⟨hp', g, d, tk, os⟩ := s2
 simp only [hp]
 refine wpAny_bind (wpAny_keeperOf_exc hC ?_)
 refine wpAny_bind (wpAny_mono z3 (fun v s3 z4 => wpAny_bind (wpAny_holding (wpAny_point (wpAny_pure ?_)))) fun _ _ y => y)
 exact z4
end
def tRaiseD (C : Addr) (sp : Sp) (E : XK) (ta : TA) : TS := fun _ σ H => ta σ H fun vs H1 => vs.length <= sizeLine /\ ∀ e, H1 e = none -> sp (.ref e :: vs) (upd H1 e (.ext (ExcN C e))) (fun v H2 => v = .non /\ ∃ dx, H2 e = some (.ext (ExcL C e dx)) /\ E (.ref C) (some dx) (without H2 e)) E0
section
variable {P : Program} {w : World} {K : W.Frag} {mg : Str -> Option Value} {base : Heap} {N : List Str} {qual : Str} {scope : Scope} {f : Addr} {cd : Value} {A : Around} {outer : List Env} {s0 : Shared} {H0 : Hp} {E : XK}
 {x : Str} {C fI : Addr} {np cpos pos : Pos} {e : Expr} {es : List Expr} {t : TA} {k : Nat} {fd : FuncData} {ps : List Str} {sp : Sp}
theorem ps_raiseD (M : MkX K C fI) (F : FnOk P w K mg base CX0 k fI fd ps sp) (hr : Room (k + 1) (cxOf (XD P w) P w K mg base N qual scope f cd A outer s0 H0 E).A) (hb : Binds K fd ps []) (hm : mg x = some (.ref C)) (hg : Gl (cxOf (XD P w) P w K mg base N qual scope f cd A outer s0 H0 E) x)
  (ha : PA (cxOf (XD P w) P w K mg base N qual scope f cd A outer s0 H0 E) (e :: es) t) (hdb : (x == ("__debug__" : Str)) = false := by decide)
  (he : starEach (e :: es) (cxOf (XD P w) P w K mg base N qual scope f cd A outer s0 H0 E).env = (false, eval e (cxOf (XD P w) P w K mg base N qual scope f cd A outer s0 H0 E).env) :: starEach es (cxOf (XD P w) P w K mg base N qual scope f cd A outer s0 H0 E).env := by rfl)
  (hpl : (backTo cpos (starEach es (cxOf (XD P w) P w K mg base N qual scope f cd A outer s0 H0 E).env)).any (·.1) = false := by rfl) :
  PS (cxOf (XD P w) P w K mg base N qual scope f cd A outer s0 H0 E) (.Raise (some (.Call (.Name x np) (e :: es) [] cpos)) none pos) (tRaiseD C sp E t) := by
 intro pins s σ H D I h
 obtain ⟨bm, Nn, nm, qn, bs, hdct, sn, sub, ab, col, dd, k0, k1, k2, k3, k5, mN, hC, hN, hni, TL⟩ := exc_objI I.mod.kin M.ex
 have hpl' : (backTo cpos (starEach (e :: es) (cxOf (XD P w) P w K mg base N qual scope f cd A outer s0 H0 E).env)).any (·.1) = false := by
  rw [he]
  show (false || (backTo cpos (starEach es _)).any (·.1)) = false
  rw [hpl]
  rfl
 refine Raise_laid (C := C) (nm := nm) (q := qn) (N := Nn) (bs := bs) (bm := bm) (hdct := hdct) (sn := sn) (sub := sub) (ab := ab) (col := col) (dd := dd) (k0 := k0) (k1 := k1) (k2 := k2) (k3 := k3) (k5 := k5)
  (TL.hasType PySem.F.excBase_ValueError.hasBase) (I.ok.hd rfl) hpl' (ld_glob I hg hm ⟨rfl, ?_⟩ hdb)
 have h2 := ha cpos pins s σ H _ I h
 rw [he] at h2 ⊢
 refine Calls.evalArgs_plain (wpAny_mono h2 (fun us s1 ⟨vs, H1, I1, r, z, q⟩ => ⟨rfl, I1.bk _ _ hC, ?_⟩) fun _ _ y => y)
 have xe0 : Passes CX0 (cxOf (XD P w) P w K mg base N qual scope f cd A outer s0 H0 E) E0 := pass0
 refine wpAny_mono (run_excmake (QQ := fun e H2 => ∃ dx, H2 e = some (.ext (ExcL C e dx)) /\ E (.ref C) (some dx) (without H2 e)) M F hr hb xe0 I1 r (by rw [<- r.length]; exact z) q) (fun v s3 z3 => ?_) fun _ _ y => y
 obtain ⟨e', H', rfl, I3, nn, dx, hH, hE⟩ := z3
 obtain ⟨⟨a, hl⟩, _, _⟩ := (show ObjOk P w H' s3.heap e' (.ext (ExcL C e' dx)) from I3.hok e' _ hH)
 have h0 : s0.heap.get? e' = none := by
  cases q0 : s0.heap.get? e' with
  | none => rfl
  | some o =>
   have u0 : Un (frs outer) [] H0 H1 s0.heap s1.heap := I1.base
   obtain ⟨o1, q1⟩ := u0.there e' o q0 (by simp)
   rw [nn] at q1; cases q1
 exact ⟨e', a, dx, rfl, I3.bk _ _ hC, hl, raise_xeD I3 hH h0 hE⟩
end
end L2
namespace L2
open PySem PySem.Spec PyProof.Rows PySem.W PySem.Calls
section
variable {X : Cx} {pins : List (Addr × Obj)} {σ : St} {H H' : Hp} {s s' : Shared} {cls : Value} {ea C dx : Addr} {B h' : Heap} {t' : Nat}
theorem FlyX.unF (x : FlyX X.prog X.w X.stack H s cls dx ea B H' s') (k : B.StaysIn h') (ups : s'.heap.UpToSlots h') : Un (frs X.stack) [] H H' s.heap h' :=
 x.un.onward (fun b o q nb old => k b o (x.cov b o q nb (.inr old))) fun b o q hb old => by
  obtain ⟨_, o', ho', nf⟩ := x.fly.frm.mem hb
  rw [q] at ho'; cases ho'
  exact ups b o q nf
theorem FlyX.hokF (x : FlyX X.prog X.w X.stack H s cls dx ea B H' s') (k : B.StaysIn h') : HOk X.prog X.w H' h' :=
 x.hok.onward fun b o hb q => k b o (x.cov b o q (fun z => hb (x.frf b z)) (.inl hb))
theorem Inv.landed0 (I : Inv X pins σ H s) (x : FlyX X.prog X.w X.stack H s cls dx ea B H' s') (k : B.StaysIn h') (ups : s'.heap.UpToSlots h') : Inv X pins σ H' { s' with heap := h', toks := t' } :=
 I.call' (s' := { s' with heap := h', toks := t' }) (ch := []) x.os (x.unF k ups) (x.hokF k) x.bare fun b z => absurd z (by simp)
theorem okD {P : Program} {w : World} {H : Hp} {h : Heap} {C e dx : Addr} (he : ExcD C e dx h) : ObjOk P w H h e (.ext (ExcD C e dx)) := ⟨he, let ⟨o, a, _⟩ := he; ⟨o, a⟩, fun _ _ ⟨o, a, b⟩ k => ⟨o, k _ a, b⟩⟩
end
section
variable {X : Cx} {k : Nat} {f C fI : Addr} {fd : FuncData} {ps : List Str} {sp : Sp} {g x n y c : Str} {p pos pos3 np hpos yp cp tp ap : Pos} {e : Expr} {es : List Expr} {t : TA} {ts : TS} {b₀ : Stmt} {suite : List Stmt} {i iy : Nat} {cj tk}
end
end L2
namespace L2
open PySem PySem.Spec PyProof.Rows PySem.W PySem.Calls
def HasI (P : Program) (w : World) (K : W.Frag) (mg : Str -> Option Value) (base : Heap) (k : Nat) (f : Addr) (ps : List Str) (sp : Sp) : Prop := ∃ fd : FuncData, FnOk P w K mg base CX0 k f fd ps sp /\ Binds K fd ps []
def spIni (C : Addr) (f : Str) : Sp := fun vs H Q _ => ∃ (e : Addr) (v : V), vs = [.ref e, v] /\ H e = some (.ext (ExcN C e)) /\ ∀ (dx : Addr) (H' : Hp), H' e = some (.ext (ExcL C e dx)) -> H' dx = some (.xd [(f, v)]) -> (∀ b o, b ≠ e -> H b = some o -> H' b = some o) -> Q .non H'
end L2
namespace L2
open PySem PySem.Spec PyProof.Rows
def StillH (A : Around) (H : Hp) : Prop := A.handled = none \/ ∃ e o u vs, A.handled = some (.ref e) /\ H e = some (.frz o u) /\ o.data = .fields vs /\ vs[2]? = some .none
theorem Inv.stH {X : Cx} {pins : List (Addr × Obj)} {σ : St} {H : Hp} {s : Shared} (I : Inv X pins σ H s) (hc : X.still = true) : StillH X.A H := by
 rcases I.ok.hs hc with z | ⟨e, o, u, vs, hh, hm, r⟩
 ·exact .inl z
 ·exact .inr ⟨e, o, u, vs, hh, I.fzs _ hm, r⟩
theorem StillH.list {A : Around} {H : Hp} (h : StillH A H) : ∃ fz : List (Addr × Obj × HO), (∀ p ∈ fz, H p.1 = some (.frz p.2.1 p.2.2)) /\ (A.handled = none \/ ∃ e o u vs, A.handled = some (.ref e) /\ (e, o, u) ∈ fz /\ o.data = .fields vs /\ vs[2]? = some .none) := by
 rcases h with z | ⟨e, o, u, vs, hh, hm, r⟩
 ·exact ⟨[], (fun _ hp => nomatch hp), .inl z⟩
 ·refine ⟨[(e, o, u)], fun p hp => ?_, .inr ⟨e, o, u, vs, hh, List.mem_singleton.mpr rfl, r⟩⟩
  rw [List.mem_singleton.mp hp]
  exact hm
structure FnOkS (P : Program) (w : World) (K : W.Frag) (mg : Str -> Option Value) (base : Heap) (k : Nat) (f : Addr) (fd : FuncData) (ps : List Str) (sp : Sp) : Prop where
 len : ∀ vs H Q E, sp vs H Q E -> vs.length = ps.length
 run : ∀ (A : Around) (outer : List Env) (s : Shared) (H : Hp) (args : Args) (us : List Value) (vs : List V) (Q : VK) (E : XK), RoomQ k A -> StillH A H -> Env0 P w K mg base A outer s H -> BindsTo s fd args (ps.zip us) -> Vals vs us -> sp vs H Q E ->
  codeAny (model P w) A (.call (.ref f) args) (CR CX0 outer P w H s Q E) s
def HasS (P : Program) (w : World) (K : W.Frag) (mg : Str -> Option Value) (base : Heap) (k : Nat) (x : Str) (ps : List Str) (sp : Sp) : Prop :=
 ∃ (f : Addr) (fd : FuncData), FnOkS P w K mg base k f fd ps sp /\ Binds K fd ps [] /\ W.keepIn K (.ref f) = true /\ mg x = some (.ref f)
def cxS (P : Program) (w : World) (K : W.Frag) (mg : Str -> Option Value) (base : Heap) (N : List Str) (qual : Str) (scope : Scope) (f : Addr) (cd : Value) (A : Around) (outer : List Env) (s : Shared) (H : Hp) (fz : List (Addr × Obj × HO)) : Cx :=
 { cxOf CX0 P w K mg base N qual scope f cd A outer s H E0 with calm := false, fz := fz, xe := fun _ _ => False }
theorem inv_startS {P : Program} {w : World} {K : W.Frag} {mg : Str -> Option Value} {base : Heap} {N ps : List Str} {qual : Str} {scope : Scope} {f : Addr} {cd : Value} {A : Around} {outer : List Env} {s s1 : Shared} {H : Hp} {us : List Value} {vs : List V} {fz : List (Addr × Obj × HO)}
  (S : FnScope N ps scope) (e0 : Env0 P w K mg base A outer s H) (hl : vs.length = ps.length) (r : Vals vs us) (hz : ∀ p ∈ fz, H p.1 = some (.frz p.2.1 p.2.2)) (hs : A.handled = none \/ ∃ e o u vs, A.handled = some (.ref e) /\ (e, o, u) ∈ fz /\ o.data = .fields vs /\ vs[2]? = some .none)
  (x : InCallC s s.heap.objs.size (bindL (envOfC qual scope s.heap.objs.size f cd).kindOf (ps.zip us) fun _ => none) (cellsFrom (s.heap.objs.size + 1) scope.names []) (bindC (envOfC qual scope s.heap.objs.size f cd).kindOf (ps.zip us) fun _ => none) s1) :
  Inv (cxS P w K mg base N qual scope f cd A outer s H fz) [] (start N vs) H s1 := by
 have e1 : Env0 P w K mg base { A with handled := none } outer s H := ⟨e0.frames, e0.mod, e0.bs, e0.bsz, e0.funs, e0.frf, e0.hok, e0.bare⟩
 have J := inv_start (CX := CX0) (E := E0) (A := { A with handled := none }) S rfl e1 hl r x
 have ok := J.ok
 exact ⟨⟨ok.mod, ok.kind, ok.glob, ok.blt, ok.above, ok.inj, ok.has, ok.cab, (fun h => by cases h), (fun _ => hs), (show (A.deeper _).frames = some (_ :: outer) from Around.frames_deeper e0.frames), ok.stk, ok.exf, ok.bs, ok.bsz, ok.noex, ok.exfs, ok.funs, ok.frf⟩,
  hz, J.os, J.bare, J.base, J.loc, J.cell, J.free, J.freeC, J.pin, J.hok, J.len⟩
theorem fn_ofS {P : Program} {w : World} {K : W.Frag} {mg : Str -> Option Value} {base : Heap} {k : Nat} {f : Addr} {name qual : Str} {params : Arguments} {body : List Stmt} {scope : Scope} {dV kV doc pm cdv ct oc : Value} {an od : Option Addr}
  {osl : Array (Option Value)} {N ps : List Str} {sp : Sp} (lk : K.lookup f = some ⟨oc, od, .func (W.fnOf name qual params body scope dV kV doc pm an cdv ct), osl⟩) (hcd : W.codeIn K cdv qual = true) (S : FnScope N ps scope)
  (len : ∀ vs H Q E, sp vs H Q E -> vs.length = ps.length)
  (hbody : ∀ (A : Around) (outer : List Env) (s : Shared) (H : Hp) (fz : List (Addr × Obj × HO)) (vs : List V) (Q : VK) (E : XK), RoomQ k (A.deeper (envOfC qual scope s.heap.objs.size f cdv)) -> sp vs H Q E ->
   ∃ t, PSs (cxS P w K mg base N qual scope f cdv A outer s H fz) body t /\ t { nx := fun _ H' => Q .non H', rt := Q } (start N vs) H) :
  FnOkS P w K mg base (k + 1) f (W.fnOf name qual params body scope dV kV doc pm an cdv ct) ps sp := by
 refine ⟨len, fun A outer s H args us vs Q E hr hst e0 hb r hsp => ?_⟩
 obtain ⟨fz, hz, hs⟩ := hst.list
 have hl := len _ _ _ _ hsp
 have KX : K.In s.heap := e0.mod.kin.keeps fun b o e => (e0.bs b o e).1
 have lim : s.heap.NoLimit := e0.mod.nolimit.keeps fun b o e => (e0.bs b o e).1
 have hkind : ∀ y ∈ ps.zip us, scope.names.lookup y.1 = some .local \/ (scope.names.lookup y.1 = some .cell /\ ((cellsFrom (s.heap.objs.size + 1) scope.names []).lookup y.1).isSome = true) := fun ⟨n, v⟩ hy => by
  rcases S.par n (List.of_mem_zip hy).1 with q | q
  ·exact .inl q
  ·exact .inr ⟨q, W.cellsFrom_some _ _ _ (.inl q)⟩
 have hdep : A.depth < recursionLimit := by have := hr.dp; omega
 refine codeAny_call_function hdep (KX _ _ lk) rfl S.co S.gen rfl (W.codeRec_of KX hcd) (hb _ _ _ _ ?_)
 refine wpAny_newFunctionEnv_cells S.kind hkind fun env he s1 x => ?_
 subst he
 refine ⟨lim.keeps x.toInCall.keep, codeAny_func ?_⟩
 obtain ⟨t, ht, hq⟩ := hbody A outer s H fz vs Q E (hr.deeper _) hsp
 have I : Inv (cxS P w K mg base N qual scope f cdv A outer s H fz) [] (start N vs) H s1 := inv_startS S e0 hl r hz hs x
 refine wpAny_mono (ht [] s1 (start N vs) H _ I hq) (fun fl s' hs => ?_) fun e s' hs => False.elim hs
 have fin : ∀ {σ' : St} {H' : Hp} {v : V} {u : Value}, Inv (cxS P w K mg base N qual scope f cdv A outer s H fz) [] σ' H' s' -> RelV v u -> Q v H' -> CE outer P w H s Q u s' :=
  fun {σ' H' v u} J rv q => ⟨v, H', J.os, J.bare, J.base, J.hok, rv, q⟩
 cases fl with
 | ret u =>
  obtain ⟨v, σ', H', J, rv, q⟩ := hs
  exact fin J rv q
 | next =>
  obtain ⟨σ', H', J, q⟩ := hs
  exact fin (v := V.non) (u := Value.none) J rfl q
 | brk =>
  obtain ⟨_, _, _, q⟩ := hs
  exact False.elim q
 | cont =>
  obtain ⟨_, _, _, q⟩ := hs
  exact False.elim q
section
variable {P : Program} {w : World} {K : W.Frag} {mg : Str -> Option Value} {base : Heap}
theorem Fun.okS {x qual : Str} {st : Stmt} {f : Addr} {fd : FuncData} {N ps : List Str} {k : Nat} {sp : Sp} (F : Fun K x qual st f fd) (S : FnScope N ps (defScope st)) (len : ∀ vs H Q E, sp vs H Q E -> vs.length = ps.length)
  (hbody : ∀ (cdv : Value) (A : Around) (outer : List Env) (s : Shared) (H : Hp) (fz : List (Addr × Obj × HO)) (vs : List V) (Q : VK) (E : XK), RoomQ k (A.deeper (envOfC qual (defScope st) s.heap.objs.size f cdv)) -> sp vs H Q E ->
   ∃ t, PSs (cxS P w K mg base N qual (defScope st) f cdv A outer s H fz) (defBody st) t /\ t { nx := fun _ H' => Q .non H', rt := Q } (start N vs) H) : FnOkS P w K mg base (k + 1) f fd ps sp := by
 obtain ⟨oc, od, kV, doc, pm, an, cdv, ct, osl, rfl, lk, hcd⟩ := F.ex
 exact fn_ofS lk hcd S len fun A outer s H fz vs Q E hr hsp => hbody cdv A outer s H fz vs Q E hr hsp
end
section
variable {X : Cx} {k : Nat} {f : Addr} {fd : FuncData} {ps : List Str} {sp : Sp} {dvs : List V} {ds : List Value} {x : Str} {p pos : Pos} {e : Expr} {es : List Expr} {t : TA}
theorem pe_callS (F : FnOkS X.prog X.w X.K X.mg X.base k f fd ps sp) (hr : RoomQ k X.A) (hc : X.still = true) (hg : Gl X x) (hm : X.mg x = some (.ref f)) (hk : W.keepIn X.K (.ref f) = true) (hb : Binds X.K fd ps ds) (hd : Vals dvs ds)
  (ha : PA X (e :: es) t) (hdb : (x == ("__debug__" : Str)) = false := by decide) (he : starEach (e :: es) X.env = (false, eval e X.env) :: starEach es X.env := by rfl) (hpl : (backTo pos (starEach es X.env)).any (·.1) = false := by rfl) :
  PE X (.Call (.Name x p) (e :: es) [] pos) (tCall sp dvs E0 t) := by
 intro pins s σ H Q I h
 refine wpAny_Call_Name_kw (ld_glob I hg hm ?_ hdb)
 refine W.callWith_K (h₀ := X.base) I.ok.mod.kin hk (thn (ha pos pins s σ H _ I h) fun us s1 ⟨vs, H1, I1, r, q⟩ => ⟨I1.kIn, ?_⟩) he hpl
 have r2 : Vals (vs ++ dvs) (us ++ ds) := r.append hd
 have hl : (us ++ ds).length = ps.length := by rw [<- r2.length]; exact F.len _ _ _ _ q
 refine wpAny_call (codeAny_mono (F.run X.A X.stack s1 H1 ⟨us, []⟩ (us ++ ds) (vs ++ dvs) Q E0 hr (I1.stH hc) I1.env0 (hb s1 us I1.kIn hl) r2 q) fun r s' hq => ?_)
 cases r with
 | error e => exact False.elim hq
 | ok fl =>
  cases fl with
  | ret u => exact I1.after hq
  | next => exact False.elim hq
  | brk => exact False.elim hq
  | cont => exact False.elim hq
end
abbrev Cx.markS (X : Cx) (e : Addr) (o : Obj) (u : HO) : Cx := { X with A := X.A.mark (some (.ref e)), calm := false, still := true, fz := (e, o, u) :: X.fz, xe := fun _ _ => False }
section
variable {X : Cx} {pins : List (Addr × Obj)} {σ : St} {H H' : Hp} {s s' : Shared} {e : Addr} {o : Obj} {u : HO} {vs : Array Value}
theorem Inv.markS (I : Inv X pins σ H s) (h : H e = some (.frz o u)) (hd : o.data = .fields vs) (h2 : vs[2]? = some .none) : Inv (X.markS e o u) pins σ H s :=
 have ok := I.ok
 ⟨⟨ok.mod, ok.kind, ok.glob, ok.blt, ok.above, ok.inj, ok.has, ok.cab, (fun h => by cases h), (fun _ => .inr ⟨e, o, u, vs, rfl, List.mem_cons_self .., hd, h2⟩), ok.frames, ok.stk, ok.exf, ok.bs, ok.bsz, ok.noex, ok.exfs, ok.funs, ok.frf⟩,
  fun p hp => (List.mem_cons.mp hp).elim (fun z => by rw [z]; exact h) (I.fzs p), I.os, I.bare, I.base, I.loc, I.cell, I.free, I.freeC, I.pin, I.hok, I.len⟩
theorem Inv.unmarkS (ok : X.Ok) (I : Inv (X.markS e o u) pins σ H s) : Inv X pins σ H s := ⟨ok, fun p hp => I.fzs p (List.mem_cons_of_mem _ hp), I.os, I.bare, I.base, I.loc, I.cell, I.free, I.freeC, I.pin, I.hok, I.len⟩
end
end L2
namespace L2
open PySem PySem.Spec PyProof.Rows
section
variable {M : Model} {A : Around} {E : Value -> Shared -> Prop}
variable {nm q nm' q' : Str} {C N D N' : Addr} {bs bm bs' bm' : List Value} {hdct hdct' : Bool} {sn sn' : List Str} {sub sub' : List Value} {ab ab' : Bool} {col col' : Option Bool} {dd dd' : Option Addr} {k0 k1 k2 k3 k5 j0 j1 j2 j3 j5 : Option Value} {newId newId' : String}
theorem excMatches_up {h : Heap} {g : Array GenState} {d : Drawn} {t : Nat} {os : OsState} {e : Addr} {oe : Obj} {Q : Bool -> Shared -> Prop}
  (hC : h.get? C = some (excClassObj nm q C N bs bm hdct sn sub ab col dd k0 k1 k2 k3 k5 newId)) (hD : h.get? D = some (excClassObj nm' q' D N' bs' bm' hdct' sn' sub' ab' col' dd' j0 j1 j2 j3 j5 newId')) (he : h.get? e = some oe) (hcls : oe.cls = .ref C)
  (hbase : bm'.contains (.type "BaseException") = true) (hcC : (Value.ref C :: bm).contains (.ref D) = true)
  (hq : Q true ⟨h, g, d, t, os⟩) : wpAny M A (excMatches (.ref e) (.ref D)) Q E ⟨h, g, d, t, os⟩ := by
 have hcB : (Value.ref D :: bm').contains (.type "BaseException") = true := by rw [List.contains_cons, hbase, Bool.or_true]
 have f := tc_notTuple
 unfold excMatches
 repeat (first | (with_reducible refine wpAny_loadPart_at he ?_; rw [hcls]) | with_reducible refine wpAny_loadPart_at hD ?_ | with_reducible refine wpAny_loadPart_at hC ?_ | (with_reducible refine wpAny_isSubtype_exc hD ?_; rw [hcB]) | (with_reducible refine wpAny_isSubtype_exc hC ?_; rw [hcC]) | wp_step)
 exact hq
end
section
variable {X : Cx} {pins : List (Addr × Obj)} {σ : St} {H H' : Hp} {s s' : Shared} {e : Addr} {cls a0 : Value} {ea C : Addr} {B h' : Heap} {t' : Nat}
end
section
variable {X : Cx} {k : Nat} {f C : Addr} {fd : FuncData} {ps : List Str} {sp : Sp} {g x n : Str} {p pos pos2 pos3 np hpos : Pos} {e : Expr} {es : List Expr} {t : TA} {ts : TS} {b₀ : Stmt} {suite : List Stmt} {i : Nat}
end
end L2
namespace L2
open PySem PySem.Spec PyProof.Rows PySem.W PySem.Calls
def Mat (P : Program) (w : World) (K : Frag) (C D : Addr) (b : Bool) : Prop := ∀ (A : Around) (h : Heap) (g : Array GenState) (d : Drawn) (t : Nat) (os : OsState) (ea : Addr) (ob : Obj) (Q : Bool -> Shared -> Prop) (E : Value -> Shared -> Prop),
 K.In h -> h.get? ea = some ob -> ob.cls = .ref C -> Q b ⟨h, g, d, t, os⟩ -> wpAny (model P w) A (excMatches (.ref ea) (.ref D)) Q E ⟨h, g, d, t, os⟩
theorem mat_self {P : Program} {w : World} {K : Frag} {C fI : Addr} (hq : excInB K C fI = true) : Mat P w K C C true := by
 intro A h g d t os ea ob Q E X hob hc q
 obtain ⟨bm, Nn, nm, qn, bs, hdct, sn, sub, ab, col, dd, k0, k1, k2, k3, k5, mN, hC, hNs, hni, TL⟩ := exc_objI X hq
 exact wpAny_excMatches_sub_self hC hob hc (TL.hasType PySem.F.excBase_ValueError.hasBase) q
theorem exc_objI2 {v : Value} {K : Frag} {h : Heap} {C fI : Addr} (X : K.In h) (q : excInB K C fI = true) (em : W.mroIn K C v = some true) :
  ∃ bm N nm qn bs hdct sn sub ab col dd k0 k1 k2 k3 k5, h.get? C = some (excClassObj nm qn C N bs bm hdct sn sub ab col dd k0 k1 k2 k3 k5 "ValueError.__new__") /\ (Value.ref C :: bm).contains v = true := by
 unfold excInB at q
 split at q
 ·rename_i dd cd sl ho
  split at q
  ·rename_i C' bm k0 k1 k2 k3 n k5 hm hs
   have hin : cd.mro.contains v = true := by
    unfold W.mroIn W.clsIn at em
    rw [ho] at em
    obtain ⟨cd', a, b⟩ := Option.bind_eq_some_iff.mp em
    cases a
    split at b
    ·cases b
    ·exact Option.some.inj b
   rw [hm] at hin
   simp only [Bool.and_eq_true, beq_iff_eq, Bool.not_eq_true'] at q
   obtain ⟨⟨⟨⟨⟨c1, c2⟩, c3⟩, c4⟩, c5⟩, c6⟩ := q
   subst c1 c2
   obtain ⟨nm, bs, mro, ns, qn, hd, sn, sub, ab, col, del⟩ := cd
   dsimp only at hm c3 c5 c6
   subst hm c3
   obtain ⟨l⟩ := sl
   have hs' : l = [k0, k1, k2, k3, some (.builtin "ValueError.__new__"), k5] := hs
   subst hs'
   exact ⟨bm, ns, nm, qn, bs, hd, sn, sub, ab, col, dd, k0, k1, k2, k3, k5, X _ _ ho, hin⟩
  ·cases q
 ·cases q
theorem mat_up {P : Program} {w : World} {K : Frag} {C D fI : Addr} (hq : excInB K C fI = true) (hqD : W.excIn K D bmVE "ValueError.__new__" = true) (hcd : W.mroIn K C (.ref D) = some true) : Mat P w K C D true := by
 intro A h g d t os ea ob Q E X hob hc q
 obtain ⟨bm, Nn, nm, qn, bs, hdct, sn, sub, ab, col, dd, k0, k1, k2, k3, k5, hC, hin⟩ := exc_objI2 X hq hcd
 obtain ⟨bm', Nn', nm', qn', bs', hdct', sn', sub', ab', col', dd', j0, j1, j2, j3, j5, mN', hD, hNs', hni', TL'⟩ := exc_obj X hqD
 exact excMatches_up hC hD hob hc (TL'.hasType PySem.F.excBase_ValueError.hasBase) hin q
section
variable {X : Cx} {pins : List (Addr × Obj)} {σ : St} {H H' : Hp} {s s' : Shared} {cls : Value} {ea C dx : Addr} {B h' : Heap} {t' : Nat}
theorem Inv.landedS (I : Inv X pins σ H s) (x : FlyX X.prog X.w X.stack H s (.ref C) dx ea B H' s') {l : List Env} {fl : Value} (f2 : FlyAt B l ea (.ref C) (some dx) fl h') (ups : s'.heap.UpToSlots h') :
  ∃ (oe : Obj) (vs : Array Value), oe.data = .fields vs /\ vs[2]? = some .none /\ Inv X pins σ (upd H' ea (.frz oe (.ext (ExcD C ea dx)))) { s' with heap := h', toks := t' } := by
 obtain ⟨oe, vs, _, _, _, he, ⟨hc, hx⟩, hd, _, h2, _⟩ := f2.tr
 have at_ : ExcD C ea dx h' := ⟨oe, he, hc, hx, by unfold W.notCls; rw [hd]⟩
 exact ⟨oe, vs, hd, h2, I.call' (s' := { s' with heap := h', toks := t' }) (ch := []) x.os ((x.unF f2.stays ups).more x.hs x.he) ((x.hokF f2.stays).more x.he ⟨he, okD at_⟩) x.bare fun b z => absurd z (by simp)⟩
theorem handle_S {D : Ends} {ts : TS} {x n : Str} {np hpos : Pos} {b₀ : Stmt} {suite : List Stmt} {rest : List ExceptHandler} {i : Nat} {Dc : Addr} (I : Inv X pins σ H s) (fly : FlyX X.prog X.w X.stack H s (.ref C) dx ea B H' s') (hst : X.stack = X.env :: X.outer) (hf : X.env.frame = some X.env.locals)
  (hm : X.mg x = some (.ref Dc)) (hg : Gl X x) (hmat : Mat X.prog X.w X.K C Dc true) (hN : X.N.Nodup) (hi : X.N[i]? = some n) (hk : X.env.scope.names.lookup n = some .local)
  (hsu : ∀ o u, PSs (X.markS ea o u) (b₀ :: suite) ts) (h : ∀ o, ts (asEnds D i) (σ.set i (some (.ref ea))) (upd H' ea (.frz o (.ext (ExcD C ea dx))))) (hdb : (x == ("__debug__" : Str)) = false) :
  wpAny (model X.prog X.w) X.A (noteFrame (.ref ea) X.env) (fun _ s₂ => wpAny (model X.prog X.w) X.A (setFlight (.ref ea) none) (fun _ s₃ =>
   wpAny (model X.prog X.w) X.A (handleBy (.ref ea) X.env (.ExceptHandler (some (.Name x np)) (some n) (b₀ :: suite) hpos :: rest)) (SP X pins D) X.xe s₃) X.xe s₂) X.xe s' := by
 obtain ⟨hp, gs, dr, tk, os⟩ := s'
 have fr : X.A.frames = some (X.env :: X.outer) := by rw [<- hst]; exact I.ok.frames
 have fl : FlyAt B (X.env :: X.outer) ea (.ref C) (some dx) .none hp := by rw [<- hst]; exact fly.fly
 refine noteNextD fr hf fl fun h4 held4 u4 => ?_
 refine landD held4 fun h5 fl5 u5 => ?_
 have I5 : Inv X pins σ H' ⟨h5, gs, dr, tk, os⟩ := I.landed0 (t' := tk) fly fl5.stays (u4.trans u5)
 obtain ⟨ob, hob, hobc, _⟩ := fl5.there
 refine wpAny_handleBy_cons (codeAny_handlers_test (ld_glob (I5.marked ea) hg hm ?_ hdb)) (by intro q; cases q)
 refine hmat _ _ _ _ _ _ _ _ _ _ I5.kIn hob hobc ?_
 refine codeAny_handlers_suite_as ?_
 refine landD fl5 fun h6 fl6 u6 => ?_
 obtain ⟨oe, vs, hd, h2, I6⟩ := I.landedS (t' := tk) fly fl6 ((u4.trans u5).trans u6)
 refine store_ok (X := X.markS ea oe (.ext (ExcD C ea dx))) (i := i) (v := .ref ea) (I6.markS upd_same hd h2) hN hi (.inl hk) rfl (fun s7 I7 => ?_) (.inr hk)
 refine wpAny_mono (hsu _ _ pins s7 _ _ _ I7 (h oe)) (fun fw s8 q => ?_) fun _ _ z => False.elim z
 cases fw with
 | next =>
  obtain ⟨σ2, H2, J, q⟩ := q
  exact unbind_ok (J.unmarkS I.ok) hN hi hk fun s9 J9 => ⟨_, _, J9, q⟩
 | ret v =>
  obtain ⟨v', σ2, H2, J, r, q⟩ := q
  exact unbind_ok (J.unmarkS I.ok) hN hi hk fun s9 J9 => ⟨v', _, _, J9, r, q⟩
 | brk =>
  obtain ⟨σ2, H2, J, q⟩ := q
  exact unbind_ok (J.unmarkS I.ok) hN hi hk fun s9 J9 => ⟨_, _, J9, q⟩
 | cont =>
  obtain ⟨σ2, H2, J, q⟩ := q
  exact unbind_ok (J.unmarkS I.ok) hN hi hk fun s9 J9 => ⟨_, _, J9, q⟩
end
def tTryD (sp : Sp) (C : Addr) (i : Nat) (ta : TA) (ts : TS) : TS := fun D σ H => ta σ H fun vs H1 => sp vs H1 (fun _ H2 => D.nx σ H2)
 fun cls od H2 => ∃ dx, od = some dx /\ cls = .ref C /\ ∀ e o, H2 e = none -> ts (asEnds D i) (σ.set i (some (.ref e))) (upd H2 e (.frz o (.ext (ExcD C e dx))))
section
variable {X : Cx} {k : Nat} {f C Dc : Addr} {fd : FuncData} {ps : List Str} {sp : Sp} {g x n : Str} {p pos pos2 pos3 np hpos : Pos} {e : Expr} {es : List Expr} {t : TA} {ts : TS} {b₀ : Stmt} {suite : List Stmt} {i : Nat}
theorem ps_tryD (F : FnOk X.prog X.w X.K X.mg X.base (XD X.prog X.w) k f fd ps sp) (hr : Room k X.A) (hgf : Gl X g) (hmf : X.mg g = some (.ref f)) (hkf : W.keepIn X.K (.ref f) = true) (hb : Binds X.K fd ps []) (ha : PA X.nox (e :: es) t)
  (hm : X.mg x = some (.ref Dc)) (hg : Gl X x) (hmat : Mat X.prog X.w X.K C Dc true) (hN : X.N.Nodup) (hi : X.N[i]? = some n) (hk : X.env.scope.names.lookup n = some .local) (hsu : ∀ ea o u, PSs (X.markS ea o u) (b₀ :: suite) ts)
  (hst : X.stack = X.env :: X.outer := by rfl) (hf : X.env.frame = some X.env.locals := by rfl)
  (hdf : (g == ("__debug__" : Str)) = false := by decide) (hdb : (x == ("__debug__" : Str)) = false := by decide)
  (he : starEach (e :: es) X.env = (false, eval e X.env) :: starEach es X.env := by rfl) (hpl : (backTo pos (starEach es X.env)).any (·.1) = false := by rfl)
  (hsw : swapsWith (.Call (.Name g p) (e :: es) [] pos) none pos2.line X.env = pure false := by rfl) :
  PS X (.Try [.Expr (.Call (.Name g p) (e :: es) [] pos) pos2] [.ExceptHandler (some (.Name x np)) (some n) (b₀ :: suite) hpos] [] [] pos3) (tTryD sp C i t ts) := by
 intro pins s σ H D I h
 refine wpAny_Try_except (wpAny_execs_cons (wpAny_Expr_any (Q := fun f s₁ => match f with | .next => wpAny (model X.prog X.w) X.A (execs [] X.env) _ _ s₁ | f => _) ?_ I.quiet hsw))
 refine wpAny_Call_Name_kw (ld_glob I hgf hmf ?_ hdf)
 refine W.callWith_K (h₀ := X.base) I.ok.mod.kin hkf (wpAny_mono (ha pos pins s σ H _ (I.wish _) h) (fun us s1 ⟨vs, H1, I1, r, q⟩ => ⟨I1.unwish.kIn, ?_⟩) fun _ _ z => z.elim) he hpl
 have J := I1.unwish
 have hl : us.length = ps.length := by rw [<- r.length]; exact F.len _ _ _ _ q
 have hb' := hb s1 us J.kIn (by rw [List.append_nil]; exact hl)
 rw [List.append_nil] at hb'
 refine wpAny_call (codeAny_mono (F.run X.A X.stack s1 H1 ⟨us, []⟩ us vs _ _ hr J.env0 hb' r q) fun rr s' hq' => ?_)
 cases rr with
 | error ex =>
  obtain ⟨ea, cls, dx, B, H', rfl, fly, dx', hdx, hcl, hh⟩ := hq'
  cases hdx
  subst hcl
  exact handle_S J fly hst hf hm hg hmat hN hi hk (hsu ea) (fun o => hh ea o fly.he) hdb
 | ok fl =>
  cases fl with
  | ret u =>
   obtain ⟨v, H2, I2, r2, q2⟩ := J.after hq'
   exact wpAny_execs_nil (wpAny_execs_nil ⟨σ, H2, I2, q2⟩)
  | next => exact False.elim hq'
  | brk => exact False.elim hq'
  | cont => exact False.elim hq'
end
def tXFldS (K : Frag) (ta : TE) (f : Str) : TE := fun σ H Q => ta σ H fun x H1 => ∃ e C dx fs v, x = .ref e /\ Rd H1 e (.ext (ExcD C e dx)) /\ H1 dx = some (.xd fs) /\ ExcFld K C f /\ fs.lookup f = some v /\ Q v H1
theorem pe_xfldS {X : Cx} {e : Expr} {f : Str} {pos : Pos} {ta : TE} (K : W.Frag) (he : PE X e ta) (hb : attributeBase e f X.env (eval e X.env) = eval e X.env := by rfl) (hK : X.K = K := by rfl) : PE X (.Attribute e f pos) (tXFldS K ta f) := by
 subst hK
 intro pins s σ H Q I h
 refine attr_of hb (thn (he pins s σ H _ I h) fun u s1 ⟨x, H1, I1, rx, ea, C, dx, fs, v, ex, h1, h2, T, l, q⟩ => ?_)
 subst ex
 obtain rfl : u = Value.ref ea := rx
 obtain ⟨at_, _, _⟩ := h1.ok I1.hok
 obtain ⟨mA, ns, r⟩ := (show ObjOk X.prog X.w H1 s1.heap dx (.xd fs) from I1.hok dx _ h2)
 obtain ⟨u, hu, ru⟩ := RelO.some_of (v := v) (o := mA f) (by rw [<- l]; exact r f)
 exact own_field I1.kIn T at_ ns.ns hu (W.handedOut_of (handed_of ru)) ⟨v, H1, I1.tok _, ru, q⟩
inductive TyS (K : W.Frag) (H : Hp) : V -> Value -> Prop where
 | of {x : V} {t : Value} (h : TyX K H x t) : TyS K H x t
 | exc {e C dx : Addr} (T : ExcCls K C) (h : Rd H e (.ext (ExcD C e dx))) : TyS K H (.ref e) (.ref C)
def rIsiS (K : W.Frag) : List V -> Hp -> VK -> Prop := fun xs H Q => ∃ x c t b, xs = [x, c] /\ ((∃ a, c = .ref a) \/ ∃ n, c = .ty n) /\ TyS K H x t /\ W.kitOne K t (valOf c) = some b /\ Q (.bl b) H
theorem call_isiS {X : Cx} {K : W.Frag} (hK : X.K = K) : CallR X (.builtin "isinstance") (rIsiS K) := by
 subst hK
 intro pins s σ H xs us Q I rv h
 obtain ⟨x, c, t, b, rfl, hc, ty, e, q⟩ := h
 cases ty with
 | of ty => exact call_isi pins s σ H _ us Q I rv ⟨x, c, t, b, rfl, hc, ty, e, q⟩
 | @exc ea C dx T he =>
  obtain ⟨u, uc, rfl, ru, rc⟩ := rv.two
  have huc : uc = valOf c := by
   rcases hc with ⟨a, rfl⟩ | ⟨n, rfl⟩
   ·exact rc
   ·exact rc
  subst huc
  have ru' : u = Value.ref ea := ru
  subst ru'
  obtain ⟨p, _, _⟩ := he.ok I.hok
  exact W.kia_one (kitx_exc T) I.kIn p.exc e (fun z => nomatch z) fun tk => ⟨.bl b, H, I.tok tk, rfl, q⟩
theorem passD0 {X : Cx} {P : Program} {w : World} : Passes (XD P w) X E0 := by
 rintro pins σ H s e s' I ⟨ea, cls, dx, B, H', rfl, x, hE⟩
 exact hE.elim
end L2
namespace Pr
theorem quot (x y : Int) : x = y * Int.fdiv x y + Int.fmod x y := by rw [Int.fmod_def]; omega
theorem mul_ge {a b c : Int} (h : 1 <= b) (ha : c <= a) (hc : 0 <= c) : c <= a * b := by
 have := Int.mul_le_mul ha h (by omega) (by omega)
 omega
theorem pow_pos' {p : Int} (hp : 1 <= p) : ∀ n : Nat, 1 <= p ^ n
 | 0 => by simp
 | n + 1 => by
  rw [Int.pow_succ]
  exact mul_ge hp (pow_pos' hp n) (by omega)
def NoDiv (x d : Int) : Prop := ∀ k, 2 <= k -> k < d -> ¬ k ∣ x
structure Prm (p : Int) : Prop where
 two : 2 <= p
 no : ∀ k, 2 <= k -> k * k <= p -> ¬ k ∣ p
theorem sq_lt_of {k d : Int} (hk : 0 <= k) (hd : 0 <= d) (h : k * k < d * d) : k < d := by
 rcases Int.lt_or_le k d with h1 | h1
 ·exact h1
 ·have := Int.mul_le_mul h1 h1 hd hk
  omega
theorem prm_of {d x : Int} (h2 : 2 <= d) (h : NoDiv x d) (hd : d ∣ x) : Prm d := by
 refine ⟨h2, fun k k2 kk hk => h k k2 ?_ (Int.dvd_trans hk hd)⟩
 have := Int.mul_le_mul_of_nonneg_right k2 (show 0 <= k by omega)
 omega
theorem prm_left {d x : Int} (h2 : 2 <= d) (h : NoDiv x d) (hx : x < d * d) (x1 : 1 < x) : Prm x := by
 refine ⟨by omega, fun k k2 kk hk => h k k2 ?_ hk⟩
 exact sq_lt_of (by omega) (by omega) (by omega)
theorem left_ge {d x : Int} (h : NoDiv x d) (x1 : 1 < x) : d <= x := by
 rcases Int.lt_or_le x d with h1 | h1
 ·exact absurd (Int.dvd_refl x) (h x (by omega) h1)
 ·exact h1
def prodP : List (Int × Int) -> Int
 | [] => 1
 | x :: r => x.1 ^ x.2.toNat * prodP r
theorem prodP_app (xs ys : List (Int × Int)) : prodP (xs ++ ys) = prodP xs * prodP ys := by
 induction xs with
 | nil => simp [prodP]
 | cons x r ih => simp only [List.cons_append, prodP, ih, Int.mul_assoc]
theorem prodP_one (p e : Int) : prodP [(p, e)] = p ^ e.toNat := by simp [prodP]
structure Part (x : Int × Int) : Prop where
 prime : Prm x.1
 often : 1 <= x.2
structure Told (n : Int) (xs : List (Int × Int)) : Prop where
 all : ∀ x ∈ xs, Part x
 rise : xs.Pairwise fun x y => x.1 < y.1
 prod : prodP xs = n
theorem prodP_pos {xs : List (Int × Int)} (h : ∀ x ∈ xs, Part x) : 1 <= prodP xs := by
 induction xs with
 | nil => simp [prodP]
 | cons x r ih =>
  simp only [prodP]
  have h1 := ih fun y hy => h y (.tail _ hy)
  exact mul_ge h1 (pow_pos' (by have := (h x (.head _)).prime.two; omega) _) (by omega)
theorem pow_le_prodP {xs : List (Int × Int)} (h : ∀ x ∈ xs, Part x) {x : Int × Int} (hx : x ∈ xs) : x.1 ^ x.2.toNat <= prodP xs := by
 induction xs with
 | nil => exact nomatch hx
 | cons y r ih =>
  simp only [prodP]
  have h1 := prodP_pos fun z hz => h z (.tail _ hz)
  have hy : 1 <= y.1 ^ y.2.toNat := pow_pos' (by have := (h y (.head _)).prime.two; omega) _
  rcases List.mem_cons.mp hx with rfl | hx
  ·exact mul_ge h1 (Int.le_refl _) (by omega)
  ·have h2 := ih (fun z hz => h z (.tail _ hz)) hx
   rw [Int.mul_comm]
   exact mul_ge hy h2 (by have := pow_pos' (show 1 <= x.1 by have := (h x (.tail _ hx)).prime.two; omega) x.2.toNat; omega)
theorem two_pow_le {p : Int} (hp : 2 <= p) : ∀ n : Nat, (2 : Int) ^ n <= p ^ n
 | 0 => by simp
 | n + 1 => by
  rw [Int.pow_succ, Int.pow_succ]
  exact Int.mul_le_mul (two_pow_le hp n) hp (by omega) (by have := pow_pos' (show 1 <= p by omega) n; omega)
theorem pow_mono {a b : Nat} (h : a <= b) : (2 : Int) ^ a <= (2 : Int) ^ b := by
 obtain ⟨c, rfl⟩ := Nat.exists_eq_add_of_le h
 rw [Int.pow_add]
 exact mul_ge (pow_pos' (by omega) c) (Int.le_refl _) (by have := pow_pos' (show (1 : Int) <= 2 by omega) a; omega)
theorem often_le {n : Int} {xs : List (Int × Int)} (h : Told n xs) (hn : n <= 10 ^ 10) {x : Int × Int} (hx : x ∈ xs) : x.2 <= 40 := by
 rcases Int.lt_or_le 40 x.2 with h1 | h1
 ·exfalso
  have h2 := pow_le_prodP h.all hx
  have h3 := two_pow_le (h.all x hx).prime.two x.2.toNat
  have h4 := pow_mono (show 40 <= x.2.toNat by omega)
  rw [h.prod] at h2
  have : (2 : Int) ^ 40 = 1099511627776 := by decide
  omega
 ·exact h1
theorem part_le {n : Int} {xs : List (Int × Int)} (h : Told n xs) {x : Int × Int} (hx : x ∈ xs) : x.1 <= n := by
 have h2 := pow_le_prodP h.all hx
 rw [h.prod] at h2
 have h1 := (h.all x hx).often
 obtain ⟨k, hk⟩ : ∃ k, x.2.toNat = k + 1 := ⟨x.2.toNat - 1, by omega⟩
 rw [hk, Int.pow_succ] at h2
 have := mul_ge (pow_pos' (show 1 <= x.1 by have := (h.all x hx).prime.two; omega) k) (Int.le_refl x.1) (by have := (h.all x hx).prime.two; omega)
 rw [Int.mul_comm] at this
 omega
structure Out (n left d : Int) (xs : List (Int × Int)) : Prop where
 all : ∀ x ∈ xs, Part x
 rise : xs.Pairwise fun x y => x.1 < y.1
 below : ∀ x ∈ xs, x.1 < d
 prod : prodP xs * left = n
 no : NoDiv left d
 odd : d = 2 \/ d % 2 = 1
theorem out_start (n : Int) : Out n n 2 [] := ⟨fun _ h => (nomatch h), .nil, fun _ h => (nomatch h), by simp [prodP], fun k h1 h2 => by omega, .inl rfl⟩
theorem out_left {n left d : Int} {xs : List (Int × Int)} (h : Out n left d xs) (l1 : 1 <= left) : left <= n := by
 have := h.prod
 have := mul_ge (prodP_pos h.all) (Int.le_refl left) (by omega)
 rw [Int.mul_comm] at this
 omega
structure Inn (left₀ d left often : Int) : Prop where
 eq : left₀ = d ^ often.toNat * left
theorem inn_start (left d : Int) : Inn left d left 0 := ⟨by simp⟩
theorem inn_turn {left₀ d left often : Int} (h : Inn left₀ d left often) (o : 0 <= often) (hz : Int.fmod left d = 0) : Inn left₀ d (Int.fdiv left d) (often + 1) := by
 have q := quot left d
 rw [hz] at q
 refine ⟨?_⟩
 have e : (often + 1).toNat = often.toNat + 1 := by omega
 rw [e, Int.pow_succ, h.eq, Int.mul_assoc]
 congr 1
 omega
theorem fmod_ne {x d : Int} (h : Int.fmod x d ≠ 0) : ¬ d ∣ x := fun hd => h (Int.fmod_eq_zero_of_dvd hd)
theorem nodiv_next {left₀ d left often : Int} (hi : Inn left₀ d left often) (h2 : 2 <= d) (ho : d = 2 \/ d % 2 = 1) (hn : NoDiv left₀ d) (hz : Int.fmod left d ≠ 0) (d' : Int) (hd : d' = if d = 2 then 3 else d + 2) : NoDiv left d' /\ (d' = 2 \/ d' % 2 = 1) /\ d < d' := by
 have hl : left ∣ left₀ := ⟨d ^ often.toNat, by rw [hi.eq, Int.mul_comm]⟩
 have up : NoDiv left (d + 1) := by
  intro k k2 kd hk
  rcases (show k < d \/ k = d by omega) with h | h
  ·exact hn k k2 h (Int.dvd_trans hk hl)
  ·subst h; exact fmod_ne hz hk
 by_cases e : d = 2
 ·rw [if_pos e] at hd
  subst hd
  subst e
  exact ⟨up, by omega, by omega⟩
 ·rw [if_neg e] at hd
  subst hd
  refine ⟨?_, by omega, by omega⟩
  intro k k2 kd hk
  rcases (show k < d + 1 \/ k = d + 1 by omega) with h | h
  ·exact up k k2 h hk
  ·subst h
   refine up 2 (by omega) (by omega) (Int.dvd_trans ?_ hk)
   omega
theorem out_none {n left₀ left d often : Int} {xs : List (Int × Int)} (h : Out n left₀ d xs) (hi : Inn left₀ d left often) (h2 : 2 <= d) (o : often = 0) (hz : Int.fmod left d ≠ 0) {d' : Int} (hd : d' = if d = 2 then 3 else d + 2) : Out n left d' xs := by
 obtain ⟨a, b, c⟩ := nodiv_next hi h2 h.odd h.no hz d' hd
 refine ⟨h.all, h.rise, fun x hx => by have := h.below x hx; omega, ?_, a, b⟩
 have e := hi.eq
 subst o
 simp at e
 rw [<- e]
 exact h.prod
theorem out_some {n left₀ left d often : Int} {xs : List (Int × Int)} (h : Out n left₀ d xs) (hi : Inn left₀ d left often) (h2 : 2 <= d) (o : 0 < often) (hz : Int.fmod left d ≠ 0) {d' : Int} (hd : d' = if d = 2 then 3 else d + 2) : Out n left d' (xs ++ [(d, often)]) := by
 obtain ⟨a, b, c⟩ := nodiv_next hi h2 h.odd h.no hz d' hd
 have dv : d ∣ left₀ := by
  obtain ⟨k, hk⟩ : ∃ k, often.toNat = k + 1 := ⟨often.toNat - 1, by omega⟩
  refine ⟨d ^ k * left, ?_⟩
  rw [hi.eq, hk, Int.pow_succ, Int.mul_comm (d ^ k) d, Int.mul_assoc]
 refine ⟨?_, ?_, ?_, ?_, a, b⟩
 ·intro x hx
  rcases List.mem_append.mp hx with hx | hx
  ·exact h.all x hx
  ·rw [List.mem_singleton.mp hx]
   exact ⟨prm_of h2 h.no dv, by omega⟩
 ·refine List.pairwise_append.mpr ⟨h.rise, List.pairwise_singleton _ _, ?_⟩
  intro x hx y hy
  rw [List.mem_singleton.mp hy]
  exact h.below x hx
 ·intro x hx
  rcases List.mem_append.mp hx with hx | hx
  ·have := h.below x hx; omega
  ·rw [List.mem_singleton.mp hx]; exact c
 ·rw [prodP_app, prodP_one, Int.mul_assoc, <- hi.eq]
  exact h.prod
theorem told_last {n left d : Int} {xs : List (Int × Int)} (h : Out n left d xs) (h2 : 2 <= d) (hx : left < d * d) (l1 : 1 < left) : Told n (xs ++ [(left, 1)]) := by
 refine ⟨?_, ?_, ?_⟩
 ·intro x hx'
  rcases List.mem_append.mp hx' with hx' | hx'
  ·exact h.all x hx'
  ·rw [List.mem_singleton.mp hx']
   exact ⟨prm_left h2 h.no hx l1, by omega⟩
 ·refine List.pairwise_append.mpr ⟨h.rise, List.pairwise_singleton _ _, ?_⟩
  intro x hx' y hy
  rw [List.mem_singleton.mp hy]
  have := h.below x hx'
  have := left_ge h.no l1
  show x.1 < left
  omega
 ·rw [prodP_app, prodP_one, show (1 : Int).toNat = 1 from rfl, Int.pow_one]
  exact h.prod
theorem told_none {n left d : Int} {xs : List (Int × Int)} (h : Out n left d xs) (l1 : left = 1) : Told n xs := by
 refine ⟨h.all, h.rise, ?_⟩
 have := h.prod
 subst l1
 omega
theorem len_le {xs : List (Int × Int)} (h : ∀ x ∈ xs, Part x) : (2 : Int) ^ xs.length <= prodP xs := by
 induction xs with
 | nil => simp [prodP]
 | cons x r ih =>
  have h1 := ih fun y hy => h y (.tail _ hy)
  have hp := (h x (.head _)).prime.two
  have ho := (h x (.head _)).often
  simp only [prodP, List.length_cons]
  rw [Int.pow_succ, Int.mul_comm]
  obtain ⟨k, hk⟩ : ∃ k, x.2.toNat = k + 1 := ⟨x.2.toNat - 1, by omega⟩
  have : 2 <= x.1 ^ x.2.toNat := by
   rw [hk, Int.pow_succ, Int.mul_comm]
   exact mul_ge (pow_pos' (by omega) k) hp (by omega)
  exact Int.mul_le_mul this h1 (by have := pow_pos' (show (1 : Int) <= 2 by omega) r.length; omega) (by omega)
theorem prm_one_or {p k : Int} (h : Prm p) (k1 : 1 <= k) (hk : k ∣ p) : k = 1 \/ k = p := by
 have p2 := h.two
 obtain ⟨m, hm⟩ := hk
 rcases (show k = 1 \/ 2 <= k by omega) with e | k2
 ·exact .inl e
 ·have m1 : 1 <= m := by
   rcases Int.lt_or_le m 1 with h1 | h1
   ·have := Int.mul_le_mul_of_nonneg_left (show m <= 0 by omega) (show 0 <= k by omega)
    omega
   ·exact h1
  rcases (show m = 1 \/ 2 <= m by omega) with e | m2
  ·subst e; exact .inr (by omega)
  ·exfalso
   rcases Int.le_total k m with hle | hle
   ·have := Int.mul_le_mul_of_nonneg_left hle (show 0 <= k by omega)
    exact h.no k k2 (by omega) ⟨m, hm⟩
   ·have := Int.mul_le_mul_of_nonneg_right hle (show 0 <= m by omega)
    exact h.no m m2 (by omega) ⟨k, by rw [hm, Int.mul_comm]⟩
theorem prm_coprime {p x : Int} (h : Prm p) (hx : ¬ p ∣ x) : Nat.Coprime p.natAbs x.natAbs := by
 have p2 := h.two
 have g1 : (Nat.gcd p.natAbs x.natAbs) ∣ p.natAbs := Nat.gcd_dvd_left _ _
 have g2 : (Nat.gcd p.natAbs x.natAbs) ∣ x.natAbs := Nat.gcd_dvd_right _ _
 have g0 : 0 < Nat.gcd p.natAbs x.natAbs := Nat.gcd_pos_of_pos_left _ (by omega)
 show Nat.gcd p.natAbs x.natAbs = 1
 generalize Nat.gcd p.natAbs x.natAbs = g at g0 g1 g2
 have d1 : (g : Int) ∣ p := Int.ofNat_dvd_left.mpr g1
 rcases prm_one_or h (by omega) d1 with e | e
 ·omega
 ·exfalso
  apply hx
  rw [<- e]
  exact Int.ofNat_dvd_left.mpr g2
theorem euclid {p x y : Int} (h : Prm p) (hd : p ∣ x * y) : p ∣ x \/ p ∣ y := by
 by_cases hx : p ∣ x
 ·exact .inl hx
 ·right
  have c := prm_coprime h hx
  have d : p.natAbs ∣ x.natAbs * y.natAbs := by
   rw [<- Int.natAbs_mul]
   exact Int.natAbs_dvd_natAbs.mpr hd
  exact Int.natAbs_dvd_natAbs.mp (c.dvd_of_dvd_mul_left d)
theorem prm_dvd_prm {p q : Int} (h : Prm p) (k : Prm q) (hd : p ∣ q) : p = q := by
 rcases prm_one_or k (by have := h.two; omega) hd with e | e
 ·have := h.two; omega
 ·exact e
theorem prm_not_one {p : Int} (h : Prm p) : ¬ p ∣ 1 := fun hd => by
 have := Int.le_of_dvd (by omega) hd
 have := h.two
 omega
def coreP : List (Int × Int) -> Int
 | [] => 1
 | x :: r => (if x.2 % 2 = 1 then x.1 else 1) * coreP r
def rootP : List (Int × Int) -> Int
 | [] => 1
 | x :: r => x.1 ^ (x.2 / 2).toNat * rootP r
theorem coreP_app (xs ys : List (Int × Int)) : coreP (xs ++ ys) = coreP xs * coreP ys := by
 induction xs with
 | nil => simp [coreP]
 | cons x r ih => simp only [List.cons_append, coreP, ih, Int.mul_assoc]
theorem rootP_app (xs ys : List (Int × Int)) : rootP (xs ++ ys) = rootP xs * rootP ys := by
 induction xs with
 | nil => simp [rootP]
 | cons x r ih => simp only [List.cons_append, rootP, ih, Int.mul_assoc]
theorem half_pow {p e : Int} (he : 0 <= e) : (if e % 2 = 1 then p else 1) * (p ^ (e / 2).toNat * p ^ (e / 2).toNat) = p ^ e.toNat := by
 rw [<- Int.pow_add]
 split
 ·rw [Int.mul_comm, <- Int.pow_succ]
  congr 1
  omega
 ·rw [Int.one_mul]
  congr 1
  omega
theorem core_root {xs : List (Int × Int)} (h : ∀ x ∈ xs, Part x) : coreP xs * rootP xs * rootP xs = prodP xs := by
 induction xs with
 | nil => simp [coreP, rootP, prodP]
 | cons x r ih =>
  have h1 := ih fun y hy => h y (.tail _ hy)
  simp only [coreP, rootP, prodP]
  rw [<- h1, <- half_pow (p := x.1) (show 0 <= x.2 by have := (h x (.head _)).often; omega)]
  grind
theorem rootP_pos {xs : List (Int × Int)} (h : ∀ x ∈ xs, Part x) : 1 <= rootP xs := by
 induction xs with
 | nil => simp [rootP]
 | cons x r ih =>
  simp only [rootP]
  exact mul_ge (ih fun y hy => h y (.tail _ hy)) (pow_pos' (by have := (h x (.head _)).prime.two; omega) _) (by omega)
theorem core_in {q : Int} (h : Prm q) {xs : List (Int × Int)} (hx : ∀ x ∈ xs, Part x) (hd : q ∣ coreP xs) : ∃ x ∈ xs, x.1 = q := by
 induction xs with
 | nil => exact absurd hd (prm_not_one h)
 | cons x r ih =>
  simp only [coreP] at hd
  rcases euclid h hd with e | e
  ·split at e
   ·exact ⟨x, .head _, (prm_dvd_prm h (hx x (.head _)).prime e).symm⟩
   ·exact absurd e (prm_not_one h)
  ·obtain ⟨y, hy, e⟩ := ih (fun y hy => hx y (.tail _ hy)) e
   exact ⟨y, .tail _ hy, e⟩
theorem core_no_sq {q : Int} (h : Prm q) {xs : List (Int × Int)} (hx : ∀ x ∈ xs, Part x) (hr : xs.Pairwise fun x y => x.1 < y.1) : ¬ q * q ∣ coreP xs := by
 induction xs with
 | nil =>
  intro hd
  exact prm_not_one h (Int.dvd_trans ⟨q, rfl⟩ hd)
 | cons x r ih =>
  intro hd
  have hr' := List.pairwise_cons.mp hr
  have hx' := fun y hy => hx y (List.Mem.tail _ hy)
  simp only [coreP] at hd
  have hp := (hx x (.head _)).prime
  split at hd
  ·by_cases e : q = x.1
   ·subst e
    have h1 : x.1 ∣ coreP r := by
     obtain ⟨m, hm⟩ := hd
     rw [Int.mul_assoc] at hm
     have := Int.eq_of_mul_eq_mul_left (by have := hp.two; omega) hm
     exact ⟨m, this⟩
    obtain ⟨y, hy, e⟩ := core_in h hx' h1
    have := hr'.1 y hy
    omega
   ·have c : Nat.Coprime q.natAbs x.1.natAbs := prm_coprime h fun hd' => e (prm_dvd_prm h hp hd')
    have c2 : Nat.Coprime (q * q).natAbs x.1.natAbs := by rw [Int.natAbs_mul]; exact c.mul_left c
    have d : (q * q).natAbs ∣ x.1.natAbs * (coreP r).natAbs := by
     rw [<- Int.natAbs_mul]
     exact Int.natAbs_dvd_natAbs.mpr hd
    exact ih hx' hr'.2 (Int.natAbs_dvd_natAbs.mp (c2.dvd_of_dvd_mul_left d))
  ·rw [Int.one_mul] at hd
   exact ih hx' hr'.2 hd
end Pr
namespace Jc
end Jc
namespace Jc
end Jc
namespace Jc
end Jc
namespace Jc
end Jc
namespace Jc
end Jc
namespace Jc
open Pr (Prm)
end Jc
namespace Pw
end Pw
namespace Jc
open Pr (Prm)
end Jc
namespace Pl
open Jc
end Pl
namespace Pl
open Pr (Prm Told)
open Jc
structure Pln (a b c : Int) : Prop where
 a0 : a ≠ 0
 b0 : b ≠ 0
 c0 : c ≠ 0
 sa : ∀ p, Prm p -> ¬ p * p ∣ a
 sb : ∀ p, Prm p -> ¬ p * p ∣ b
 sc : ∀ p, Prm p -> ¬ p * p ∣ c
 ab : ∀ p, Prm p -> p ∣ a -> ¬ p ∣ b
 bc : ∀ p, Prm p -> p ∣ b -> ¬ p ∣ c
 ca : ∀ p, Prm p -> p ∣ c -> ¬ p ∣ a
end Pl
namespace Jc
open Pr (Prm)
end Jc
namespace Jc
open Pr (Prm)
open Classical in
section
variable {L : List Int}
end
end Jc
namespace Jc
open Pr (Prm)
end Jc
namespace Jc
open Pr (Prm)
end Jc
namespace Jc
open Pr (Prm)
structure Sf (n : Int) : Prop where
 n0 : n ≠ 0
 sq : ∀ p, Prm p -> ¬ p * p ∣ n
section
variable {a b p x y z : Int}
end
theorem prm_div : ∀ (m : Nat) (n : Int), n.natAbs <= m -> 2 <= n -> ∃ p, Prm p /\ p ∣ n
 | 0, n, h, n2 => by omega
 | m + 1, n, h, n2 => by
  by_cases c : ∃ k, 2 <= k /\ k * k <= n /\ k ∣ n
  ·obtain ⟨k, k2, kk, d⟩ := c
   have lt : k < n := by
    have := Int.mul_le_mul_of_nonneg_right k2 (show 0 <= k by omega)
    omega
   obtain ⟨p, hp, hd⟩ := prm_div m k (by omega) k2
   exact ⟨p, hp, Int.dvd_trans hd d⟩
  ·exact ⟨n, ⟨n2, fun k k2 kk d => c ⟨k, k2, kk, d⟩⟩, Int.dvd_refl n⟩
end Jc
namespace Sh
theorem quot (x y : Int) : x = y * Int.fdiv x y + Int.fmod x y := by rw [Int.fmod_def]; omega
structure Rows (x y a s t b u v : Int) : Prop where
 up : a = s * x + t * y
 lo : b = u * x + v * y
 one : ∃ p q, x = p * a + q * b
 two : ∃ p q, y = p * a + q * b
theorem rows_start (x y : Int) : Rows x y x 1 0 y 0 1 := ⟨by omega, by omega, ⟨1, 0, by omega⟩, ⟨0, 1, by omega⟩⟩
theorem rows_turn {x y a s t b u v : Int} (h : Rows x y a s t b u v) (q : Int) : Rows x y b u v (a - q * b) (s - q * u) (t - q * v) := by
 obtain ⟨h1, h2, ⟨p1, q1, h3⟩, ⟨p2, q2, h4⟩⟩ := h
 refine ⟨h2, by grind, ⟨p1 * q + q1, p1, ?_⟩, ⟨p2 * q + q2, p2, ?_⟩⟩ <;> grind
theorem rows_end {x y a s t b u v : Int} (h : Rows x y a s t b u v) (hb : b = 0) : a = s * x + t * y /\ (∃ p, x = p * a) /\ (∃ p, y = p * a) := by
 obtain ⟨h1, h2, ⟨p1, q1, h3⟩, ⟨p2, q2, h4⟩⟩ := h
 subst hb
 exact ⟨h1, ⟨p1, by grind⟩, ⟨p2, by grind⟩⟩
structure Sz (B a s t b u v : Int) : Prop where
 a0 : a.natAbs <= B.natAbs
 b0 : b.natAbs <= B.natAbs
 s0 : s.natAbs <= B.natAbs
 t0 : t.natAbs <= B.natAbs
 u0 : u.natAbs <= B.natAbs
 v0 : v.natAbs <= B.natAbs
 way : (s = 1 /\ t = 0 /\ u = 0 /\ v = 1 /\ a.natAbs + 2 * b.natAbs <= B.natAbs) \/
  ((0 <= a /\ 0 <= b \/ a <= 0 /\ b <= 0) /\ s.natAbs * b.natAbs + u.natAbs * a.natAbs <= B.natAbs /\ t.natAbs * b.natAbs + v.natAbs * a.natAbs <= B.natAbs)
theorem le_of_mul {m n B : Nat} (h : m * n <= B) (hn : n ≠ 0) : m <= B := Nat.le_trans (Nat.le_mul_of_pos_right m (Nat.pos_of_ne_zero hn)) h
theorem fmod_abs {a b : Int} (hb : b ≠ 0) : (Int.fmod a b).natAbs < b.natAbs := by
 rcases Int.lt_or_gt_of_ne hb with h | h
 ·have h1 := Int.fmod_lt_of_pos (-a) (show 0 < -b by omega)
  have h2 := Int.fmod_nonneg_of_pos (-a) (show 0 < -b by omega)
  rw [Int.neg_fmod_neg] at h1 h2
  omega
 ·have h1 := Int.fmod_lt_of_pos a h
  have h2 := Int.fmod_nonneg_of_pos a h
  omega
theorem fmod_sign {a b : Int} (hb : b ≠ 0) : 0 <= b /\ 0 <= Int.fmod a b \/ b <= 0 /\ Int.fmod a b <= 0 := by
 rcases Int.lt_or_gt_of_ne hb with h | h
 ·have h2 := Int.fmod_nonneg_of_pos (-a) (show 0 < -b by omega)
  rw [Int.neg_fmod_neg] at h2
  omega
 ·have h2 := Int.fmod_nonneg_of_pos a h
  omega
theorem abs_sub_mul (s q u : Int) : (s - q * u).natAbs <= s.natAbs + q.natAbs * u.natAbs := by
 have := Int.natAbs_sub_le s (q * u)
 rw [Int.natAbs_mul] at this
 exact this
theorem sum_turn {s u a b q r : Int} (hq : (q * b).natAbs + r.natAbs <= a.natAbs) : u.natAbs * r.natAbs + (s - q * u).natAbs * b.natAbs <= s.natAbs * b.natAbs + u.natAbs * a.natAbs := by
 have h1 := Nat.mul_le_mul_right b.natAbs (abs_sub_mul s q u)
 have h2 := Nat.mul_le_mul_left u.natAbs hq
 rw [Int.natAbs_mul] at h2
 rw [Nat.add_mul] at h1
 rw [Nat.mul_add] at h2
 have e : q.natAbs * u.natAbs * b.natAbs = u.natAbs * (q.natAbs * b.natAbs) := by
  rw [Nat.mul_comm q.natAbs, Nat.mul_assoc]
 omega
theorem sz_start {x y : Int} : Sz ((x.natAbs : Int) + 2 * y.natAbs + 1) x 1 0 y 0 1 := by
 refine ⟨by omega, by omega, by omega, by omega, by omega, by omega, .inl ⟨rfl, rfl, rfl, rfl, by omega⟩⟩
theorem sz_turn {B a s t b u v : Int} (h : Sz B a s t b u v) (hb : b ≠ 0) (q r : Int) (hq : a = b * q + r) (hr : r = Int.fmod a b) :
  Sz B b u v r (s - q * u) (t - q * v) := by
 have ra : r.natAbs < b.natAbs := hr ▸ fmod_abs hb
 have rs : 0 <= b /\ 0 <= r \/ b <= 0 /\ r <= 0 := hr ▸ fmod_sign hb
 have eq : q * b = a - r := by rw [Int.mul_comm]; omega
 rcases h.way with ⟨rfl, rfl, rfl, rfl, h1⟩ | ⟨hs, h1, h2⟩
 ·have hq' : (q * b).natAbs <= a.natAbs + r.natAbs := by rw [eq]; omega
  have hqb : q.natAbs <= (q * b).natAbs := by
   rw [Int.natAbs_mul]
   exact Nat.le_mul_of_pos_right _ (by omega)
  have e1 : (1 - q * 0).natAbs = 1 := by rw [Int.mul_zero]; rfl
  have e2 : (0 - q * 1).natAbs = q.natAbs := by rw [Int.mul_one]; omega
  have b0 := h.b0
  refine ⟨h.b0, by omega, h.u0, h.v0, by rw [e1]; omega, by rw [e2]; omega, .inr ⟨rs, ?_, ?_⟩⟩
  ·rw [e1]; simp; omega
  ·have e3 : q.natAbs * b.natAbs = (q * b).natAbs := (Int.natAbs_mul q b).symm
   have e4 : (1 : Int).natAbs * r.natAbs = r.natAbs := by rw [show (1 : Int).natAbs = 1 from rfl, Nat.one_mul]
   rw [e2, e3, e4]
   omega
 ·have hq' : (q * b).natAbs + r.natAbs <= a.natAbs := by
   have q0 : 0 <= q := by
    rcases (show 0 <= q \/ q <= -1 by omega) with h0 | h0
    ·exact h0
    ·exfalso
     rcases (show 0 < b \/ b < 0 by omega) with hb' | hb'
     ·have := Int.mul_le_mul_of_nonneg_left h0 (Int.le_of_lt hb')
      omega
     ·have := Int.mul_le_mul_of_nonneg_left h0 (show 0 <= -b by omega)
      rw [Int.neg_mul, Int.neg_mul] at this
      omega
   rcases (show 0 < b \/ b < 0 by omega) with hb' | hb'
   ·have := Int.mul_nonneg q0 (Int.le_of_lt hb')
    omega
   ·have := Int.mul_nonneg q0 (show 0 <= -b by omega)
    rw [Int.mul_neg] at this
    omega
  have k1 := sum_turn (s := s) (u := u) hq'
  have k2 := sum_turn (s := t) (u := v) hq'
  refine ⟨h.b0, by have := h.b0; omega, h.u0, h.v0, ?_, ?_, .inr ⟨rs, by omega, by omega⟩⟩
  ·exact le_of_mul (n := b.natAbs) (by omega) (by omega)
  ·exact le_of_mul (n := b.natAbs) (by omega) (by omega)
end Sh
namespace Sm
structure P3 where
 (x y z : Int)
structure F6 where
 (a b c d e f : Int)
structure T3 where
 (r0 r1 r2 : P3)
def rp (r s : P3) : Int := r.x * s.x + r.y * s.y + r.z * s.z
def wo (Q : F6) (P : P3) : Int := Q.a * (P.x * P.x) + Q.b * (P.y * P.y) + Q.c * (P.z * P.z) + Q.d * (P.y * P.z) + Q.e * (P.x * P.z) + Q.f * (P.x * P.y)
def sl (Q : F6) : T3 := ⟨⟨2 * Q.a, Q.f, Q.e⟩, ⟨Q.f, 2 * Q.b, Q.d⟩, ⟨Q.e, Q.d, 2 * Q.c⟩⟩
def tb (t : T3) (P : P3) : P3 := ⟨rp t.r0 P, rp t.r1 P, rp t.r2 P⟩
def tr (t : T3) : T3 := ⟨⟨t.r0.x, t.r1.x, t.r2.x⟩, ⟨t.r0.y, t.r1.y, t.r2.y⟩, ⟨t.r0.z, t.r1.z, t.r2.z⟩⟩
def bl (Q : F6) (x y : P3) : Int := rp (tb (sl Q) x) y
def ch (Q : F6) (t : T3) : F6 := ⟨wo Q (tr t).r0, wo Q (tr t).r1, wo Q (tr t).r2, bl Q (tr t).r1 (tr t).r2, bl Q (tr t).r0 (tr t).r2, bl Q (tr t).r0 (tr t).r1⟩
def pt (t u : T3) : T3 := ⟨tb (tr u) t.r0, tb (tr u) t.r1, tb (tr u) t.r2⟩
def cr (r s : P3) : P3 := ⟨r.y * s.z - r.z * s.y, r.z * s.x - r.x * s.z, r.x * s.y - r.y * s.x⟩
def me (t : T3) : Int := rp t.r0 (cr t.r1 t.r2)
theorem me_pt (t u : T3) : me (pt t u) = me t * me u := by
 simp only [me, pt, tb, tr, cr, rp]
 grind
def lw (Q : F6) (P : P3) : Int := Q.a * P.x * P.x + Q.b * P.y * P.y + Q.c * P.z * P.z + Q.d * P.y * P.z + Q.e * P.x * P.z + Q.f * P.x * P.y
def lm (t : T3) : Int := t.r0.x * t.r1.y * t.r2.z + t.r0.y * t.r1.z * t.r2.x + t.r0.z * t.r1.x * t.r2.y - t.r0.z * t.r1.y * t.r2.x - t.r0.y * t.r1.x * t.r2.z - t.r0.x * t.r1.z * t.r2.y
theorem lm_eq (t : T3) : lm t = me t := by
 simp only [lm, me, cr, rp]
 grind
def rt (r : P3) (t : T3) : P3 := ⟨r.x * t.r0.x + r.y * t.r1.x + r.z * t.r2.x, r.x * t.r0.y + r.y * t.r1.y + r.z * t.r2.y, r.x * t.r0.z + r.y * t.r1.z + r.z * t.r2.z⟩
theorem wo_two (Q : F6) (x : P3) : bl Q x x = 2 * wo Q x := by
 simp only [bl, tb, sl, rp, wo]
 grind
theorem rt_bl (Q : F6) (t : T3) (c : P3) : rt (rt c (sl Q)) t = ⟨bl Q c (tr t).r0, bl Q c (tr t).r1, bl Q c (tr t).r2⟩ := by
 simp only [rt, sl, bl, tb, tr, rp, P3.mk.injEq]
 refine ⟨?_, ?_, ?_⟩ <;> grind
def Bd (k : Nat) (x : Int) : Prop := x.natAbs <= 2 ^ k
theorem Bd.mul {j k : Nat} {x y : Int} (h : Bd j x) (h2 : Bd k y) : Bd (j + k) (x * y) := by
 unfold Bd at *
 rw [Int.natAbs_mul, Nat.pow_add]
 exact Nat.mul_le_mul h h2
theorem Bd.add {j : Nat} {x y : Int} (h : Bd j x) (h2 : Bd j y) : Bd (j + 1) (x + y) := by
 unfold Bd at *
 rw [Nat.pow_succ]
 omega
theorem Bd.sub {j : Nat} {x y : Int} (h : Bd j x) (h2 : Bd j y) : Bd (j + 1) (x - y) := by
 unfold Bd at *
 rw [Nat.pow_succ]
 omega
theorem Bd.mono {j k : Nat} {x : Int} (h : Bd j x) (hk : j <= k) : Bd k x := Nat.le_trans h (Nat.pow_le_pow_right (by decide) hk)
structure BP (k : Nat) (P : P3) : Prop where
 (x : Bd k P.x) (y : Bd k P.y) (z : Bd k P.z)
structure BF (k : Nat) (Q : F6) : Prop where
 (a : Bd k Q.a) (b : Bd k Q.b) (c : Bd k Q.c) (d : Bd k Q.d) (e : Bd k Q.e) (f : Bd k Q.f)
structure BT (k : Nat) (t : T3) : Prop where
 (r0 : BP k t.r0) (r1 : BP k t.r1) (r2 : BP k t.r2)
theorem BP.mono {j k : Nat} {P : P3} (h : BP j P) (hk : j <= k) : BP k P := ⟨h.x.mono hk, h.y.mono hk, h.z.mono hk⟩
theorem bd_rp {j k : Nat} {r s : P3} (h : BP j r) (h2 : BP k s) : Bd (j + k + 2) (rp r s) := ((h.x.mul h2.x).add (h.y.mul h2.y)).add ((h.z.mul h2.z).mono (Nat.le_succ _))
theorem bd_wo {j k : Nat} {Q : F6} {P : P3} (h : BF j Q) (p : BP k P) : Bd (j + (k + k) + 5) (wo Q P) :=
 (((((h.a.mul (p.x.mul p.x)).add (h.b.mul (p.y.mul p.y))).add ((h.c.mul (p.z.mul p.z)).mono (by omega))).add ((h.d.mul (p.y.mul p.z)).mono (by omega))).add ((h.e.mul (p.x.mul p.z)).mono (by omega))).add ((h.f.mul (p.x.mul p.y)).mono (by omega))
theorem bd_tb {j k : Nat} {t : T3} {P : P3} (h : BT j t) (p : BP k P) : BP (j + k + 2) (tb t P) := ⟨bd_rp h.r0 p, bd_rp h.r1 p, bd_rp h.r2 p⟩
theorem bd_tr {k : Nat} {t : T3} (h : BT k t) : BT k (tr t) := ⟨⟨h.r0.x, h.r1.x, h.r2.x⟩, ⟨h.r0.y, h.r1.y, h.r2.y⟩, ⟨h.r0.z, h.r1.z, h.r2.z⟩⟩
theorem bd_two {k : Nat} {x : Int} (h : Bd k x) : Bd (k + 1) (2 * x) := by
 unfold Bd at *
 rw [Nat.pow_succ]
 omega
theorem bd_sl {k : Nat} {Q : F6} (h : BF k Q) : BT (k + 1) (sl Q) := ⟨⟨bd_two h.a, h.f.mono (Nat.le_succ _), h.e.mono (Nat.le_succ _)⟩, ⟨h.f.mono (Nat.le_succ _), bd_two h.b, h.d.mono (Nat.le_succ _)⟩, ⟨h.e.mono (Nat.le_succ _), h.d.mono (Nat.le_succ _), bd_two h.c⟩⟩
theorem sum3 (a b c : Int) : [a, b, c].sum = a + b + c := by
 simp [List.sum_cons]
 omega
theorem sum6 (a b c d e f : Int) : [a, b, c, d, e, f].sum = a + b + c + d + e + f := by
 simp [List.sum_cons]
 omega
end Sm
namespace Lw
def One3 (a b c : Int) : Prop := ∃ u v w : Int, u * a + v * b + w * c = 1
def Pos3 (a b c : Int) : Prop := 0 < a \/ (a = 0 /\ 0 < b) \/ (a = 0 /\ b = 0 /\ 0 < c)
theorem low_ok {x y z d : Int} (hd : d ≠ 0) (hx : d ∣ x) (hy : d ∣ y) (hz : d ∣ z) (hb : ∃ u v w : Int, u * x + v * y + w * z = d) : One3 (x.fdiv d) (y.fdiv d) (z.fdiv d) /\ x = d * x.fdiv d /\ y = d * y.fdiv d /\ z = d * z.fdiv d := by
 obtain ⟨x', rfl⟩ := hx
 obtain ⟨y', rfl⟩ := hy
 obtain ⟨z', rfl⟩ := hz
 obtain ⟨u, v, w, e⟩ := hb
 rw [Int.mul_fdiv_cancel_left _ hd, Int.mul_fdiv_cancel_left _ hd, Int.mul_fdiv_cancel_left _ hd]
 refine ⟨⟨u, v, w, ?_⟩, rfl, rfl, rfl⟩
 have : d * (u * x' + v * y' + w * z') = d * 1 := by grind
 exact Int.eq_of_mul_eq_mul_left hd this
end Lw
namespace Sm
theorem BP.mono' {j k : Nat} {P : P3} (h : BP j P) (hk : j <= k := by omega) : BP k P := h.mono hk
theorem BF.mono {j k : Nat} {F : F6} (h : BF j F) (hk : j <= k := by omega) : BF k F := ⟨h.a.mono hk, h.b.mono hk, h.c.mono hk, h.d.mono hk, h.e.mono hk, h.f.mono hk⟩
theorem BT.mono {j k : Nat} {t : T3} (h : BT j t) (hk : j <= k := by omega) : BT k t := ⟨h.r0.mono hk, h.r1.mono hk, h.r2.mono hk⟩
end Sm
namespace Pn
open Sm Lw
def sz (Q : F6) : Int := 4 * Q.a * Q.b * Q.c + Q.d * Q.e * Q.f - Q.a * Q.d * Q.d - Q.b * Q.e * Q.e - Q.c * Q.f * Q.f
def N3 (P : P3) : Prop := P.x ≠ 0 \/ P.y ≠ 0 \/ P.z ≠ 0
def tm (d : Int) (P : P3) : P3 := ⟨d * P.x, d * P.y, d * P.z⟩
theorem wo_tm (Q : F6) (d : Int) (P : P3) : wo Q (tm d P) = d * d * wo Q P := by
 simp only [wo, tm]
 grind
def ad (P R : P3) : P3 := ⟨P.x + R.x, P.y + R.y, P.z + R.z⟩
theorem wo_ad (Q : F6) (P R : P3) : wo Q (ad P R) - wo Q P - wo Q R = bl Q P R := by
 simp only [wo, ad, bl, tb, sl, rp]
 grind
theorem bl_comm (Q : F6) (P R : P3) : bl Q P R = bl Q R P := by
 simp only [bl, tb, sl, rp]
 grind
theorem sl_cr (Q : F6) (P R : P3) : tb (sl Q) (cr (tb (sl Q) P) (tb (sl Q) R)) = tm (2 * sz Q) (cr P R) := by
 simp only [tb, sl, cr, rp, tm, sz, P3.mk.injEq]
 refine ⟨?_, ?_, ?_⟩ <;> grind
theorem along_cr {u P R : P3} (h1 : rp u P = 0) (h2 : rp u R = 0) : cr u (cr P R) = ⟨0, 0, 0⟩ := by
 have e : cr u (cr P R) = ⟨P.x * rp u R - R.x * rp u P, P.y * rp u R - R.y * rp u P, P.z * rp u R - R.z * rp u P⟩ := by
  simp only [cr, rp, P3.mk.injEq]
  refine ⟨?_, ?_, ?_⟩ <;> grind
 rw [e, h1, h2]
 simp
theorem mul_cancel {a b : Int} (h : a * b = 0) (ha : a ≠ 0) : b = 0 := by
 rcases Int.mul_eq_zero.mp h with w | w
 ·exact absurd w ha
 ·exact w
theorem cr_along {u v w : P3} (n : N3 w) (h1 : cr u w = ⟨0, 0, 0⟩) (h2 : cr v w = ⟨0, 0, 0⟩) : cr u v = ⟨0, 0, 0⟩ := by
 simp only [cr, P3.mk.injEq] at *
 obtain ⟨a1, a2, a3⟩ := h1
 obtain ⟨b1, b2, b3⟩ := h2
 rcases n with n | n | n
 ·refine ⟨mul_cancel (a := w.x) ?_ n, mul_cancel (a := w.x) ?_ n, mul_cancel (a := w.x) ?_ n⟩ <;> grind
 ·refine ⟨mul_cancel (a := w.y) ?_ n, mul_cancel (a := w.y) ?_ n, mul_cancel (a := w.y) ?_ n⟩ <;> grind
 ·refine ⟨mul_cancel (a := w.z) ?_ n, mul_cancel (a := w.z) ?_ n, mul_cancel (a := w.z) ?_ n⟩ <;> grind
theorem no_line {Q : F6} {P D : P3} (hs : sz Q ≠ 0) (n : N3 (cr P D)) (h1 : wo Q P = 0) (h2 : wo Q D = 0) (h3 : bl Q P D = 0) : False := by
 have pp : rp (tb (sl Q) P) P = 0 := by
  have := wo_two Q P
  unfold bl at this
  omega
 have pd : rp (tb (sl Q) P) D = 0 := h3
 have dd : rp (tb (sl Q) D) D = 0 := by
  have := wo_two Q D
  unfold bl at this
  omega
 have dp : rp (tb (sl Q) D) P = 0 := by
  have := bl_comm Q D P
  unfold bl at this h3
  omega
 have c0 := cr_along n (along_cr pp pd) (along_cr dp dd)
 have e := sl_cr Q P D
 rw [c0] at e
 simp only [tb, rp, tm, P3.mk.injEq] at e
 obtain ⟨e1, e2, e3⟩ := e
 rcases n with n | n | n
 ·exact n (mul_cancel (a := 2 * sz Q) (by rw [<- e1]; simp) (by omega))
 ·exact n (mul_cancel (a := 2 * sz Q) (by rw [<- e2]; simp) (by omega))
 ·exact n (mul_cancel (a := 2 * sz Q) (by rw [<- e3]; simp) (by omega))
def L3 (P : P3) : Prop := One3 P.x P.y P.z /\ Pos3 P.x P.y P.z
theorem P3.ext' {P R : P3} (h : P.x = R.x /\ P.y = R.y /\ P.z = R.z) : P = R := by
 cases P; cases R
 simp only at h
 obtain ⟨rfl, rfl, rfl⟩ := h
 rfl
instance : DecidableEq P3 := fun P R => decidable_of_iff (P.x = R.x /\ P.y = R.y /\ P.z = R.z) ⟨P3.ext', fun h => by subst h; exact ⟨rfl, rfl, rfl⟩⟩
theorem n3_not {P : P3} (h : ¬ N3 P) : P = ⟨0, 0, 0⟩ := by
 unfold N3 at h
 exact P3.ext' ⟨by show P.x = 0; omega, by show P.y = 0; omega, by show P.z = 0; omega⟩
end Pn
namespace Pn
open Sm Lw
def nzb (P : P3) : Bool := decide (P.x ≠ 0) || (decide (P.y ≠ 0) || decide (P.z ≠ 0))
theorem nzb_iff {P : P3} : nzb P = true ↔ N3 P := by
 unfold nzb N3
 simp
def crs (ls os : List P3) : List P3 := ls.flatMap fun l => os.map (cr l)
def axs : List P3 := [⟨1, 0, 0⟩, ⟨0, 1, 0⟩, ⟨0, 0, 1⟩]
def sls (Q : F6) : List P3 := [(sl Q).r0, (sl Q).r1, (sl Q).r2]
def vxs (Q : F6) : List P3 := crs (sls Q) (sls Q) ++ crs (sls Q) axs ++ crs axs axs
theorem of_not {l : List P3} (h : l.filter nzb = []) {P : P3} (hP : P ∈ l) : P = ⟨0, 0, 0⟩ := by
 refine n3_not fun n => ?_
 have : P ∈ l.filter nzb := List.mem_filter.mpr ⟨hP, nzb_iff.mpr n⟩
 rw [h] at this
 cases this
theorem head_of {l m : List P3} {v : P3} (h : ((l ++ m).filter nzb).head? = some v) : v ∈ l.filter nzb \/ (l.filter nzb = [] /\ (m.filter nzb).head? = some v) := by
 rw [List.filter_append] at h
 cases e : l.filter nzb with
 | nil =>
  rw [e] at h
  exact .inr ⟨rfl, h⟩
 | cons a t =>
  rw [e] at h
  have : a = v := Option.some.inj h
  subst this
  exact .inl (List.mem_cons_self ..)
theorem mem_crs {ls os : List P3} {v : P3} : v ∈ crs ls os ↔ ∃ l ∈ ls, ∃ o ∈ os, cr l o = v := by
 unfold crs
 simp [List.mem_flatMap]
theorem tb_sls {Q : F6} {v : P3} (h : ∀ l ∈ sls Q, rp l v = 0) : tb (sl Q) v = ⟨0, 0, 0⟩ := by
 unfold sls at h
 simp only [tb, P3.mk.injEq]
 exact ⟨h _ (by simp), h _ (by simp), h _ (by simp)⟩
theorem sls_three {Q : F6} (hs : sz Q = 0) : ∀ k ∈ sls Q, ∀ l ∈ sls Q, ∀ m ∈ sls Q, rp k (cr l m) = 0 := by
 have d : me (sl Q) = 2 * sz Q := by
  simp only [me, sl, cr, rp, sz]
  grind
 rw [hs] at d
 unfold me at d
 unfold sls
 generalize (sl Q).r0 = a at *
 generalize (sl Q).r1 = b at *
 generalize (sl Q).r2 = c at *
 simp only [rp, cr] at d
 intro k hk l hl m hm
 simp only [List.mem_cons, List.not_mem_nil, or_false] at hk hl hm
 simp only [rp, cr]
 rcases hk with rfl | rfl | rfl <;> rcases hl with rfl | rfl | rfl <;> rcases hm with rfl | rfl | rfl <;> grind
theorem vert {Q : F6} (hs : sz Q = 0) {v : P3} (h : ((vxs Q).filter nzb).head? = some v) : N3 v /\ tb (sl Q) v = ⟨0, 0, 0⟩ := by
 have nv : N3 v := by
  have : v ∈ (vxs Q).filter nzb := List.mem_of_head? h
  exact nzb_iff.mp (List.mem_filter.mp this).2
 refine ⟨nv, ?_⟩
 unfold vxs at h
 rw [List.append_assoc] at h
 rcases head_of h with h | ⟨z1, h⟩
 ·obtain ⟨l, hl, o, ho, rfl⟩ := mem_crs.mp (List.mem_filter.mp h).1
  exact tb_sls fun k hk => sls_three hs k hk l hl o ho
 rcases head_of h with h | ⟨z2, h⟩
 ·obtain ⟨l, hl, o, ho, rfl⟩ := mem_crs.mp (List.mem_filter.mp h).1
  refine tb_sls fun k hk => ?_
  have z := of_not z1 (mem_crs.mpr ⟨k, hk, l, hl, rfl⟩)
  have e : rp k (cr l o) = rp (cr k l) o := by
   simp only [rp, cr]
   grind
  rw [e, z]
  simp [rp]
 ·refine tb_sls fun k hk => ?_
  have a1 := of_not z2 (mem_crs.mpr ⟨k, hk, ⟨1, 0, 0⟩, by simp [axs], rfl⟩)
  have a2 := of_not z2 (mem_crs.mpr ⟨k, hk, ⟨0, 1, 0⟩, by simp [axs], rfl⟩)
  simp only [cr, P3.mk.injEq] at a1 a2
  have x0 : k.x = 0 := by omega
  have y0 : k.y = 0 := by omega
  have z0 : k.z = 0 := by omega
  simp [rp, x0, y0, z0]
theorem vert_ex (Q : F6) : ∃ v, ((vxs Q).filter nzb).head? = some v := by
 cases e : (vxs Q).filter nzb with
 | nil =>
  have := of_not e (P := ⟨0, 0, 1⟩) (by
   unfold vxs
   exact List.mem_append.mpr (.inr (mem_crs.mpr ⟨⟨1, 0, 0⟩, by simp [axs], ⟨0, 1, 0⟩, by simp [axs], rfl⟩)))
  simp at this
 | cons a t => exact ⟨a, rfl⟩
theorem vx_bp {Q : F6} {k : Nat} (h : BF k Q) {v : P3} (hv : v ∈ vxs Q) : BP (2 * k + 3) v := by
 have bc : ∀ {j i : Nat} {r s : P3}, BP j r -> BP i s -> BP (j + i + 1) (cr r s) := fun h p => ⟨(h.y.mul p.z).sub (h.z.mul p.y), (h.z.mul p.x).sub (h.x.mul p.z), (h.x.mul p.y).sub (h.y.mul p.x)⟩
 have b2 : ∀ {x : Int}, Bd k x -> Bd (k + 1) (2 * x) := fun {x} h => by
  have := h.add h
  rw [show x + x = 2 * x by omega] at this
  exact this
 have bs : ∀ l ∈ sls Q, BP (k + 1) l := fun l hl => by
  unfold sls sl at hl
  simp only [List.mem_cons, List.not_mem_nil, or_false] at hl
  rcases hl with rfl | rfl | rfl
  ·exact ⟨b2 h.a, h.f.mono (by omega), h.e.mono (by omega)⟩
  ·exact ⟨h.f.mono (by omega), b2 h.b, h.d.mono (by omega)⟩
  ·exact ⟨h.e.mono (by omega), h.d.mono (by omega), b2 h.c⟩
 have b0 : Bd 0 0 := by unfold Bd; decide
 have b1 : Bd 0 1 := by unfold Bd; decide
 have ba : ∀ l ∈ axs, BP 0 l := fun l hl => by
  unfold axs at hl
  simp only [List.mem_cons, List.not_mem_nil, or_false] at hl
  rcases hl with rfl | rfl | rfl
  ·exact ⟨b1, b0, b0⟩
  ·exact ⟨b0, b1, b0⟩
  ·exact ⟨b0, b0, b1⟩
 unfold vxs at hv
 rcases List.mem_append.mp hv with hv | hv
 ·rcases List.mem_append.mp hv with hv | hv
  ·obtain ⟨l, hl, o, ho, rfl⟩ := mem_crs.mp hv
   exact (bc (bs l hl) (bs o ho)).mono (by omega)
  ·obtain ⟨l, hl, o, ho, rfl⟩ := mem_crs.mp hv
   exact (bc (bs l hl) (ba o ho)).mono (by omega)
 ·obtain ⟨l, hl, o, ho, rfl⟩ := mem_crs.mp hv
  exact (bc (ba l hl) (ba o ho)).mono (by omega)
end Pn
namespace Pn
open Sm Lw
theorem sl_ch (Q : F6) (t : T3) : sl (ch Q t) = pt (tr t) (pt (sl Q) t) := by
 simp only [sl, ch, wo, bl, tb, tr, pt, rp, T3.mk.injEq, P3.mk.injEq]
 refine ⟨⟨?_, ?_, ?_⟩, ⟨?_, ?_, ?_⟩, ⟨?_, ?_, ?_⟩⟩ <;> grind
theorem me_tr (t : T3) : me (tr t) = me t := by
 simp only [me, tr, cr, rp]
 grind
theorem me_sl (Q : F6) : me (sl Q) = 2 * sz Q := by
 simp only [me, sl, cr, rp, sz]
 grind
theorem sz_ch (Q : F6) (t : T3) : sz (ch Q t) = sz Q * me t * me t := by
 have h := me_sl (ch Q t)
 rw [sl_ch, me_pt, me_pt, me_sl, me_tr] at h
 have : me t * (2 * sz Q * me t) = 2 * (sz Q * me t * me t) := by grind
 omega
end Pn
namespace Pn
open Sm Lw
def offs (ps : List P3) : List P3 := ps ++ ps.flatMap fun a => ps.map (ad a)
theorem offs_all {Q : F6} {ps : List P3} (h : ∀ v ∈ offs ps, wo Q v = 0) {a b : P3} (ha : a ∈ ps) (hb : b ∈ ps) : wo Q a = 0 /\ wo Q b = 0 /\ bl Q a b = 0 := by
 have h1 := h a (List.mem_append_left _ ha)
 have h2 := h b (List.mem_append_left _ hb)
 have h3 := h (ad a b) (List.mem_append_right _ (List.mem_flatMap.mpr ⟨a, ha, List.mem_map.mpr ⟨b, hb, rfl⟩⟩))
 have h4 := wo_ad Q a b
 exact ⟨h1, h2, by omega⟩
theorem ex_off {Q : F6} {ps : List P3} (h : ¬ ∀ v ∈ offs ps, wo Q v = 0) : ∃ v ∈ offs ps, wo Q v ≠ 0 := by
 apply Classical.byContradiction
 intro c
 exact h fun v hv => Classical.byContradiction fun n => c ⟨v, hv, n⟩
theorem off_axes {Q : F6} (hs : sz Q ≠ 0) : ∃ v ∈ offs axs, wo Q v ≠ 0 := by
 refine ex_off fun h => hs ?_
 have m1 : (⟨1, 0, 0⟩ : P3) ∈ axs := by simp [axs]
 have m2 : (⟨0, 1, 0⟩ : P3) ∈ axs := by simp [axs]
 have m3 : (⟨0, 0, 1⟩ : P3) ∈ axs := by simp [axs]
 obtain ⟨a1, a2, a3⟩ := offs_all h m1 m2
 obtain ⟨_, b2, b3⟩ := offs_all h m1 m3
 obtain ⟨_, _, c3⟩ := offs_all h m2 m3
 simp only [wo, bl, tb, sl, rp] at a1 a2 a3 b2 b3 c3
 have e1 : Q.a = 0 := by omega
 have e2 : Q.b = 0 := by omega
 have e3 : Q.c = 0 := by omega
 have e4 : Q.d = 0 := by omega
 have e5 : Q.e = 0 := by omega
 have e6 : Q.f = 0 := by omega
 simp [sz, e1, e2, e3, e4, e5, e6]
theorem cr_cr (l a b : P3) : cr (cr l a) (cr l b) = tm (rp l (cr a b)) l := by
 simp only [cr, tm, rp, P3.mk.injEq]
 refine ⟨?_, ?_, ?_⟩ <;> grind
theorem off_line {Q : F6} {l : P3} (hs : sz Q ≠ 0) (nl : N3 l) : ∃ v ∈ offs (axs.map (cr l)), wo Q v ≠ 0 := by
 refine ex_off fun h => ?_
 have key : ∀ a ∈ axs, ∀ b ∈ axs, rp l (cr a b) = 0 := fun a ha b hb => by
  apply Classical.byContradiction
  intro c
  obtain ⟨h1, h2, h3⟩ := offs_all h (List.mem_map.mpr ⟨a, ha, rfl⟩) (List.mem_map.mpr ⟨b, hb, rfl⟩)
  refine no_line hs (P := cr l a) (D := cr l b) ?_ h1 h2 h3
  rw [cr_cr]
  rcases nl with n | n | n
  ·exact .inl (Int.mul_ne_zero c n)
  ·exact .inr (.inl (Int.mul_ne_zero c n))
  ·exact .inr (.inr (Int.mul_ne_zero c n))
 have m1 : (⟨1, 0, 0⟩ : P3) ∈ axs := by simp [axs]
 have m2 : (⟨0, 1, 0⟩ : P3) ∈ axs := by simp [axs]
 have m3 : (⟨0, 0, 1⟩ : P3) ∈ axs := by simp [axs]
 have k1 := key _ m1 _ m2
 have k2 := key _ m1 _ m3
 have k3 := key _ m2 _ m3
 simp only [cr, rp] at k1 k2 k3
 unfold N3 at nl
 omega
theorem on_offs {l v : P3} (h : v ∈ offs (axs.map (cr l))) : rp l v = 0 := by
 have e : ∀ a : P3, rp l (cr l a) = 0 := fun a => by
  simp only [rp, cr]
  grind
 have e2 : ∀ a b : P3, rp l (ad a b) = rp l a + rp l b := fun a b => by
  simp only [rp, ad]
  grind
 rcases List.mem_append.mp h with h | h
 ·obtain ⟨a, _, rfl⟩ := List.mem_map.mp h
  exact e a
 ·obtain ⟨x, hx, h⟩ := List.mem_flatMap.mp h
  obtain ⟨y, hy, rfl⟩ := List.mem_map.mp h
  obtain ⟨a, _, rfl⟩ := List.mem_map.mp hx
  obtain ⟨b, _, rfl⟩ := List.mem_map.mp hy
  rw [e2, e, e]
  rfl
structure Crn (Q : F6) (P R S : P3) : Prop where
 w1 : wo Q P ≠ 0
 w2 : wo Q R ≠ 0
 w3 : wo Q S ≠ 0
 b12 : bl Q P R = 0
 b13 : bl Q P S = 0
 b23 : bl Q R S = 0
 me0 : me ⟨P, R, S⟩ ≠ 0
 prod : 4 * (wo Q P * wo Q R * wo Q S) = sz Q * me ⟨P, R, S⟩ * me ⟨P, R, S⟩
theorem line_nz {Q : F6} {P : P3} (w : wo Q P ≠ 0) : N3 (tb (sl Q) P) := by
 apply Classical.byContradiction
 intro c
 have z := wo_two Q P
 unfold bl at z
 rw [n3_not c] at z
 simp only [rp] at z
 omega
theorem third_nz {Q : F6} {P R : P3} (w1 : wo Q P ≠ 0) (w2 : wo Q R ≠ 0) (h : bl Q P R = 0) : N3 (cr (tb (sl Q) P) (tb (sl Q) R)) := by
 apply Classical.byContradiction
 intro c
 have c0 := n3_not c
 have l1 := line_nz w1
 have z := wo_two Q R
 unfold bl at z h
 generalize tb (sl Q) P = l at *
 generalize tb (sl Q) R = k at *
 simp only [cr, P3.mk.injEq] at c0
 obtain ⟨c1, c2, c3⟩ := c0
 simp only [rp] at z h
 have e : ∀ x : Int, (x = l.x \/ x = l.y \/ x = l.z) -> x * (2 * wo Q R) = 0 := fun x hx => by
  rw [<- z]
  rcases hx with rfl | rfl | rfl <;> grind
 rcases l1 with n | n | n
 ·exact w2 (by have := mul_cancel (e _ (.inl rfl)) n; omega)
 ·exact w2 (by have := mul_cancel (e _ (.inr (.inl rfl))) n; omega)
 ·exact w2 (by have := mul_cancel (e _ (.inr (.inr rfl))) n; omega)
theorem crn_of {Q : F6} {P R S : P3} {d : Int} (hs : sz Q ≠ 0) (w1 : wo Q P ≠ 0) (w2 : wo Q R ≠ 0) (h : bl Q P R = 0) (hd : d ≠ 0) (e : cr (tb (sl Q) P) (tb (sl Q) R) = tm d S) : Crn Q P R S := by
 have b13 : bl Q P S = 0 := by
  have z : rp (tb (sl Q) P) (tm d S) = 0 := by
   rw [<- e]
   simp only [rp, cr]
   grind
  have z2 : rp (tb (sl Q) P) (tm d S) = d * bl Q P S := by
   unfold bl
   generalize tb (sl Q) P = l
   simp only [rp, tm]
   grind
  rw [z2] at z
  exact mul_cancel z hd
 have b23 : bl Q R S = 0 := by
  have z : rp (tb (sl Q) R) (tm d S) = 0 := by
   rw [<- e]
   simp only [rp, cr]
   grind
  have z2 : rp (tb (sl Q) R) (tm d S) = d * bl Q R S := by
   unfold bl
   generalize tb (sl Q) R = l
   simp only [rp, tm]
   grind
  rw [z2] at z
  exact mul_cancel z hd
 have dm : d * me ⟨P, R, S⟩ = 4 * (wo Q P * wo Q R) := by
  have h1 : d * me ⟨P, R, S⟩ = rp P (cr R (tm d S)) := by
   simp only [me, rp, cr, tm]
   grind
  have hp := wo_two Q P
  have hr := wo_two Q R
  rw [h1, <- e]
  unfold bl at h hp hr
  generalize tb (sl Q) P = l at *
  generalize tb (sl Q) R = k at *
  generalize wo Q P = wp at *
  generalize wo Q R = wr at *
  have h2 : rp P (cr R (cr l k)) = rp l P * rp k R - rp k P * rp l R := by
   simp only [rp, cr]
   grind
  rw [h2, h, hp, hr]
  grind
 have m0 : me ⟨P, R, S⟩ ≠ 0 := fun z => by
  rw [z, Int.mul_zero] at dm
  have := Int.mul_ne_zero w1 w2
  omega
 have pr : 4 * (wo Q P * wo Q R * wo Q S) = sz Q * me ⟨P, R, S⟩ * me ⟨P, R, S⟩ := by
  have z := sz_ch Q (tr ⟨P, R, S⟩)
  rw [me_tr] at z
  rw [<- z, show ch Q (tr ⟨P, R, S⟩) = ⟨wo Q P, wo Q R, wo Q S, bl Q R S, bl Q P S, bl Q P R⟩ from rfl, h, b13, b23]
  simp only [sz]
  grind
 refine ⟨w1, w2, fun z => ?_, h, b13, b23, m0, pr⟩
 rw [z, Int.mul_zero, Int.mul_zero] at pr
 rcases Int.mul_eq_zero.mp pr.symm with y | y
 ·rcases Int.mul_eq_zero.mp y with x | x
  ·exact hs x
  ·exact m0 x
 ·exact m0 y
end Pn
namespace Jc
open Pr (Prm)
theorem sf_all {c n : Int} (h : Sf c) (k : ∀ p, Prm p -> p ∣ c -> p ∣ n) : c ∣ n := by
 have g0 : (Int.gcd c n : Int) ∣ c := Int.gcd_dvd_left ..
 have g1 : (Int.gcd c n : Int) ∣ n := Int.gcd_dvd_right ..
 have gn : (Int.gcd c n : Int) ≠ 0 := fun z => h.n0 (by rw [z] at g0; exact Int.zero_dvd.mp g0)
 have gm : ∀ p : Int, p ∣ c -> p ∣ n -> p ∣ (Int.gcd c n : Int) := fun p h1 h2 => Int.dvd_coe_gcd h1 h2
 generalize (Int.gcd c n : Int) = g at *
 obtain ⟨c', e⟩ := g0
 have u : c'.natAbs = 1 := by
  rcases (show c'.natAbs = 1 \/ c' = 0 \/ 2 <= (c'.natAbs : Int) by omega) with z | z | z
  ·exact z
  ·exact absurd (by rw [e, z, Int.mul_zero]) h.n0
  ·obtain ⟨p, hp, hd⟩ := prm_div c'.natAbs (c'.natAbs : Int) (by omega) z
   have hd' : p ∣ c' := Int.dvd_natAbs.mp hd
   have pc : p ∣ c := by rw [e]; exact Int.dvd_trans hd' (Int.dvd_mul_left _ _)
   have pg := gm p pc (k p hp pc)
   exact absurd (by rw [e]; exact Int.mul_dvd_mul pg hd') (h.sq p hp)
 have : c ∣ g := by
  rcases (show c' = 1 \/ c' = -1 by omega) with z | z
  ·rw [e, z, Int.mul_one]; exact Int.dvd_refl g
  ·rw [e, z]; exact ⟨-1, by omega⟩
 exact Int.dvd_trans this g1
theorem sf_dvd {c d : Int} (h : Sf c) (k : d ∣ c) : Sf d := ⟨fun z => h.n0 (by rw [z] at k; exact Int.zero_dvd.mp k), fun p hp q => h.sq p hp (Int.dvd_trans q k)⟩
theorem sq_dvd {A Y : Int} (h : A * A ∣ Y * Y) : A ∣ Y := by
 have h1 := Int.natAbs_dvd_natAbs.mpr h
 rw [Int.natAbs_mul, Int.natAbs_mul] at h1
 have h2 : A.natAbs ^ 2 ∣ Y.natAbs ^ 2 := by rw [Nat.pow_two, Nat.pow_two]; exact h1
 exact Int.natAbs_dvd_natAbs.mp ((Nat.pow_dvd_pow_iff (by decide)).mp h2)
theorem sq_core {n A c B : Int} (A0 : A ≠ 0) (sc : Sf c) (e : n * (A * A) = c * (B * B)) : ∃ r : Int, 0 <= r /\ n = c * (r * r) := by
 have c0 := sc.n0
 have d1 : A ∣ c * B := sq_dvd ⟨n * c, by grind⟩
 obtain ⟨m, em⟩ := d1
 have e2 : n * c = m * m := by
  have : A * A * (n * c) = A * A * (m * m) := by grind
  exact Int.eq_of_mul_eq_mul_left (Int.mul_ne_zero A0 A0) this
 have d2 : c ∣ m := sf_all sc fun p hp hd => by
  have : p ∣ m * m := by rw [<- e2]; exact Int.dvd_trans hd (Int.dvd_mul_left _ _)
  exact (Pr.euclid hp this).elim id id
 obtain ⟨r, er⟩ := d2
 refine ⟨(r.natAbs : Int), by omega, ?_⟩
 have e3 : (r.natAbs : Int) * (r.natAbs : Int) = r * r := Int.natAbs_mul_self' r
 rw [e3]
 rw [er] at e2
 have : c * n = c * (c * (r * r)) := by grind
 exact Int.eq_of_mul_eq_mul_left c0 this
structure Gr (g a b : Int) : Prop where
 pos : 1 <= g
 da : g ∣ a
 db : g ∣ b
 all : ∀ p, Prm p -> p ∣ a -> p ∣ b -> p ∣ g
theorem gr_of {g a b s t : Int} (a0 : a ≠ 0) (g0 : 0 <= g) (e : g = s * a + t * b) (h1 : ∃ k, a = k * g) (h2 : ∃ k, b = k * g) : Gr g a b := by
 obtain ⟨k1, e1⟩ := h1
 obtain ⟨k2, e2⟩ := h2
 refine ⟨?_, ⟨k1, by rw [Int.mul_comm]; exact e1⟩, ⟨k2, by rw [Int.mul_comm]; exact e2⟩, fun p hp x y => ?_⟩
 ·rcases (show g = 0 \/ 1 <= g by omega) with z | z
  ·exact absurd (by rw [e1, z, Int.mul_zero]) a0
  ·exact z
 ·rw [e]
  exact Int.dvd_add (Int.dvd_trans x (Int.dvd_mul_left _ _)) (Int.dvd_trans y (Int.dvd_mul_left _ _))
theorem sq_left {p a b : Int} (hp : Prm p) (h : p * p ∣ a * b) (nb : ¬ p ∣ b) : p * p ∣ a := by
 have p0 : p ≠ 0 := by have := hp.two; omega
 have h1 : p ∣ a := (Pr.euclid hp (Int.dvd_trans (Int.dvd_mul_left p p) h)).resolve_right nb
 obtain ⟨a', rfl⟩ := h1
 have h2 : p ∣ a' * b := by
  rw [Int.mul_assoc] at h
  exact Int.dvd_of_mul_dvd_mul_left p0 h
 exact Int.mul_dvd_mul (Int.dvd_refl p) ((Pr.euclid hp h2).resolve_right nb)
theorem cc_sf {a b g a' b' : Int} (sa : Sf a) (sb : Sf b) (G : Gr g a b) (ea : a = g * a') (eb : b = g * b') : Sf (a' * b') := by
 have a0 : a' ≠ 0 := fun z => sa.n0 (by rw [ea, z, Int.mul_zero])
 have b0 : b' ≠ 0 := fun z => sb.n0 (by rw [eb, z, Int.mul_zero])
 have da : a' ∣ a := ⟨g, by rw [ea, Int.mul_comm]⟩
 have db : b' ∣ b := ⟨g, by rw [eb, Int.mul_comm]⟩
 refine ⟨Int.mul_ne_zero a0 b0, fun p hp h => ?_⟩
 have no : ¬ (p ∣ a' /\ p ∣ b') := fun ⟨x, y⟩ => by
  have pg := G.all p hp (Int.dvd_trans x da) (Int.dvd_trans y db)
  exact sa.sq p hp (by rw [ea]; exact Int.mul_dvd_mul pg x)
 by_cases nb : p ∣ b'
 ·have na : ¬ p ∣ a' := fun z => no ⟨z, nb⟩
  rw [Int.mul_comm a' b'] at h
  exact sb.sq p hp (Int.dvd_trans (sq_left hp h na) db)
 ·exact sa.sq p hp (Int.dvd_trans (sq_left hp h nb) da)
theorem tri_dvd {c1 c2 c3 g1 g2 g3 : Int} (s1 : Sf c1) (G1 : Gr g1 c2 c3) (G2 : Gr g2 c3 c1) (G3 : Gr g3 c1 c2) : g2 * g3 ∣ c1 * g1 := by
 obtain ⟨u, eu⟩ := G3.da
 have sg2 : Sf g2 := sf_dvd s1 G2.db
 have d : g2 ∣ u * g1 := sf_all sg2 fun p hp hd => by
  have h3 := Int.dvd_trans hd G2.da
  have h1 := Int.dvd_trans hd G2.db
  by_cases c : p ∣ c2
  ·exact Int.dvd_trans (G1.all p hp c h3) (Int.dvd_mul_left _ _)
  ·have ng : ¬ p ∣ g3 := fun z => c (Int.dvd_trans z G3.db)
   rw [eu] at h1
   exact Int.dvd_trans ((Pr.euclid hp h1).resolve_left ng) (Int.dvd_mul_right _ _)
 rw [eu]
 obtain ⟨v, ev⟩ := d
 exact ⟨v, by grind⟩
theorem tri_prm {c1 c2 c3 g1 g2 g3 q p : Int} (s1 : Sf c1) (s2 : Sf c2) (G1 : Gr g1 c2 c3) (G2 : Gr g2 c3 c1) (G3 : Gr g3 c1 c2) (e : c1 * g1 = q * (g2 * g3)) (hp : Prm p) (hd : p ∣ q) :
  ((p ∣ c1 /\ ¬ p ∣ c2 /\ ¬ p ∣ c3) \/ (¬ p ∣ c1 /\ p ∣ c2 /\ p ∣ c3)) /\ ¬ p * p ∣ q := by
 have p0 : p ≠ 0 := by have := hp.two; omega
 have sg1 : Sf g1 := sf_dvd s2 G1.da
 have n23 : ¬ p ∣ c1 \/ (¬ p ∣ c2 /\ ¬ p ∣ c3) := by
  by_cases h1 : p ∣ c1
  ·refine .inr ?_
   -- p in c1: then not in g2, not in g3
   have both : ¬ (p ∣ c2 /\ p ∣ c3) := fun ⟨h2, h3⟩ => by
    have k2 := G2.all p hp h3 h1
    have k3 := G3.all p hp h1 h2
    have c3' : p * (p * p) ∣ c1 * g1 := by rw [e]; exact Int.mul_dvd_mul hd (Int.mul_dvd_mul k2 k3)
    obtain ⟨x, ex⟩ := h1
    rw [ex, Int.mul_assoc] at c3'
    have z := Int.dvd_of_mul_dvd_mul_left p0 c3'
    have nx : ¬ p ∣ x := fun y => s1.sq p hp (by rw [ex]; exact Int.mul_dvd_mul (Int.dvd_refl p) y)
    rw [Int.mul_comm x g1] at z
    exact sg1.sq p hp (sq_left hp z nx)
   have one : ∀ {g : Int}, p ∣ g -> p ∣ g2 * g3 -> ¬ p ∣ g1 -> False := fun _ k ng => by
    have c2' : p * p ∣ c1 * g1 := by rw [e]; exact Int.mul_dvd_mul hd k
    exact s1.sq p hp (sq_left hp c2' ng)
   refine ⟨fun h2 => ?_, fun h3 => ?_⟩
   ·have h3 : ¬ p ∣ c3 := fun z => both ⟨h2, z⟩
    have k3 := G3.all p hp h1 h2
    exact one k3 (Int.dvd_trans k3 (Int.dvd_mul_left _ _)) fun z => h3 (Int.dvd_trans z G1.db)
   ·have h2 : ¬ p ∣ c2 := fun z => both ⟨z, h3⟩
    have k2 := G2.all p hp h3 h1
    exact one k2 (Int.dvd_trans k2 (Int.dvd_mul_right _ _)) fun z => h2 (Int.dvd_trans z G1.da)
  ·exact .inl h1
 have dc : p ∣ c1 * g1 := by rw [e]; exact Int.dvd_trans hd (Int.dvd_mul_right _ _)
 have way : (p ∣ c1 /\ ¬ p ∣ c2 /\ ¬ p ∣ c3) \/ (¬ p ∣ c1 /\ p ∣ c2 /\ p ∣ c3) := by
  rcases n23 with n | n
  ·have := (Pr.euclid hp dc).resolve_left n
   exact .inr ⟨n, Int.dvd_trans this G1.da, Int.dvd_trans this G1.db⟩
  ·by_cases h1 : p ∣ c1
   ·exact .inl ⟨h1, n⟩
   ·have := (Pr.euclid hp dc).resolve_left h1
    exact absurd (Int.dvd_trans this G1.da) n.1
 refine ⟨way, fun h => ?_⟩
 have h' : p * p ∣ c1 * g1 := by rw [e]; exact Int.dvd_trans h (Int.dvd_mul_right _ _)
 rcases way with ⟨_, n2, _⟩ | ⟨n1, _, _⟩
 ·exact s1.sq p hp (sq_left hp h' fun z => n2 (Int.dvd_trans z G1.da))
 ·rw [Int.mul_comm c1 g1] at h'
  exact sg1.sq p hp (sq_left hp h' n1)
theorem tri_pln {c1 c2 c3 g1 g2 g3 q1 q2 q3 : Int} (s1 : Sf c1) (s2 : Sf c2) (s3 : Sf c3) (G1 : Gr g1 c2 c3) (G2 : Gr g2 c3 c1) (G3 : Gr g3 c1 c2)
  (e1 : c1 * g1 = q1 * (g2 * g3)) (e2 : c2 * g2 = q2 * (g3 * g1)) (e3 : c3 * g3 = q3 * (g1 * g2)) : Pl.Pln q1 q2 q3 := by
 have g1p := G1.pos
 have g2p := G2.pos
 have g3p := G3.pos
 have z : ∀ {c g q m : Int}, c ≠ 0 -> 1 <= g -> c * g = q * m -> q ≠ 0 := fun {c g q m} hc hg e hq => by
  rw [hq, Int.zero_mul] at e
  exact Int.mul_ne_zero hc (by omega) e
 have t1 : ∀ {p : Int}, Prm p -> p ∣ q1 -> _ := fun hp hd => tri_prm s1 s2 G1 G2 G3 e1 hp hd
 have t2 : ∀ {p : Int}, Prm p -> p ∣ q2 -> _ := fun hp hd => tri_prm s2 s3 G2 G3 G1 e2 hp hd
 have t3 : ∀ {p : Int}, Prm p -> p ∣ q3 -> _ := fun hp hd => tri_prm s3 s1 G3 G1 G2 e3 hp hd
 refine ⟨z s1.n0 g1p e1, z s2.n0 g2p e2, z s3.n0 g3p e3, fun p hp h => (t1 hp (Int.dvd_trans (Int.dvd_mul_left p p) h)).2 h, fun p hp h => (t2 hp (Int.dvd_trans (Int.dvd_mul_left p p) h)).2 h, fun p hp h => (t3 hp (Int.dvd_trans (Int.dvd_mul_left p p) h)).2 h, fun p hp a b => ?_, fun p hp a b => ?_, fun p hp a b => ?_⟩
 ·rcases (t1 hp a).1 with ⟨x, y, w⟩ | ⟨x, y, w⟩ <;> rcases (t2 hp b).1 with ⟨x', y', w'⟩ | ⟨x', y', w'⟩ <;> simp_all
 ·rcases (t2 hp a).1 with ⟨x, y, w⟩ | ⟨x, y, w⟩ <;> rcases (t3 hp b).1 with ⟨x', y', w'⟩ | ⟨x', y', w'⟩ <;> simp_all
 ·rcases (t3 hp a).1 with ⟨x, y, w⟩ | ⟨x, y, w⟩ <;> rcases (t1 hp b).1 with ⟨x', y', w'⟩ | ⟨x', y', w'⟩ <;> simp_all
theorem scale_of {w1 w2 w3 c1 c2 c3 r1 r2 r3 g1 g2 g3 q1 q2 q3 L s1 s2 s3 : Int} (P : Pl.Pln q1 q2 q3) (w10 : w1 ≠ 0) (w20 : w2 ≠ 0) (w30 : w3 ≠ 0) (h1 : w1 = c1 * (r1 * r1)) (h2 : w2 = c2 * (r2 * r2)) (h3 : w3 = c3 * (r3 * r3))
  (g10 : g1 ≠ 0) (e1 : c1 * g1 = q1 * (g2 * g3)) (e2 : c2 * g2 = q2 * (g3 * g1)) (e3 : c3 * g3 = q3 * (g1 * g2)) (L0 : L ≠ 0) (l1 : g1 * r2 * r3 = L * s1) (l2 : g2 * r3 * r1 = L * s2) (l3 : g3 * r1 * r2 = L * s3) :
  ∃ k : Int, k ≠ 0 /\ s1 ≠ 0 /\ w1 * s1 * s1 = k * q1 /\ w2 * s2 * s2 = k * q2 /\ w3 * s3 * s3 = k * q3 := by
 have LL := Int.mul_ne_zero L0 L0
 have x1 : L * L * (w1 * s1 * s1) = q1 * (g1 * g2 * g3 * (r1 * r2 * r3) * (r1 * r2 * r3)) := by
  have : L * L * (w1 * s1 * s1) = c1 * g1 * (g1 * (r1 * r2 * r3) * (r1 * r2 * r3)) := by
   have : L * L * (w1 * s1 * s1) = w1 * (L * s1) * (L * s1) := by grind
   rw [this, <- l1, h1]
   grind
  rw [this, e1]
  grind
 have x2 : L * L * (w2 * s2 * s2) = q2 * (g1 * g2 * g3 * (r1 * r2 * r3) * (r1 * r2 * r3)) := by
  have : L * L * (w2 * s2 * s2) = c2 * g2 * (g2 * (r1 * r2 * r3) * (r1 * r2 * r3)) := by
   have : L * L * (w2 * s2 * s2) = w2 * (L * s2) * (L * s2) := by grind
   rw [this, <- l2, h2]
   grind
  rw [this, e2]
  grind
 have x3 : L * L * (w3 * s3 * s3) = q3 * (g1 * g2 * g3 * (r1 * r2 * r3) * (r1 * r2 * r3)) := by
  have : L * L * (w3 * s3 * s3) = c3 * g3 * (g3 * (r1 * r2 * r3) * (r1 * r2 * r3)) := by
   have : L * L * (w3 * s3 * s3) = w3 * (L * s3) * (L * s3) := by grind
   rw [this, <- l3, h3]
   grind
  rw [this, e3]
  grind
 have r10 : r1 ≠ 0 := fun z => w10 (by rw [h1, z]; simp)
 have r20 : r2 ≠ 0 := fun z => w20 (by rw [h2, z]; simp)
 have r30 : r3 ≠ 0 := fun z => w30 (by rw [h3, z]; simp)
 have s10 : s1 ≠ 0 := fun z => by
  rw [z, Int.mul_zero] at l1
  exact Int.mul_ne_zero (Int.mul_ne_zero g10 r20) r30 l1
 have X0 : w1 * s1 * s1 ≠ 0 := Int.mul_ne_zero (Int.mul_ne_zero w10 s10) s10
 generalize w1 * s1 * s1 = X1 at *
 generalize w2 * s2 * s2 = X2 at *
 generalize w3 * s3 * s3 = X3 at *
 generalize g1 * g2 * g3 * (r1 * r2 * r3) * (r1 * r2 * r3) = K at *
 have f : ∀ a b c : Int, a * c * b = b * c * a := fun a b c => by rw [Int.mul_comm, Int.mul_comm a c, Int.mul_assoc]
 have c12 : X1 * q2 = X2 * q1 := Int.eq_of_mul_eq_mul_left LL (by rw [<- Int.mul_assoc, <- Int.mul_assoc, x1, x2]; exact f q1 q2 K)
 have c13 : X1 * q3 = X3 * q1 := Int.eq_of_mul_eq_mul_left LL (by rw [<- Int.mul_assoc, <- Int.mul_assoc, x1, x3]; exact f q1 q3 K)
 have d : q1 ∣ X1 := sf_all ⟨P.a0, P.sa⟩ fun p hp hd => by
  have : p ∣ X1 * q2 := by rw [c12]; exact Int.dvd_trans hd (Int.dvd_mul_left _ _)
  exact (Pr.euclid hp this).resolve_right (P.ab p hp hd)
 obtain ⟨k, ek⟩ := d
 have k0 : k ≠ 0 := fun z => X0 (by rw [ek, z, Int.mul_zero])
 refine ⟨k, k0, s10, by rw [ek, Int.mul_comm], ?_, ?_⟩
 ·have : q1 * X2 = q1 * (k * q2) := by rw [ek] at c12; rw [Int.mul_comm, <- c12, Int.mul_assoc]
  exact Int.eq_of_mul_eq_mul_left P.a0 this
 ·have : q1 * X3 = q1 * (k * q3) := by rw [ek] at c13; rw [Int.mul_comm, <- c13, Int.mul_assoc]
  exact Int.eq_of_mul_eq_mul_left P.a0 this
end Jc
namespace Pn
open Sm Lw
theorem ch_str {Q : F6} {P R S : P3} (C : Crn Q P R S) (a b c : Int) : ch Q (tr ⟨tm a P, tm b R, tm c S⟩) = ⟨wo Q P * a * a, wo Q R * b * b, wo Q S * c * c, 0, 0, 0⟩ := by
 have w : ∀ (d : Int) (T : P3), wo Q (tm d T) = wo Q T * d * d := fun d T => by rw [wo_tm]; grind
 have bb : ∀ (d e : Int) (T U : P3), bl Q (tm d T) (tm e U) = d * e * bl Q T U := fun d e T U => by
  simp only [bl, tb, sl, rp, tm]
  grind
 rw [show ch Q (tr ⟨tm a P, tm b R, tm c S⟩) = ⟨wo Q (tm a P), wo Q (tm b R), wo Q (tm c S), bl Q (tm b R) (tm c S), bl Q (tm a P) (tm c S), bl Q (tm a P) (tm b R)⟩ from rfl]
 rw [w, w, w, bb, bb, bb, C.b12, C.b13, C.b23, Int.mul_zero, Int.mul_zero, Int.mul_zero]
theorem me_str (P R S : P3) (a b c : Int) : me ⟨tm a P, tm b R, tm c S⟩ = a * b * c * me ⟨P, R, S⟩ := by
 simp only [me, rp, cr, tm]
 grind
end Pn
namespace Pn
open Sm Lw
structure In100 (F : F6) : Prop where
 (a : F.a.natAbs <= 100) (b : F.b.natAbs <= 100) (c : F.c.natAbs <= 100) (d : F.d.natAbs <= 100) (e : F.e.natAbs <= 100) (f : F.f.natAbs <= 100)
theorem In100.bf {F : F6} (h : In100 F) : BF 7 F := ⟨Nat.le_trans h.a (by decide), Nat.le_trans h.b (by decide), Nat.le_trans h.c (by decide), Nat.le_trans h.d (by decide), Nat.le_trans h.e (by decide), Nat.le_trans h.f (by decide)⟩
def offF (F : F6) (ps : List P3) : Option P3 := (offs ps).find? fun v => wo F v != 0
theorem offF_ex {F : F6} {ps : List P3} (h : ∃ v ∈ offs ps, wo F v ≠ 0) : ∃ v, offF F ps = some v := by
 obtain ⟨v, hv, n⟩ := h
 have : (offF F ps).isSome = true := List.find?_isSome.mpr ⟨v, hv, by simpa using n⟩
 exact Option.isSome_iff_exists.mp this
theorem offF_nz {F : F6} {ps : List P3} {v : P3} (h : offF F ps = some v) : wo F v ≠ 0 := by
 have := List.find?_some h
 simpa using this
theorem offF_mem {F : F6} {ps : List P3} {v : P3} (h : offF F ps = some v) : v ∈ offs ps := List.mem_of_find?_eq_some h
theorem offF_or {F : F6} {ps : List P3} {v : P3} (h : offF F ps = some v) : v ∈ ps \/ ((∀ u ∈ ps, wo F u = 0) /\ ∃ a ∈ ps, ∃ b ∈ ps, v = ad a b) := by
 unfold offF offs at h
 rw [List.find?_append] at h
 cases e : ps.find? fun v => wo F v != 0 with
 | some u =>
  rw [e] at h
  cases h
  exact .inl (List.mem_of_find?_eq_some e)
 | none =>
  rw [e] at h
  refine .inr ⟨fun u hu => by simpa using List.find?_eq_none.mp e u hu, ?_⟩
  have m := List.mem_of_find?_eq_some h
  obtain ⟨a, ha, m⟩ := List.mem_flatMap.mp m
  obtain ⟨b, hb, rfl⟩ := List.mem_map.mp m
  exact ⟨a, ha, b, hb, rfl⟩
structure Fst (F : F6) (P l : P3) : Prop where
 w0 : wo F P ≠ 0
 w : (wo F P).natAbs <= 100
 px : P.x.natAbs <= 1
 py : P.y.natAbs <= 1
 pz : P.z.natAbs <= 1
 lx : l.x.natAbs <= 200
 ly : l.y.natAbs <= 200
 lz : l.z.natAbs <= 200
 xy : l.x.natAbs + l.y.natAbs <= 300
 xz : l.x.natAbs + l.z.natAbs <= 300
 yz : l.y.natAbs + l.z.natAbs <= 300
theorem fst_bd {F : F6} {P : P3} (h : In100 F) (e : offF F axs = some P) : Fst F P (tb (sl F) P) := by
 have nz := offF_nz e
 obtain ⟨ha, hb, hc, hd, he, hf⟩ := h
 rcases offF_or e with m | ⟨z, a, ma, b, mb, rfl⟩
 ·simp only [axs, List.mem_cons, List.not_mem_nil, or_false] at m
  rcases m with rfl | rfl | rfl <;> refine ⟨nz, ?_, ?_, ?_, ?_, ?_, ?_, ?_, ?_, ?_, ?_⟩ <;> simp only [wo, tb, sl, rp] <;> omega
 ·have z1 := z ⟨1, 0, 0⟩ (by simp [axs])
  have z2 := z ⟨0, 1, 0⟩ (by simp [axs])
  have z3 := z ⟨0, 0, 1⟩ (by simp [axs])
  simp only [wo] at z1 z2 z3
  simp only [axs, List.mem_cons, List.not_mem_nil, or_false] at ma mb
  rcases ma with rfl | rfl | rfl <;> rcases mb with rfl | rfl | rfl <;> first
   | (exfalso; simp only [wo, ad] at nz; omega)
   | (refine ⟨nz, ?_, ?_, ?_, ?_, ?_, ?_, ?_, ?_, ?_, ?_⟩ <;> simp only [wo, tb, sl, rp, ad] <;> omega)
theorem snd_bd {F : F6} {P l v : P3} (h : Fst F P l) (e : offF F (axs.map (cr l)) = some v) : v.x.natAbs <= 300 /\ v.y.natAbs <= 300 /\ v.z.natAbs <= 300 := by
 have nz := offF_nz e
 obtain ⟨_, _, _, _, _, lx, ly, lz, xy, xz, yz⟩ := h
 rcases offF_or e with m | ⟨z, a, ma, b, mb, rfl⟩
 ·simp only [axs, List.map_cons, List.map_nil, List.mem_cons, List.not_mem_nil, or_false] at m
  rcases m with rfl | rfl | rfl <;> simp only [cr] <;> omega
 ·by_cases c : a = b
  ·subst c
   have z1 := z a ma
   have e2 : ad a a = tm 2 a := by
    simp only [ad, tm, P3.mk.injEq]
    omega
   rw [e2, wo_tm, z1] at nz
   exact absurd rfl nz
  ·simp only [axs, List.map_cons, List.map_nil, List.mem_cons, List.not_mem_nil, or_false] at ma mb
   rcases ma with rfl | rfl | rfl <;> rcases mb with rfl | rfl | rfl <;> first
    | exact absurd rfl c
    | (simp only [cr, ad]; omega)
theorem wo_le {F : F6} {v : P3} (h : In100 F) (hv : v.x.natAbs <= 300 /\ v.y.natAbs <= 300 /\ v.z.natAbs <= 300) : (wo F v).natAbs <= 54000000 := by
 obtain ⟨ha, hb, hc, hd, he, hf⟩ := h
 obtain ⟨vx, vy, vz⟩ := hv
 have p : ∀ {x y z : Int}, x.natAbs <= 100 -> y.natAbs <= 300 -> z.natAbs <= 300 -> (x * (y * z)).natAbs <= 9000000 := fun {x y z} h1 h2 h3 => by
  rw [Int.natAbs_mul, Int.natAbs_mul]
  exact Nat.mul_le_mul h1 (Nat.mul_le_mul h2 h3)
 have p1 := p ha vx vx
 have p2 := p hb vy vy
 have p3 := p hc vz vz
 have p4 := p hd vy vz
 have p5 := p he vx vz
 have p6 := p hf vx vy
 have e : wo F v = F.a * (v.x * v.x) + F.b * (v.y * v.y) + F.c * (v.z * v.z) + F.d * (v.y * v.z) + F.e * (v.x * v.z) + F.f * (v.x * v.y) := by
  (simp only [wo]) <;> grind
 rw [e]
 omega
theorem div_le {d x : Int} {m : Nat} (hd : d ≠ 0) (h : (d * x).natAbs <= m) : x.natAbs <= m := by
 rw [Int.natAbs_mul] at h
 exact Nat.le_trans (Nat.le_mul_of_pos_left _ (by omega)) h
theorem sz_le {F : F6} (h : In100 F) : (sz F).natAbs <= 8000000 := by
 obtain ⟨ha, hb, hc, hd, he, hf⟩ := h
 have p : ∀ {x y z : Int}, x.natAbs <= 100 -> y.natAbs <= 100 -> z.natAbs <= 100 -> (x * (y * z)).natAbs <= 1000000 := fun {x y z} h1 h2 h3 => by
  rw [Int.natAbs_mul, Int.natAbs_mul]
  exact Nat.mul_le_mul h1 (Nat.mul_le_mul h2 h3)
 have p1 := p ha hb hc
 have p2 := p hd he hf
 have p3 := p ha hd hd
 have p4 := p hb he he
 have p5 := p hc hf hf
 have e : sz F = 4 * (F.a * (F.b * F.c)) + F.d * (F.e * F.f) - F.a * (F.d * F.d) - F.b * (F.e * F.e) - F.c * (F.f * F.f) := by
  (simp only [sz]) <;> grind
 rw [e]
 omega
end Pn
namespace Jc
open Pr
structure Cc (a b c : Int) : Prop where
 sf : Sf c
 sq : ∃ g, g ≠ 0 /\ a * b = c * (g * g)
 dv : ∀ p, Prm p -> p ∣ c -> p ∣ a \/ p ∣ b
theorem cc_of {a b g a' b' : Int} (sa : Sf a) (sb : Sf b) (G : Gr g a b) (ea : a = g * a') (eb : b = g * b') : Cc a b (a' * b') := by
 refine ⟨cc_sf sa sb G ea eb, ⟨g, by have := G.pos; omega, by rw [ea, eb]; grind⟩, fun p hp h => ?_⟩
 rcases euclid hp h with h | h
 ·exact .inl (by rw [ea]; exact Int.dvd_trans h (Int.dvd_mul_left _ _))
 ·exact .inr (by rw [eb]; exact Int.dvd_trans h (Int.dvd_mul_left _ _))
theorem third_core {w1 w2 w3 s m c1 c2 c12 cs c3 r1 r2 rs : Int} (h1 : w1 = c1 * (r1 * r1)) (h2 : w2 = c2 * (r2 * r2)) (hs : s = cs * (rs * rs)) (w10 : w1 ≠ 0) (w20 : w2 ≠ 0) (k : Cc c1 c2 c12) (k3 : Cc c12 cs c3) (e : 4 * (w1 * w2 * w3) = s * m * m) : ∃ r, 0 <= r /\ w3 = c3 * (r * r) := by
 obtain ⟨g, g0, eg⟩ := k.sq
 obtain ⟨g', g0', eg'⟩ := k3.sq
 have r10 : r1 ≠ 0 := fun z => w10 (by rw [h1, z]; simp)
 have r20 : r2 ≠ 0 := fun z => w20 (by rw [h2, z]; simp)
 have c0 := k.sf.n0
 refine sq_core (A := 2 * (c12 * (g * (r1 * r2)))) (B := g' * (rs * m)) ?_ k3.sf ?_
 ·exact Int.mul_ne_zero (by decide) (Int.mul_ne_zero c0 (Int.mul_ne_zero g0 (Int.mul_ne_zero r10 r20)))
 ·have x1 : 4 * (w1 * w2 * w3) = 4 * (c12 * (g * g) * ((r1 * r2) * (r1 * r2)) * w3) := by
   rw [h1, h2]
   have : c1 * (r1 * r1) * (c2 * (r2 * r2)) * w3 = c1 * c2 * ((r1 * r2) * (r1 * r2)) * w3 := by grind
   rw [this, eg]
  have x2 : s * m * m = cs * ((rs * m) * (rs * m)) := by
   rw [hs]
   grind
  rw [x1, x2] at e
  have y : c12 * (4 * (c12 * (g * g) * ((r1 * r2) * (r1 * r2)) * w3)) = c12 * (cs * ((rs * m) * (rs * m))) := by rw [e]
  have y2 : c12 * (cs * ((rs * m) * (rs * m))) = c3 * (g' * g') * ((rs * m) * (rs * m)) := by rw [<- eg']; grind
  rw [y2] at y
  have y3 : c3 * (g' * (rs * m) * (g' * (rs * m))) = c3 * (g' * g') * ((rs * m) * (rs * m)) := by grind
  rw [y3, <- y]
  grind
theorem nat_dvd {a b : Int} {m : Nat} (h : a ∣ b) (b0 : b ≠ 0) (hb : b.natAbs <= m) : a.natAbs <= m := Nat.le_trans (Nat.le_of_dvd (by omega) (Int.natAbs_dvd_natAbs.mpr h)) hb
theorem tri_le {w1 w2 s c1 c2 c3 g1 g2 g3 q1 q2 q3 : Int} (s1 : Sf c1) (s2 : Sf c2) (s3 : Sf c3) (G1 : Gr g1 c2 c3) (G2 : Gr g2 c3 c1) (G3 : Gr g3 c1 c2)
  (e1 : c1 * g1 = q1 * (g2 * g3)) (e2 : c2 * g2 = q2 * (g3 * g1)) (e3 : c3 * g3 = q3 * (g1 * g2)) (d1 : c1 ∣ w1) (d2 : c2 ∣ w2) (d3 : ∀ p, Prm p -> p ∣ c3 -> p ∣ c1 \/ p ∣ c2 \/ p ∣ s) (w10 : w1 ≠ 0) (w20 : w2 ≠ 0) (s0 : s ≠ 0)
  (b1 : w1.natAbs <= 100) (b2 : w2.natAbs <= 54000000) (bs : s.natAbs <= 8000000) : q1.natAbs <= 10000000000 /\ q2.natAbs <= 10000000000 /\ q3.natAbs <= 10000000000 := by
 have P := tri_pln s1 s2 s3 G1 G2 G3 e1 e2 e3
 have t1 : ∀ {p : Int}, Prm p -> p ∣ q1 -> _ := fun hp hd => tri_prm s1 s2 G1 G2 G3 e1 hp hd
 have t2 : ∀ {p : Int}, Prm p -> p ∣ q2 -> _ := fun hp hd => tri_prm s2 s3 G2 G3 G1 e2 hp hd
 have t3 : ∀ {p : Int}, Prm p -> p ∣ q3 -> _ := fun hp hd => tri_prm s3 s1 G3 G1 G2 e3 hp hd
 have w12 : (w1 * w2).natAbs <= 10000000000 := by
  rw [Int.natAbs_mul]
  exact Nat.le_trans (Nat.mul_le_mul b1 b2) (by decide)
 have w1s : (w1 * s).natAbs <= 10000000000 := by
  rw [Int.natAbs_mul]
  exact Nat.le_trans (Nat.mul_le_mul b1 bs) (by decide)
 have l : ∀ {p c w v : Int}, p ∣ c -> c ∣ w -> p ∣ w * v := fun h k => Int.dvd_trans (Int.dvd_trans h k) (Int.dvd_mul_right _ _)
 have r : ∀ {p c w v : Int}, p ∣ c -> c ∣ w -> p ∣ v * w := fun h k => Int.dvd_trans (Int.dvd_trans h k) (Int.dvd_mul_left _ _)
 refine ⟨nat_dvd (sf_all ⟨P.a0, P.sa⟩ fun p hp hd => ?_) (Int.mul_ne_zero w10 w20) w12, nat_dvd (sf_all ⟨P.b0, P.sb⟩ fun p hp hd => ?_) (Int.mul_ne_zero w10 w20) w12, nat_dvd (sf_all ⟨P.c0, P.sc⟩ fun p hp hd => ?_) (Int.mul_ne_zero w10 s0) w1s⟩
 ·rcases (t1 hp hd).1 with ⟨x, y, z⟩ | ⟨x, y, z⟩
  ·first | exact l x d1 | exact r x d2
  ·first | exact l x d1 | exact r x d2 | exact l y d1 | exact r y d2 | exact l z d1 | exact r z d2
 ·rcases (t2 hp hd).1 with ⟨x, y, z⟩ | ⟨x, y, z⟩
  ·first | exact l x d1 | exact r x d2
  ·first | exact l x d1 | exact r x d2 | exact l y d1 | exact r y d2 | exact l z d1 | exact r z d2
 ·rcases (t3 hp hd).1 with ⟨x, y, z⟩ | ⟨x, y, z⟩
  ·rcases d3 p hp x with h | h | h
   ·first | exact absurd h y | exact absurd h z
   ·first | exact absurd h y | exact absurd h z
   ·exact Int.dvd_trans h (Int.dvd_mul_left _ _)
  ·first | exact l x d1 | exact l y d1 | exact l z d1
end Jc
namespace L2
open PySem PySem.Spec PyProof.Rows
def cxC (X : Cx) (N : List Str) (scope : Scope) (cl : List (Str × Addr)) (C : Addr) (s0 : Shared) (H0 : Hp) (fp : List Addr) (pins : List (Addr × Obj)) : Cx :=
 { X with N := N, s₀ := s0, H₀ := H0, env := compEnvC scope cl C X.env, outer := X.stack, ex := fp, fn := fun _ => false, pn := X.pn ++ pins, xe := fun _ _ => False }
structure CompScope (X : Cx) (N : List Str) (fr : List Nat) (x : Str) (scope : Scope) (cl : List (Str × Addr)) : Prop where
 kind : scope.kind = .function
 nocell : ∀ y ∈ scope.names, y.2 ≠ .cell
 loc : ∀ y ∈ scope.names, y.2 = .local -> scope.names.lookup y.1 = some .local
 own : scope.names.lookup x = some .local
 clos : closureFor scope X.env = pure cl
 sub : ∀ y c, cl.lookup y = some c -> X.env.cells.lookup y = some c
 has : ∀ y, ((relabel scope X.env).names.lookup y = some .cell \/ (relabel scope X.env).names.lookup y = some .free) -> ∃ c, cl.lookup y = some c
 nd : N.Nodup
 hN : N[0]? = some x
 len : N.length = fr.length + 1
 ownOnly : ∀ (j : Nat) (y : Str), N[j + 1]? = some y -> (relabel scope X.env).names.lookup y ≠ some .local
 out : ∀ (j k : Nat), fr[j]? = some k -> ∃ y, N[j + 1]? = some y /\ X.N[k]? = some y /\ X.env.kindOf y = some .cell
def compSt (σ : St) (fr : List Nat) (v : Option V) : St := v :: fr.map fun k => (σ[k]?).join
def tComp (wi : TI) (fr : List Nat) (te : TE) : TE := fun σ H Q => wi σ H fun J H1 => ∀ acc, H1 acc = none -> ∃ W : Nat -> Nat -> Hp -> List V -> Prop, (∃ m, W 0 m (upd H1 acc (.lst [])) []) /\
 ∀ i m H' vs, W i m H' vs -> H' acc = some (.lst vs) /\ ((J.stop i H' /\ Q (.ref acc) H') \/ (J.go i H' /\ vs.length < sizeLine /\ ∀ x H2, J.yld i H' x H2 -> te (compSt σ fr (some x)) H2 fun y H3 => H3 acc = some (.lst vs) /\ ∃ m', m' < m /\ W (i + 1) m' (upd H3 acc (.lst (vs ++ [y]))) (vs ++ [y])))
def tCompIf (wi : TI) (fr : List Nat) (tc : TT) (te : TE) : TE := fun σ H Q => wi σ H fun J H1 => ∀ acc, H1 acc = none -> ∃ W : Nat -> Nat -> Hp -> List V -> Prop, (∃ m, W 0 m (upd H1 acc (.lst [])) []) /\
 ∀ i m H' vs, W i m H' vs -> H' acc = some (.lst vs) /\ ((J.stop i H' /\ Q (.ref acc) H') \/ (J.go i H' /\ vs.length < sizeLine /\ ∀ x H2, J.yld i H' x H2 -> tc (compSt σ fr (some x)) H2 fun b H3 =>
  if b = true then te (compSt σ fr (some x)) H3 fun y H4 => H4 acc = some (.lst vs) /\ ∃ m', m' < m /\ W (i + 1) m' (upd H4 acc (.lst (vs ++ [y]))) (vs ++ [y]) else ∃ m', m' < m /\ W (i + 1) m' H3 vs))
section
variable {X : Cx} {N : List Str} {fr : List Nat} {x : Str} {scope : Scope} {cl : List (Str × Addr)} {elt iter : Expr} {px pos : Pos} {wi : TI} {te : TE}
theorem cxC_ok {pins : List (Addr × Obj)} {σ : St} {H : Hp} {s : Shared} {fp : List Addr} {C : Addr} (S : CompScope X N fr x scope cl) (I : Inv X pins σ H s) (hf : ∀ b ∈ fp, FpOk X pins H b) (hC : s.heap.objs.size <= C) (hfl : ∀ b ∈ fp, b < s.heap.objs.size) : (cxC X N scope cl C s H fp pins).Ok where
 mod := I.ok.mod
 kind := S.kind
 glob := I.ok.glob
 blt := I.ok.blt
 above := hC
 inj := fun y z c h1 h2 => I.ok.inj y z c (S.sub _ _ h1) (S.sub _ _ h2)
 has := fun y h => S.has y h
 cab := fun y c h => by cases h
 hd := I.ok.hd
 hs := I.ok.hs
 frames := I.ok.frames
 stk := .inl rfl
 exf := fun b hb => ⟨Nat.ne_of_lt (Nat.lt_of_lt_of_le (hfl b hb) hC), fun y c h => (hf b hb).2.2.2.2.1 y c (S.sub _ _ h)⟩
 bs := fun b o e => I.bs b o e
 bsz := Nat.le_trans I.ok.bsz I.sz
 noex := fun b o e hb => by
  rcases (hf b hb).2.2.2.1 with z | z
  ·exact I.ok.noex b o e z
  ·exact absurd (Nat.lt_of_lt_of_le (Heap.lt_size e) (Nat.le_trans I.ok.bsz z)) (Nat.lt_irrefl _)
 exfs := fun b hb z => by
  rcases List.mem_cons.mp (I.stkSub b z) with e | e
  ·exact (hf b hb).2.1 e
  ·exact (hf b hb).2.2.1 e
 funs := I.stack
 frf := I.stkFree
theorem cxC_start {pins : List (Addr × Obj)} {σ : St} {H : Hp} {s s4 : Shared} {fp : List Addr} {C : Addr} {m : Str -> Option Value} (S : CompScope X N fr x scope cl) (I : Inv X pins σ H s) (hf : ∀ b ∈ fp, FpOk X pins H b) (hC : s.heap.objs.size <= C) (hfl : ∀ b ∈ fp, b < s.heap.objs.size)
  (hn : s4.heap.Ns C m) (hk : ∀ b o, s.heap.get? b = some o -> s4.heap.get? b = some o) (ho : s4.os = s.os) (hg : s4.gens = s.gens) : Inv (cxC X N scope cl C s H fp pins) [] (compSt σ fr none) H s4 := by
 obtain ⟨m0, hn0, hl⟩ := id I.loc
 refine ⟨cxC_ok S I hf hC hfl, I.fzs, ho, by rw [hg]; exact I.bare, Un.kept hk, ⟨m, hn, fun i y v e1 e2 e3 => ?_⟩, fun y c h => ?_, I.hok.fresh hC, fun y c h => I.freeC y c (S.sub _ _ h), fun p hp => ?_, I.hok.kept hk, ?_⟩
 ·cases i with
  | zero => cases e2
  | succ j =>
   have e2' : (fr.map fun k => (σ[k]?).join)[j]? = some (some v) := e2
   rw [List.getElem?_map] at e2'
   cases ek : fr[j]? with
   | none => rw [ek] at e2'; cases e2'
   | some k =>
    rw [ek] at e2'
    have e4 : (σ[k]?).join = some v := Option.some.inj e2'
    obtain ⟨y', h1, h2, h3⟩ := S.out j k ek
    have e1' : N[j + 1]? = some y := e1
    obtain rfl : y' = y := Option.some.inj (h1.symm.trans e1')
    have e5 : σ[k]? = some (some v) := by
     cases q : σ[k]? with
     | none => rw [q] at e4; cases e4
     | some w => rw [q] at e4; exact congrArg some e4
    obtain ⟨u, r, lk⟩ := hl k y' v h2 e5 (.inr (.inl h3))
    refine ⟨u, r, .inr ?_⟩
    rcases lk with ⟨z, _⟩ | ⟨_, c, hc, hcell⟩
    ·rw [h3] at z; cases z
    ·have e6 : Vis (relabel scope X.env) y' := e3
     have hk2 : (relabel scope X.env).names.lookup y' = some .cell \/ (relabel scope X.env).names.lookup y' = some .free := by
      rcases e6 with e6 | e6 | e6
      ·exfalso
       have nd := S.nd
       -- a name of the block's own is the first one
       exact S.ownOnly _ _ h1 e6
      ·exact .inl e6
      ·exact .inr e6
     obtain ⟨c2, hc2⟩ := S.has y' hk2
     have := S.sub _ _ hc2
     rw [hc] at this; cases this
     obtain ⟨o, z1, z2⟩ := hcell
     exact ⟨hk2, c, hc2, o, hk _ _ z1, z2⟩
 ·obtain ⟨v, o, z1, z2⟩ := I.cell y c (S.sub _ _ h)
  exact ⟨v, o, hk _ _ z1, z2⟩
 ·rw [List.append_nil] at hp
  obtain ⟨e, k, ne, nf, d⟩ := I.pin p hp
  refine ⟨hk _ _ e, k, Nat.ne_of_lt (Nat.lt_of_lt_of_le (Heap.lt_size e) hC), fun z => ?_, d⟩
  rcases List.mem_cons.mp (I.stkSub _ z) with q | q
  ·exact ne q
  ·exact nf q
 ·show (compSt σ fr none).length = N.length
  rw [S.len]
  simp [compSt]
theorem cxC_end {pins : List (Addr × Obj)} {σ σ' : St} {H H' : Hp} {s s' : Shared} {fp : List Addr} {C : Addr} {h' : Heap} (I : Inv X pins σ H s) (hf : ∀ b ∈ fp, FpOk X pins H b) (hC : s.heap.objs.size <= C) (J : Inv (cxC X N scope cl C s H fp pins) [] σ' H' s') (hs : Heap.SameBut C s'.heap h') :
  Inv X pins σ H' { s' with heap := h' } := by
 have ne : ∀ b o, s.heap.get? b = some o -> b ≠ C := fun b o e => Nat.ne_of_lt (Nat.lt_of_lt_of_le (Heap.lt_size e) hC)
 have u : Un (frs X.stack) fp H H' s.heap s'.heap := J.base
 have u2 : Un (frs X.stack) fp H H' s.heap h' := ⟨fun b o e n hb hx => (hs.2 b (ne b o e)).trans (u.keep b o e n hb hx), fun b o e n hb hx => (by
   obtain ⟨sl, q⟩ := u.slot b o e n hb hx
   exact ⟨sl, (hs.2 b (ne b o e)).trans q⟩), u.free, fun b o e hx => (by
   obtain ⟨o', q⟩ := u.there b o e hx
   exact ⟨o', (hs.2 b (ne b o e)).trans q⟩), u.tups, u.frzs, u.tbls⟩
 have nC : H' C = none := J.free
 refine I.call' (s' := { s' with heap := h' }) (ch := fp) J.os u2 (J.hok.onward fun b o hb q => (hs.2 b fun z => hb (z ▸ nC)).trans q) J.bare fun b hb => ?_
 obtain ⟨_, f2, _, f4, f5, f6⟩ := hf b hb
 exact ⟨f4, f2, f5, f6⟩
def PTs (X : Cx) (ifs : List Expr) (t : TT) : Prop :=
 ∀ (pins : List (Addr × Obj)) (s : Shared) (σ : St) (H : Hp) (Q : Bool -> Hp -> Prop), Inv X pins σ H s -> t σ H Q -> wpAny (model X.prog X.w) X.A (forIn ifs true fun c r => if r = true then do let ok <- PySem.isTrue c X.env (eval c X.env); pure (ForInStep.yield ok) else pure (ForInStep.yield r)) (TP X pins σ Q) X.xe s
theorem pts_one {X : Cx} {c : Expr} {t : TT} (h : PT X c t) : PTs X [c] t := fun pins s σ H Q I q => wpAny_tests_one (h pins s σ H Q I q)
theorem pts_nil {X : Cx} : PTs X [] (fun _ H Q => Q true H) := fun pins s σ H Q I q => by
 show wpAny _ _ (pure true) _ _ _
 exact wpAny_pure ⟨H, I, q⟩
theorem comp_core {ifs : List Expr} {tc : TT} {use : Option (Value -> Sem Unit)} {R : Value -> Shared -> Prop} {Q : VK} {pins : List (Addr × Obj)} {s : Shared} {σ : St} {H : Hp} {ep : Pos} (hc : X.still = true) (S : CompScope X N fr x scope cl) (hi : PI X (.Name x px) iter wi)
  (ht : ∀ (C : Addr) (s0 : Shared) (H0 : Hp) (fp : List Addr) (pins : List (Addr × Obj)), PTs (cxC X N scope cl C s0 H0 fp pins) ifs tc) (he : ∀ (C : Addr) (s0 : Shared) (H0 : Hp) (fp : List Addr) (pins : List (Addr × Obj)), PE (cxC X N scope cl C s0 H0 fp pins) elt te)
  (hs : ∀ y, foldedSetIterable iter X.env y = pure y) (I : Inv X pins σ H s) (h : tCompIf wi fr tc te σ H Q)
  (fin : ∀ (acc C : Addr) (m : Str -> Option Value) (H6 : Hp) (s7 : Shared), Q (.ref acc) H6 -> s7.heap.Ns C m -> (∀ h' : Heap, Heap.SameBut C s7.heap h' -> Inv X pins σ H6 { s7 with heap := h' }) -> H6 C = none -> X.env.locals ≠ C -> (∀ z c, X.env.cells.lookup z = some c -> c ≠ C) -> (∀ p ∈ X.pn ++ pins, p.1 ≠ C) -> X.s₀.heap.objs.size <= C -> compPost (model X.prog X.w) X.A X.xe use R (.ref acc) C (.ok .next) s7) :
  wpAny (model X.prog X.w) X.A (comprehension (.ListComp elt [⟨.Name x px, iter, ifs, 0⟩] scope pos) scope X.env ep (newList []) false (eval iter X.env) use) R X.xe s := by
 refine wpAny_comprehension_free (use := use) rfl hs S.clos S.kind S.loc (thn (hi pins s σ H _ I h) fun v s1 h1 => thn h1 fun itv s2 h2 => ?_)
 obtain ⟨it, fp, tn, J, H2, e, I2, T, st2, f2, hW⟩ := h2
 subst e
 have hfl : ∀ b ∈ fp, b < s2.heap.objs.size := fun b hb => by
  obtain ⟨o, q, _⟩ := T.obj _ _ st2 b hb
  exact Heap.lt_size q
 have hfr : H2 s2.heap.objs.size = none := I2.hok.fresh (Nat.le_refl _)
 refine wpAny_newObj_type ?_
 have keep3 : ∀ b o, s2.heap.get? b = some o -> (s2.heap.push { cls := .type "list", dict := none, data := .seq ([] : List Value).toArray }).get? b = some o := fun b o q => Heap.get?_push_of_some _ q
 have I3 : Inv X pins σ (upd H2 s2.heap.objs.size (.lst [])) { s2 with heap := s2.heap.push { cls := .type "list", dict := none, data := .seq ([] : List Value).toArray } } :=
  I2.laid (t' := s2.toks) keep3 (Nat.le_refl _) ⟨Nat.zero_le _, [], 0, .nil, Heap.get?_push_size _ rfl⟩
 obtain ⟨W, ⟨m0, w0⟩, turn⟩ := hW s2.heap.objs.size hfr
 have f3 : ∀ b ∈ fp, FpOk X pins (upd H2 s2.heap.objs.size (.lst [])) b := fun b hb => ⟨by rw [upd_ne (Nat.ne_of_lt (hfl b hb))]; exact (f2 b hb).1, (f2 b hb).2⟩
 refine wpAny_newFunctionEnv S.nocell (by intro y hy; simp at hy) (fun h4 hns hsb => ?_) S.kind
 have hfl3 : ∀ b ∈ fp, b < (s2.heap.push { cls := .type "list", dict := none, data := .seq ([] : List Value).toArray }).objs.size := fun b hb => by
  rw [Heap.size_push]
  exact Nat.lt_succ_of_lt (hfl b hb)
 have keep4 : ∀ b o, (s2.heap.push { cls := .type "list", dict := none, data := .seq ([] : List Value).toArray }).get? b = some o -> h4.get? b = some o := fun b o q =>
  (hsb.2 b (Nat.ne_of_lt (Heap.lt_size q))).trans (Heap.get?_push_of_some _ q)
 have I4 : Inv (cxC X N scope cl (s2.heap.push { cls := .type "list", dict := none, data := .seq ([] : List Value).toArray }).objs.size { s2 with heap := s2.heap.push { cls := .type "list", dict := none, data := .seq ([] : List Value).toArray } } (upd H2 s2.heap.objs.size (.lst [])) fp pins) [] (compSt σ fr none) (upd H2 s2.heap.objs.size (.lst []))
   { s2 with heap := h4, toks := s2.toks + ([] : List (Str × Value)).length } := cxC_start S I3 f3 (Nat.le_refl _) hfl3 hns keep4 rfl rfl
 have st4 : tn 0 h4 := T.keep _ _ _ st2 fun b hb o q => keep4 b o (keep3 b o q)
 generalize hY : cxC X N scope cl (s2.heap.push { cls := .type "list", dict := none, data := .seq ([] : List Value).toArray }).objs.size { s2 with heap := s2.heap.push { cls := .type "list", dict := none, data := .seq ([] : List Value).toArray } } (upd H2 s2.heap.objs.size (.lst [])) fp pins = Y at I4
 have hel : PE Y elt te := hY ▸ he _ _ _ _ _
 have htl : PTs Y ifs tc := hY ▸ ht _ _ _ _ _
 have eA : Y.A = X.A := by rw [<- hY]; rfl
 have eP : Y.prog = X.prog := by rw [<- hY]; rfl
 have ew : Y.w = X.w := by rw [<- hY]; rfl
 have eK : Y.K = X.K := by rw [<- hY]; rfl
 have eC : Y.still = true := by rw [<- hY]; exact hc
 have eE : Y.env = compEnvC scope cl (s2.heap.push { cls := .type "list", dict := none, data := .seq ([] : List Value).toArray }).objs.size X.env := by rw [<- hY]; rfl
 have eX : Y.xe = fun _ _ => False := by rw [<- hY]; rfl
 have hg : PG Y (.Name x px) (gName 0) := by
  subst hY
  exact pg_name (i := 0) S.nd S.hN (.inl (lookup_relabel_local S.own)) (.inr (lookup_relabel_local S.own))
 have fY : ∀ {H' : Hp}, (∀ b ∈ fp, H' b = none) -> ∀ b ∈ fp, FpOk Y [] H' b := fun {H'} hn b hb => by
  subst hY
  obtain ⟨_, g2, g3, g4, g5, g6⟩ := f3 b hb
  refine ⟨hn b hb, Nat.ne_of_lt (hfl3 b hb), fun z => ?_, .inl hb, fun y c q => g5 y c (S.sub _ _ q), fun p hp => ?_⟩
  ·rcases List.mem_cons.mp (I3.stkSub b z) with q | q
   ·exact g2 q
   ·exact g3 q
  ·rw [List.append_nil] at hp
   exact g6 p hp
 have loop : ∀ s5 : Shared, s5 = { s2 with heap := h4, toks := s2.toks + ([] : List (Str × Value)).length } ->
   codeAny (model X.prog X.w) X.A (.compLoop (.ListComp elt [⟨.Name x px, iter, ifs, 0⟩] scope pos) 0 (.ref it) (.ref s2.heap.objs.size) (compEnvC scope cl (s2.heap.push { cls := .type "list", dict := none, data := .seq ([] : List Value).toArray }).objs.size X.env))
    (compPost (model X.prog X.w) X.A X.xe use R (.ref s2.heap.objs.size) (s2.heap.push { cls := .type "list", dict := none, data := .seq ([] : List Value).toArray }).objs.size) s5 := by
  rintro s5 rfl
  refine codeAny_compLoop_tests (fun n s' => ∃ i v H' vs, Inv Y [] (compSt σ fr v) H' s' /\ tn i s'.heap /\ (∀ b ∈ fp, H' b = none) /\ W i n H' vs) ?_ m0 ⟨0, none, _, [], I4, st4, fun b hb => (f3 b hb).1, w0⟩
  rintro n s6 ⟨i, v6, H6, vs, I6, st6, fr6, w6⟩
  obtain ⟨hacc, hgo⟩ := turn i n H6 vs w6
  rcases hgo with ⟨stop, qn⟩ | ⟨go, hz, step⟩
  ·have hd := T.done Y eP ew eK eC i [] s6 _ H6 (fun _ _ => False) I6 (fY fr6) st6 stop
   rw [eA] at hd
   refine wpAny_mono hd (fun r s7 ⟨hr, I7⟩ => ?_) fun _ _ z => z.elim
   subst hr
   obtain ⟨m, hn, _⟩ := id I7.loc
   rw [eE] at hn
   have hend : ∀ h' : Heap, Heap.SameBut (s2.heap.push { cls := .type "list", dict := none, data := .seq ([] : List Value).toArray }).objs.size s7.heap h' -> Inv X pins σ H6 { s7 with heap := h' } := fun h' hs' => by
    subst hY
    exact cxC_end I3 f3 (Nat.le_refl _) I7 hs'
   have cf : H6 (s2.heap.push { cls := .type "list", dict := none, data := .seq ([] : List Value).toArray }).objs.size = none := by
    subst hY
    exact I7.free
   have big : ∀ b o, s2.heap.get? b = some o -> b ≠ (s2.heap.push { cls := .type "list", dict := none, data := .seq ([] : List Value).toArray }).objs.size := fun b o q => Nat.ne_of_lt (by rw [Heap.size_push]; exact Nat.lt_succ_of_lt (Heap.lt_size q))
   obtain ⟨m2, hn2, _⟩ := id I2.loc
   obtain ⟨oL, _, _, hoL, _⟩ := id hn2
   exact fin _ _ m H6 s7 qn hn hend cf (big _ _ hoL) (fun z c q => by
    obtain ⟨_, o, w1, _⟩ := I2.cell z c q
    exact big _ _ w1) (fun p hp => by
    obtain ⟨e, _⟩ := I2.pin p hp
    exact big _ _ e) (by
    rw [Heap.size_push]
    exact Nat.le_succ_of_le (Nat.le_trans (Nat.le_refl _) I2.sz))
  ·have hd := T.item Y eP ew eK eC i [] s6 _ H6 (fun _ _ => False) I6 (fY fr6) st6 go
   rw [eA] at hd
   refine wpAny_mono hd (fun r s7 ⟨u, hr, h7⟩ => ?_) fun _ _ z => z.elim
   subst hr
   show wpAny _ _ ((pure () : Sem Unit) >>= fun _ => assign (.Name x px) _ u) _ _ s7
   refine wpAny_bind (wpAny_mono h7 (fun _ s8 ⟨y, H8, I8, r8, y8, st8, fr8⟩ => ?_) fun _ _ z => z.elim)
   have I8' := I8.pinned (fY fr8) (T.obj _ _ st8)
   have h9 := hg _ s8 _ H8 y u (fun σ9 H9 => σ9 = compSt σ fr (some y) /\ H9 = H8) I8' r8 ⟨rfl, rfl⟩
   rw [eA, eP, ew, eE, eX] at h9
   refine wpAny_mono h9 (fun _ s9 ⟨σ9, H9, I9, e9, e9'⟩ => ?_) fun _ _ z => z.elim
   subst e9 e9'
   have ht10 := htl _ s9 _ _ _ I9 (step y _ y8)
   rw [eA, eP, ew, eE, eX] at ht10
   refine wpAny_mono ht10 (fun ok s9t ⟨H9t, I9t, q9t⟩ => ?_) fun _ _ z => z.elim
   cases ok with
   | false =>
    rw [if_neg Bool.false_ne_true] at q9t
    rw [if_neg Bool.false_ne_true]
    obtain ⟨m', hm, w10⟩ := q9t
    refine ⟨m', hm, i + 1, some y, _, vs, I9t.unpinned, T.keep _ _ _ st8 fun b hb o q => (I9t.pin (b, o) (List.mem_append_right _ (List.mem_append_right _ (mem_pinsAt hb q)))).1, fun b hb => ?_, w10⟩
    obtain ⟨o, q, _⟩ := T.obj _ _ st8 b hb
    exact (I9t.pin (b, o) (List.mem_append_right _ (List.mem_append_right _ (mem_pinsAt hb q)))).2.1
   | true =>
   rw [if_pos rfl] at q9t
   rw [if_pos rfl]
   have h10 := hel _ s9t _ _ _ I9t q9t
   rw [eA, eP, ew, eE, eX] at h10
   refine wpAny_mono h10 (fun u10 s10 ⟨z10, H10, I10, r10, a10, m', hm, w10⟩ => ?_) fun _ _ z => z.elim
   have h11 := mt_append _ s10 _ H10 (.ref s2.heap.objs.size) [z10] (.ref s2.heap.objs.size) [u10] (fun _ H11 => H11 = upd H10 s2.heap.objs.size (.lst (vs ++ [z10]))) I10 rfl (.cons r10 .nil) ⟨_, vs, z10, rfl, rfl, a10, hz, rfl⟩
   rw [eA, eP, ew, eX] at h11
   refine wpAny_mono h11 (fun _ s11 ⟨_, H11, I11, _, e11⟩ => ?_) fun _ _ z => z.elim
   subst e11
   refine ⟨m', hm, i + 1, some y, _, vs ++ [z10], I11.unpinned, T.keep _ _ _ st8 fun b hb o q => (I11.pin (b, o) (List.mem_append_right _ (List.mem_append_right _ (mem_pinsAt hb q)))).1, fun b hb => ?_, w10⟩
   obtain ⟨o, q, _⟩ := T.obj _ _ st8 b hb
   exact (I11.pin (b, o) (List.mem_append_right _ (List.mem_append_right _ (mem_pinsAt hb q)))).2.1
 exact codeAny_compStart_list (loop _ rfl) (T.self _ 0 _ _ _ st4 (loop _ rfl))
theorem pe_comp (hc : X.still = true) (S : CompScope X N fr x scope cl) (hi : PI X (.Name x px) iter wi) (he : ∀ (C : Addr) (s0 : Shared) (H0 : Hp) (fp : List Addr) (pins : List (Addr × Obj)), PE (cxC X N scope cl C s0 H0 fp pins) elt te)
  (hs : ∀ y, foldedSetIterable iter X.env y = pure y := by intro _; rfl) : PE X (.ListComp elt [⟨.Name x px, iter, [], 0⟩] scope pos) (tComp wi fr te) := by
 intro pins s σ H Q I h
 rw [eval_ListComp]
 exact comp_core (tc := fun _ H Q => Q true H) (use := none) hc S hi (fun _ _ _ _ _ => pts_nil) he hs I h fun acc C m H6 s7 qn hn hend _ _ _ _ _ => ⟨m, hn, fun h' hs' => ⟨.ref acc, H6, hend h' hs', rfl, qn⟩⟩
end
end L2
namespace L2
open PySem PySem.Spec PyProof.Rows
theorem call_all {X : Cx} (hc : X.still = true) : CallR X (.builtin "all") (fun xs H Q => ∃ (l : Addr) (bs : List Bool), xs = [.ref l] /\ H l = some (.lst (bs.map V.bl)) /\ Q (.bl (bs.all id)) H) := by
 intro pins s σ H xs us Q I rv h
 obtain ⟨l, bs, rfl, hH, q⟩ := h
 obtain ⟨u, rfl, ru⟩ := rv.one
 cases ru
 obtain ⟨z, its, n, r, hl, e⟩ := I.lstM hH
 have hlt : l < s.heap.objs.size := Heap.lt_size e
 refine call_all_walk (wpAny_pyIter_list (A := X.A.in1) ⟨_, e, rfl, n, rfl⟩ ?_)
 obtain ⟨fp, st, W, st0, _⟩ := walks_list_any (P := X.prog) (w := X.w) (I.stl hc).in1 s.heap.objs.size l (Nat.ne_of_lt hlt) (I.stn hc (I.hok.fresh (Nat.le_refl _))) its.toArray
 refine ⟨s.heap.objs.size, _, _, _, _, _, fun i => bs.getD i true, rfl, W, st0 _ ⟨_, Heap.get?_push_size _ rfl, rfl, rfl⟩ ⟨_, Heap.get?_push_of_some _ e, rfl, n, rfl⟩ (fun b o x => Heap.get?_push_of_some _ x), ?_, ?_⟩
 ·intro i v s' Q' E' hP hQ
  have hv : its[i]? = some v := by simpa using hP
  obtain ⟨b, hb, rfl⟩ : ∃ b, bs[i]? = some b /\ v = Value.bool b := by
   cases hbi : bs[i]? with
   | none =>
    have h1 := r.none_of (i := i) (by rw [List.getElem?_map, hbi]; rfl)
    rw [h1] at hv; cases hv
   | some b =>
    obtain ⟨u', h1, h2⟩ := r.get (i := i) (x := .bl b) (by rw [List.getElem?_map, hbi]; rfl)
    rw [h1] at hv; cases hv
    exact ⟨b, rfl, h2⟩
  have hQ2 : Q' (bs.getD i true) s' := hQ
  rw [List.getD_eq_getElem?_getD, hb] at hQ2
  exact wpAny_truthy_bool hQ2
 ·intro h' tk hk
  have e2 : ((List.range its.toArray.size).all fun i => bs.getD i true) = bs.all id := by
   have hlen : its.toArray.size = bs.length := by
    rw [List.size_toArray, <- r.length, List.length_map]
   rw [hlen]
   rw [Bool.eq_iff_iff, List.all_eq_true, List.all_eq_true]
   constructor
   ·intro hA b hb
    obtain ⟨i, hi, e⟩ := List.getElem_of_mem hb
    have := hA i (List.mem_range.mpr hi)
    rw [List.getD_eq_getElem?_getD, List.getElem?_eq_getElem hi, e] at this
    exact this
   ·intro hA i hi
    have hi' := List.mem_range.mp hi
    rw [List.getD_eq_getElem?_getD, List.getElem?_eq_getElem hi']
    exact hA _ (List.getElem_mem hi')
  rw [e2]
  refine ⟨.bl (bs.all id), H, ?_, rfl, q⟩
  exact I.kept (h' := h') (t' := tk) fun b o q' => hk b o (fun zz => by
   have : b = s.heap.objs.size := by simpa using zz
   subst this
   exact absurd (Heap.lt_size q') (Nat.lt_irrefl _)) (Heap.get?_push_of_some _ q')
end L2
namespace L2
open PySem PySem.Spec PyProof.Rows
section
variable {κ : Type} [DecidableEq κ]
end
section
variable {P : Program} {w : World} {H : Hp} {h : Heap} {a : Addr}
end
section
variable {X : Cx} {pins : List (Addr × Obj)} {σ : St} {H : Hp} {s : Shared} {a : Addr} {y v : V} {u r : Value} {o : Option V} {A : Around} {E : Value -> Shared -> Prop}
end
section
variable {X : Cx} {pins : List (Addr × Obj)} {σ : St} {H : Hp} {s : Shared} {a : Addr} {kvs : List (Key × V)} {k : Key} {u : Value} {A : Around} {E : Value -> Shared -> Prop}
end
section
variable {X : Cx} {o i e value : Expr} {pos pos' tpos : Pos} {td ty tv : TE}
end
section
variable {X : Cx} {pos : Pos}
end
section
variable {X : Cx} {pins : List (Addr × Obj)} {σ : St} {H : Hp} {s : Shared} {a : Addr} {y d : V} {u r : Value} {o : Option V} {A : Around} {E : Value -> Shared -> Prop}
end
section
variable {X : Cx} {o e f : Expr} {apos cpos : Pos} {td ty tx : TE}
end
section
variable {X : Cx} {pins : List (Addr × Obj)} {σ : St} {H : Hp} {s : Shared} {a : Addr} {y : V} {u : Value} {A : Around} {E : Value -> Shared -> Prop}
end
end L2
namespace L2
open PySem PySem.Spec PyProof.Rows
section
variable {P : Program} {w : World} {K : W.Frag} {mg : Str -> Option Value} {base : Heap}
end
section
variable {X : Cx}
end
section
variable {κ : Type} [DecidableEq κ]
end
end L2
namespace L2
open PySem PySem.Spec PyProof.Rows
end L2
namespace L2
open PySem PySem.Spec PyProof.Rows
section
variable {X : Cx} {N : List Str} {fr : List Nat} {x : Str} {scope : Scope} {cl : List (Str × Addr)} {elt iter : Expr} {px pos : Pos} {wi : TI} {te : TE}
theorem pe_compIf {cnd : Expr} {tc : TT} (hc : X.still = true) (S : CompScope X N fr x scope cl) (hi : PI X (.Name x px) iter wi) (ht : ∀ (C : Addr) (s0 : Shared) (H0 : Hp) (fp : List Addr) (pins : List (Addr × Obj)), PT (cxC X N scope cl C s0 H0 fp pins) cnd tc) (he : ∀ (C : Addr) (s0 : Shared) (H0 : Hp) (fp : List Addr) (pins : List (Addr × Obj)), PE (cxC X N scope cl C s0 H0 fp pins) elt te)
  (hs : ∀ y, foldedSetIterable iter X.env y = pure y := by intro _; rfl) : PE X (.ListComp elt [⟨.Name x px, iter, [cnd], 0⟩] scope pos) (tCompIf wi fr tc te) := by
 intro pins s σ H Q I h
 rw [eval_ListComp]
 exact comp_core (use := none) hc S hi (fun _ _ _ _ _ => pts_one (ht _ _ _ _ _)) he hs I h fun acc C m H6 s7 qn hn hend _ _ _ _ _ => ⟨m, hn, fun h' hs' => ⟨.ref acc, H6, hend h' hs', rfl, qn⟩⟩
end
end L2
namespace L2
open PySem PySem.Spec PyProof.Rows
end L2
namespace L2
open PySem PySem.Spec PyProof.Rows
end L2
namespace L2
open PySem PySem.Spec PyProof.Rows
section
variable {X : Cx} {k : Nat} {f C : Addr} {fd : FuncData} {ps : List Str} {sp : Sp} {g x n : Str} {p pos pos2 pos3 np hpos : Pos} {e : Expr} {es : List Expr} {t : TA} {ts : TS} {b₀ : Stmt} {suite : List Stmt} {i : Nat}
end
end L2
namespace L2
open PySem PySem.Spec PyProof.Rows
end L2
namespace L2
open PySem PySem.Spec PyProof.Rows
theorem Inv.off {X : Cx} {pins : List (Addr × Obj)} {σ : St} {H : Hp} {s : Shared} {C : Addr} {h' : Heap} (I : Inv X pins σ H s) (hs : Heap.SameBut C s.heap h') (hC0 : X.s₀.heap.objs.size <= C) (hH : H C = none) (hL : C ≠ X.env.locals) (hc : ∀ y c, X.env.cells.lookup y = some c -> c ≠ C) (hp : ∀ p ∈ X.pn ++ pins, p.1 ≠ C) : Inv X pins σ H { s with heap := h' } := by
 obtain ⟨m, hn, hl⟩ := id I.loc
 have old : ∀ b o, X.s₀.heap.get? b = some o -> h'.get? b = s.heap.get? b := fun b o e => hs.2 b (Nat.ne_of_lt (Nat.lt_of_lt_of_le (Heap.lt_size e) hC0))
 refine ⟨I.ok, I.fzs, I.os, I.bare, ⟨fun b o e k hb hx => (old b o e).trans (I.base.keep b o e k hb hx), fun b o e k hb hx => ?_, I.base.free, fun b o e hx => ?_, I.base.tups, I.base.frzs, I.base.tbls⟩, ⟨m, hn.sameBut hs hL.symm, fun j y v' e1 e2 e3 => ?_⟩, fun y c e => ?_, I.free, I.freeC, fun p q => ?_, fun b ob e => ?_, I.len⟩
 ·obtain ⟨sl, e1⟩ := I.base.slot b o e k hb hx
  exact ⟨sl, (old b o e).trans e1⟩
 ·obtain ⟨o', e1⟩ := I.base.there b o e hx
  exact ⟨o', (old b o e).trans e1⟩
 ·obtain ⟨u', r', q⟩ := hl j y v' e1 e2 e3
  refine ⟨u', r', ?_⟩
  rcases q with q | ⟨k, c, e, z⟩
  ·exact .inl q
  ·exact .inr ⟨k, c, e, z.sameBut hs (hc y c e)⟩
 ·obtain ⟨w', z⟩ := I.cell y c e
  exact ⟨w', z.sameBut hs (hc y c e)⟩
 ·obtain ⟨e, k, ne, nf, d⟩ := I.pin p q
  exact ⟨(hs.2 p.1 (hp p q)).trans e, k, ne, nf, d⟩
 ·refine (I.hok b ob e).stay (fun c w' hc' q => (hs.2 c ?_).trans q) (fun _ q => q) fun _ _ q => q
  rintro rfl
  rcases hc' with rfl | hc'
  ·rw [hH] at e; cases e
  ·rw [hH] at hc'; cases hc'
section
variable {X : Cx} {N : List Str} {fr : List Nat} {x : Str} {scope : Scope} {cl : List (Str × Addr)} {elt iter : Expr} {px pos : Pos} {wi : TI} {te : TE}
end
end L2
namespace L2
open PySem PySem.Spec PyProof.Rows
def CompEnd (J : It) (Q : VK) (H1 : Hp) (te : TE) (σ : V -> St) : Prop := ∀ acc, H1 acc = none -> ∃ W : Nat -> Nat -> Hp -> List V -> Prop, (∃ m, W 0 m (upd H1 acc (.lst [])) []) /\
 ∀ i m H' vs, W i m H' vs -> H' acc = some (.lst vs) /\ ((J.stop i H' /\ Q (.ref acc) H') \/ (J.go i H' /\ vs.length < sizeLine /\ ∀ x H2, J.yld i H' x H2 -> te (σ x) H2 fun y H3 => H3 acc = some (.lst vs) /\ ∃ m', m' < m /\ W (i + 1) m' (upd H3 acc (.lst (vs ++ [y]))) (vs ++ [y])))
def CompIfEnd (J : It) (Q : VK) (H1 : Hp) (tc : TT) (te : TE) (σ : V -> St) : Prop := ∀ acc, H1 acc = none -> ∃ W : Nat -> Nat -> Hp -> List V -> Prop, (∃ m, W 0 m (upd H1 acc (.lst [])) []) /\
 ∀ i m H' vs, W i m H' vs -> H' acc = some (.lst vs) /\ ((J.stop i H' /\ Q (.ref acc) H') \/ (J.go i H' /\ vs.length < sizeLine /\ ∀ x H2, J.yld i H' x H2 -> tc (σ x) H2 fun b H3 =>
  if b = true then te (σ x) H3 fun y H4 => H4 acc = some (.lst vs) /\ ∃ m', m' < m /\ W (i + 1) m' (upd H4 acc (.lst (vs ++ [y]))) (vs ++ [y]) else ∃ m', m' < m /\ W (i + 1) m' H3 vs))
def tCompC (wi : TI) (fr : List Nat) (te : TE) : TE := fun σ H Q => wi σ H fun J H1 => CompEnd J Q H1 te (fun x => compSt σ fr (some x))
def tCompIfC (wi : TI) (fr : List Nat) (tc : TT) (te : TE) : TE := fun σ H Q => wi σ H fun J H1 => CompIfEnd J Q H1 tc te (fun x => compSt σ fr (some x))
def tSetC0 (wi : TI) (fr : List Nat) (te : TE) (k : Nat) : TS := fun D σ H => tCompC wi fr te σ H fun v H' => D.nx (σ.set k (some v)) H'
section
variable {X : Cx} {N : List Str} {fr : List Nat} {x : Str} {scope : Scope} {cl : List (Str × Addr)} {elt iter : Expr} {px pos : Pos} {wi : TI} {te : TE}
theorem ps_setC0 {y : Str} {py spos : Pos} {k : Nat} (hN : X.N.Nodup) (hk : X.N[k]? = some y) (hy : Loc X.env.scope y) (hsw : swapsWith (.ListComp elt [⟨.Name x px, iter, [], 0⟩] scope pos) (some (.Name y py)) spos.line X.env = pure true) (hc : X.still = true) (S : CompScope X N fr x scope cl) (hi : PI X (.Name x px) iter wi) (he : ∀ (C : Addr) (s0 : Shared) (H0 : Hp) (fp : List Addr) (pins : List (Addr × Obj)), PE (cxC X N scope cl C s0 H0 fp pins) elt te)
  (hf : X.fn y = true \/ X.env.scope.names.lookup y = some .local) (hs : ∀ y, foldedSetIterable iter X.env y = pure y := by intro _; rfl) : PS X (.Assign [.Name y py] (.ListComp elt [⟨.Name x px, iter, [], 0⟩] scope pos) spos) (tSetC0 wi fr te k) := by
 intro pins s σ H D I h
 rw [exec_Assign_Name_used _ _ _ _ hsw]
 refine wpAny_bind (wpAny_standAt (wpAny_bind ?_))
 show wpAny _ X.A (do let _ <- comprehension (.ListComp elt [⟨.Name x px, iter, [], 0⟩] scope pos) scope X.env _ (newList []) false (eval iter X.env) (some (assign (.Name y py) X.env))) _ _ s
 refine wpAny_bind (wpAny_mono (comp_core (tc := fun _ H Q => Q true H) (Q := fun v H' => D.nx (σ.set k (some v)) H') (use := some (assign (.Name y py) X.env)) (R := fun _ s' => SP X pins D .next s') hc S hi (fun _ _ _ _ _ => pts_nil) he hs I h (fun acc C m H6 s7 qn hn hend cf cL cC cP cS => by
  have J7 : Inv X pins σ H6 s7 := hend s7.heap ⟨rfl, fun _ _ => rfl⟩
  show wpAny _ X.A (assign (.Name y py) X.env (.ref acc)) _ _ _
  refine wpAny_assign_Name (store_ok2 J7 hN hk hy (v := .ref acc) rfl (fun s8 J8 ⟨a, hsa, ha⟩ => ?_) hf)
  have aC : C ≠ a := by
   rcases ha with e | e
   ·rw [e]; exact Ne.symm cL
   ·exact Ne.symm (cC _ _ e)
  exact ⟨m, hn.sameBut hsa aC, fun h' hs' => ⟨_, H6, J8.off hs' cS cf (Ne.symm cL) cC cP, qn⟩⟩)) (fun _ s' hq => wpAny_pure (wpAny_pure hq)) fun _ _ e => e)
end
section
variable {X : Cx} {N : List Str} {fr : List Nat} {x : Str} {scope : Scope} {cl : List (Str × Addr)} {elt iter : Expr} {px pos : Pos} {wi : TI} {te : TE}
theorem pe_compC (hc : X.still = true) (S : CompScope X N fr x scope cl) (hi : PI X (.Name x px) iter wi) (he : ∀ (C : Addr) (s0 : Shared) (H0 : Hp) (fp : List Addr) (pins : List (Addr × Obj)), PE (cxC X N scope cl C s0 H0 fp pins) elt te)
  (hs : ∀ y, foldedSetIterable iter X.env y = pure y := by intro _; rfl) : PE X (.ListComp elt [⟨.Name x px, iter, [], 0⟩] scope pos) (tCompC wi fr te) := pe_comp hc S hi he hs
theorem pe_compIfC {cnd : Expr} {tc : TT} (hc : X.still = true) (S : CompScope X N fr x scope cl) (hi : PI X (.Name x px) iter wi) (ht : ∀ (C : Addr) (s0 : Shared) (H0 : Hp) (fp : List Addr) (pins : List (Addr × Obj)), PT (cxC X N scope cl C s0 H0 fp pins) cnd tc) (he : ∀ (C : Addr) (s0 : Shared) (H0 : Hp) (fp : List Addr) (pins : List (Addr × Obj)), PE (cxC X N scope cl C s0 H0 fp pins) elt te)
  (hs : ∀ y, foldedSetIterable iter X.env y = pure y := by intro _; rfl) : PE X (.ListComp elt [⟨.Name x px, iter, [cnd], 0⟩] scope pos) (tCompIfC wi fr tc te) := pe_compIf hc S hi ht he hs
end
theorem same_upd {H0 H : Hp} {p : Addr} {o : HO} (g : Same H0 H) (h : H0 p = none) : Same H0 (upd H p o) := fun b u q => by
 rw [upd_ne (ne_of_none q h)]
 exact g b u q
theorem comp_range {te : TE} {σ : V -> St} {H : Hp} {Q : VK} {lo : Int} (n : Nat) (hn : n < sizeLine) (R : Nat -> List V -> Hp -> Prop) (R0 : ∀ p, H p = none -> R 0 [] (upd H p (.lst [])))
  (he : ∀ i vs H' acc (Q' : VK), i < n -> Same H H' -> H acc = none -> H' acc = some (.lst vs) -> R i vs H' -> vs.length = i -> (∀ y H2, Same H' H2 -> (R (i + 1) (vs ++ [y]) (upd H2 acc (.lst (vs ++ [y])))) -> Q' y H2) -> te (σ (.int (lo + i))) H' Q')
  (q : ∀ p H' vs, Same H H' -> H p = none -> H' p = some (.lst vs) -> vs.length = n -> R n vs H' -> Q (.ref p) H') : CompEnd (Itr lo n) Q H te σ := by
 intro acc hacc
 refine ⟨fun i m H' vs => i <= n /\ m = n - i /\ Same H H' /\ H' acc = some (.lst vs) /\ vs.length = i /\ R i vs H', ⟨n, Nat.zero_le _, by simp, same_new hacc _, upd_same, rfl, R0 _ hacc⟩, ?_⟩
 rintro i m H' vs ⟨hi, rfl, g, ha, hl, r⟩
 refine ⟨ha, ?_⟩
 by_cases h : i = n
 ·subst h
  exact .inl ⟨Nat.le_refl _, q acc H' vs g hacc ha hl r⟩
 ·refine .inr ⟨by (show i < n; omega), by omega, ?_⟩
  rintro z H2 ⟨rfl, rfl⟩
  refine he i vs H2 acc _ (by omega) g hacc ha r hl fun y H3 g3 r3 => ⟨g3 _ _ ha, n - (i + 1), by omega, by omega, rfl, same_upd (g.trans g3) hacc, upd_same, ?_, r3⟩
  rw [List.length_append, hl]
  rfl
theorem comp_rangeF {te : TE} {σ : V -> St} {H : Hp} {Q : VK} {lo : Int} (n : Nat) (hn : n < sizeLine) (f : Nat -> V)
  (he : ∀ i H' (Q' : VK), i < n -> Same H H' -> (∀ H2, Same H' H2 -> Q' (f i) H2) -> te (σ (.int (lo + i))) H' Q')
  (q : ∀ p H', Same H H' -> H p = none -> H' p = some (.lst ((List.range n).map f)) -> Q (.ref p) H') : CompEnd (Itr lo n) Q H te σ := by
 refine comp_range n hn (fun i vs _ => vs = (List.range i).map f) (fun _ _ => rfl) ?_ ?_
 ·intro i vs H' acc Q' hi g h0 h1 r hl k
  refine he i H' Q' hi g fun H2 g2 => k _ _ g2 ?_
  rw [r, List.range_succ, List.map_append]
  rfl
 ·intro p H' vs g h0 h1 hl r
  exact q p H' g h0 (r ▸ h1)
theorem comp_listF {K : W.Frag} {a : Addr} {xs : List V} {te : TE} {σ : V -> St} {H : Hp} {Q : VK} (hx : SqL K H a xs) (hn : xs.length < sizeLine) (f : V -> V) (hK : ∀ H', Same H H' -> SqL K H' a xs)
  (he : ∀ (i : Nat) (x : V) (H' : Hp) (Q' : VK), xs[i]? = some x -> Same H H' -> (∀ H2, Same H' H2 -> Q' (f x) H2) -> te (σ x) H' Q')
  (q : ∀ p H', Same H H' -> H p = none -> H' p = some (.lst (xs.map f)) -> Q (.ref p) H') : CompEnd (Itl K a) Q H te σ := by
 intro acc hacc
 refine ⟨fun i m H' vs => i <= xs.length /\ m = xs.length - i /\ Same H H' /\ H' acc = some (.lst vs) /\ vs = (xs.take i).map f, ⟨xs.length, Nat.zero_le _, by simp, same_new hacc _, upd_same, by simp⟩, ?_⟩
 rintro i m H' vs ⟨hi, rfl, g, ha, rfl⟩
 refine ⟨ha, ?_⟩
 by_cases h : i = xs.length
 ·refine .inl ⟨⟨xs, hK _ g, by omega⟩, q acc H' g hacc ?_⟩
  rw [ha, h, List.take_length]
 ·have hlt : i < xs.length := by omega
  refine .inr ⟨⟨xs, xs[i], hK _ g, by simp [hlt]⟩, by rw [List.length_map, List.length_take]; omega, ?_⟩
  rintro z H2 ⟨rfl, hz⟩
  have hz' := hz xs (hK _ g)
  refine he i z H2 _ hz' g fun H3 g3 => ⟨g3 _ _ ha, xs.length - (i + 1), by omega, by omega, rfl, same_upd (g.trans g3) hacc, upd_same, ?_⟩
  rw [List.take_succ, hz', List.map_append]
  rfl
theorem comp_tupF {K : W.Frag} {a : Addr} {xs : List V} {te : TE} {σ : V -> St} {H : Hp} {Q : VK} (hx : SqT K H a xs) (hn : xs.length < sizeLine) (f : V -> V) (hK : ∀ H', Same H H' -> SqT K H' a xs)
  (he : ∀ (i : Nat) (x : V) (H' : Hp) (Q' : VK), xs[i]? = some x -> Same H H' -> (∀ H2, Same H' H2 -> Q' (f x) H2) -> te (σ x) H' Q')
  (q : ∀ p H', Same H H' -> H p = none -> H' p = some (.lst (xs.map f)) -> Q (.ref p) H') : CompEnd (Itt K a) Q H te σ := by
 intro acc hacc
 refine ⟨fun i m H' vs => i <= xs.length /\ m = xs.length - i /\ Same H H' /\ H' acc = some (.lst vs) /\ vs = (xs.take i).map f, ⟨xs.length, Nat.zero_le _, by simp, same_new hacc _, upd_same, by simp⟩, ?_⟩
 rintro i m H' vs ⟨hi, rfl, g, ha, rfl⟩
 refine ⟨ha, ?_⟩
 by_cases h : i = xs.length
 ·refine .inl ⟨⟨xs, hK _ g, by omega⟩, q acc H' g hacc ?_⟩
  rw [ha, h, List.take_length]
 ·have hlt : i < xs.length := by omega
  refine .inr ⟨⟨xs, xs[i], hK _ g, by simp [hlt]⟩, by rw [List.length_map, List.length_take]; omega, ?_⟩
  rintro z H2 ⟨rfl, hz⟩
  have hz' := hz xs (hK _ g)
  refine he i z H2 _ hz' g fun H3 g3 => ⟨g3 _ _ ha, xs.length - (i + 1), by omega, by omega, rfl, same_upd (g.trans g3) hacc, upd_same, ?_⟩
  rw [List.take_succ, hz', List.map_append]
  rfl
theorem compIf_walk {J : It} {xs : List V} {tc : TT} {te : TE} {σ : V -> St} {H : Hp} {Q : VK} (hn : xs.length < sizeLine) (p : V -> Bool) (f : V -> V)
  (hstop : ∀ H', Same H H' -> J.stop xs.length H') (hgo : ∀ (i : Nat) H', i < xs.length -> Same H H' -> J.go i H') (hyld : ∀ (i : Nat) H' x H2, Same H H' -> J.yld i H' x H2 -> H2 = H' /\ xs[i]? = some x)
  (ht : ∀ (i : Nat) (x : V) (H' : Hp) (Q' : Bool -> Hp -> Prop), xs[i]? = some x -> Same H H' -> (∀ H2, Same H' H2 -> Q' (p x) H2) -> tc (σ x) H' Q')
  (he : ∀ (i : Nat) (x : V) (H' : Hp) (Q' : VK), xs[i]? = some x -> p x = true -> Same H H' -> (∀ H2, Same H' H2 -> Q' (f x) H2) -> te (σ x) H' Q')
  (q : ∀ a H', Same H H' -> H a = none -> H' a = some (.lst ((xs.filter p).map f)) -> Q (.ref a) H') : CompIfEnd J Q H tc te σ := by
 intro acc hacc
 refine ⟨fun i m H' vs => i <= xs.length /\ m = xs.length - i /\ Same H H' /\ H' acc = some (.lst vs) /\ vs = ((xs.take i).filter p).map f, ⟨xs.length, Nat.zero_le _, by simp, same_new hacc _, upd_same, by simp⟩, ?_⟩
 rintro i m H' vs ⟨hi, rfl, g, ha, rfl⟩
 refine ⟨ha, ?_⟩
 by_cases h : i = xs.length
 ·refine .inl ⟨h ▸ hstop _ g, q acc H' g hacc ?_⟩
  rw [ha, h, List.take_length]
 ·have hlt : i < xs.length := by omega
  refine .inr ⟨hgo i _ hlt g, ?_, ?_⟩
  ·rw [List.length_map]
   have h1 := List.length_filter_le p (xs.take i)
   rw [List.length_take] at h1
   omega
  intro z H2 hz
  obtain ⟨rfl, hz'⟩ := hyld i _ _ _ g hz
  refine ht i z H2 _ hz' g fun H3 g3 => ?_
  have ts : xs.take (i + 1) = xs.take i ++ [z] := by rw [List.take_succ, hz']; rfl
  cases e : p z with
  | true =>
   rw [if_pos rfl]
   refine he i z H3 _ hz' e (g.trans g3) fun H4 g4 => ⟨g4 _ _ (g3 _ _ ha), xs.length - (i + 1), by omega, by omega, rfl, same_upd (g.trans (g3.trans g4)) hacc, upd_same, ?_⟩
   rw [ts, List.filter_append, List.map_append]
   have : [z].filter p = [z] := by simp [e]
   rw [this]
   rfl
  | false =>
   rw [if_neg Bool.false_ne_true]
   refine ⟨xs.length - (i + 1), by omega, by omega, rfl, g.trans g3, g3 _ _ ha, ?_⟩
   rw [ts, List.filter_append, List.map_append]
   have : [z].filter p = [] := by simp [e]
   rw [this]
   simp
theorem compIf_tupF {K : W.Frag} {a : Addr} {xs : List V} {tc : TT} {te : TE} {σ : V -> St} {H : Hp} {Q : VK} (hn : xs.length < sizeLine) (p : V -> Bool) (f : V -> V) (hK : ∀ H', Same H H' -> SqT K H' a xs)
  (ht : ∀ (i : Nat) (x : V) (H' : Hp) (Q' : Bool -> Hp -> Prop), xs[i]? = some x -> Same H H' -> (∀ H2, Same H' H2 -> Q' (p x) H2) -> tc (σ x) H' Q')
  (he : ∀ (i : Nat) (x : V) (H' : Hp) (Q' : VK), xs[i]? = some x -> p x = true -> Same H H' -> (∀ H2, Same H' H2 -> Q' (f x) H2) -> te (σ x) H' Q')
  (q : ∀ a H', Same H H' -> H a = none -> H' a = some (.lst ((xs.filter p).map f)) -> Q (.ref a) H') : CompIfEnd (Itt K a) Q H tc te σ :=
 compIf_walk hn p f (fun H' g => ⟨xs, hK _ g, Nat.le_refl _⟩) (fun i H' hi g => ⟨xs, xs[i], hK _ g, by simp [hi]⟩) (fun i H' x H2 g h => ⟨h.1, h.2 xs (hK _ g)⟩) ht he q
theorem compIf_listF {K : W.Frag} {a : Addr} {xs : List V} {tc : TT} {te : TE} {σ : V -> St} {H : Hp} {Q : VK} (hn : xs.length < sizeLine) (p : V -> Bool) (f : V -> V) (hK : ∀ H', Same H H' -> SqL K H' a xs)
  (ht : ∀ (i : Nat) (x : V) (H' : Hp) (Q' : Bool -> Hp -> Prop), xs[i]? = some x -> Same H H' -> (∀ H2, Same H' H2 -> Q' (p x) H2) -> tc (σ x) H' Q')
  (he : ∀ (i : Nat) (x : V) (H' : Hp) (Q' : VK), xs[i]? = some x -> p x = true -> Same H H' -> (∀ H2, Same H' H2 -> Q' (f x) H2) -> te (σ x) H' Q')
  (q : ∀ a H', Same H H' -> H a = none -> H' a = some (.lst ((xs.filter p).map f)) -> Q (.ref a) H') : CompIfEnd (Itl K a) Q H tc te σ :=
 compIf_walk hn p f (fun H' g => ⟨xs, hK _ g, Nat.le_refl _⟩) (fun i H' hi g => ⟨xs, xs[i], hK _ g, by simp [hi]⟩) (fun i H' x H2 g h => ⟨h.1, h.2 xs (hK _ g)⟩) ht he q
mutual
inductive DA (H : Hp) : V -> PyData -> Prop where
 | int {i : Int} : DA H (.int i) (.int i)
 | bl {b : Bool} : DA H (.bl b) (.bool b)
 | str {x : Str} : DA H (.str x) (.str x)
 | lst {p : Addr} {xs : List V} {ds : List PyData} : H p = some (.lst xs) -> DAs H xs ds -> DA H (.ref p) (.list ds)
 | tup {p : Addr} {xs : List V} {ds : List PyData} : H p = some (.tup xs) -> DAs H xs ds -> DA H (.ref p) (.tuple ds)
inductive DAs (H : Hp) : List V -> List PyData -> Prop where
 | nil : DAs H [] []
 | cons {x : V} {d : PyData} {xs : List V} {ds : List PyData} : DA H x d -> DAs H xs ds -> DAs H (x :: xs) (d :: ds)
end
mutual
theorem DA.reads {X : Cx} {pins : List (Addr × Obj)} {σ : St} {H : Hp} {s : Shared} (I : Inv X pins σ H s) : ∀ {v : V} {d : PyData} {u : Value}, DA H v d -> RelV v u -> ∃ as, Reads s.heap u d as
 | _, _, _, .int, r => by obtain ⟨t, rfl⟩ := r; exact ⟨_, .int _ _⟩
 | _, _, _, .bl, r => by cases r; exact ⟨_, .bool _⟩
 | _, _, _, .str, r => by obtain ⟨t, rfl⟩ := r; exact ⟨_, .str _ _⟩
 | _, _, _, .lst h hs, r => by
  cases r
  obtain ⟨its, rv, ⟨o, n, e1, e2, _, e3⟩, _⟩ := I.list (SqL.of h)
  obtain ⟨as, z⟩ := DAs.reads I hs rv
  exact ⟨_, .list e1 e2 e3 z⟩
 | _, _, _, .tup h hs, r => by
  cases r
  obtain ⟨its, rv, ⟨o, e1, e2, n, e3⟩, _⟩ := I.tuple (SqT.of h)
  obtain ⟨as, z⟩ := DAs.reads I hs rv
  exact ⟨_, .tuple e1 e2 e3 z⟩
theorem DAs.reads {X : Cx} {pins : List (Addr × Obj)} {σ : St} {H : Hp} {s : Shared} (I : Inv X pins σ H s) : ∀ {vs : List V} {ds : List PyData} {us : List Value}, DAs H vs ds -> Vals vs us -> ∃ as, ReadsAll s.heap us ds as
 | _, _, _, .nil, r => by cases r; exact ⟨_, .nil⟩
 | _, _, _, .cons h hs, r => by
  cases r with
  | cons r1 r2 =>
   obtain ⟨a1, z1⟩ := DA.reads I h r1
   obtain ⟨a2, z2⟩ := DAs.reads I hs r2
   exact ⟨_, .cons z1 z2⟩
end
def rEqD : R2 := fun x y H Q => ∃ da db : PyData, DA H x da /\ DA H y db /\ SeqAt.shaped da = true /\ SeqAt.shaped db = true /\ Q (.bl (PyData.eqv da db)) H
theorem op_eqD {X : Cx} (hu : X.A.units + 64 < cLine) : OpR X (compareOp .Eq) rEqD := by
 intro pins s σ H x y v u Q I rx ry h
 obtain ⟨da, db, ha, hb, sa, sb, q⟩ := h
 obtain ⟨as, ra⟩ := ha.reads I rx
 obtain ⟨bs, rb⟩ := hb.reads I ry
 exact eq_dataH ra rb sa sb hu ⟨.bl _, H, I, rfl, q⟩
end L2
namespace L2
open PySem PySem.Spec PyProof.Rows
structure CompScope2 (X : Cx) (N : List Str) (fr : List Nat) (x x2 : Str) (scope : Scope) (cl : List (Str × Addr)) : Prop where
 kind : scope.kind = .function
 nocell : ∀ y ∈ scope.names, y.2 ≠ .cell
 loc : ∀ y ∈ scope.names, y.2 = .local -> scope.names.lookup y.1 = some .local
 own : scope.names.lookup x = some .local
 own2 : scope.names.lookup x2 = some .local
 clos : closureFor scope X.env = pure cl
 sub : ∀ y c, cl.lookup y = some c -> X.env.cells.lookup y = some c
 has : ∀ y, ((relabel scope X.env).names.lookup y = some .cell \/ (relabel scope X.env).names.lookup y = some .free) -> ∃ c, cl.lookup y = some c
 nd : N.Nodup
 hN : N[0]? = some x
 hN2 : N[1]? = some x2
 len : N.length = fr.length + 2
 ownOnly : ∀ (j : Nat) (y : Str), N[j + 2]? = some y -> (relabel scope X.env).names.lookup y ≠ some .local
 out : ∀ (j k : Nat), fr[j]? = some k -> ∃ y, N[j + 2]? = some y /\ X.N[k]? = some y /\ X.env.kindOf y = some .cell
def compSt2 (σ : St) (fr : List Nat) (v v2 : Option V) : St := v :: v2 :: fr.map fun k => (σ[k]?).join
def CompPEnd (K : W.Frag) (J : It) (Q : VK) (H1 : Hp) (te : TE) (σ : V -> V -> St) : Prop := ∀ acc, H1 acc = none -> ∃ W : Nat -> Nat -> Hp -> List V -> Prop, (∃ m, W 0 m (upd H1 acc (.lst [])) []) /\
 ∀ i m H' vs, W i m H' vs -> H' acc = some (.lst vs) /\ ((J.stop i H' /\ Q (.ref acc) H') \/ (J.go i H' /\ vs.length < sizeLine /\ ∀ x H2, J.yld i H' x H2 -> ∃ (t : Addr) (v1 v2 : V), x = .ref t /\ SqT K H2 t [v1, v2] /\ te (σ v1 v2) H2 fun y H3 => H3 acc = some (.lst vs) /\ ∃ m', m' < m /\ W (i + 1) m' (upd H3 acc (.lst (vs ++ [y]))) (vs ++ [y])))
def tCompP (K : W.Frag) (wi : TI) (fr : List Nat) (te : TE) : TE := fun σ H Q => wi σ H fun J H1 => CompPEnd K J Q H1 te (fun v1 v2 => compSt2 σ fr (some v1) (some v2))
theorem compLoop_pairIf {P : Program} {w : World} {A : Around} {s : Shared} {elt iter : Expr} {ifs : List Expr} {es : List Expr} {x1 : Nat} {tp : Pos} {scope : Scope} {pos : Pos} {it acc : Value} {env : Env} {R : Result -> Shared -> Prop} (I : Nat -> Shared -> Prop)
  (turn : ∀ n s, I n s -> wpAny (model P w) A (pyNext it) (fun r s₁ => match r with
   | none => R (.ok .next) s₁
   | some v => wpAny (model P w) A (letOwnedTupleGo (.Tuple es x1 tp) it v) (fun _ s₁' => wpAny (model P w) A (assign (.Tuple es x1 tp) env v) (fun _ s₂ =>
     wpAny (model P w) A (forIn ifs true fun c r => if r = true then do let ok <- isTrue c env (eval c env); pure (ForInStep.yield ok) else pure (ForInStep.yield r)) (fun ok s₃ =>
      if ok = true then wpAny (model P w) A (eval elt env) (fun x s₄ =>
       wpAny (model P w) A (call (.builtin "list.append") [acc, x]) (fun _ s₅ => ∃ m, m < n /\ I m s₅) (notedBy (model P w) A env fun e s' => R (.error e) s') s₄) (notedBy (model P w) A env fun e s' => R (.error e) s') s₃
      else ∃ m, m < n /\ I m s₃) (notedBy (model P w) A env fun e s' => R (.error e) s') s₂)
     (notedBy (model P w) A env fun e s' => R (.error e) s') s₁') (notedBy (model P w) A env fun e s' => R (.error e) s') s₁) (notedBy (model P w) A env fun e s' => R (.error e) s') s)
  (n : Nat) (h : I n s) : codeAny (model P w) A (.compLoop (.ListComp elt [⟨.Tuple es x1 tp, iter, ifs, 0⟩] scope pos) 0 it acc env) R s := by
 refine codeAny_loop rfl I (fun m s1 hI => ?_) n h
 show wpAny _ A ((compTurn (.ListComp elt [⟨.Tuple es x1 tp, iter, ifs, 0⟩] scope pos) 0 it acc env).onRaise (fun x => do noteFrame x env; theTreesLotGoes x)) _ _ s1
 refine wpAny_noted ?_
 rw [compTurn_list]
 refine wpAny_bind (wpAny_standAt (wpAny_bind (wpAny_mono (turn m s1 hI) (fun r s2 k2 => ?_) fun _ _ z => z)))
 cases r with
 | none => exact wpAny_pure k2
 | some v =>
  refine wpAny_bind (wpAny_mono k2 (fun _ s3 k3 => ?_) fun _ _ z => z)
  refine wpAny_bind (wpAny_mono k3 (fun _ s4 k4 => wpAny_bind (wpAny_mono k4 (fun ok s5 k5 => ?_) fun _ _ z => z)) fun _ _ z => z)
  cases ok with
  | false => exact wpAny_pure ⟨rfl, k5⟩
  | true =>
   exact wpAny_bind (wpAny_bind (wpAny_mono k5 (fun x s6 k6 => wpAny_bind (wpAny_mono k6 (fun _ s7 k7 => wpAny_pure (wpAny_pure ⟨rfl, k7⟩)) fun _ _ z => z)) fun _ _ z => z))
def CompPIEnd (K : W.Frag) (J : It) (Q : VK) (H1 : Hp) (tc : TT) (te : TE) (σ : V -> V -> St) : Prop := ∀ acc, H1 acc = none -> ∃ W : Nat -> Nat -> Hp -> List V -> Prop, (∃ m, W 0 m (upd H1 acc (.lst [])) []) /\
 ∀ i m H' vs, W i m H' vs -> H' acc = some (.lst vs) /\ ((J.stop i H' /\ Q (.ref acc) H') \/ (J.go i H' /\ vs.length < sizeLine /\ ∀ x H2, J.yld i H' x H2 -> ∃ (t : Addr) (v1 v2 : V), x = .ref t /\ SqT K H2 t [v1, v2] /\ tc (σ v1 v2) H2 fun b H3 =>
  if b = true then te (σ v1 v2) H3 fun y H4 => H4 acc = some (.lst vs) /\ ∃ m', m' < m /\ W (i + 1) m' (upd H4 acc (.lst (vs ++ [y]))) (vs ++ [y]) else ∃ m', m' < m /\ W (i + 1) m' H3 vs))
def tCompPI (K : W.Frag) (wi : TI) (fr : List Nat) (tc : TT) (te : TE) : TE := fun σ H Q => wi σ H fun J H1 => CompPIEnd K J Q H1 tc te (fun v1 v2 => compSt2 σ fr (some v1) (some v2))
section
variable {X : Cx} {N : List Str} {fr : List Nat} {x x2 : Str} {scope : Scope} {cl : List (Str × Addr)} {elt iter : Expr} {px px2 tp pos : Pos} {kt : Nat} {wi : TI} {te : TE}
theorem cxC_ok2 {pins : List (Addr × Obj)} {σ : St} {H : Hp} {s : Shared} {fp : List Addr} {C : Addr} (S : CompScope2 X N fr x x2 scope cl) (I : Inv X pins σ H s) (hf : ∀ b ∈ fp, FpOk X pins H b) (hC : s.heap.objs.size <= C) (hfl : ∀ b ∈ fp, b < s.heap.objs.size) : (cxC X N scope cl C s H fp pins).Ok where
 mod := I.ok.mod
 kind := S.kind
 glob := I.ok.glob
 blt := I.ok.blt
 above := hC
 inj := fun y z c h1 h2 => I.ok.inj y z c (S.sub _ _ h1) (S.sub _ _ h2)
 has := fun y h => S.has y h
 cab := fun y c h => by cases h
 hd := I.ok.hd
 hs := I.ok.hs
 frames := I.ok.frames
 stk := .inl rfl
 exf := fun b hb => ⟨Nat.ne_of_lt (Nat.lt_of_lt_of_le (hfl b hb) hC), fun y c h => (hf b hb).2.2.2.2.1 y c (S.sub _ _ h)⟩
 bs := fun b o e => I.bs b o e
 bsz := Nat.le_trans I.ok.bsz I.sz
 noex := fun b o e hb => by
  rcases (hf b hb).2.2.2.1 with z | z
  ·exact I.ok.noex b o e z
  ·exact absurd (Nat.lt_of_lt_of_le (Heap.lt_size e) (Nat.le_trans I.ok.bsz z)) (Nat.lt_irrefl _)
 exfs := fun b hb z => by
  rcases List.mem_cons.mp (I.stkSub b z) with e | e
  ·exact (hf b hb).2.1 e
  ·exact (hf b hb).2.2.1 e
 funs := I.stack
 frf := I.stkFree
theorem cxC_start2 {pins : List (Addr × Obj)} {σ : St} {H : Hp} {s s4 : Shared} {fp : List Addr} {C : Addr} {m : Str -> Option Value} (S : CompScope2 X N fr x x2 scope cl) (I : Inv X pins σ H s) (hf : ∀ b ∈ fp, FpOk X pins H b) (hC : s.heap.objs.size <= C) (hfl : ∀ b ∈ fp, b < s.heap.objs.size)
  (hn : s4.heap.Ns C m) (hk : ∀ b o, s.heap.get? b = some o -> s4.heap.get? b = some o) (ho : s4.os = s.os) (hg : s4.gens = s.gens) : Inv (cxC X N scope cl C s H fp pins) [] (compSt2 σ fr none none) H s4 := by
 obtain ⟨m0, hn0, hl⟩ := id I.loc
 refine ⟨cxC_ok2 S I hf hC hfl, I.fzs, ho, by rw [hg]; exact I.bare, Un.kept hk, ⟨m, hn, fun i y v e1 e2 e3 => ?_⟩, fun y c h => ?_, I.hok.fresh hC, fun y c h => I.freeC y c (S.sub _ _ h), fun p hp => ?_, I.hok.kept hk, ?_⟩
 ·match i, e1, e2 with
  | 0, e1, e2 => cases e2
  | 1, e1, e2 => cases e2
  | j + 2, e1, e2 =>
   have e2' : (fr.map fun k => (σ[k]?).join)[j]? = some (some v) := e2
   rw [List.getElem?_map] at e2'
   cases ek : fr[j]? with
   | none => rw [ek] at e2'; cases e2'
   | some k =>
    rw [ek] at e2'
    have e4 : (σ[k]?).join = some v := Option.some.inj e2'
    obtain ⟨y', h1, h2, h3⟩ := S.out j k ek
    have e1' : N[j + 2]? = some y := e1
    obtain rfl : y' = y := Option.some.inj (h1.symm.trans e1')
    have e5 : σ[k]? = some (some v) := by
     cases q : σ[k]? with
     | none => rw [q] at e4; cases e4
     | some w => rw [q] at e4; exact congrArg some e4
    obtain ⟨u, r, lk⟩ := hl k y' v h2 e5 (.inr (.inl h3))
    refine ⟨u, r, .inr ?_⟩
    rcases lk with ⟨z, _⟩ | ⟨_, c, hc, hcell⟩
    ·rw [h3] at z; cases z
    ·have e6 : Vis (relabel scope X.env) y' := e3
     have hk2 : (relabel scope X.env).names.lookup y' = some .cell \/ (relabel scope X.env).names.lookup y' = some .free := by
      rcases e6 with e6 | e6 | e6
      ·exfalso
       have nd := S.nd
       -- a name of the block's own is the first one
       exact S.ownOnly _ _ h1 e6
      ·exact .inl e6
      ·exact .inr e6
     obtain ⟨c2, hc2⟩ := S.has y' hk2
     have := S.sub _ _ hc2
     rw [hc] at this; cases this
     obtain ⟨o, z1, z2⟩ := hcell
     exact ⟨hk2, c, hc2, o, hk _ _ z1, z2⟩
 ·obtain ⟨v, o, z1, z2⟩ := I.cell y c (S.sub _ _ h)
  exact ⟨v, o, hk _ _ z1, z2⟩
 ·rw [List.append_nil] at hp
  obtain ⟨e, k, ne, nf, d⟩ := I.pin p hp
  refine ⟨hk _ _ e, k, Nat.ne_of_lt (Nat.lt_of_lt_of_le (Heap.lt_size e) hC), fun z => ?_, d⟩
  rcases List.mem_cons.mp (I.stkSub _ z) with q | q
  ·exact ne q
  ·exact nf q
 ·show (compSt2 σ fr none none).length = N.length
  rw [S.len]
  simp [compSt2]
theorem comp_core2 {ifs : List Expr} {tc : TT} {use : Option (Value -> Sem Unit)} {R : Value -> Shared -> Prop} {Q : VK} {pins : List (Addr × Obj)} {s : Shared} {σ : St} {H : Hp} {ep : Pos} (hc : X.still = true) (S : CompScope2 X N fr x x2 scope cl) (hi : PI X (.Tuple [.Name x px, .Name x2 px2] kt tp) iter wi)
  (ht : ∀ (C : Addr) (s0 : Shared) (H0 : Hp) (fp : List Addr) (pins : List (Addr × Obj)), PTs (cxC X N scope cl C s0 H0 fp pins) ifs tc) (he : ∀ (C : Addr) (s0 : Shared) (H0 : Hp) (fp : List Addr) (pins : List (Addr × Obj)), PE (cxC X N scope cl C s0 H0 fp pins) elt te)
  (hs : ∀ y, foldedSetIterable iter X.env y = pure y) (I : Inv X pins σ H s) (h : tCompPI X.K wi fr tc te σ H Q)
  (fin : ∀ (acc C : Addr) (m : Str -> Option Value) (H6 : Hp) (s7 : Shared), Q (.ref acc) H6 -> s7.heap.Ns C m -> (∀ h' : Heap, Heap.SameBut C s7.heap h' -> Inv X pins σ H6 { s7 with heap := h' }) -> H6 C = none -> X.env.locals ≠ C -> (∀ z c, X.env.cells.lookup z = some c -> c ≠ C) -> (∀ p ∈ X.pn ++ pins, p.1 ≠ C) -> X.s₀.heap.objs.size <= C -> compPost (model X.prog X.w) X.A X.xe use R (.ref acc) C (.ok .next) s7) :
  wpAny (model X.prog X.w) X.A (comprehension (.ListComp elt [⟨.Tuple [.Name x px, .Name x2 px2] kt tp, iter, ifs, 0⟩] scope pos) scope X.env ep (newList []) false (eval iter X.env) use) R X.xe s := by
 refine wpAny_comprehension_free (use := use) rfl hs S.clos S.kind S.loc (thn (hi pins s σ H _ I h) fun v s1 h1 => thn h1 fun itv s2 h2 => ?_)
 obtain ⟨it, fp, tn, J, H2, e, I2, T, st2, f2, hW⟩ := h2
 subst e
 have hfl : ∀ b ∈ fp, b < s2.heap.objs.size := fun b hb => by
  obtain ⟨o, q, _⟩ := T.obj _ _ st2 b hb
  exact Heap.lt_size q
 have hfr : H2 s2.heap.objs.size = none := I2.hok.fresh (Nat.le_refl _)
 refine wpAny_newObj_type ?_
 have keep3 : ∀ b o, s2.heap.get? b = some o -> (s2.heap.push { cls := .type "list", dict := none, data := .seq ([] : List Value).toArray }).get? b = some o := fun b o q => Heap.get?_push_of_some _ q
 have I3 : Inv X pins σ (upd H2 s2.heap.objs.size (.lst [])) { s2 with heap := s2.heap.push { cls := .type "list", dict := none, data := .seq ([] : List Value).toArray } } :=
  I2.laid (t' := s2.toks) keep3 (Nat.le_refl _) ⟨Nat.zero_le _, [], 0, .nil, Heap.get?_push_size _ rfl⟩
 obtain ⟨W, ⟨m0, w0⟩, turn⟩ := hW s2.heap.objs.size hfr
 have f3 : ∀ b ∈ fp, FpOk X pins (upd H2 s2.heap.objs.size (.lst [])) b := fun b hb => ⟨by rw [upd_ne (Nat.ne_of_lt (hfl b hb))]; exact (f2 b hb).1, (f2 b hb).2⟩
 refine wpAny_newFunctionEnv S.nocell (by intro y hy; simp at hy) (fun h4 hns hsb => ?_) S.kind
 have hfl3 : ∀ b ∈ fp, b < (s2.heap.push { cls := .type "list", dict := none, data := .seq ([] : List Value).toArray }).objs.size := fun b hb => by
  rw [Heap.size_push]
  exact Nat.lt_succ_of_lt (hfl b hb)
 have keep4 : ∀ b o, (s2.heap.push { cls := .type "list", dict := none, data := .seq ([] : List Value).toArray }).get? b = some o -> h4.get? b = some o := fun b o q =>
  (hsb.2 b (Nat.ne_of_lt (Heap.lt_size q))).trans (Heap.get?_push_of_some _ q)
 have I4 : Inv (cxC X N scope cl (s2.heap.push { cls := .type "list", dict := none, data := .seq ([] : List Value).toArray }).objs.size { s2 with heap := s2.heap.push { cls := .type "list", dict := none, data := .seq ([] : List Value).toArray } } (upd H2 s2.heap.objs.size (.lst [])) fp pins) [] (compSt2 σ fr none none) (upd H2 s2.heap.objs.size (.lst []))
   { s2 with heap := h4, toks := s2.toks + ([] : List (Str × Value)).length } := cxC_start2 S I3 f3 (Nat.le_refl _) hfl3 hns keep4 rfl rfl
 have st4 : tn 0 h4 := T.keep _ _ _ st2 fun b hb o q => keep4 b o (keep3 b o q)
 generalize hY : cxC X N scope cl (s2.heap.push { cls := .type "list", dict := none, data := .seq ([] : List Value).toArray }).objs.size { s2 with heap := s2.heap.push { cls := .type "list", dict := none, data := .seq ([] : List Value).toArray } } (upd H2 s2.heap.objs.size (.lst [])) fp pins = Y at I4
 have hel : PE Y elt te := hY ▸ he _ _ _ _ _
 have htl : PTs Y ifs tc := hY ▸ ht _ _ _ _ _
 have eA : Y.A = X.A := by rw [<- hY]; rfl
 have eP : Y.prog = X.prog := by rw [<- hY]; rfl
 have ew : Y.w = X.w := by rw [<- hY]; rfl
 have eK : Y.K = X.K := by rw [<- hY]; rfl
 have eC : Y.still = true := by rw [<- hY]; exact hc
 have eE : Y.env = compEnvC scope cl (s2.heap.push { cls := .type "list", dict := none, data := .seq ([] : List Value).toArray }).objs.size X.env := by rw [<- hY]; rfl
 have eX : Y.xe = fun _ _ => False := by rw [<- hY]; rfl
 have hg : PG Y (.Tuple [.Name x px, .Name x2 px2] kt tp) (gTup Y.K 2 (gCons (gName 0) (gCons (gName 1) gNil))) := by
  refine pg_tup eC (pgs_cons ?_ (pgs_cons ?_ pgs_nil)) (by rfl) (by rfl)
  ·subst hY
   exact pg_name (i := 0) S.nd S.hN (.inl (lookup_relabel_local S.own)) (.inr (lookup_relabel_local S.own))
  ·subst hY
   exact pg_name (i := 1) S.nd S.hN2 (.inl (lookup_relabel_local S.own2)) (.inr (lookup_relabel_local S.own2))
 have fY : ∀ {H' : Hp}, (∀ b ∈ fp, H' b = none) -> ∀ b ∈ fp, FpOk Y [] H' b := fun {H'} hn b hb => by
  subst hY
  obtain ⟨_, g2, g3, g4, g5, g6⟩ := f3 b hb
  refine ⟨hn b hb, Nat.ne_of_lt (hfl3 b hb), fun z => ?_, .inl hb, fun y c q => g5 y c (S.sub _ _ q), fun p hp => ?_⟩
  ·rcases List.mem_cons.mp (I3.stkSub b z) with q | q
   ·exact g2 q
   ·exact g3 q
  ·rw [List.append_nil] at hp
   exact g6 p hp
 have loop : ∀ s5 : Shared, s5 = { s2 with heap := h4, toks := s2.toks + ([] : List (Str × Value)).length } ->
   codeAny (model X.prog X.w) X.A (.compLoop (.ListComp elt [⟨.Tuple [.Name x px, .Name x2 px2] kt tp, iter, ifs, 0⟩] scope pos) 0 (.ref it) (.ref s2.heap.objs.size) (compEnvC scope cl (s2.heap.push { cls := .type "list", dict := none, data := .seq ([] : List Value).toArray }).objs.size X.env))
    (compPost (model X.prog X.w) X.A X.xe use R (.ref s2.heap.objs.size) (s2.heap.push { cls := .type "list", dict := none, data := .seq ([] : List Value).toArray }).objs.size) s5 := by
  rintro s5 rfl
  refine compLoop_pairIf (fun n s' => ∃ i v v2 H' vs, Inv Y [] (compSt2 σ fr v v2) H' s' /\ tn i s'.heap /\ (∀ b ∈ fp, H' b = none) /\ W i n H' vs) ?_ m0 ⟨0, none, none, _, [], I4, st4, fun b hb => (f3 b hb).1, w0⟩
  rintro n s6 ⟨i, v6, v62, H6, vs, I6, st6, fr6, w6⟩
  obtain ⟨hacc, hgo⟩ := turn i n H6 vs w6
  rcases hgo with ⟨stop, qn⟩ | ⟨go, hz, step⟩
  ·have hd := T.done Y eP ew eK eC i [] s6 _ H6 (fun _ _ => False) I6 (fY fr6) st6 stop
   rw [eA] at hd
   refine wpAny_mono hd (fun r s7 ⟨hr, I7⟩ => ?_) fun _ _ z => z.elim
   subst hr
   obtain ⟨m, hn, _⟩ := id I7.loc
   rw [eE] at hn
   have hend : ∀ h' : Heap, Heap.SameBut (s2.heap.push { cls := .type "list", dict := none, data := .seq ([] : List Value).toArray }).objs.size s7.heap h' -> Inv X pins σ H6 { s7 with heap := h' } := fun h' hs' => by
    subst hY
    exact cxC_end I3 f3 (Nat.le_refl _) I7 hs'
   have cf : H6 (s2.heap.push { cls := .type "list", dict := none, data := .seq ([] : List Value).toArray }).objs.size = none := by
    subst hY
    exact I7.free
   have big : ∀ b o, s2.heap.get? b = some o -> b ≠ (s2.heap.push { cls := .type "list", dict := none, data := .seq ([] : List Value).toArray }).objs.size := fun b o q => Nat.ne_of_lt (by rw [Heap.size_push]; exact Nat.lt_succ_of_lt (Heap.lt_size q))
   obtain ⟨m2, hn2, _⟩ := id I2.loc
   obtain ⟨oL, _, _, hoL, _⟩ := id hn2
   exact fin _ _ m H6 s7 qn hn hend cf (big _ _ hoL) (fun z c q => by
    obtain ⟨_, o, w1, _⟩ := I2.cell z c q
    exact big _ _ w1) (fun p hp => by
    obtain ⟨e, _⟩ := I2.pin p hp
    exact big _ _ e) (by
    rw [Heap.size_push]
    exact Nat.le_succ_of_le (Nat.le_trans (Nat.le_refl _) I2.sz))
  ·have hd := T.item Y eP ew eK eC i [] s6 _ H6 (fun _ _ => False) I6 (fY fr6) st6 go
   rw [eA] at hd
   refine wpAny_mono hd (fun r s7 ⟨u, hr, h7⟩ => ?_) fun _ _ z => z.elim
   subst hr
   refine wpAny_mono h7 (fun _ s8 ⟨y, H8, I8, r8, y8, st8, fr8⟩ => ?_) fun _ _ z => z.elim
   have I8' := I8.pinned (fY fr8) (T.obj _ _ st8)
   obtain ⟨ta, va, vb, ey, hta, step'⟩ := step y _ y8
   have h9 := hg _ s8 _ H8 y u (fun σ9 H9 => σ9 = compSt2 σ fr (some va) (some vb) /\ H9 = H8) I8' r8 ⟨ta, [va, vb], ey, by rw [eK]; exact hta, rfl, va, [vb], rfl, vb, [], rfl, rfl, rfl, rfl⟩
   rw [eA, eP, ew, eE, eX] at h9
   refine wpAny_mono h9 (fun _ s9 ⟨σ9, H9, I9, e9, e9'⟩ => ?_) fun _ _ z => z.elim
   subst e9 e9'
   have ht10 := htl _ s9 _ _ _ I9 step'
   rw [eA, eP, ew, eE, eX] at ht10
   refine wpAny_mono ht10 (fun ok s9t ⟨H9t, I9t, q9t⟩ => ?_) fun _ _ z => z.elim
   cases ok with
   | false =>
    rw [if_neg Bool.false_ne_true] at q9t
    rw [if_neg Bool.false_ne_true]
    obtain ⟨m', hm, w10⟩ := q9t
    refine ⟨m', hm, i + 1, some va, some vb, _, vs, I9t.unpinned, T.keep _ _ _ st8 fun b hb o q => (I9t.pin (b, o) (List.mem_append_right _ (List.mem_append_right _ (mem_pinsAt hb q)))).1, fun b hb => ?_, w10⟩
    obtain ⟨o, q, _⟩ := T.obj _ _ st8 b hb
    exact (I9t.pin (b, o) (List.mem_append_right _ (List.mem_append_right _ (mem_pinsAt hb q)))).2.1
   | true =>
   rw [if_pos rfl] at q9t
   rw [if_pos rfl]
   have h10 := hel _ s9t _ _ _ I9t q9t
   rw [eA, eP, ew, eE, eX] at h10
   refine wpAny_mono h10 (fun u10 s10 ⟨z10, H10, I10, r10, a10, m', hm, w10⟩ => ?_) fun _ _ z => z.elim
   have h11 := mt_append _ s10 _ H10 (.ref s2.heap.objs.size) [z10] (.ref s2.heap.objs.size) [u10] (fun _ H11 => H11 = upd H10 s2.heap.objs.size (.lst (vs ++ [z10]))) I10 rfl (.cons r10 .nil) ⟨_, vs, z10, rfl, rfl, a10, hz, rfl⟩
   rw [eA, eP, ew, eX] at h11
   refine wpAny_mono h11 (fun _ s11 ⟨_, H11, I11, _, e11⟩ => ?_) fun _ _ z => z.elim
   subst e11
   refine ⟨m', hm, i + 1, some va, some vb, _, vs ++ [z10], I11.unpinned, T.keep _ _ _ st8 fun b hb o q => (I11.pin (b, o) (List.mem_append_right _ (List.mem_append_right _ (mem_pinsAt hb q)))).1, fun b hb => ?_, w10⟩
   obtain ⟨o, q, _⟩ := T.obj _ _ st8 b hb
   exact (I11.pin (b, o) (List.mem_append_right _ (List.mem_append_right _ (mem_pinsAt hb q)))).2.1
 exact codeAny_compStart_list (loop _ rfl) (T.self _ 0 _ _ _ st4 (loop _ rfl))
theorem pe_compPair (hc : X.still = true) (S : CompScope2 X N fr x x2 scope cl) (hi : PI X (.Tuple [.Name x px, .Name x2 px2] kt tp) iter wi) (he : ∀ (C : Addr) (s0 : Shared) (H0 : Hp) (fp : List Addr) (pins : List (Addr × Obj)), PE (cxC X N scope cl C s0 H0 fp pins) elt te)
  (hs : ∀ y, foldedSetIterable iter X.env y = pure y := by intro _; rfl) : PE X (.ListComp elt [⟨.Tuple [.Name x px, .Name x2 px2] kt tp, iter, [], 0⟩] scope pos) (tCompP X.K wi fr te) := by
 intro pins s σ H Q I h
 rw [eval_ListComp]
 exact comp_core2 (tc := fun _ H Q => Q true H) (use := none) hc S hi (fun _ _ _ _ _ => pts_nil) he hs I h fun acc C m H6 s7 qn hn hend _ _ _ _ _ => ⟨m, hn, fun h' hs' => ⟨.ref acc, H6, hend h' hs', rfl, qn⟩⟩
end
end L2
namespace L2
open PySem PySem.Spec PyProof.Rows
structure CompScopeK (X : Cx) (N : List Str) (fr : List Nat) (x : Str) (scope : Scope) (cl : List (Str × Addr)) : Prop where
 kind : scope.kind = .function
 hcf : ∀ n : Nat, cellsFrom n scope.names cl = (x, n) :: cl
 hpc : ∀ h : Heap, pushCells h scope.names = h.push { cls := .type "cell", data := .cell none }
 loc : ∀ y ∈ scope.names, y.2 = .local -> scope.names.lookup y.1 = some .local
 own : (relabel scope X.env).names.lookup x = some .cell
 clos : closureFor scope X.env = pure cl
 sub : ∀ y c, cl.lookup y = some c -> X.env.cells.lookup y = some c
 has : ∀ y, ((relabel scope X.env).names.lookup y = some .cell \/ (relabel scope X.env).names.lookup y = some .free) -> y = x \/ ∃ c, cl.lookup y = some c
 nd : N.Nodup
 hN : N[0]? = some x
 len : N.length = fr.length + 1
 ownOnly : ∀ (j : Nat) (y : Str), N[j + 1]? = some y -> (relabel scope X.env).names.lookup y ≠ some .local
 out : ∀ (j k : Nat), fr[j]? = some k -> ∃ y, N[j + 1]? = some y /\ X.N[k]? = some y /\ X.env.kindOf y = some .cell
def cxK (X : Cx) (N : List Str) (x : Str) (scope : Scope) (cl : List (Str × Addr)) (C : Addr) (s0 : Shared) (H0 : Hp) (fp : List Addr) (pins : List (Addr × Obj)) : Cx :=
 { X with N := N, s₀ := s0, H₀ := H0, env := compEnvC scope ((x, C + 1) :: cl) C X.env, outer := X.stack, ex := fp, fn := fun y => y == x, pn := X.pn ++ pins, xe := fun _ _ => False }
theorem lookK {x y : Str} {n : Addr} {cl : List (Str × Addr)} {c : Addr} (h : ((x, n) :: cl).lookup y = some c) : (y = x /\ c = n) \/ (y ≠ x /\ cl.lookup y = some c) := by
 rw [List.lookup_cons] at h
 by_cases e : y = x
 ·subst e
  simp at h
  exact .inl ⟨rfl, h.symm⟩
 ·have : (y == x) = false := by simpa using e
  rw [this] at h
  exact .inr ⟨e, h⟩
theorem lookK_ne {x y : Str} {n : Addr} {cl : List (Str × Addr)} {c : Addr} (e : y ≠ x) (h : cl.lookup y = some c) : ((x, n) :: cl).lookup y = some c := by
 rw [List.lookup_cons]
 have : (y == x) = false := by simpa using e
 rw [this]
 exact h
theorem newEnvK {M : Model} {A : Around} {E : Value -> Shared -> Prop} {s : Shared} {scope : Scope} {globals : Addr} {cl : List (Str × Addr)} {x : Str} {qual : Str} {code : Value} {env : Env} {builtins : Addr} {Q : Env -> Shared -> Prop}
  (hcf : ∀ n : Nat, cellsFrom n scope.names cl = (x, n) :: cl) (hpc : ∀ h : Heap, pushCells h scope.names = h.push { cls := .type "cell", data := .cell none })
  (hQ : Q (newEnv scope s.heap.objs.size globals ((x, s.heap.objs.size + 1) :: cl) qual none code (some env) builtins) { s with heap := (s.heap.push { cls := .type "dict", data := .dict #[] }).push { cls := .type "cell", data := .cell none } }) :
  wpAny M A (newFunctionEnv scope globals cl [] qual none code (some env) builtins) Q E s := by
 simp only [newFunctionEnv, Option.isSome_some, if_true]
 refine wpAny_bind (wpAny_alloc ?_)
 refine wpAny_bind (wpAny_layCells _ (fun name kind cells => by cases hkc : kind == NameKind.cell <;> simp [hkc]) _ _ _ _ ?_)
 rw [show ({ s with heap := s.heap.push { cls := .type "dict", data := .dict #[] } } : Shared).heap.objs.size = s.heap.objs.size + 1 from Heap.size_push ..]
 rw [hcf, hpc]
 refine wpAny_bind ?_
 rw [List.forIn_nil]
 exact wpAny_pure (wpAny_pure hQ)
section
variable {X : Cx} {N : List Str} {fr : List Nat} {x : Str} {scope : Scope} {cl : List (Str × Addr)} {elt iter : Expr} {px pos : Pos} {wi : TI} {te : TE}
theorem cxK_ok {pins : List (Addr × Obj)} {σ : St} {H : Hp} {s : Shared} {fp : List Addr} {C : Addr} (S : CompScopeK X N fr x scope cl) (I : Inv X pins σ H s) (hf : ∀ b ∈ fp, FpOk X pins H b) (hC : s.heap.objs.size <= C) (hfl : ∀ b ∈ fp, b < s.heap.objs.size) : (cxK X N x scope cl C s H fp pins).Ok where
 mod := I.ok.mod
 kind := S.kind
 glob := I.ok.glob
 blt := I.ok.blt
 above := hC
 inj := fun y z c h1 h2 => by
  have low : ∀ y, cl.lookup y = some c -> c ≠ C + 1 := fun y q => by
   obtain ⟨v, o, z1, _⟩ := I.cell y c (S.sub _ _ q)
   exact Nat.ne_of_lt (Nat.lt_succ_of_lt (Nat.lt_of_lt_of_le (Heap.lt_size z1) hC))
  rcases lookK h1 with ⟨a1, a2⟩ | ⟨_, a2⟩ <;> rcases lookK h2 with ⟨b1, b2⟩ | ⟨_, b2⟩
  ·rw [a1, b1]
  ·exact absurd a2 (low _ b2)
  ·exact absurd b2 (low _ a2)
  ·exact I.ok.inj y z c (S.sub _ _ a2) (S.sub _ _ b2)
 has := fun y h => by
  by_cases e : y = x
  ·subst e
   exact ⟨C + 1, by show List.lookup y ((y, C + 1) :: cl) = some (C + 1); simp⟩
  ·rcases S.has y h with z | ⟨c, z⟩
   ·exact absurd z e
   ·exact ⟨c, lookK_ne e z⟩
 cab := fun y c hf h => by
  have e : y = x := by simpa [cxK] using hf
  rcases lookK h with ⟨_, a⟩ | ⟨a, _⟩
  ·rw [a]
   exact Nat.le_succ_of_le hC
  ·exact absurd e a
 hd := I.ok.hd
 hs := I.ok.hs
 frames := I.ok.frames
 stk := .inl rfl
 exf := fun b hb => ⟨Nat.ne_of_lt (Nat.lt_of_lt_of_le (hfl b hb) hC), fun y c h => by
  rcases lookK h with ⟨_, a⟩ | ⟨_, a⟩
  ·rw [a]
   exact Nat.ne_of_gt (Nat.lt_succ_of_lt (Nat.lt_of_lt_of_le (hfl b hb) hC))
  ·exact (hf b hb).2.2.2.2.1 y c (S.sub _ _ a)⟩
 bs := fun b o e => I.bs b o e
 bsz := Nat.le_trans I.ok.bsz I.sz
 noex := fun b o e hb => by
  rcases (hf b hb).2.2.2.1 with z | z
  ·exact I.ok.noex b o e z
  ·exact absurd (Nat.lt_of_lt_of_le (Heap.lt_size e) (Nat.le_trans I.ok.bsz z)) (Nat.lt_irrefl _)
 exfs := fun b hb z => by
  rcases List.mem_cons.mp (I.stkSub b z) with e | e
  ·exact (hf b hb).2.1 e
  ·exact (hf b hb).2.2.1 e
 funs := I.stack
 frf := I.stkFree
theorem cxK_start {pins : List (Addr × Obj)} {σ : St} {H : Hp} {s s4 : Shared} {fp : List Addr} {C : Addr} {m : Str -> Option Value} (S : CompScopeK X N fr x scope cl) (I : Inv X pins σ H s) (hf : ∀ b ∈ fp, FpOk X pins H b) (hC : s.heap.objs.size <= C) (hfl : ∀ b ∈ fp, b < s.heap.objs.size)
  (hn : s4.heap.Ns C m) (hce : s4.heap.IsCell (C + 1) none) (hk : ∀ b o, s.heap.get? b = some o -> s4.heap.get? b = some o) (ho : s4.os = s.os) (hg : s4.gens = s.gens) : Inv (cxK X N x scope cl C s H fp pins) [] (compSt σ fr none) H s4 := by
 obtain ⟨m0, hn0, hl⟩ := id I.loc
 refine ⟨cxK_ok S I hf hC hfl, I.fzs, ho, by rw [hg]; exact I.bare, Un.kept hk, ⟨m, hn, fun i y v e1 e2 e3 => ?_⟩, fun y c h => ?_, I.hok.fresh hC, fun y c h => (by
   rcases lookK h with ⟨_, a⟩ | ⟨_, a⟩
   ·rw [a]; exact I.hok.fresh (Nat.le_succ_of_le hC)
   ·exact I.freeC y c (S.sub _ _ a)), fun p hp => ?_, I.hok.kept hk, ?_⟩
 ·cases i with
  | zero => cases e2
  | succ j =>
   have e2' : (fr.map fun k => (σ[k]?).join)[j]? = some (some v) := e2
   rw [List.getElem?_map] at e2'
   cases ek : fr[j]? with
   | none => rw [ek] at e2'; cases e2'
   | some k =>
    rw [ek] at e2'
    have e4 : (σ[k]?).join = some v := Option.some.inj e2'
    obtain ⟨y', h1, h2, h3⟩ := S.out j k ek
    have e1' : N[j + 1]? = some y := e1
    obtain rfl : y' = y := Option.some.inj (h1.symm.trans e1')
    have e5 : σ[k]? = some (some v) := by
     cases q : σ[k]? with
     | none => rw [q] at e4; cases e4
     | some w => rw [q] at e4; exact congrArg some e4
    obtain ⟨u, r, lk⟩ := hl k y' v h2 e5 (.inr (.inl h3))
    refine ⟨u, r, .inr ?_⟩
    rcases lk with ⟨z, _⟩ | ⟨_, c, hc, hcell⟩
    ·rw [h3] at z; cases z
    ·have e6 : Vis (relabel scope X.env) y' := e3
     have hk2 : (relabel scope X.env).names.lookup y' = some .cell \/ (relabel scope X.env).names.lookup y' = some .free := by
      rcases e6 with e6 | e6 | e6
      ·exfalso
       have nd := S.nd
       -- a name of the block's own is the first one
       exact S.ownOnly _ _ h1 e6
      ·exact .inl e6
      ·exact .inr e6
     have nx : y' ≠ x := fun z => by
      have := nodup_ix S.nd h1 (z ▸ S.hN)
      exact absurd this (Nat.succ_ne_zero _)
     obtain ⟨c2, hc2⟩ := (S.has y' hk2).resolve_left nx
     have := S.sub _ _ hc2
     rw [hc] at this; cases this
     obtain ⟨o, z1, z2⟩ := hcell
     exact ⟨hk2, c, lookK_ne nx hc2, o, hk _ _ z1, z2⟩
 ·rcases lookK h with ⟨_, a⟩ | ⟨_, a⟩
  ·rw [a]; exact ⟨none, hce⟩
  ·obtain ⟨v, o, z1, z2⟩ := I.cell y c (S.sub _ _ a)
   exact ⟨v, o, hk _ _ z1, z2⟩
 ·rw [List.append_nil] at hp
  obtain ⟨e, k, ne, nf, d⟩ := I.pin p hp
  refine ⟨hk _ _ e, k, Nat.ne_of_lt (Nat.lt_of_lt_of_le (Heap.lt_size e) hC), fun z => ?_, d⟩
  rcases List.mem_cons.mp (I.stkSub _ z) with q | q
  ·exact ne q
  ·exact nf q
 ·show (compSt σ fr none).length = N.length
  rw [S.len]
  simp [compSt]
theorem cxK_end {pins : List (Addr × Obj)} {σ σ' : St} {H H' : Hp} {s s' : Shared} {fp : List Addr} {C : Addr} {h' : Heap} (I : Inv X pins σ H s) (hf : ∀ b ∈ fp, FpOk X pins H b) (hC : s.heap.objs.size <= C) (J : Inv (cxK X N x scope cl C s H fp pins) [] σ' H' s') (hs : Heap.SameBut C s'.heap h') :
  Inv X pins σ H' { s' with heap := h' } := by
 have ne : ∀ b o, s.heap.get? b = some o -> b ≠ C := fun b o e => Nat.ne_of_lt (Nat.lt_of_lt_of_le (Heap.lt_size e) hC)
 have u : Un (frs X.stack) fp H H' s.heap s'.heap := J.base
 have u2 : Un (frs X.stack) fp H H' s.heap h' := ⟨fun b o e n hb hx => (hs.2 b (ne b o e)).trans (u.keep b o e n hb hx), fun b o e n hb hx => (by
   obtain ⟨sl, q⟩ := u.slot b o e n hb hx
   exact ⟨sl, (hs.2 b (ne b o e)).trans q⟩), u.free, fun b o e hx => (by
   obtain ⟨o', q⟩ := u.there b o e hx
   exact ⟨o', (hs.2 b (ne b o e)).trans q⟩), u.tups, u.frzs, u.tbls⟩
 have nC : H' C = none := J.free
 refine I.call' (s' := { s' with heap := h' }) (ch := fp) J.os u2 (J.hok.onward fun b o hb q => (hs.2 b fun z => hb (z ▸ nC)).trans q) J.bare fun b hb => ?_
 obtain ⟨_, f2, _, f4, f5, f6⟩ := hf b hb
 exact ⟨f4, f2, f5, f6⟩
theorem pe_compK (hc : X.still = true) (S : CompScopeK X N fr x scope cl) (hi : PI X (.Name x px) iter wi) (he : ∀ (C : Addr) (s0 : Shared) (H0 : Hp) (fp : List Addr) (pins : List (Addr × Obj)), PE (cxK X N x scope cl C s0 H0 fp pins) elt te)
  (hs : ∀ y, foldedSetIterable iter X.env y = pure y := by intro _; rfl) : PE X (.ListComp elt [⟨.Name x px, iter, [], 0⟩] scope pos) (tCompC wi fr te) := by
 intro pins s σ H Q I h
 rw [eval_ListComp]
 refine wpAny_comprehension_free (use := none) rfl hs S.clos S.kind S.loc (thn (hi pins s σ H _ I h) fun v s1 h1 => thn h1 fun itv s2 h2 => ?_)
 obtain ⟨it, fp, tn, J, H2, e, I2, T, st2, f2, hW⟩ := h2
 subst e
 have hfl : ∀ b ∈ fp, b < s2.heap.objs.size := fun b hb => by
  obtain ⟨o, q, _⟩ := T.obj _ _ st2 b hb
  exact Heap.lt_size q
 have hfr : H2 s2.heap.objs.size = none := I2.hok.fresh (Nat.le_refl _)
 refine wpAny_newObj_type ?_
 have keep3 : ∀ b o, s2.heap.get? b = some o -> (s2.heap.push { cls := .type "list", dict := none, data := .seq ([] : List Value).toArray }).get? b = some o := fun b o q => Heap.get?_push_of_some _ q
 have I3 : Inv X pins σ (upd H2 s2.heap.objs.size (.lst [])) { s2 with heap := s2.heap.push { cls := .type "list", dict := none, data := .seq ([] : List Value).toArray } } :=
  I2.laid (t' := s2.toks) keep3 (Nat.le_refl _) ⟨Nat.zero_le _, [], 0, .nil, Heap.get?_push_size _ rfl⟩
 obtain ⟨W, ⟨m0, w0⟩, turn⟩ := hW s2.heap.objs.size hfr
 have f3 : ∀ b ∈ fp, FpOk X pins (upd H2 s2.heap.objs.size (.lst [])) b := fun b hb => ⟨by rw [upd_ne (Nat.ne_of_lt (hfl b hb))]; exact (f2 b hb).1, (f2 b hb).2⟩
 refine newEnvK S.hcf S.hpc ?_
 generalize hh4 : ((s2.heap.push { cls := .type "list", dict := none, data := .seq ([] : List Value).toArray }).push { cls := .type "dict", data := .dict #[] }).push { cls := .type "cell", data := .cell none } = h4
 have hns : h4.Ns (s2.heap.push { cls := .type "list", dict := none, data := .seq ([] : List Value).toArray }).objs.size (fun _ => none) := by
  rw [<- hh4]
  exact (Heap.Ns.new (s2.heap.push { cls := .type "list", dict := none, data := .seq ([] : List Value).toArray }) (.type "dict")).keeps fun b o q => Heap.get?_push_of_some _ q
 have hce : h4.IsCell ((s2.heap.push { cls := .type "list", dict := none, data := .seq ([] : List Value).toArray }).objs.size + 1) none := by
  rw [<- hh4]
  exact ⟨_, Heap.get?_push_at (by simp only [Heap.size_push]) rfl, rfl⟩
 have hfl3 : ∀ b ∈ fp, b < (s2.heap.push { cls := .type "list", dict := none, data := .seq ([] : List Value).toArray }).objs.size := fun b hb => by
  rw [Heap.size_push]
  exact Nat.lt_succ_of_lt (hfl b hb)
 have keep4 : ∀ b o, (s2.heap.push { cls := .type "list", dict := none, data := .seq ([] : List Value).toArray }).get? b = some o -> h4.get? b = some o := fun b o q => by
  rw [<- hh4]
  exact Heap.get?_push_of_some _ (Heap.get?_push_of_some _ q)
 have I4 : Inv (cxK X N x scope cl (s2.heap.push { cls := .type "list", dict := none, data := .seq ([] : List Value).toArray }).objs.size { s2 with heap := s2.heap.push { cls := .type "list", dict := none, data := .seq ([] : List Value).toArray } } (upd H2 s2.heap.objs.size (.lst [])) fp pins) [] (compSt σ fr none) (upd H2 s2.heap.objs.size (.lst []))
   { s2 with heap := h4 } := cxK_start S I3 f3 (Nat.le_refl _) hfl3 hns hce keep4 rfl rfl
 have st4 : tn 0 h4 := T.keep _ _ _ st2 fun b hb o q => keep4 b o (keep3 b o q)
 generalize hY : cxK X N x scope cl (s2.heap.push { cls := .type "list", dict := none, data := .seq ([] : List Value).toArray }).objs.size { s2 with heap := s2.heap.push { cls := .type "list", dict := none, data := .seq ([] : List Value).toArray } } (upd H2 s2.heap.objs.size (.lst [])) fp pins = Y at I4
 have hel : PE Y elt te := hY ▸ he _ _ _ _ _
 have eA : Y.A = X.A := by rw [<- hY]; rfl
 have eP : Y.prog = X.prog := by rw [<- hY]; rfl
 have ew : Y.w = X.w := by rw [<- hY]; rfl
 have eK : Y.K = X.K := by rw [<- hY]; rfl
 have eC : Y.still = true := by rw [<- hY]; exact hc
 have eE : Y.env = compEnvC scope ((x, (s2.heap.push { cls := .type "list", dict := none, data := .seq ([] : List Value).toArray }).objs.size + 1) :: cl) (s2.heap.push { cls := .type "list", dict := none, data := .seq ([] : List Value).toArray }).objs.size X.env := by rw [<- hY]; rfl
 have eX : Y.xe = fun _ _ => False := by rw [<- hY]; rfl
 have hg : PG Y (.Name x px) (gName 0) := by
  subst hY
  exact pg_name (i := 0) S.nd S.hN (.inr S.own) (.inl (by simp [cxK]))
 have fY : ∀ {H' : Hp}, (∀ b ∈ fp, H' b = none) -> ∀ b ∈ fp, FpOk Y [] H' b := fun {H'} hn b hb => by
  subst hY
  obtain ⟨_, g2, g3, g4, g5, g6⟩ := f3 b hb
  refine ⟨hn b hb, Nat.ne_of_lt (hfl3 b hb), fun z => ?_, .inl hb, fun y c q => (by
   rcases lookK q with ⟨_, a⟩ | ⟨_, a⟩
   ·rw [a]; exact Nat.ne_of_gt (Nat.lt_succ_of_lt (hfl3 b hb))
   ·exact g5 y c (S.sub _ _ a)), fun p hp => ?_⟩
  ·rcases List.mem_cons.mp (I3.stkSub b z) with q | q
   ·exact g2 q
   ·exact g3 q
  ·rw [List.append_nil] at hp
   exact g6 p hp
 have loop : ∀ s5 : Shared, s5 = { s2 with heap := h4 } ->
   codeAny (model X.prog X.w) X.A (.compLoop (.ListComp elt [⟨.Name x px, iter, [], 0⟩] scope pos) 0 (.ref it) (.ref s2.heap.objs.size) (compEnvC scope ((x, (s2.heap.push { cls := .type "list", dict := none, data := .seq ([] : List Value).toArray }).objs.size + 1) :: cl) (s2.heap.push { cls := .type "list", dict := none, data := .seq ([] : List Value).toArray }).objs.size X.env))
    (compPost (model X.prog X.w) X.A X.xe none (EP X pins σ Q) (.ref s2.heap.objs.size) (s2.heap.push { cls := .type "list", dict := none, data := .seq ([] : List Value).toArray }).objs.size) s5 := by
  rintro s5 rfl
  refine codeAny_compLoop_list (fun n s' => ∃ i v H' vs, Inv Y [] (compSt σ fr v) H' s' /\ tn i s'.heap /\ (∀ b ∈ fp, H' b = none) /\ W i n H' vs) ?_ m0 ⟨0, none, _, [], I4, st4, fun b hb => (f3 b hb).1, w0⟩
  rintro n s6 ⟨i, v6, H6, vs, I6, st6, fr6, w6⟩
  obtain ⟨hacc, hgo⟩ := turn i n H6 vs w6
  rcases hgo with ⟨stop, qn⟩ | ⟨go, hz, step⟩
  ·have hd := T.done Y eP ew eK eC i [] s6 _ H6 (fun _ _ => False) I6 (fY fr6) st6 stop
   rw [eA] at hd
   refine wpAny_mono hd (fun r s7 ⟨hr, I7⟩ => ?_) fun _ _ z => z.elim
   subst hr
   obtain ⟨m, hn, _⟩ := id I7.loc
   rw [eE] at hn
   refine ⟨m, hn, fun h' hs' => ⟨.ref s2.heap.objs.size, H6, ?_, rfl, qn⟩⟩
   subst hY
   exact cxK_end I3 f3 (Nat.le_refl _) I7 hs'
  ·have hd := T.item Y eP ew eK eC i [] s6 _ H6 (fun _ _ => False) I6 (fY fr6) st6 go
   rw [eA] at hd
   refine wpAny_mono hd (fun r s7 ⟨u, hr, h7⟩ => ?_) fun _ _ z => z.elim
   subst hr
   show wpAny _ _ ((pure () : Sem Unit) >>= fun _ => assign (.Name x px) _ u) _ _ s7
   refine wpAny_bind (wpAny_mono h7 (fun _ s8 ⟨y, H8, I8, r8, y8, st8, fr8⟩ => ?_) fun _ _ z => z.elim)
   have I8' := I8.pinned (fY fr8) (T.obj _ _ st8)
   have h9 := hg _ s8 _ H8 y u (fun σ9 H9 => σ9 = compSt σ fr (some y) /\ H9 = H8) I8' r8 ⟨rfl, rfl⟩
   rw [eA, eP, ew, eE, eX] at h9
   refine wpAny_mono h9 (fun _ s9 ⟨σ9, H9, I9, e9, e9'⟩ => ?_) fun _ _ z => z.elim
   subst e9 e9'
   have h10 := hel _ s9 _ _ _ I9 (step y _ y8)
   rw [eA, eP, ew, eE, eX] at h10
   refine wpAny_mono h10 (fun u10 s10 ⟨z10, H10, I10, r10, a10, m', hm, w10⟩ => ?_) fun _ _ z => z.elim
   have h11 := mt_append _ s10 _ H10 (.ref s2.heap.objs.size) [z10] (.ref s2.heap.objs.size) [u10] (fun _ H11 => H11 = upd H10 s2.heap.objs.size (.lst (vs ++ [z10]))) I10 rfl (.cons r10 .nil) ⟨_, vs, z10, rfl, rfl, a10, hz, rfl⟩
   rw [eA, eP, ew, eX] at h11
   refine wpAny_mono h11 (fun _ s11 ⟨_, H11, I11, _, e11⟩ => ?_) fun _ _ z => z.elim
   subst e11
   refine ⟨m', hm, i + 1, some y, _, vs ++ [z10], I11.unpinned, T.keep _ _ _ st8 fun b hb o q => (I11.pin (b, o) (List.mem_append_right _ (List.mem_append_right _ (mem_pinsAt hb q)))).1, fun b hb => ?_, w10⟩
   obtain ⟨o, q, _⟩ := T.obj _ _ st8 b hb
   exact (I11.pin (b, o) (List.mem_append_right _ (List.mem_append_right _ (mem_pinsAt hb q)))).2.1
 exact codeAny_compStart_list (loop _ rfl) (T.self _ 0 _ _ _ st4 (loop _ rfl))
end
end L2
namespace L2
open PySem PySem.Spec PyProof.Rows
theorem preSum_take (ns : List Int) : ∀ k, k <= ns.length -> preSum (fun i => ns.getD i 0) k = (ns.take k).sum
 | 0, _ => by simp [preSum]
 | k + 1, h => by
  have hk : k < ns.length := h
  show preSum (fun i => ns.getD i 0) k + ns.getD k 0 = _
  rw [preSum_take ns k (Nat.le_of_lt hk), List.take_succ, List.getElem?_eq_getElem hk, List.getD_eq_getElem?_getD, List.getElem?_eq_getElem hk, List.sum_append]
  show _ + ns[k] = _ + ([ns[k]] : List Int).sum
  simp
theorem call_sum {X : Cx} (hc : X.still = true) : CallR X (.builtin "sum") (fun xs H Q => ∃ (l : Addr) (ns : List Int), xs = [.ref l] /\ H l = some (.lst (ns.map V.int)) /\ Q (.int ns.sum) H) := by
 intro pins s σ H xs us Q I rv h
 obtain ⟨l, ns, rfl, hH, q⟩ := h
 obtain ⟨u, rfl, ru⟩ := rv.one
 cases ru
 obtain ⟨z, its, n, r, hl, e⟩ := I.lstM hH
 have hlt : l < s.heap.objs.size := Heap.lt_size e
 refine call_sum_walkAnyS (wpAny_pyIter_list (A := X.A.in1) ⟨_, e, rfl, n, rfl⟩ ?_)
 obtain ⟨fp, st, W0, st0, hfp⟩ := walks_list_any (P := X.prog) (w := X.w) (I.stl hc).in1 s.heap.objs.size l (Nat.ne_of_lt hlt) (I.stn hc (I.hok.fresh (Nat.le_refl _))) its.toArray
 have W := W0.toS
 refine ⟨s.heap.objs.size, _, _, _, _, _, _, fun i => ns.getD i 0, rfl, W, ?_, ?_, ?_, ?_⟩
 ·exact st0 _ ⟨_, Heap.get?_push_size _ rfl, rfl, rfl⟩ ⟨_, Heap.get?_push_of_some _ e, rfl, n, rfl⟩ (fun b o x => Heap.get?_push_of_some _ x)
 ·intro b hb
  have := hfp b hb
  rw [Heap.size_push]
  rcases this with rfl | rfl | ⟨o, ho⟩
  ·exact Nat.lt_succ_self _
  ·exact Nat.lt_succ_of_lt hlt
  ·exact Nat.lt_succ_of_lt (Heap.lt_size ho)
 ·intro i v hP
  have hv : its[i]? = some v := by simpa using hP
  cases hn : ns[i]? with
  | none =>
   have h1 := r.none_of (i := i) (by rw [List.getElem?_map, hn]; rfl)
   rw [h1] at hv; cases hv
  | some m =>
   obtain ⟨u', h1, t, h2⟩ := r.get (i := i) (x := .int m) (by rw [List.getElem?_map, hn]; rfl)
   rw [h1] at hv; cases hv
   exact ⟨t, by show v = Value.int (ns.getD i 0) t; rw [List.getD_eq_getElem?_getD, hn]; exact h2⟩
 ·intro s' t' hm
  have hlen : its.toArray.size = ns.length := by rw [List.size_toArray, <- r.length, List.length_map]
  rw [hlen, preSum_take ns _ (Nat.le_refl _), List.take_length]
  obtain ⟨h', g', d', tk, o'⟩ := s'
  obtain rfl : g' = s.gens := hm.gens
  obtain rfl : d' = s.drawn := hm.drawn
  obtain rfl : o' = s.os := hm.os
  refine ⟨.int ns.sum, H, ?_, ⟨_, rfl⟩, q⟩
  exact I.kept (h' := h') (t' := tk) fun b o q' => hm.heap b o (fun zz => by
   have : b = s.heap.objs.size := by simpa using zz
   subst this
   exact absurd (Heap.lt_size q') (Nat.lt_irrefl _)) (Heap.get?_push_of_some _ q')
end L2
namespace L2
open PySem PySem.Spec PyProof.Rows
section
variable {P : Program} {w : World} {A : Around} {E : Value -> Shared -> Prop} {s : Shared}
theorem tnext_item {j a : Addr} {i : Nat} {us : Array Value} {u : Value} {Q : Value -> Shared -> Prop} (g0 : s.heap.IsTupleIter j a i) (g1 : s.heap.IsTuple a us) (ex : us[i]? = some u)
  (q : ∀ h', h'.IsTupleIter j a (i + 1) -> Heap.SameBut j s.heap h' -> Q u { s with heap := h' }) : wpAny (model P w) A (Builtin.SmallTypes.nextOf (.ref j)) Q E s := by
 obtain ⟨o1, k1, k2, k3⟩ := id g0
 obtain ⟨o2, k4, _, n2, k5⟩ := g1
 unfold Builtin.SmallTypes.nextOf
 refine wpAny_bind (wpAny_callSpecial?_slot (name := Str.ofString "__next__") g0.typeIs F.slot_tuple_iterator_next (wpAny_call_entry F.slot_tuple_iterator_next g0.typeIs F.entry_tuple_iterator_next ?_ (F.args_tuple_iterator_next_1 _)))
 show wpAny _ _ (field (.ref j) 0 >>= _) _ _ s
 refine wpAny_bind (wpAny_field k1 k3 (x := .ref a) rfl ?_)
 show wpAny _ _ (if (Value.ref a == Value.none) = true then _ else _) _ _ s
 rw [if_neg (show ¬ ((Value.ref a == Value.none) = true) from Bool.false_ne_true)]
 show wpAny _ _ (field (.ref j) 1 >>= _) _ _ s
 refine wpAny_bind (wpAny_field k1 k3 (x := .int i 0) rfl ?_)
 show wpAny _ _ (seqItems? (.ref a) >>= _) _ _ s
 refine wpAny_bind (wpAny_seqItems k4 k5 ?_)
 simp only [Int.toNat_natCast, ex]
 refine wpAny_bind (wpAny_setField k1 k3 (by simp) (wpAny_pure ⟨u, rfl, wpAny_pure (q _ ?_ (Heap.SameBut.update ..))⟩))
 refine ⟨_, Heap.get?_update_self _ k1 (Obj.isFreed_of_fields (Obj.data_mapFields k3 _)), (Obj.cls_mapFields ..).trans k2, ?_⟩
 rw [Obj.data_mapFields k3]
 simp [rawInt]
structure ZT (z TI TO j1 j2 a1 a2 : Addr) (us vs : Array Value) (i : Nat) (f0 : Value) (h : Heap) : Prop where
 zip : IsZip h z TI TO f0
 its : IsPair h TI (.ref j1) (.ref j2)
 to : ∃ a b, IsPair h TO a b
 i1 : h.IsTupleIter j1 a1 i
 i2 : h.IsTupleIter j2 a2 i
theorem zt_item {z TI TO j1 j2 a1 a2 : Addr} {us vs : Array Value} {i : Nat} {u v : Value} {Q : Value -> Shared -> Prop} (D : ZipApart z TI TO j1 j2 a1 a2) (Z : ZT z TI TO j1 j2 a1 a2 us vs i .none s.heap)
  (t1 : s.heap.IsTuple a1 us) (t2 : s.heap.IsTuple a2 vs) (eu : us[i]? = some u) (ev : vs[i]? = some v)
  (q : ∀ h', ZT z TI TO j1 j2 a1 a2 us vs (i + 1) (rawInt s.heap.objs.size) h' -> IsPair h' s.heap.objs.size u v -> h'.objs.size = s.heap.objs.size + 1 ->
   (∀ c o, c ≠ z -> c ≠ TO -> c ≠ j1 -> c ≠ j2 -> s.heap.get? c = some o -> h'.get? c = some o) -> Q (.ref s.heap.objs.size) { s with heap := h' }) :
  wpAny (model P w) A (Builtin.«zip.__next__» ⟨[.ref z], []⟩) (fun fin s' => ∃ v, fin = .done (.ret v) /\ Q v s') E s := by
 obtain ⟨hz, hI, ⟨p1, p2, hO⟩, y1, y2⟩ := Z
 show wpAny _ _ (field (.ref z) (1 + 1) >>= _) _ _ _
 refine wpAny_bind (wpAny_field hz rfl (x := .bool false) rfl ?_); show wpAny _ _ (field (.ref z) (2 + 1) >>= _) _ _ _
 refine wpAny_bind (wpAny_field hz rfl (x := .ref TI) rfl (wpAny_bind (wpAny_seqItems hI rfl ?_)))
 refine wpAny_bind (m := Builtin.SmallTypes.ownedTupleIsFree (.ref z)) ?_
 unfold Builtin.SmallTypes.ownedTupleIsFree; refine wpAny_bind (wpAny_field hz rfl (x := .none) rfl (wpAny_pure ?_))
 simp only [if_true]
 refine wpAny_bind (wpAny_rule (wpAny_bind (wpAny_field hz rfl (x := .ref TO) rfl ?_)))
 refine wpAny_bind (wpAny_setField_rec hz (by simp) fun w1 hz1 b1 => ?_)
 replace hz1 : IsZip w1 z TI TO .ellipsis := hz1
 refine wpAny_bind ?_
 simp only [List.zipIdx_cons, List.zipIdx_nil, List.forIn_cons, List.forIn_nil]; refine wpAny_bind (wpAny_bind (wpAny_onRaise ?_))
 refine wpAny_bind (m := Builtin.SmallTypes.nextOf (.ref j1)) (tnext_item (y1.extBut b1.extBut D.i1z) (t1.extBut b1.extBut D.l1z) eu fun w2 y12 b2 => wpAny_pure ?_)
 have hO2 : IsPair w2 TO p1 p2 := b2.extBut _ _ D.TOi1 (b1.extBut _ _ D.TOz hO)
 refine wpAny_bind (wpAny_seqItems hO2 rfl (wpAny_bind (wpAny_updateSeq_pair hO2 fun w3 hO3 b3 => ?_)))
 replace hO3 : IsPair w3 TO u p2 := hO3
 refine wpAny_bind (wpAny_letGo (wpAny_pure ?_)); refine wpAny_bind (wpAny_bind (wpAny_onRaise ?_))
 refine wpAny_bind (m := Builtin.SmallTypes.nextOf (.ref j2)) (tnext_item (((y2.extBut b1.extBut D.i2z).extBut b2.extBut D.i12.symm).extBut b3.extBut D.TOi2.symm) (((t2.extBut b1.extBut D.l2z).extBut b2.extBut D.l2i1).extBut b3.extBut D.l2TO) ev fun w4 y24 b4 => wpAny_pure ?_)
 have hO4 : IsPair w4 TO u p2 := b4.extBut _ _ D.TOi2 hO3
 refine wpAny_bind (wpAny_seqItems hO4 rfl (wpAny_bind (wpAny_updateSeq_pair hO4 fun w5 hO5 b5 => ?_)))
 replace hO5 : IsPair w5 TO u v := hO5
 refine wpAny_bind (wpAny_letGo (wpAny_pure (wpAny_pure ?_))); refine wpAny_bind (wpAny_seqItems hO5 rfl (wpAny_bind (wpAny_newTuple ?_)))
 have size5 : w5.objs.size = s.heap.objs.size := by rw [b5.1, b4.1, b3.1, b2.1, b1.1]
 have hz5 : IsZip w5 z TI TO .ellipsis := b5.extBut _ _ D.TOz.symm (b4.extBut _ _ D.i2z.symm (b3.extBut _ _ D.TOz.symm (b2.extBut _ _ D.i1z.symm hz1)))
 have kept5 : ∀ c o, c ≠ z -> c ≠ TO -> c ≠ j1 -> c ≠ j2 -> s.heap.get? c = some o -> w5.get? c = some o := fun c o c1 c2 c3 c4 e => b5.extBut _ _ c2 (b4.extBut _ _ c4 (b3.extBut _ _ c2 (b2.extBut _ _ c3 (b1.extBut _ _ c1 e))))
 have y15 : w5.IsTupleIter j1 a1 (i + 1) := ((y12.extBut b3.extBut D.TOi1.symm).extBut b4.extBut D.i12).extBut b5.extBut D.TOi1.symm
 have y25 : w5.IsTupleIter j2 a2 (i + 1) := y24.extBut b5.extBut D.TOi2.symm
 have zlt : z < w5.objs.size := Heap.lt_size hz5
 refine wpAny_bind (m := Builtin.SmallTypes.ownedTupleHandOut (.ref z) (.ref w5.objs.size)) ?_
 unfold Builtin.SmallTypes.ownedTupleHandOut
 have hz6 : IsZip (w5.push { cls := .type "tuple", data := .seq #[u, v] }) z TI TO .ellipsis := Heap.get?_push_of_some _ hz5
 refine wpAny_bind (wpAny_setField_rec hz6 (by simp) fun w7 hz7 b7 => ?_)
 replace hz7 : IsZip w7 z TI TO (rawInt w5.objs.size) := hz7
 refine wpAny_setField_rec hz7 (by simp) fun w8 hz8 b8 => ?_
 replace hz8 : IsZip w8 z TI TO (rawInt w5.objs.size) := hz8
 have up : ∀ c o, c ≠ z -> w5.get? c = some o -> w8.get? c = some o := fun c o c1 e => b8.extBut _ _ c1 (b7.extBut _ _ c1 (Heap.get?_push_of_some _ e))
 have new8 : IsPair w8 w5.objs.size u v := b8.extBut _ _ (Nat.ne_of_gt zlt) (b7.extBut _ _ (Nat.ne_of_gt zlt) (Heap.get?_push_size _ rfl))
 have size8 : w8.objs.size = w5.objs.size + 1 := by rw [b8.1, b7.1, Heap.size_push]
 rw [size5] at hz8 new8 size8
 refine wpAny_pure ⟨_, rfl, ?_⟩
 show Q (.ref w5.objs.size) _
 rw [size5]
 exact q w8 ⟨hz8, up _ _ D.TIz (kept5 _ _ D.TIz D.TITO D.TIi1 D.TIi2 hI), ⟨_, _, up _ _ D.TOz hO5⟩, (let ⟨o, e, r⟩ := y15; ⟨o, up _ _ D.i1z e, r⟩), (let ⟨o, e, r⟩ := y25; ⟨o, up _ _ D.i2z e, r⟩)⟩ new8 size8 fun c o c1 c2 c3 c4 e => up c o c1 (kept5 c o c1 c2 c3 c4 e)
theorem zt_end {z TI TO j1 j2 a1 a2 : Addr} {us vs : Array Value} {i : Nat} {Q : Fin -> Shared -> Prop} (ha : Still A s.heap) (nz : A.handled ≠ some (.ref z)) (nj : A.handled ≠ some (.ref j1)) (D : ZipApart z TI TO j1 j2 a1 a2) (Z : ZT z TI TO j1 j2 a1 a2 us vs i .none s.heap)
  (t1 : s.heap.IsTuple a1 us) (eu : us[i]? = none)
  (q : ∀ h' e, (∀ c o, c ≠ z -> c ≠ TO -> c ≠ j1 -> c ≠ j2 -> s.heap.get? c = some o -> h'.get? c = some o) -> (∃ o, h'.get? e = some o /\ o.cls = .type "StopIteration") -> E (.ref e) { s with heap := h' }) :
  wpAny (model P w) A (Builtin.«zip.__next__» ⟨[.ref z], []⟩) Q E s := by
 obtain ⟨hz, hI, ⟨p1, p2, hO⟩, y1, y2⟩ := Z
 show wpAny _ _ (field (.ref z) (1 + 1) >>= _) _ _ _
 refine wpAny_bind (wpAny_field hz rfl (x := .bool false) rfl ?_); show wpAny _ _ (field (.ref z) (2 + 1) >>= _) _ _ _
 refine wpAny_bind (wpAny_field hz rfl (x := .ref TI) rfl (wpAny_bind (wpAny_seqItems hI rfl ?_)))
 refine wpAny_bind (m := Builtin.SmallTypes.ownedTupleIsFree (.ref z)) ?_
 unfold Builtin.SmallTypes.ownedTupleIsFree; refine wpAny_bind (wpAny_field hz rfl (x := .none) rfl (wpAny_pure ?_))
 simp only [if_true]
 refine wpAny_bind (wpAny_rule (wpAny_bind (wpAny_field hz rfl (x := .ref TO) rfl ?_)))
 refine wpAny_bind (wpAny_setField_rec hz (by simp) fun w1 hz1 b1 => ?_)
 replace hz1 : IsZip w1 z TI TO .ellipsis := hz1
 refine wpAny_bind ?_
 simp only [List.zipIdx_cons, List.zipIdx_nil, List.forIn_cons, List.forIn_nil]; refine wpAny_bind (wpAny_bind (wpAny_onRaise ?_))
 refine wpAny_bind (m := Builtin.SmallTypes.nextOf (.ref j1)) (tnext_end_still (ha.mono fun e o hh h => b1.extBut _ _ (fun x => nz (by rw [<- x]; exact hh)) h) nj (y1.extBut b1.extBut D.i1z) (t1.extBut b1.extBut D.l1z) eu fun w2 e b2 he => ?_)
 obtain ⟨oe, e1, e2⟩ := he
 have hz2 : IsZip w2 z TI TO .ellipsis := b2 _ _ D.i1z.symm hz1
 have ez : e ≠ z := fun x => by
  subst x
  rw [hz2] at e1; cases e1; simp at e2
 exact wpAny_setField_rec hz2 (by simp) fun w3 _ b3 => q w3 e (fun c o c1 _ c3 _ x => b3.extBut _ _ c1 (b2 _ _ c3 (b1.extBut _ _ c1 x))) ⟨oe, b3.extBut _ _ ez e1, e2⟩
theorem zt_new (a1 a2 : Addr) (us vs : Array Value) :
  Meets (Builtin.«zip.__new__» ⟨[.type "zip", .ref a1, .ref a2], []⟩) (fun _ R s => s.heap.IsTuple a1 us /\ s.heap.IsTuple a2 vs /\
   ∀ h', (∀ c o, s.heap.get? c = some o -> h'.get? c = some o) -> ZT (s.heap.objs.size + 4) (s.heap.objs.size + 2) (s.heap.objs.size + 3) s.heap.objs.size (s.heap.objs.size + 1) a1 a2 us vs 0 .none h' -> h'.objs.size = s.heap.objs.size + 5 -> R (.ok (.ret (.ref (s.heap.objs.size + 4)))) { s with heap := h' }) :=
 .of_wp fun prog w A R s h => by
  obtain ⟨hp, g, d, tk, os⟩ := s; obtain ⟨t1, t2, h⟩ := h
  have hsub := sub_zip
  have T1 : Heap.IsTuple (Shared.heap ⟨hp, g, d, tk, os⟩) a1 us := t1
  have T2 : Heap.IsTuple (Shared.heap ⟨hp.push { cls := .type "tuple_iterator", data := .fields #[.ref a1, .int 0 0] }, g, d, tk, os⟩) a2 vs := t2.push _
  wp_walk using wpAny_pyIter_tuple T1, wpAny_pyIter_tuple T2
  refine ⟨_, rfl, ?_⟩
  simp only [Heap.size_push]
  refine h _ (fun c o e => Heap.get?_push_of_some _ (Heap.get?_push_of_some _ (Heap.get?_push_of_some _ (Heap.get?_push_of_some _ (Heap.get?_push_of_some _ e))))) ⟨?_, ?_, ⟨.none, .none, ?_⟩, ⟨_, Heap.get?_push_of_some _ (Heap.get?_push_of_some _ (Heap.get?_push_of_some _ (Heap.get?_push_of_some _ (Heap.get?_push_size _ rfl)))), rfl, rfl⟩, ⟨_, Heap.get?_push_of_some _ (Heap.get?_push_of_some _ (Heap.get?_push_of_some _ (Heap.get?_push_at (by simp only [Heap.size_push]) rfl))), rfl, rfl⟩⟩ (by simp only [Heap.size_push])
  ·exact Heap.get?_push_at (by simp only [Heap.size_push]) rfl
  ·exact Heap.get?_push_of_some _ (Heap.get?_push_of_some _ (Heap.get?_push_at (by simp only [Heap.size_push]) rfl))
  ·exact Heap.get?_push_of_some _ (Heap.get?_push_at (by simp only [Heap.size_push]) rfl)
theorem zt_call {a1 a2 : Addr} {us vs : Array Value} {Q : Value -> Shared -> Prop} (t1 : s.heap.IsTuple a1 us) (t2 : s.heap.IsTuple a2 vs)
  (q : ∀ h', (∀ c o, s.heap.get? c = some o -> h'.get? c = some o) -> ZT (s.heap.objs.size + 4) (s.heap.objs.size + 2) (s.heap.objs.size + 3) s.heap.objs.size (s.heap.objs.size + 1) a1 a2 us vs 0 .none h' -> h'.objs.size = s.heap.objs.size + 5 -> Q (.ref (s.heap.objs.size + 4)) { s with heap := h' }) :
  wpAny (model P w) A (call (.type "zip") [.ref a1, .ref a2]) Q E s := by
 refine callType_new F.called_zip (by decide) (F.typeCall_zip_2 _ _) (F.newCall_zip_2 _ _) (fun obj => F.args_object_init_3 obj _ _) F.entry_zip_new (zt_new a1 a2 us vs) ⟨t1, t2, fun h' k Z sz => ?_⟩
 exact ⟨⟨_, Z.zip, rfl⟩, q h' k Z sz⟩
end
def Itz (K : W.Frag) (a b : Addr) : It :=
 ⟨fun i H => ∃ xs ys x y, SqT K H a xs /\ SqT K H b ys /\ xs[i]? = some x /\ ys[i]? = some y,
  fun i H v H' => ∃ t x y, v = .ref t /\ H t = none /\ H' = upd H t (.tup [x, y]) /\ (∀ xs, SqT K H a xs -> xs[i]? = some x) /\ ∀ ys, SqT K H b ys -> ys[i]? = some y,
  fun i H => ∃ xs ys, SqT K H a xs /\ SqT K H b ys /\ xs.length <= i⟩
theorem Inv.turnedM {X : Cx} {pins : List (Addr × Obj)} {σ : St} {H : Hp} {s : Shared} {h' : Heap} {t' : Nat} {fp : List Addr} (I : Inv X pins σ H s) (k : ∀ b o, b ∉ fp -> s.heap.get? b = some o -> h'.get? b = some o) (hf : ∀ b ∈ fp, FpOk X pins H b) : Inv X pins σ H { s with heap := h', toks := t' } := by
 have nf : ∀ b u, H b = some u -> b ∉ fp := fun b u e z => by
  have := (hf b z).1
  rw [this] at e; cases e
 have U : Un (frs X.stack) fp H H s.heap h' := ⟨fun b o e _ _ hx => k b o hx e, fun b o e _ _ hx => ⟨o.slots, k b o hx e⟩, fun _ _ _ n _ => n, fun b o e hx => ⟨o, k b o hx e⟩, fun _ _ e => e, fun _ _ _ e => e, fun b ps e => ⟨#[], by rw [e]; simp⟩⟩
 refine I.call' (s' := { s with heap := h', toks := t' }) (ch := fp) rfl U (I.hok.onward fun b o hb e => k b o (fun z => hb (hf b z).1) e) I.bare fun b hb => ?_
 obtain ⟨_, f1, _, f3, f4, f5⟩ := hf b hb
 exact ⟨f3, f1, f4, f5⟩
theorem turn_zip {P : Program} {w : World} {K : W.Frag} {elts : List Expr} {kt : Nat} {tp : Pos} {z TI TO j1 j2 a b : Addr} (D : ZipApart z TI TO j1 j2 a b) (us vs : Array Value) :
  Turn P w K (.Tuple elts kt tp) (Itz K a b) [z, TI, TO, j1, j2] z (fun i h => ZT z TI TO j1 j2 a b us vs i .none h) where
 mem := by simp
 obj := fun i h st c hc => by
  obtain ⟨hz, hI, ⟨p1, p2, hO⟩, y1, y2⟩ := st
  simp only [List.mem_cons, List.not_mem_nil, or_false] at hc
  rcases hc with rfl | rfl | rfl | rfl | rfl
  ·exact ⟨_, hz, fun v q => by cases q⟩
  ·exact ⟨_, hI, fun v q => by cases q⟩
  ·exact ⟨_, hO, fun v q => by cases q⟩
  ·obtain ⟨o, e, c, d⟩ := y1
   exact ⟨o, e, fun v q => by rw [d] at q; cases q⟩
  ·obtain ⟨o, e, c, d⟩ := y2
   exact ⟨o, e, fun v q => by rw [d] at q; cases q⟩
 keep := fun i h h' st k => by
  obtain ⟨hz, hI, ⟨p1, p2, hO⟩, y1, y2⟩ := st
  exact ⟨k z (by simp) _ hz, k TI (by simp) _ hI, ⟨p1, p2, k TO (by simp) _ hO⟩, (let ⟨o, e, r⟩ := y1; ⟨o, k j1 (by simp) _ e, r⟩), (let ⟨o, e, r⟩ := y2; ⟨o, k j2 (by simp) _ e, r⟩)⟩
 item := by
  intro X hP hw hK hc i pins s σ H E I hf st hg
  subst hP hw hK
  obtain ⟨xs, ys, x, y, qx, qy, ex, ey⟩ := hg
  obtain ⟨its, rx, px, lx⟩ := I.tuple qx
  obtain ⟨its', ry, py, ly⟩ := I.tuple qy
  obtain ⟨u, hu, ru⟩ := rx.get ex
  obtain ⟨v, hv, rv⟩ := ry.get ey
  have ht : s.TypeIs (.ref z) "zip" := ⟨_, st.zip, rfl⟩
  unfold pyNext
  have st' : ZT z TI TO j1 j2 a b its.toArray its'.toArray i .none s.heap := ⟨st.zip, st.its, st.to, st.i1, st.i2⟩
  refine wpAny_bind (wpAny_attempt (wpAny_callSpecial?_slot (name := Str.ofString "__next__") ht F.slot_zip_next (wpAny_call_entry F.slot_zip_next ht F.entry_zip_next
   (zt_item D st' px py (u := u) (v := v) (by simpa using hu) (by simpa using hv) fun h' Z np sz k => wpAny_pure ?_) (F.args_zip_next_1 _))))
  refine ⟨_, rfl, wpAny_letOwnedTupleGo_zip Z.zip fun h2 hz2 b2 => ?_⟩
  have szl : z < s.heap.objs.size := Heap.lt_size st.zip
  have k2 : ∀ c o, c ∉ [z, TI, TO, j1, j2] -> s.heap.get? c = some o -> h2.get? c = some o := fun c o hc e => by
   simp only [List.mem_cons, List.not_mem_nil, or_false, not_or] at hc
   exact b2.extBut _ _ hc.1 (k c o hc.1 hc.2.2.1 hc.2.2.2.1 hc.2.2.2.2 e)
  have I2 : Inv X pins σ H { s with heap := h2 } := I.turnedM (t' := s.toks) k2 hf
  have np2 : IsPair h2 s.heap.objs.size u v := b2.extBut _ _ (Nat.ne_of_gt szl) np
  have fr : H s.heap.objs.size = none := I.hok.fresh (Nat.le_refl _)
  have I3 : Inv X pins σ (upd H s.heap.objs.size (.tup [x, y])) { s with heap := h2 } := by
   have U : Un (frs X.stack) [z, TI, TO, j1, j2] H (upd H s.heap.objs.size (.tup [x, y])) s.heap h2 :=
    ⟨fun c o e _ _ hx => k2 c o hx e, fun c o e _ _ hx => ⟨o.slots, k2 c o hx e⟩, fun c o e n _ => (by rw [upd_ne (Nat.ne_of_lt (Heap.lt_size e))]; exact n), fun c o e hx => ⟨o, k2 c o hx e⟩,
     fun c zs e => (by rw [upd_ne (ne_of_none e fr)]; exact e), fun c o w e => (by rw [upd_ne (ne_of_none e fr)]; exact e), fun c ps e => ⟨#[], by rw [upd_ne (ne_of_none e fr), e]; simp⟩⟩
   refine I.call' (s' := { s with heap := h2 }) (ch := [z, TI, TO, j1, j2]) rfl U (I2.hok.more fr ?_) I.bare fun c hc => ?_
   ·exact ⟨by show 2 <= sizeLine; decide, [u, v], .cons ru (.cons rv .nil), ⟨_, np2, rfl, _, rfl⟩⟩
   ·obtain ⟨_, f1, _, f3, f4, f5⟩ := hf c hc
    exact ⟨f3, f1, f4, f5⟩
  refine ⟨.ref s.heap.objs.size, _, I3, rfl, ⟨_, x, y, rfl, fr, rfl, fun zs hz => by rw [I.tuple_inj hz qx]; exact ex, fun zs hz => by rw [I.tuple_inj hz qy]; exact ey⟩, ?_, fun c hc => ?_⟩
  ·obtain ⟨o1, e1, r1⟩ := Z.i1
   obtain ⟨o2, e2, r2⟩ := Z.i2
   obtain ⟨p1, p2, e3⟩ := Z.to
   exact ⟨hz2, b2.extBut _ _ D.TIz Z.its, ⟨p1, p2, b2.extBut _ _ D.TOz e3⟩, ⟨o1, b2.extBut _ _ D.i1z e1, r1⟩, ⟨o2, b2.extBut _ _ D.i2z e2, r2⟩⟩
  ·have h0 := (hf c hc).1
   rw [upd_ne ?_]
   ·exact h0
   ·have st2 := st
    obtain ⟨hz, hI, ⟨p1, p2, hO⟩, ⟨o1, y1, _⟩, ⟨o2, y2, _⟩⟩ := st2
    simp only [List.mem_cons, List.not_mem_nil, or_false] at hc
    rcases hc with rfl | rfl | rfl | rfl | rfl
    ·exact Nat.ne_of_lt (Heap.lt_size hz)
    ·exact Nat.ne_of_lt (Heap.lt_size hI)
    ·exact Nat.ne_of_lt (Heap.lt_size hO)
    ·exact Nat.ne_of_lt (Heap.lt_size y1)
    ·exact Nat.ne_of_lt (Heap.lt_size y2)
 done := by
  intro X hP hw hK hc i pins s σ H E I hf st hg
  subst hP hw hK
  obtain ⟨xs, ys, qx, qy, ln⟩ := hg
  obtain ⟨its, rx, px, lx⟩ := I.tuple qx
  have ht : s.TypeIs (.ref z) "zip" := ⟨_, st.zip, rfl⟩
  have hl := rx.length
  unfold pyNext
  have st' : ZT z TI TO j1 j2 a b its.toArray vs i .none s.heap := ⟨st.zip, st.its, st.to, st.i1, st.i2⟩
  refine wpAny_bind (wpAny_attempt (wpAny_callSpecial?_slot (name := Str.ofString "__next__") ht F.slot_zip_next (wpAny_call_entry F.slot_zip_next ht F.entry_zip_next
   (zt_end (I.stl hc) (I.stn hc (hf z (by simp)).1) (I.stn hc (hf j1 (by simp)).1) D st' px (by simp; omega) fun h' e k he => ?_) (F.args_zip_next_1 _))))
  obtain ⟨o, ho, hce⟩ := he
  refine wpAny_bind (wpAny_isInstance (T := "StopIteration") (b := true) ⟨o, ho, hce⟩ isSubtype_stop ?_)
  refine wpAny_pure ⟨rfl, I.turnedM (t' := s.toks) (fun c o hc e => ?_) hf⟩
  simp only [List.mem_cons, List.not_mem_nil, or_false, not_or] at hc
  exact k c o hc.1 hc.2.2.1 hc.2.2.2.1 hc.2.2.2.2 e
 self := fun _ _ _ _ _ st h => wpAny_pyIter_zip st.zip h
def iZip (K : W.Frag) (ta : TA) : TI := fun σ H R => ta σ H fun vs H1 => ∃ (a b : Addr) (xs ys : List V), vs = [.ref a, .ref b] /\ SqT K H1 a xs /\ SqT K H1 b ys /\ R (Itz K a b) H1
theorem pi_zip {X : Cx} {elts : List Expr} {kt : Nat} {tp : Pos} {a b : Expr} {ta : TA} {p pos : Pos} (hg : Gl X "zip") (hm : X.mg "zip" = none) (ha : PA X [a, b] ta) (hs : starEach [a, b] X.env = [(false, eval a X.env), (false, eval b X.env)] := by rfl) (hs2 : starEach [b] X.env = [(false, eval b X.env)] := by rfl) :
  PI X (.Tuple elts kt tp) (.Call (.Name "zip" p) [a, b] [] pos) (iZip X.K ta) := by
 intro pins s σ H R I h
 refine Call_ (ld_blt I hg hm boot_zip (PyProof.Rows.callWith_type1 (thn (ha pos pins s σ H _ I h) fun us s1 ⟨vs, H1, I1, r1, q1⟩ => ?_) (by rw [hs, hs2]) (by rw [hs2]; rfl)))
 obtain ⟨x, y, xs, ys, e, qx, qy, q⟩ := q1
 subst e
 cases r1 with
 | cons r rr =>
  cases rr with
  | cons r' rr =>
   cases rr
   cases r
   cases r'
   obtain ⟨its, rx, px, lx⟩ := I1.tuple qx
   obtain ⟨its', ry, py, ly⟩ := I1.tuple qy
   refine zt_call (us := its.toArray) (vs := its'.toArray) px py fun h' k Z sz => ?_
   refine wpAny_pyIter_zip Z.zip ?_
   have I2 : Inv X pins σ H1 { s1 with heap := h' } := I1.kept (t' := s1.toks) k
   have l1 : x < s1.heap.objs.size := by
    obtain ⟨o, e, _⟩ := px
    exact Heap.lt_size e
   have l2 : y < s1.heap.objs.size := by
    obtain ⟨o, e, _⟩ := py
    exact Heap.lt_size e
   refine ⟨_, [s1.heap.objs.size + 4, s1.heap.objs.size + 2, s1.heap.objs.size + 3, s1.heap.objs.size, s1.heap.objs.size + 1], _, _, H1, rfl, I2, turn_zip (zipApart_new l1 l2) its.toArray its'.toArray, Z, fun c hc => ?_, q⟩
   have big : s1.heap.objs.size <= c := by
    simp only [List.mem_cons, List.not_mem_nil, or_false] at hc
    rcases hc with rfl | rfl | rfl | rfl | rfl <;> simp
   exact I1.fpOk big (I1.hok.fresh big)
end L2
namespace L2
open PySem PySem.Spec PyProof.Rows
def tSetCP (K : W.Frag) (wi : TI) (fr : List Nat) (te : TE) (k : Nat) : TS := fun D σ H => tCompP K wi fr te σ H fun v H' => D.nx (σ.set k (some v)) H'
section
variable {X : Cx} {N : List Str} {fr : List Nat} {x x2 : Str} {scope : Scope} {cl : List (Str × Addr)} {elt iter : Expr} {px px2 tp pos : Pos} {kt : Nat} {wi : TI} {te : TE}
theorem ps_setCP {y : Str} {py spos : Pos} {k : Nat} (hN : X.N.Nodup) (hk : X.N[k]? = some y) (hy : Loc X.env.scope y) (hsw : swapsWith (.ListComp elt [⟨.Tuple [.Name x px, .Name x2 px2] kt tp, iter, [], 0⟩] scope pos) (some (.Name y py)) spos.line X.env = pure true) (hc : X.still = true) (S : CompScope2 X N fr x x2 scope cl) (hi : PI X (.Tuple [.Name x px, .Name x2 px2] kt tp) iter wi) (he : ∀ (C : Addr) (s0 : Shared) (H0 : Hp) (fp : List Addr) (pins : List (Addr × Obj)), PE (cxC X N scope cl C s0 H0 fp pins) elt te)
  (hf : X.fn y = true \/ X.env.scope.names.lookup y = some .local) (hs : ∀ y, foldedSetIterable iter X.env y = pure y := by intro _; rfl) : PS X (.Assign [.Name y py] (.ListComp elt [⟨.Tuple [.Name x px, .Name x2 px2] kt tp, iter, [], 0⟩] scope pos) spos) (tSetCP X.K wi fr te k) := by
 intro pins s σ H D I h
 rw [exec_Assign_Name_used _ _ _ _ hsw]
 refine wpAny_bind (wpAny_standAt (wpAny_bind ?_))
 show wpAny _ X.A (do let _ <- comprehension (.ListComp elt [⟨.Tuple [.Name x px, .Name x2 px2] kt tp, iter, [], 0⟩] scope pos) scope X.env _ (newList []) false (eval iter X.env) (some (assign (.Name y py) X.env))) _ _ s
 refine wpAny_bind (wpAny_mono (comp_core2 (tc := fun _ H Q => Q true H) (Q := fun v H' => D.nx (σ.set k (some v)) H') (use := some (assign (.Name y py) X.env)) (R := fun _ s' => SP X pins D .next s') hc S hi (fun _ _ _ _ _ => pts_nil) he hs I h (fun acc C m H6 s7 qn hn hend cf cL cC cP cS => by
  have J7 : Inv X pins σ H6 s7 := hend s7.heap ⟨rfl, fun _ _ => rfl⟩
  show wpAny _ X.A (assign (.Name y py) X.env (.ref acc)) _ _ _
  refine wpAny_assign_Name (store_ok2 J7 hN hk hy (v := .ref acc) rfl (fun s8 J8 ⟨a, hsa, ha⟩ => ?_) hf)
  have aC : C ≠ a := by
   rcases ha with e | e
   ·rw [e]; exact Ne.symm cL
   ·exact Ne.symm (cC _ _ e)
  exact ⟨m, hn.sameBut hsa aC, fun h' hs' => ⟨_, H6, J8.off hs' cS cf (Ne.symm cL) cC cP, qn⟩⟩)) (fun _ s' hq => wpAny_pure (wpAny_pure hq)) fun _ _ e => e)
theorem ps_setCK {y : Str} {py spos : Pos} {k : Nat} (hN : X.N.Nodup) (hk : X.N[k]? = some y) (hy : Loc X.env.scope y) (hsw : swapsWith (.ListComp elt [⟨.Name x px, iter, [], 0⟩] scope pos) (some (.Name y py)) spos.line X.env = pure true) (hc : X.still = true) (S : CompScopeK X N fr x scope cl) (hi : PI X (.Name x px) iter wi) (he : ∀ (C : Addr) (s0 : Shared) (H0 : Hp) (fp : List Addr) (pins : List (Addr × Obj)), PE (cxK X N x scope cl C s0 H0 fp pins) elt te)
  (hf : X.fn y = true \/ X.env.scope.names.lookup y = some .local) (hs : ∀ y, foldedSetIterable iter X.env y = pure y := by intro _; rfl) : PS X (.Assign [.Name y py] (.ListComp elt [⟨.Name x px, iter, [], 0⟩] scope pos) spos) (tSetC0 wi fr te k) := by
 intro pins s σ H D I h
 rw [exec_Assign_Name_used _ _ _ _ hsw]
 refine wpAny_bind (wpAny_standAt (wpAny_bind ?_))
 show wpAny _ X.A (do let _ <- comprehension (.ListComp elt [⟨.Name x px, iter, [], 0⟩] scope pos) scope X.env _ (newList []) false (eval iter X.env) (some (assign (.Name y py) X.env))) _ _ s
 refine wpAny_bind (wpAny_mono (wpAny_comprehension_free (use := some (assign (.Name y py) X.env)) (Q := fun _ s' => SP X pins D .next s') rfl hs S.clos S.kind S.loc (thn (hi pins s σ H _ I h) fun v s1 h1 => thn h1 fun itv s2 h2 => ?_)) (fun _ s' hq => wpAny_pure (wpAny_pure hq)) fun _ _ e => e)
 obtain ⟨it, fp, tn, J, H2, e, I2, T, st2, f2, hW⟩ := h2
 subst e
 have hfl : ∀ b ∈ fp, b < s2.heap.objs.size := fun b hb => by
  obtain ⟨o, q, _⟩ := T.obj _ _ st2 b hb
  exact Heap.lt_size q
 have hfr : H2 s2.heap.objs.size = none := I2.hok.fresh (Nat.le_refl _)
 refine wpAny_newObj_type ?_
 have keep3 : ∀ b o, s2.heap.get? b = some o -> (s2.heap.push { cls := .type "list", dict := none, data := .seq ([] : List Value).toArray }).get? b = some o := fun b o q => Heap.get?_push_of_some _ q
 have I3 : Inv X pins σ (upd H2 s2.heap.objs.size (.lst [])) { s2 with heap := s2.heap.push { cls := .type "list", dict := none, data := .seq ([] : List Value).toArray } } :=
  I2.laid (t' := s2.toks) keep3 (Nat.le_refl _) ⟨Nat.zero_le _, [], 0, .nil, Heap.get?_push_size _ rfl⟩
 obtain ⟨W, ⟨m0, w0⟩, turn⟩ := hW s2.heap.objs.size hfr
 have f3 : ∀ b ∈ fp, FpOk X pins (upd H2 s2.heap.objs.size (.lst [])) b := fun b hb => ⟨by rw [upd_ne (Nat.ne_of_lt (hfl b hb))]; exact (f2 b hb).1, (f2 b hb).2⟩
 refine newEnvK S.hcf S.hpc ?_
 generalize hh4 : ((s2.heap.push { cls := .type "list", dict := none, data := .seq ([] : List Value).toArray }).push { cls := .type "dict", data := .dict #[] }).push { cls := .type "cell", data := .cell none } = h4
 have hns : h4.Ns (s2.heap.push { cls := .type "list", dict := none, data := .seq ([] : List Value).toArray }).objs.size (fun _ => none) := by
  rw [<- hh4]
  exact (Heap.Ns.new (s2.heap.push { cls := .type "list", dict := none, data := .seq ([] : List Value).toArray }) (.type "dict")).keeps fun b o q => Heap.get?_push_of_some _ q
 have hce : h4.IsCell ((s2.heap.push { cls := .type "list", dict := none, data := .seq ([] : List Value).toArray }).objs.size + 1) none := by
  rw [<- hh4]
  exact ⟨_, Heap.get?_push_at (by simp only [Heap.size_push]) rfl, rfl⟩
 have hfl3 : ∀ b ∈ fp, b < (s2.heap.push { cls := .type "list", dict := none, data := .seq ([] : List Value).toArray }).objs.size := fun b hb => by
  rw [Heap.size_push]
  exact Nat.lt_succ_of_lt (hfl b hb)
 have keep4 : ∀ b o, (s2.heap.push { cls := .type "list", dict := none, data := .seq ([] : List Value).toArray }).get? b = some o -> h4.get? b = some o := fun b o q => by
  rw [<- hh4]
  exact Heap.get?_push_of_some _ (Heap.get?_push_of_some _ q)
 have I4 : Inv (cxK X N x scope cl (s2.heap.push { cls := .type "list", dict := none, data := .seq ([] : List Value).toArray }).objs.size { s2 with heap := s2.heap.push { cls := .type "list", dict := none, data := .seq ([] : List Value).toArray } } (upd H2 s2.heap.objs.size (.lst [])) fp pins) [] (compSt σ fr none) (upd H2 s2.heap.objs.size (.lst []))
   { s2 with heap := h4 } := cxK_start S I3 f3 (Nat.le_refl _) hfl3 hns hce keep4 rfl rfl
 have st4 : tn 0 h4 := T.keep _ _ _ st2 fun b hb o q => keep4 b o (keep3 b o q)
 generalize hY : cxK X N x scope cl (s2.heap.push { cls := .type "list", dict := none, data := .seq ([] : List Value).toArray }).objs.size { s2 with heap := s2.heap.push { cls := .type "list", dict := none, data := .seq ([] : List Value).toArray } } (upd H2 s2.heap.objs.size (.lst [])) fp pins = Y at I4
 have hel : PE Y elt te := hY ▸ he _ _ _ _ _
 have eA : Y.A = X.A := by rw [<- hY]; rfl
 have eP : Y.prog = X.prog := by rw [<- hY]; rfl
 have ew : Y.w = X.w := by rw [<- hY]; rfl
 have eK : Y.K = X.K := by rw [<- hY]; rfl
 have eC : Y.still = true := by rw [<- hY]; exact hc
 have eE : Y.env = compEnvC scope ((x, (s2.heap.push { cls := .type "list", dict := none, data := .seq ([] : List Value).toArray }).objs.size + 1) :: cl) (s2.heap.push { cls := .type "list", dict := none, data := .seq ([] : List Value).toArray }).objs.size X.env := by rw [<- hY]; rfl
 have eX : Y.xe = fun _ _ => False := by rw [<- hY]; rfl
 have hg : PG Y (.Name x px) (gName 0) := by
  subst hY
  exact pg_name (i := 0) S.nd S.hN (.inr S.own) (.inl (by simp [cxK]))
 have fY : ∀ {H' : Hp}, (∀ b ∈ fp, H' b = none) -> ∀ b ∈ fp, FpOk Y [] H' b := fun {H'} hn b hb => by
  subst hY
  obtain ⟨_, g2, g3, g4, g5, g6⟩ := f3 b hb
  refine ⟨hn b hb, Nat.ne_of_lt (hfl3 b hb), fun z => ?_, .inl hb, fun y c q => (by
   rcases lookK q with ⟨_, a⟩ | ⟨_, a⟩
   ·rw [a]; exact Nat.ne_of_gt (Nat.lt_succ_of_lt (hfl3 b hb))
   ·exact g5 y c (S.sub _ _ a)), fun p hp => ?_⟩
  ·rcases List.mem_cons.mp (I3.stkSub b z) with q | q
   ·exact g2 q
   ·exact g3 q
  ·rw [List.append_nil] at hp
   exact g6 p hp
 have loop : ∀ s5 : Shared, s5 = { s2 with heap := h4 } ->
   codeAny (model X.prog X.w) X.A (.compLoop (.ListComp elt [⟨.Name x px, iter, [], 0⟩] scope pos) 0 (.ref it) (.ref s2.heap.objs.size) (compEnvC scope ((x, (s2.heap.push { cls := .type "list", dict := none, data := .seq ([] : List Value).toArray }).objs.size + 1) :: cl) (s2.heap.push { cls := .type "list", dict := none, data := .seq ([] : List Value).toArray }).objs.size X.env))
    (compPost (model X.prog X.w) X.A X.xe (some (assign (.Name y py) X.env)) (fun _ s' => SP X pins D .next s') (.ref s2.heap.objs.size) (s2.heap.push { cls := .type "list", dict := none, data := .seq ([] : List Value).toArray }).objs.size) s5 := by
  rintro s5 rfl
  refine codeAny_compLoop_list (fun n s' => ∃ i v H' vs, Inv Y [] (compSt σ fr v) H' s' /\ tn i s'.heap /\ (∀ b ∈ fp, H' b = none) /\ W i n H' vs) ?_ m0 ⟨0, none, _, [], I4, st4, fun b hb => (f3 b hb).1, w0⟩
  rintro n s6 ⟨i, v6, H6, vs, I6, st6, fr6, w6⟩
  obtain ⟨hacc, hgo⟩ := turn i n H6 vs w6
  rcases hgo with ⟨stop, qn⟩ | ⟨go, hz, step⟩
  ·have hd := T.done Y eP ew eK eC i [] s6 _ H6 (fun _ _ => False) I6 (fY fr6) st6 stop
   rw [eA] at hd
   refine wpAny_mono hd (fun r s7 ⟨hr, I7⟩ => ?_) fun _ _ z => z.elim
   subst hr
   obtain ⟨m, hn, _⟩ := id I7.loc
   rw [eE] at hn
   have J7 : Inv X pins σ H6 s7 := by
    have z : Inv X pins σ H6 { s7 with heap := s7.heap } := by
     subst hY
     exact cxK_end I3 f3 (Nat.le_refl _) I7 ⟨rfl, fun _ _ => rfl⟩
    exact z
   have cf : H6 (s2.heap.push { cls := .type "list", dict := none, data := .seq ([] : List Value).toArray }).objs.size = none := by
    subst hY
    exact I7.free
   have big : ∀ b o, s2.heap.get? b = some o -> b ≠ (s2.heap.push { cls := .type "list", dict := none, data := .seq ([] : List Value).toArray }).objs.size := fun b o q => Nat.ne_of_lt (by rw [Heap.size_push]; exact Nat.lt_succ_of_lt (Heap.lt_size q))
   obtain ⟨m2, hn2, _⟩ := id I2.loc
   obtain ⟨oL, _, _, hoL, _⟩ := id hn2
   have cL := big _ _ hoL
   have cC : ∀ z c, X.env.cells.lookup z = some c -> c ≠ (s2.heap.push { cls := .type "list", dict := none, data := .seq ([] : List Value).toArray }).objs.size := fun z c q => by
    obtain ⟨_, o, w1, _⟩ := I2.cell z c q
    exact big _ _ w1
   show wpAny _ X.A (assign (.Name y py) X.env (.ref s2.heap.objs.size)) _ _ _
   refine wpAny_assign_Name (store_ok2 J7 hN hk hy (v := .ref s2.heap.objs.size) rfl (fun s8 J8 ⟨a, hsa, ha⟩ => ?_) hf)
   have aC : (s2.heap.push { cls := .type "list", dict := none, data := .seq ([] : List Value).toArray }).objs.size ≠ a := by
    rcases ha with e | e
    ·rw [e]; exact Ne.symm cL
    ·exact Ne.symm (cC _ _ e)
   refine ⟨m, hn.sameBut hsa aC, fun h' hs' => ⟨_, H6, J8.off hs' ?_ cf (Ne.symm cL) cC fun p hp => ?_, qn⟩⟩
   ·rw [Heap.size_push]
    exact Nat.le_succ_of_le (Nat.le_trans (Nat.le_refl _) I2.sz)
   ·obtain ⟨e, _⟩ := I2.pin p hp
    exact big _ _ e
  ·have hd := T.item Y eP ew eK eC i [] s6 _ H6 (fun _ _ => False) I6 (fY fr6) st6 go
   rw [eA] at hd
   refine wpAny_mono hd (fun r s7 ⟨u, hr, h7⟩ => ?_) fun _ _ z => z.elim
   subst hr
   show wpAny _ _ ((pure () : Sem Unit) >>= fun _ => assign (.Name x px) _ u) _ _ s7
   refine wpAny_bind (wpAny_mono h7 (fun _ s8 ⟨y, H8, I8, r8, y8, st8, fr8⟩ => ?_) fun _ _ z => z.elim)
   have I8' := I8.pinned (fY fr8) (T.obj _ _ st8)
   have h9 := hg _ s8 _ H8 y u (fun σ9 H9 => σ9 = compSt σ fr (some y) /\ H9 = H8) I8' r8 ⟨rfl, rfl⟩
   rw [eA, eP, ew, eE, eX] at h9
   refine wpAny_mono h9 (fun _ s9 ⟨σ9, H9, I9, e9, e9'⟩ => ?_) fun _ _ z => z.elim
   subst e9 e9'
   have h10 := hel _ s9 _ _ _ I9 (step y _ y8)
   rw [eA, eP, ew, eE, eX] at h10
   refine wpAny_mono h10 (fun u10 s10 ⟨z10, H10, I10, r10, a10, m', hm, w10⟩ => ?_) fun _ _ z => z.elim
   have h11 := mt_append _ s10 _ H10 (.ref s2.heap.objs.size) [z10] (.ref s2.heap.objs.size) [u10] (fun _ H11 => H11 = upd H10 s2.heap.objs.size (.lst (vs ++ [z10]))) I10 rfl (.cons r10 .nil) ⟨_, vs, z10, rfl, rfl, a10, hz, rfl⟩
   rw [eA, eP, ew, eX] at h11
   refine wpAny_mono h11 (fun _ s11 ⟨_, H11, I11, _, e11⟩ => ?_) fun _ _ z => z.elim
   subst e11
   refine ⟨m', hm, i + 1, some y, _, vs ++ [z10], I11.unpinned, T.keep _ _ _ st8 fun b hb o q => (I11.pin (b, o) (List.mem_append_right _ (List.mem_append_right _ (mem_pinsAt hb q)))).1, fun b hb => ?_, w10⟩
   obtain ⟨o, q, _⟩ := T.obj _ _ st8 b hb
   exact (I11.pin (b, o) (List.mem_append_right _ (List.mem_append_right _ (mem_pinsAt hb q)))).2.1
 exact codeAny_compStart_list (loop _ rfl) (T.self _ 0 _ _ _ st4 (loop _ rfl))
end
theorem compP_zipF {K : W.Frag} {a b : Addr} {xs ys : List V} {te : TE} {σ : V -> V -> St} {H : Hp} {Q : VK} (hx : ∀ H', Same H H' -> SqT K H' a xs) (hy : ∀ H', Same H H' -> SqT K H' b ys) (hl : xs.length = ys.length) (hn : xs.length < sizeLine) (f : V -> V -> V)
  (he : ∀ (i : Nat) (x y : V) (H' : Hp) (Q' : VK), xs[i]? = some x -> ys[i]? = some y -> Same H H' -> (∀ H2, Same H' H2 -> Q' (f x y) H2) -> te (σ x y) H' Q')
  (q : ∀ p H', Same H H' -> H p = none -> H' p = some (.lst (List.zipWith f xs ys)) -> Q (.ref p) H') : CompPEnd K (Itz K a b) Q H te σ := by
 intro acc hacc
 have zl : (List.zipWith f xs ys).length = xs.length := by rw [List.length_zipWith, <- hl]; simp
 refine ⟨fun i m H' vs => i <= xs.length /\ m = xs.length - i /\ Same H H' /\ H' acc = some (.lst vs) /\ vs = (List.zipWith f xs ys).take i, ⟨xs.length, Nat.zero_le _, by simp, same_new hacc _, upd_same, by simp⟩, ?_⟩
 rintro i m H' vs ⟨hi, rfl, g, ha, rfl⟩
 refine ⟨ha, ?_⟩
 by_cases h : i = xs.length
 ·refine .inl ⟨⟨xs, ys, hx _ g, hy _ g, by omega⟩, q acc H' g hacc ?_⟩
  rw [ha, h, <- zl, List.take_length]
 ·have hlt : i < xs.length := by omega
  have hlt2 : i < ys.length := by omega
  refine .inr ⟨⟨xs, ys, xs[i], ys[i], hx _ g, hy _ g, by simp [hlt], by simp [hlt2]⟩, by rw [List.length_take, zl]; omega, ?_⟩
  rintro z H2 ⟨t, x, y, rfl, ht, rfl, ex, ey⟩
  have ex' := ex xs (hx _ g)
  have ey' := ey ys (hy _ g)
  have g2 : Same H' (upd H' t (.tup [x, y])) := same_new ht _
  refine ⟨t, x, y, rfl, SqT.of upd_same, he i x y _ _ ex' ey' (g.trans g2) fun H3 g3 => ⟨g3 _ _ (g2 _ _ ha), xs.length - (i + 1), by omega, by omega, rfl, same_upd (g.trans (g2.trans g3)) hacc, upd_same, ?_⟩⟩
  rw [List.take_succ, List.getElem?_zipWith, ex', ey']
  rfl
theorem outs_ok {X : Cx} {own : List Str} {ys : List Str} {ks : List Nat} (hl : ks.length = ys.length) (hk : ∀ p ∈ ks.zip ys, X.N[p.1]? = some p.2 /\ X.env.kindOf p.2 = some .cell) : ∀ (j k : Nat), ks[j]? = some k -> ∃ y, (own ++ ys)[j + own.length]? = some y /\ X.N[k]? = some y /\ X.env.kindOf y = some .cell := by
 intro j k h
 have hj : j < ks.length := (List.getElem?_eq_some_iff.mp h).1
 have hj2 : j < ys.length := by omega
 refine ⟨ys[j], by rw [List.getElem?_append_right (by omega)]; simp [hj2], ?_⟩
 have m : (k, ys[j]) ∈ ks.zip ys := by
  refine List.mem_of_getElem? (i := j) ?_
  rw [List.getElem?_zip_eq_some]
  exact ⟨h, by simp [hj2]⟩
 exact hk _ m
theorem lookup_mem_all {cl : List (Str × Addr)} {P : Str -> Addr -> Prop} (h : ∀ p ∈ cl, P p.1 p.2) {y : Str} {c : Addr} (e : cl.lookup y = some c) : P y c := h _ (PySem.mem_of_lookup e)
theorem has_of {ns' : List (Str × NameKind)} {cl : List (Str × Addr)} (h : ∀ p ∈ ns', p.2 = .cell \/ p.2 = .free -> (cl.lookup p.1).isSome = true) (y : Str) (e : ns'.lookup y = some .cell \/ ns'.lookup y = some .free) : ∃ c, cl.lookup y = some c := by
 have : (cl.lookup y).isSome = true := by
  rcases e with e | e
  ·exact h _ (PySem.mem_of_lookup e) (.inl rfl)
  ·exact h _ (PySem.mem_of_lookup e) (.inr rfl)
 exact Option.isSome_iff_exists.mp this
theorem CompScope.gen {X : Cx} {x : Str} {scope : Scope} {cl : List (Str × Addr)} (ys : List Str) (ks : List Nat) (ns' : List (Str × NameKind)) (kind : scope.kind = .function) (nocell : ∀ z ∈ scope.names, z.2 ≠ .cell) (loc : ∀ z ∈ scope.names, z.2 = .local -> scope.names.lookup z.1 = some .local) (own : scope.names.lookup x = some .local)
  (clos : closureFor scope X.env = pure cl) (sub : ∀ p ∈ cl, X.env.cells.lookup p.1 = some p.2) (rl : (relabel scope X.env).names = ns') (only : ∀ p ∈ ns', p.2 = .cell \/ p.2 = .free -> (cl.lookup p.1).isSome = true) (nd : (x :: ys).Nodup) (ny : ∀ y ∈ ys, ns'.lookup y ≠ some .local) (hl : ks.length = ys.length)
  (hk : ∀ p ∈ ks.zip ys, X.N[p.1]? = some p.2 /\ X.env.kindOf p.2 = some .cell) : CompScope X (x :: ys) ks x scope cl := by
 subst rl
 refine ⟨kind, nocell, loc, own, clos, fun y c h => lookup_mem_all (P := fun y c => X.env.cells.lookup y = some c) sub h, has_of only, nd, rfl, by simp [hl], fun j y h => ?_, fun j k h => outs_ok (own := [x]) hl hk j k h⟩
 exact ny y (List.mem_of_getElem? (by simpa using h))
theorem CompScope2.gen {X : Cx} {x x2 : Str} {scope : Scope} {cl : List (Str × Addr)} (ys : List Str) (ks : List Nat) (ns' : List (Str × NameKind)) (kind : scope.kind = .function) (nocell : ∀ z ∈ scope.names, z.2 ≠ .cell) (loc : ∀ z ∈ scope.names, z.2 = .local -> scope.names.lookup z.1 = some .local) (own : scope.names.lookup x = some .local) (own2 : scope.names.lookup x2 = some .local)
  (clos : closureFor scope X.env = pure cl) (sub : ∀ p ∈ cl, X.env.cells.lookup p.1 = some p.2) (rl : (relabel scope X.env).names = ns') (only : ∀ p ∈ ns', p.2 = .cell \/ p.2 = .free -> (cl.lookup p.1).isSome = true) (nd : (x :: x2 :: ys).Nodup) (ny : ∀ y ∈ ys, ns'.lookup y ≠ some .local) (hl : ks.length = ys.length)
  (hk : ∀ p ∈ ks.zip ys, X.N[p.1]? = some p.2 /\ X.env.kindOf p.2 = some .cell) : CompScope2 X (x :: x2 :: ys) ks x x2 scope cl := by
 subst rl
 refine ⟨kind, nocell, loc, own, own2, clos, fun y c h => lookup_mem_all (P := fun y c => X.env.cells.lookup y = some c) sub h, has_of only, nd, rfl, rfl, by simp [hl], fun j y h => ?_, fun j k h => outs_ok (own := [x, x2]) hl hk j k h⟩
 exact ny y (List.mem_of_getElem? (by simpa using h))
theorem CompScopeK.gen {X : Cx} {x : Str} {scope : Scope} {cl : List (Str × Addr)} (ys : List Str) (ks : List Nat) (ns' : List (Str × NameKind)) (kind : scope.kind = .function) (hcf : ∀ n : Nat, cellsFrom n scope.names cl = (x, n) :: cl) (hpc : ∀ h : Heap, pushCells h scope.names = h.push { cls := .type "cell", data := .cell none })
  (loc : ∀ z ∈ scope.names, z.2 = .local -> scope.names.lookup z.1 = some .local) (clos : closureFor scope X.env = pure cl) (sub : ∀ p ∈ cl, X.env.cells.lookup p.1 = some p.2) (rl : (relabel scope X.env).names = ns') (own : ns'.lookup x = some .cell) (only : ∀ p ∈ ns', p.2 = .cell \/ p.2 = .free -> p.1 = x \/ (cl.lookup p.1).isSome = true) (nd : (x :: ys).Nodup) (ny : ∀ y ∈ ys, ns'.lookup y ≠ some .local) (hl : ks.length = ys.length)
  (hk : ∀ p ∈ ks.zip ys, X.N[p.1]? = some p.2 /\ X.env.kindOf p.2 = some .cell) : CompScopeK X (x :: ys) ks x scope cl := by
 subst rl
 refine ⟨kind, hcf, hpc, loc, own, clos, fun y c h => lookup_mem_all (P := fun y c => X.env.cells.lookup y = some c) sub h, fun y e => ?_, nd, rfl, by simp [hl], fun j y h => ?_, fun j k h => outs_ok (own := [x]) hl hk j k h⟩
 ·have : y = x \/ (cl.lookup y).isSome = true := by
   rcases e with e | e
   ·exact only _ (PySem.mem_of_lookup e) (.inl rfl)
   ·exact only _ (PySem.mem_of_lookup e) (.inr rfl)
  rcases this with z | z
  ·exact .inl z
  ·exact .inr (Option.isSome_iff_exists.mp z)
 ·exact ny y (List.mem_of_getElem? (by simpa using h))
end L2
namespace L2
open PySem PySem.Spec PyProof.Rows
theorem comp_walk {J : It} {xs : List V} {te : TE} {σ : V -> St} {H : Hp} {Q : VK} (hn : xs.length < sizeLine) (R : Nat -> List V -> Hp -> Prop) (R0 : ∀ p, H p = none -> R 0 [] (upd H p (.lst [])))
  (hstop : ∀ H', Same H H' -> J.stop xs.length H') (hgo : ∀ (i : Nat) H', i < xs.length -> Same H H' -> J.go i H') (hyld : ∀ (i : Nat) H' x H2, Same H H' -> J.yld i H' x H2 -> H2 = H' /\ xs[i]? = some x)
  (he : ∀ (i : Nat) (x : V) (vs : List V) (H' : Hp) (acc : Addr) (Q' : VK), xs[i]? = some x -> Same H H' -> H acc = none -> H' acc = some (.lst vs) -> R i vs H' -> vs.length = i -> (∀ y H2, Same H' H2 -> R (i + 1) (vs ++ [y]) (upd H2 acc (.lst (vs ++ [y]))) -> Q' y H2) -> te (σ x) H' Q')
  (q : ∀ p H' vs, Same H H' -> H p = none -> H' p = some (.lst vs) -> vs.length = xs.length -> R xs.length vs H' -> Q (.ref p) H') : CompEnd J Q H te σ := by
 intro acc hacc
 refine ⟨fun i m H' vs => i <= xs.length /\ m = xs.length - i /\ Same H H' /\ H' acc = some (.lst vs) /\ vs.length = i /\ R i vs H', ⟨xs.length, Nat.zero_le _, by simp, same_new hacc _, upd_same, rfl, R0 _ hacc⟩, ?_⟩
 rintro i m H' vs ⟨hi, rfl, g, ha, hl, r⟩
 refine ⟨ha, ?_⟩
 by_cases h : i = xs.length
 ·subst h
  exact .inl ⟨hstop _ g, q acc H' vs g hacc ha hl r⟩
 ·have hlt : i < xs.length := by omega
  refine .inr ⟨hgo i _ hlt g, by omega, ?_⟩
  intro z H2 hz
  obtain ⟨rfl, hz'⟩ := hyld i _ _ _ g hz
  refine he i z vs H2 acc _ hz' g hacc ha r hl fun y H3 g3 r3 => ⟨g3 _ _ ha, xs.length - (i + 1), by omega, by omega, rfl, same_upd (g.trans g3) hacc, upd_same, ?_, r3⟩
  rw [List.length_append, hl]
  rfl
theorem comp_tupR {K : W.Frag} {a : Addr} {xs : List V} {te : TE} {σ : V -> St} {H : Hp} {Q : VK} (hn : xs.length < sizeLine) (hK : ∀ H', Same H H' -> SqT K H' a xs) (R : Nat -> List V -> Hp -> Prop) (R0 : ∀ p, H p = none -> R 0 [] (upd H p (.lst [])))
  (he : ∀ (i : Nat) (x : V) (vs : List V) (H' : Hp) (acc : Addr) (Q' : VK), xs[i]? = some x -> Same H H' -> H acc = none -> H' acc = some (.lst vs) -> R i vs H' -> vs.length = i -> (∀ y H2, Same H' H2 -> R (i + 1) (vs ++ [y]) (upd H2 acc (.lst (vs ++ [y]))) -> Q' y H2) -> te (σ x) H' Q')
  (q : ∀ p H' vs, Same H H' -> H p = none -> H' p = some (.lst vs) -> vs.length = xs.length -> R xs.length vs H' -> Q (.ref p) H') : CompEnd (Itt K a) Q H te σ :=
 comp_walk hn R R0 (fun H' g => ⟨xs, hK _ g, Nat.le_refl _⟩) (fun i H' hi g => ⟨xs, xs[i], hK _ g, by simp [hi]⟩) (fun i H' x H2 g h => ⟨h.1, h.2 xs (hK _ g)⟩) he q
theorem comp_listR {K : W.Frag} {a : Addr} {xs : List V} {te : TE} {σ : V -> St} {H : Hp} {Q : VK} (hn : xs.length < sizeLine) (hK : ∀ H', Same H H' -> SqL K H' a xs) (R : Nat -> List V -> Hp -> Prop) (R0 : ∀ p, H p = none -> R 0 [] (upd H p (.lst [])))
  (he : ∀ (i : Nat) (x : V) (vs : List V) (H' : Hp) (acc : Addr) (Q' : VK), xs[i]? = some x -> Same H H' -> H acc = none -> H' acc = some (.lst vs) -> R i vs H' -> vs.length = i -> (∀ y H2, Same H' H2 -> R (i + 1) (vs ++ [y]) (upd H2 acc (.lst (vs ++ [y]))) -> Q' y H2) -> te (σ x) H' Q')
  (q : ∀ p H' vs, Same H H' -> H p = none -> H' p = some (.lst vs) -> vs.length = xs.length -> R xs.length vs H' -> Q (.ref p) H') : CompEnd (Itl K a) Q H te σ :=
 comp_walk hn R R0 (fun H' g => ⟨xs, hK _ g, Nat.le_refl _⟩) (fun i H' hi g => ⟨xs, xs[i], hK _ g, by simp [hi]⟩) (fun i H' x H2 g h => ⟨h.1, h.2 xs (hK _ g)⟩) he q
theorem ixK_tup {X : Cx} {K : W.Frag} (e : X.K = K) : IxR X (rIxT K) := e ▸ ix_tup
theorem ixK_list {X : Cx} {K : W.Frag} (e : X.K = K) : IxR X (rIxL K) := e ▸ ix_list
theorem ixK_seq {X : Cx} {K : W.Frag} (e : X.K = K) : IxR X (rIx K) := e ▸ ix_seq
def Laid (row : Nat -> HO) (i : Nat) (vs : List V) (H : Hp) : Prop := ∃ rs : List Addr, vs = rs.map V.ref /\ rs.length = i /\ ∀ (j : Nat) (r : Addr), rs[j]? = some r -> H r = some (row j)
theorem Laid.zero {row : Nat -> HO} {H : Hp} : Laid row 0 [] H := ⟨[], rfl, rfl, fun j r h => by cases h⟩
theorem Laid.next {row : Nat -> HO} {i : Nat} {vs : List V} {H' H2 : Hp} {acc r : Addr} (l : Laid row i vs H') (g : Same H' H2) (ha : H' acc = some (.lst vs)) (hr : H' r = none) (h : H2 r = some (row i)) (hd : ∀ j, row j ≠ .lst vs) : Laid row (i + 1) (vs ++ [.ref r]) (upd H2 acc (.lst (vs ++ [.ref r]))) := by
 obtain ⟨rs, rfl, hl, hs⟩ := l
 refine ⟨rs ++ [r], by rw [List.map_append]; rfl, by rw [List.length_append, hl]; rfl, fun j r' hj => ?_⟩
 by_cases hlt : j < rs.length
 ·rw [List.getElem?_append_left hlt] at hj
  have e := hs j r' hj
  have ne : r' ≠ acc := fun z => by
   subst z
   rw [ha] at e
   exact hd j (Option.some.inj e).symm
  rw [upd_ne ne]
  exact g _ _ e
 ·rw [List.getElem?_append_right (by omega)] at hj
  have e : j - rs.length = 0 := by
   cases hq : j - rs.length with
   | zero => rfl
   | succ n => rw [hq] at hj; simp at hj
  rw [e] at hj
  have er : r = r' := by simpa using hj
  subst er
  have ej : j = i := by omega
  subst ej
  have ne : r ≠ acc := fun z => by
   subst z
   rw [hr] at ha
   cases ha
  rw [upd_ne ne]
  exact h
theorem Laid.three {row : Nat -> HO} {vs : List V} {H : Hp} (l : Laid row 3 vs H) : ∃ r0 r1 r2, vs = [.ref r0, .ref r1, .ref r2] /\ H r0 = some (row 0) /\ H r1 = some (row 1) /\ H r2 = some (row 2) := by
 obtain ⟨rs, rfl, hl, hs⟩ := l
 match rs, hl with
 | [r0, r1, r2], _ => exact ⟨r0, r1, r2, rfl, hs 0 _ rfl, hs 1 _ rfl, hs 2 _ rfl⟩
end L2
namespace L2
open PySem PySem.Spec PyProof.Rows
theorem call_maxL {X : Cx} (hc : X.calm = true) : CallR X (.builtin "max") (fun xs H Q => ∃ (l : Addr) (ns : List Int), xs = [.ref l] /\ H l = some (.lst (ns.map V.int)) /\ ns ≠ [] /\ ∀ m : Int, m ∈ ns -> (∀ n ∈ ns, n <= m) -> Q (.int m) H) := by
 intro pins s σ H xs us Q I rv h
 obtain ⟨l, ns, rfl, hH, hne, q⟩ := h
 obtain ⟨u, rfl, ru⟩ := rv.one
 cases ru
 obtain ⟨z, its, n, r, hl, e⟩ := I.lstM hH
 have hlt : l < s.heap.objs.size := Heap.lt_size e
 have hlen : its.toArray.size = ns.length := by rw [List.size_toArray, <- r.length, List.length_map]
 have pos : 0 < ns.length := List.length_pos_iff.mpr hne
 have val : ∀ (i : Nat) (v : Value), its.toArray[i]? = some v -> ∃ t, v = .int (ns.getD i 0) t := by
  intro i v hP
  have hv : its[i]? = some v := by simpa using hP
  cases hn : ns[i]? with
  | none =>
   have h1 := r.none_of (i := i) (by rw [List.getElem?_map, hn]; rfl)
   rw [h1] at hv; cases hv
  | some m =>
   obtain ⟨u', h1, t, h2⟩ := r.get (i := i) (x := .int m) (by rw [List.getElem?_map, hn]; rfl)
   rw [h1] at hv; cases hv
   exact ⟨t, by rw [List.getD_eq_getElem?_getD, hn]; exact h2⟩
 refine call_max_walk (wpAny_pyIter_list (A := X.A.in1) ⟨_, e, rfl, n, rfl⟩ ?_)
 have W := Walks.list (prog := X.prog) (w := X.w) (A := X.A.in1) (show X.A.in1.handled = none from I.ok.hd hc) s.heap.objs.size l (Nat.ne_of_lt hlt) its.toArray
 refine ⟨s.heap.objs.size, _, _, _, _, _, _, rfl, W, ⟨⟨_, Heap.get?_push_size _ rfl, rfl, rfl⟩, ⟨_, Heap.get?_push_of_some _ e, rfl, n, rfl⟩⟩, ?_, by omega, CmpOf.ints_gt (fun i => ns.getD i 0) val, ?_⟩
 ·intro b hb
  have : b = s.heap.objs.size \/ b = l := by simpa using hb
  rw [Heap.size_push]
  rcases this with rfl | rfl
  ·exact Nat.lt_succ_self _
  ·exact Nat.lt_succ_of_lt hlt
 ·intro v h' tk hv hk
  obtain ⟨t, rfl⟩ := val _ _ hv
  have ab := argBest_gt (fun i => ns.getD i 0) (its.toArray.size - 1)
  refine ⟨.int _, H, I.kept (h' := h') (t' := tk) fun b o q' => hk b o (fun zz => ?_) (Heap.get?_push_of_some _ q'), ⟨t, rfl⟩, q _ ?_ ?_⟩
  ·have : b = s.heap.objs.size := by simpa using zz
   subst this
   exact absurd (Heap.lt_size q') (Nat.lt_irrefl _)
  ·have lt : argBest (fun i j => decide (ns.getD i 0 > ns.getD j 0)) (its.toArray.size - 1) < ns.length := by have := ab.1; omega
   rw [List.getD_eq_getElem?_getD, List.getElem?_eq_getElem lt]
   exact List.getElem_mem lt
  ·intro m hm
   obtain ⟨j, hj, ej⟩ := List.getElem_of_mem hm
   have := ab.2 j (by omega)
   rw [<- ej]
   have e2 : ns.getD j 0 = ns[j] := by rw [List.getD_eq_getElem?_getD, List.getElem?_eq_getElem hj]; rfl
   rw [e2] at this
   exact this
section
variable {P : Program} {w : World} {A : Around} {E : Value -> Shared -> Prop}
theorem draw_lst {j l : Addr} {us : Array Value} (ne : l ≠ j) : ∀ (n i : Nat) (s : Shared) (Q : List Value -> Shared -> Prop), s.heap.IsListIter j l i -> s.heap.IsList l us -> i + n <= us.size ->
  (∀ h', h'.IsListIter j l (i + n) -> Heap.SameBut j s.heap h' -> Q ((us.toList.drop i).take n) { s with heap := h' }) -> wpAny (model P w) A (draw (.ref j) n) Q E s
 | 0, i, s, Q, g0, _, _, q => by
  show wpAny _ _ (pure ([] : List Value)) Q E s
  exact wpAny_pure (by simpa using q s.heap g0 (Heap.SameBut.refl ..))
 | n + 1, i, s, Q, g0, g1, le, q => by
  have lt : i < us.size := by omega
  show wpAny _ _ (pyNext (.ref j) >>= _) Q E s
  refine wpAny_bind (wpAny_pyNext_list_item g0 g1 (x := us[i]) (by simp [lt]) fun w1 k1 b1 => ?_)
  refine wpAny_bind (wpAny_holding (draw_lst ne n (i + 1) _ _ k1 (g1.extBut b1.extBut ne) (by omega) fun w2 k2 b2 => wpAny_pure ?_))
  have dr : us.toList.drop i = us[i] :: us.toList.drop (i + 1) := by simp [List.drop_eq_getElem_cons, lt]
  have z := q w2 (by rw [show i + (n + 1) = i + 1 + n by omega]; exact k2) (b1.trans b2)
  rw [dr, List.take_succ_cons] at z
  exact z
theorem unpack_lst {s : Shared} {l : Addr} {us : Array Value} {ts : List (Bool × (Value -> Sem Unit))} {Q : Unit -> Shared -> Prop} (ha : A.handled = none) (g1 : s.heap.IsList l us) (hn : ts.length = us.size) (hst : ts.findIdx? (·.1) = none)
  (q : ∀ h', Heap.ExtBut s.heap.objs.size s.heap h' -> wpAny (model P w) A (assignInOrder (ts.map (·.2)) us.toList) Q E { s with heap := h' }) : wpAny (model P w) A (unpack (.ref l) ts) Q E s := by
 have ne : l ≠ s.heap.objs.size := by
  obtain ⟨o, ho, _⟩ := g1
  exact Nat.ne_of_lt (Heap.lt_size ho)
 unfold unpack
 rw [hn, hst]
 refine wpAny_bind (wpAny_holding ?_)
 unfold unpackItems
 refine wpAny_bind ?_
 unfold notIterableAtAll
 refine wpAny_bind (wpAny_specialOf g1.typeIs slot_list_iter.lookup (wpAny_pure ?_))
 simp only [Bool.false_eq_true, if_false]
 refine wpAny_bind (wpAny_holding (wpAny_pyIter_list g1 ?_))
 refine wpAny_bind (wpAny_holding (draw_lst ne us.size 0 _ _ ⟨_, Heap.get?_push_size _ rfl, rfl, rfl⟩ (g1.push _) (by omega) fun w1 k1 b1 => ?_))
 rw [show List.take us.size (List.drop 0 us.toList) = us.toList by rw [List.drop_zero]; exact List.take_of_length_le (by simp)]
 rw [if_neg (by simp)]
 refine wpAny_bind (wpAny_holding (wpAny_pyNext_list_end ha k1 ((g1.push _).extBut b1.extBut ne) (by simp) fun w2 b2 => ?_))
 simp only [Option.isSome_none, Bool.false_eq_true, if_false]
 exact wpAny_pure (q w2 fun b o hb e => b2 b o hb (b1.extBut b o hb (Heap.get?_push_of_some _ e)))
end
def gLst (K : W.Frag) (n : Nat) (t : TGs) : TG := fun v σ H Q => ∃ a xs, v = .ref a /\ SqL K H a xs /\ xs.length = n /\ t xs σ H Q
theorem pg_lst {X : Cx} {es : List Expr} {k : Nat} {t : TGs} {n : Nat} {pos : Pos} (hc : X.calm = true) (h : PGs X es t)
  (hn : (assignEach es X.env).length = n := by rfl) (hst : (assignEach es X.env).findIdx? (·.1) = none := by rfl) : PG X (.Tuple es k pos) (gLst X.K n t) := by
 intro pins s σ H v u Q I r hw
 obtain ⟨a, xs, e1, hq, hl, hw⟩ := hw
 subst e1
 cases r
 obtain ⟨its, rv, p, hz⟩ := I.list hq
 rw [assign_Tuple]
 refine wpAny_bind (wpAny_standAt (unpack_lst (I.ok.hd hc) p.isList (by simp [hn, <- hl, rv.length]) hst fun h' hx => ?_))
 have I1 : Inv X pins σ H { s with heap := h' } := I.kept (t' := s.toks) fun b o e => hx b o (Nat.ne_of_lt (Heap.lt_size e)) e
 exact h pins _ σ H xs _ Q I1 (by simpa using rv) hw
end L2
namespace L2
open PySem PySem.Spec PySem.Calls PyProof.Rows
section
variable {X : Cx} {N : List Str} {fr : List Nat} {x x2 : Str} {scope : Scope} {cl : List (Str × Addr)} {elt iter : Expr} {px px2 tp pos : Pos} {kt : Nat} {wi : TI} {te : TE}
end
end L2
namespace L2
open PySem PySem.Spec PyProof.Rows
end L2
namespace L2
open PySem PySem.Spec PyProof.Rows
def Ho (b : Bool) (xs : List V) : HO := match b with
 | true => .lst xs
 | false => .tup xs
def Sq (K : W.Frag) (H : Hp) (b : Bool) (a : Addr) (xs : List V) : Prop := match b with
 | true => SqL K H a xs
 | false => SqT K H a xs
def Itb (K : W.Frag) (b : Bool) (a : Addr) : It := match b with
 | true => Itl K a
 | false => Itt K a
theorem Sq.of {K : W.Frag} {H : Hp} {b : Bool} {a : Addr} {xs : List V} (h : H a = some (Ho b xs)) : Sq K H b a xs := by
 cases b with
 | true => exact SqL.of h
 | false => exact SqT.of h
def iSeq (K : W.Frag) (tl : TE) : TI := fun σ H R => tl σ H fun x H1 => ∃ a b xs, x = .ref a /\ Sq K H1 b a xs /\ R (Itb K b a) H1
theorem pi_seq {X : Cx} {tg l : Expr} {tl : TE} (hl : PE X l tl) : PI X tg l (iSeq X.K tl) := by
 intro pins s σ H R I h
 refine thn (hl pins s σ H _ I h) fun v s1 ⟨x, H1, I1, r1, q1⟩ => ?_
 obtain ⟨a, b, xs, e, hq, q⟩ := q1
 subst e
 cases r1
 cases b with
 | true =>
  obtain ⟨its, rv, p, hz⟩ := I1.list hq
  refine wpAny_pyIter_list p.isList ?_
  refine ⟨s1.heap.objs.size, [s1.heap.objs.size], _, _, H1, rfl, I1.kept (t' := s1.toks) fun b o e => Heap.get?_push_of_some _ e, turn_list a _, ⟨_, Heap.get?_push_size _ rfl, rfl, rfl⟩, fun b hb => ?_, q⟩
  have e : b = s1.heap.objs.size := by simpa using hb
  subst e
  exact I1.fpOk (Nat.le_refl _) (I1.hok.fresh (Nat.le_refl _))
 | false =>
  obtain ⟨its, rv, p, hz⟩ := I1.tuple hq
  refine wpAny_pyIter_tuple (show s1.heap.IsTuple a its.toArray from p) ?_
  refine ⟨s1.heap.objs.size, [s1.heap.objs.size], _, _, H1, rfl, I1.kept (t' := s1.toks) fun b o e => Heap.get?_push_of_some _ e, turn_tuple a _, ⟨_, Heap.get?_push_size _ rfl, rfl, rfl⟩, fun b hb => ?_, q⟩
  have e : b = s1.heap.objs.size := by simpa using hb
  subst e
  exact I1.fpOk (Nat.le_refl _) (I1.hok.fresh (Nat.le_refl _))
theorem for_seq {K : W.Frag} {b : Bool} {a : Addr} {xs : List V} {g : TG} {tb : TS} {D : Ends} {σ : St} {H : Hp} (Pv : Nat -> St -> Hp -> Prop) (h0 : Pv 0 σ H) (hl : ∀ i σ H, i <= xs.length -> Pv i σ H -> Sq K H b a xs)
  (hs : ∀ i x σ H, xs[i]? = some x -> Pv i σ H -> g x σ H fun σ2 H2 => tb { D with nx := Pv (i + 1), ct := Pv (i + 1), bk := D.nx } σ2 H2) (hd : ∀ σ H, Pv xs.length σ H -> D.nx σ H) :
  ∃ W : Nat -> Nat -> St -> Hp -> Prop, (∃ m, W 0 m σ H) /\ ∀ i m σ H, W i m σ H ->
   ((Itb K b a).stop i H /\ D.nx σ H) \/ ((Itb K b a).go i H /\ ∃ N : St -> Hp -> Prop, (∀ σ' H', N σ' H' -> ∃ m', m' < m /\ W (i + 1) m' σ' H') /\ ∀ x H', (Itb K b a).yld i H x H' -> g x σ H' fun σ2 H2 => tb { D with nx := N, ct := N, bk := D.nx } σ2 H2) := by
 cases b with
 | true => exact for_list Pv h0 hl hs hd
 | false => exact for_tup Pv h0 hl hs hd
theorem compIf_seqF {K : W.Frag} {b : Bool} {a : Addr} {xs : List V} {tc : TT} {te : TE} {σ : V -> St} {H : Hp} {Q : VK} (hn : xs.length < sizeLine) (p : V -> Bool) (f : V -> V) (hK : ∀ H', Same H H' -> Sq K H' b a xs)
  (ht : ∀ (i : Nat) (x : V) (H' : Hp) (Q' : Bool -> Hp -> Prop), xs[i]? = some x -> Same H H' -> (∀ H2, Same H' H2 -> Q' (p x) H2) -> tc (σ x) H' Q')
  (he : ∀ (i : Nat) (x : V) (H' : Hp) (Q' : VK), xs[i]? = some x -> p x = true -> Same H H' -> (∀ H2, Same H' H2 -> Q' (f x) H2) -> te (σ x) H' Q')
  (q : ∀ a H', Same H H' -> H a = none -> H' a = some (.lst ((xs.filter p).map f)) -> Q (.ref a) H') : CompIfEnd (Itb K b a) Q H tc te σ := by
 cases b with
 | true => exact compIf_listF hn p f hK ht he q
 | false => exact compIf_tupF hn p f hK ht he q
section
variable {X : Cx} {tg : Expr}
end
theorem call_anyT {X : Cx} (hc : X.calm = true) : CallR X (.builtin "any") (fun xs H Q => ∃ (l : Addr) (ns : List Int), xs = [.ref l] /\ SqT X.K H l (ns.map V.int) /\ Q (.bl (ns.any (· != 0))) H) := by
 intro pins s σ H xs us Q I rv h
 obtain ⟨l, ns, rfl, hH, q⟩ := h
 obtain ⟨u, rfl, ru⟩ := rv.one
 cases ru
 obtain ⟨its, r, p, hz⟩ := I.tuple hH
 obtain ⟨o, e, hcl, n, hd⟩ := id p
 have hlt : l < s.heap.objs.size := Heap.lt_size e
 refine call_any_walk (wpAny_pyIter_tuple (A := X.A.in1) (show s.heap.IsTuple l its.toArray from p) ?_)
 have W := Walks.tuple (prog := X.prog) (w := X.w) (A := X.A.in1) (show X.A.in1.handled = none from I.ok.hd hc) s.heap.objs.size l (Nat.ne_of_lt hlt) its.toArray
 refine ⟨s.heap.objs.size, _, _, _, _, _, fun i => ns.getD i 0 != 0, rfl, W, ⟨⟨_, Heap.get?_push_size _ rfl, rfl, rfl⟩, ⟨o, Heap.get?_push_of_some _ e, hcl, n, hd⟩⟩, ?_, ?_⟩
 ·intro i v s' Q' E' hP hQ
  have hv : its[i]? = some v := by simpa using hP
  obtain ⟨b, t, hb, rfl⟩ : ∃ b t, ns[i]? = some b /\ v = Value.int b t := by
   cases hbi : ns[i]? with
   | none =>
    have h1 := r.none_of (i := i) (by rw [List.getElem?_map, hbi]; rfl)
    rw [h1] at hv; cases hv
   | some b =>
    obtain ⟨u', h1, h2⟩ := r.get (i := i) (x := .int b) (by rw [List.getElem?_map, hbi]; rfl)
    rw [h1] at hv; cases hv
    obtain ⟨t, rfl⟩ := h2
    exact ⟨b, t, rfl, rfl⟩
  have hQ2 : Q' (ns.getD i 0 != 0) s' := hQ
  rw [List.getD_eq_getElem?_getD, hb] at hQ2
  exact truthy_int hQ2
 ·intro h' tk hk
  have e2 : ((List.range its.toArray.size).any fun i => ns.getD i 0 != 0) = ns.any (· != 0) := by
   have hlen : its.toArray.size = ns.length := by
    rw [List.size_toArray, <- r.length, List.length_map]
   rw [hlen]
   rw [Bool.eq_iff_iff, List.any_eq_true, List.any_eq_true]
   constructor
   ·rintro ⟨i, hi, hA⟩
    have hi' := List.mem_range.mp hi
    rw [List.getD_eq_getElem?_getD, List.getElem?_eq_getElem hi'] at hA
    exact ⟨_, List.getElem_mem hi', hA⟩
   ·rintro ⟨b, hb, hA⟩
    obtain ⟨i, hi, e⟩ := List.getElem_of_mem hb
    refine ⟨i, List.mem_range.mpr hi, ?_⟩
    rw [List.getD_eq_getElem?_getD, List.getElem?_eq_getElem hi, e]
    exact hA
  rw [e2]
  refine ⟨.bl (ns.any (· != 0)), H, ?_, rfl, q⟩
  exact I.kept (h' := h') (t' := tk) fun b o q' => hk b o (fun zz => by
   have : b = s.heap.objs.size := by simpa using zz
   subst this
   exact absurd (Heap.lt_size q') (Nat.lt_irrefl _)) (Heap.get?_push_of_some _ q')
def TupK (K : W.Frag) (a : Addr) (xs : List V) : Prop := ∃ (o : Obj) (its : Array Value) (n : Nat), K.lookup a = some o /\ o.cls = .type "tuple" /\ o.data = .seq its n /\ its.size <= sizeLine /\ Vals xs its.toList
theorem TupK.sq {K : W.Frag} {a : Addr} {xs : List V} (h : TupK K a xs) (H : Hp) : SqT K H a xs := .inr h
theorem TupK.mk {K : W.Frag} {a : Addr} {xs : List V} {od : Option Addr} {its : Array Value} {n : Nat} {sl : Array (Option Value)} (h : K.lookup a = some ⟨.type "tuple", od, .seq its n, sl⟩) (hz : its.size <= sizeLine) (hv : Vals xs its.toList) : TupK K a xs := ⟨_, its, n, h, rfl, rfl, hz, hv⟩
end L2
namespace L2
open PySem PySem.Spec PyProof.Rows
end L2
namespace L2
open PySem PySem.Spec PyProof.Rows
structure CompScope3 (X : Cx) (N : List Str) (fr : List Nat) (x x2 x3 : Str) (scope : Scope) (cl : List (Str × Addr)) : Prop where
 kind : scope.kind = .function
 nocell : ∀ y ∈ scope.names, y.2 ≠ .cell
 loc : ∀ y ∈ scope.names, y.2 = .local -> scope.names.lookup y.1 = some .local
 own : scope.names.lookup x = some .local
 own2 : scope.names.lookup x2 = some .local
 own3 : scope.names.lookup x3 = some .local
 clos : closureFor scope X.env = pure cl
 sub : ∀ y c, cl.lookup y = some c -> X.env.cells.lookup y = some c
 has : ∀ y, ((relabel scope X.env).names.lookup y = some .cell \/ (relabel scope X.env).names.lookup y = some .free) -> ∃ c, cl.lookup y = some c
 nd : N.Nodup
 hN : N[0]? = some x
 hN2 : N[1]? = some x2
 hN3 : N[2]? = some x3
 len : N.length = fr.length + 3
 ownOnly : ∀ (j : Nat) (y : Str), N[j + 3]? = some y -> (relabel scope X.env).names.lookup y ≠ some .local
 out : ∀ (j k : Nat), fr[j]? = some k -> ∃ y, N[j + 3]? = some y /\ X.N[k]? = some y /\ X.env.kindOf y = some .cell
def compSt3 (σ : St) (fr : List Nat) (v v2 v3 : Option V) : St := v :: v2 :: v3 :: fr.map fun k => (σ[k]?).join
def Comp3End (K : W.Frag) (J : It) (Q : VK) (H1 : Hp) (te : TE) (σ : V -> V -> V -> St) : Prop := ∀ acc, H1 acc = none -> ∃ W : Nat -> Nat -> Hp -> List V -> Prop, (∃ m, W 0 m (upd H1 acc (.lst [])) []) /\
 ∀ i m H' vs, W i m H' vs -> H' acc = some (.lst vs) /\ ((J.stop i H' /\ Q (.ref acc) H') \/ (J.go i H' /\ vs.length < sizeLine /\ ∀ x H2, J.yld i H' x H2 -> ∃ (t : Addr) (v1 v2 v3 : V), x = .ref t /\ SqT K H2 t [v1, v2, v3] /\ te (σ v1 v2 v3) H2 fun y H3 => H3 acc = some (.lst vs) /\ ∃ m', m' < m /\ W (i + 1) m' (upd H3 acc (.lst (vs ++ [y]))) (vs ++ [y])))
def tComp3 (K : W.Frag) (wi : TI) (fr : List Nat) (te : TE) : TE := fun σ H Q => wi σ H fun J H1 => Comp3End K J Q H1 te (fun v1 v2 v3 => compSt3 σ fr (some v1) (some v2) (some v3))
def Comp3IEnd (K : W.Frag) (J : It) (Q : VK) (H1 : Hp) (tc : TT) (te : TE) (σ : V -> V -> V -> St) : Prop := ∀ acc, H1 acc = none -> ∃ W : Nat -> Nat -> Hp -> List V -> Prop, (∃ m, W 0 m (upd H1 acc (.lst [])) []) /\
 ∀ i m H' vs, W i m H' vs -> H' acc = some (.lst vs) /\ ((J.stop i H' /\ Q (.ref acc) H') \/ (J.go i H' /\ vs.length < sizeLine /\ ∀ x H2, J.yld i H' x H2 -> ∃ (t : Addr) (v1 v2 v3 : V), x = .ref t /\ SqT K H2 t [v1, v2, v3] /\ tc (σ v1 v2 v3) H2 fun b H3 =>
  if b = true then te (σ v1 v2 v3) H3 fun y H4 => H4 acc = some (.lst vs) /\ ∃ m', m' < m /\ W (i + 1) m' (upd H4 acc (.lst (vs ++ [y]))) (vs ++ [y]) else ∃ m', m' < m /\ W (i + 1) m' H3 vs))
def tComp3I (K : W.Frag) (wi : TI) (fr : List Nat) (tc : TT) (te : TE) : TE := fun σ H Q => wi σ H fun J H1 => Comp3IEnd K J Q H1 tc te (fun v1 v2 v3 => compSt3 σ fr (some v1) (some v2) (some v3))
section
variable {X : Cx} {N : List Str} {fr : List Nat} {x x2 x3 : Str} {scope : Scope} {cl : List (Str × Addr)} {elt iter : Expr} {px px2 px3 tp pos : Pos} {kt : Nat} {wi : TI} {te : TE}
theorem cxC_ok3 {pins : List (Addr × Obj)} {σ : St} {H : Hp} {s : Shared} {fp : List Addr} {C : Addr} (S : CompScope3 X N fr x x2 x3 scope cl) (I : Inv X pins σ H s) (hf : ∀ b ∈ fp, FpOk X pins H b) (hC : s.heap.objs.size <= C) (hfl : ∀ b ∈ fp, b < s.heap.objs.size) : (cxC X N scope cl C s H fp pins).Ok where
 mod := I.ok.mod
 kind := S.kind
 glob := I.ok.glob
 blt := I.ok.blt
 above := hC
 inj := fun y z c h1 h2 => I.ok.inj y z c (S.sub _ _ h1) (S.sub _ _ h2)
 has := fun y h => S.has y h
 cab := fun y c h => by cases h
 hd := I.ok.hd
 hs := I.ok.hs
 frames := I.ok.frames
 stk := .inl rfl
 exf := fun b hb => ⟨Nat.ne_of_lt (Nat.lt_of_lt_of_le (hfl b hb) hC), fun y c h => (hf b hb).2.2.2.2.1 y c (S.sub _ _ h)⟩
 bs := fun b o e => I.bs b o e
 bsz := Nat.le_trans I.ok.bsz I.sz
 noex := fun b o e hb => by
  rcases (hf b hb).2.2.2.1 with z | z
  ·exact I.ok.noex b o e z
  ·exact absurd (Nat.lt_of_lt_of_le (Heap.lt_size e) (Nat.le_trans I.ok.bsz z)) (Nat.lt_irrefl _)
 exfs := fun b hb z => by
  rcases List.mem_cons.mp (I.stkSub b z) with e | e
  ·exact (hf b hb).2.1 e
  ·exact (hf b hb).2.2.1 e
 funs := I.stack
 frf := I.stkFree
theorem cxC_start3 {pins : List (Addr × Obj)} {σ : St} {H : Hp} {s s4 : Shared} {fp : List Addr} {C : Addr} {m : Str -> Option Value} (S : CompScope3 X N fr x x2 x3 scope cl) (I : Inv X pins σ H s) (hf : ∀ b ∈ fp, FpOk X pins H b) (hC : s.heap.objs.size <= C) (hfl : ∀ b ∈ fp, b < s.heap.objs.size)
  (hn : s4.heap.Ns C m) (hk : ∀ b o, s.heap.get? b = some o -> s4.heap.get? b = some o) (ho : s4.os = s.os) (hg : s4.gens = s.gens) : Inv (cxC X N scope cl C s H fp pins) [] (compSt3 σ fr none none none) H s4 := by
 obtain ⟨m0, hn0, hl⟩ := id I.loc
 refine ⟨cxC_ok3 S I hf hC hfl, I.fzs, ho, by rw [hg]; exact I.bare, Un.kept hk, ⟨m, hn, fun i y v e1 e2 e3 => ?_⟩, fun y c h => ?_, I.hok.fresh hC, fun y c h => I.freeC y c (S.sub _ _ h), fun p hp => ?_, I.hok.kept hk, ?_⟩
 ·match i, e1, e2 with
  | 0, e1, e2 => cases e2
  | 1, e1, e2 => cases e2
  | 2, e1, e2 => cases e2
  | j + 3, e1, e2 =>
   have e2' : (fr.map fun k => (σ[k]?).join)[j]? = some (some v) := e2
   rw [List.getElem?_map] at e2'
   cases ek : fr[j]? with
   | none => rw [ek] at e2'; cases e2'
   | some k =>
    rw [ek] at e2'
    have e4 : (σ[k]?).join = some v := Option.some.inj e2'
    obtain ⟨y', h1, h2, h3⟩ := S.out j k ek
    have e1' : N[j + 3]? = some y := e1
    obtain rfl : y' = y := Option.some.inj (h1.symm.trans e1')
    have e5 : σ[k]? = some (some v) := by
     cases q : σ[k]? with
     | none => rw [q] at e4; cases e4
     | some w => rw [q] at e4; exact congrArg some e4
    obtain ⟨u, r, lk⟩ := hl k y' v h2 e5 (.inr (.inl h3))
    refine ⟨u, r, .inr ?_⟩
    rcases lk with ⟨z, _⟩ | ⟨_, c, hc, hcell⟩
    ·rw [h3] at z; cases z
    ·have e6 : Vis (relabel scope X.env) y' := e3
     have hk2 : (relabel scope X.env).names.lookup y' = some .cell \/ (relabel scope X.env).names.lookup y' = some .free := by
      rcases e6 with e6 | e6 | e6
      ·exfalso
       have nd := S.nd
       -- a name of the block's own is the first one
       exact S.ownOnly _ _ h1 e6
      ·exact .inl e6
      ·exact .inr e6
     obtain ⟨c2, hc2⟩ := S.has y' hk2
     have := S.sub _ _ hc2
     rw [hc] at this; cases this
     obtain ⟨o, z1, z2⟩ := hcell
     exact ⟨hk2, c, hc2, o, hk _ _ z1, z2⟩
 ·obtain ⟨v, o, z1, z2⟩ := I.cell y c (S.sub _ _ h)
  exact ⟨v, o, hk _ _ z1, z2⟩
 ·rw [List.append_nil] at hp
  obtain ⟨e, k, ne, nf, d⟩ := I.pin p hp
  refine ⟨hk _ _ e, k, Nat.ne_of_lt (Nat.lt_of_lt_of_le (Heap.lt_size e) hC), fun z => ?_, d⟩
  rcases List.mem_cons.mp (I.stkSub _ z) with q | q
  ·exact ne q
  ·exact nf q
 ·show (compSt3 σ fr none none none).length = N.length
  rw [S.len]
  simp [compSt3]
theorem comp_core3 {ifs : List Expr} {tc : TT} {use : Option (Value -> Sem Unit)} {R : Value -> Shared -> Prop} {Q : VK} {pins : List (Addr × Obj)} {s : Shared} {σ : St} {H : Hp} {ep : Pos} (hc : X.still = true) (S : CompScope3 X N fr x x2 x3 scope cl) (hi : PI X (.Tuple [.Name x px, .Name x2 px2, .Name x3 px3] kt tp) iter wi)
  (ht : ∀ (C : Addr) (s0 : Shared) (H0 : Hp) (fp : List Addr) (pins : List (Addr × Obj)), PTs (cxC X N scope cl C s0 H0 fp pins) ifs tc) (he : ∀ (C : Addr) (s0 : Shared) (H0 : Hp) (fp : List Addr) (pins : List (Addr × Obj)), PE (cxC X N scope cl C s0 H0 fp pins) elt te)
  (hs : ∀ y, foldedSetIterable iter X.env y = pure y) (I : Inv X pins σ H s) (h : tComp3I X.K wi fr tc te σ H Q)
  (fin : ∀ (acc C : Addr) (m : Str -> Option Value) (H6 : Hp) (s7 : Shared), Q (.ref acc) H6 -> s7.heap.Ns C m -> (∀ h' : Heap, Heap.SameBut C s7.heap h' -> Inv X pins σ H6 { s7 with heap := h' }) -> H6 C = none -> X.env.locals ≠ C -> (∀ z c, X.env.cells.lookup z = some c -> c ≠ C) -> (∀ p ∈ X.pn ++ pins, p.1 ≠ C) -> X.s₀.heap.objs.size <= C -> compPost (model X.prog X.w) X.A X.xe use R (.ref acc) C (.ok .next) s7) :
  wpAny (model X.prog X.w) X.A (comprehension (.ListComp elt [⟨.Tuple [.Name x px, .Name x2 px2, .Name x3 px3] kt tp, iter, ifs, 0⟩] scope pos) scope X.env ep (newList []) false (eval iter X.env) use) R X.xe s := by
 refine wpAny_comprehension_free (use := use) rfl hs S.clos S.kind S.loc (thn (hi pins s σ H _ I h) fun v s1 h1 => thn h1 fun itv s2 h2 => ?_)
 obtain ⟨it, fp, tn, J, H2, e, I2, T, st2, f2, hW⟩ := h2
 subst e
 have hfl : ∀ b ∈ fp, b < s2.heap.objs.size := fun b hb => by
  obtain ⟨o, q, _⟩ := T.obj _ _ st2 b hb
  exact Heap.lt_size q
 have hfr : H2 s2.heap.objs.size = none := I2.hok.fresh (Nat.le_refl _)
 refine wpAny_newObj_type ?_
 have keep3 : ∀ b o, s2.heap.get? b = some o -> (s2.heap.push { cls := .type "list", dict := none, data := .seq ([] : List Value).toArray }).get? b = some o := fun b o q => Heap.get?_push_of_some _ q
 have I3 : Inv X pins σ (upd H2 s2.heap.objs.size (.lst [])) { s2 with heap := s2.heap.push { cls := .type "list", dict := none, data := .seq ([] : List Value).toArray } } :=
  I2.laid (t' := s2.toks) keep3 (Nat.le_refl _) ⟨Nat.zero_le _, [], 0, .nil, Heap.get?_push_size _ rfl⟩
 obtain ⟨W, ⟨m0, w0⟩, turn⟩ := hW s2.heap.objs.size hfr
 have f3 : ∀ b ∈ fp, FpOk X pins (upd H2 s2.heap.objs.size (.lst [])) b := fun b hb => ⟨by rw [upd_ne (Nat.ne_of_lt (hfl b hb))]; exact (f2 b hb).1, (f2 b hb).2⟩
 refine wpAny_newFunctionEnv S.nocell (by intro y hy; simp at hy) (fun h4 hns hsb => ?_) S.kind
 have hfl3 : ∀ b ∈ fp, b < (s2.heap.push { cls := .type "list", dict := none, data := .seq ([] : List Value).toArray }).objs.size := fun b hb => by
  rw [Heap.size_push]
  exact Nat.lt_succ_of_lt (hfl b hb)
 have keep4 : ∀ b o, (s2.heap.push { cls := .type "list", dict := none, data := .seq ([] : List Value).toArray }).get? b = some o -> h4.get? b = some o := fun b o q =>
  (hsb.2 b (Nat.ne_of_lt (Heap.lt_size q))).trans (Heap.get?_push_of_some _ q)
 have I4 : Inv (cxC X N scope cl (s2.heap.push { cls := .type "list", dict := none, data := .seq ([] : List Value).toArray }).objs.size { s2 with heap := s2.heap.push { cls := .type "list", dict := none, data := .seq ([] : List Value).toArray } } (upd H2 s2.heap.objs.size (.lst [])) fp pins) [] (compSt3 σ fr none none none) (upd H2 s2.heap.objs.size (.lst []))
   { s2 with heap := h4, toks := s2.toks + ([] : List (Str × Value)).length } := cxC_start3 S I3 f3 (Nat.le_refl _) hfl3 hns keep4 rfl rfl
 have st4 : tn 0 h4 := T.keep _ _ _ st2 fun b hb o q => keep4 b o (keep3 b o q)
 generalize hY : cxC X N scope cl (s2.heap.push { cls := .type "list", dict := none, data := .seq ([] : List Value).toArray }).objs.size { s2 with heap := s2.heap.push { cls := .type "list", dict := none, data := .seq ([] : List Value).toArray } } (upd H2 s2.heap.objs.size (.lst [])) fp pins = Y at I4
 have hel : PE Y elt te := hY ▸ he _ _ _ _ _
 have htl : PTs Y ifs tc := hY ▸ ht _ _ _ _ _
 have eA : Y.A = X.A := by rw [<- hY]; rfl
 have eP : Y.prog = X.prog := by rw [<- hY]; rfl
 have ew : Y.w = X.w := by rw [<- hY]; rfl
 have eK : Y.K = X.K := by rw [<- hY]; rfl
 have eC : Y.still = true := by rw [<- hY]; exact hc
 have eE : Y.env = compEnvC scope cl (s2.heap.push { cls := .type "list", dict := none, data := .seq ([] : List Value).toArray }).objs.size X.env := by rw [<- hY]; rfl
 have eX : Y.xe = fun _ _ => False := by rw [<- hY]; rfl
 have hg : PG Y (.Tuple [.Name x px, .Name x2 px2, .Name x3 px3] kt tp) (gTup Y.K 3 (gCons (gName 0) (gCons (gName 1) (gCons (gName 2) gNil)))) := by
  refine pg_tup eC (pgs_cons ?_ (pgs_cons ?_ (pgs_cons ?_ pgs_nil))) (by rfl) (by rfl)
  ·subst hY
   exact pg_name (i := 0) S.nd S.hN (.inl (lookup_relabel_local S.own)) (.inr (lookup_relabel_local S.own))
  ·subst hY
   exact pg_name (i := 1) S.nd S.hN2 (.inl (lookup_relabel_local S.own2)) (.inr (lookup_relabel_local S.own2))
  ·subst hY
   exact pg_name (i := 2) S.nd S.hN3 (.inl (lookup_relabel_local S.own3)) (.inr (lookup_relabel_local S.own3))
 have fY : ∀ {H' : Hp}, (∀ b ∈ fp, H' b = none) -> ∀ b ∈ fp, FpOk Y [] H' b := fun {H'} hn b hb => by
  subst hY
  obtain ⟨_, g2, g3, g4, g5, g6⟩ := f3 b hb
  refine ⟨hn b hb, Nat.ne_of_lt (hfl3 b hb), fun z => ?_, .inl hb, fun y c q => g5 y c (S.sub _ _ q), fun p hp => ?_⟩
  ·rcases List.mem_cons.mp (I3.stkSub b z) with q | q
   ·exact g2 q
   ·exact g3 q
  ·rw [List.append_nil] at hp
   exact g6 p hp
 have loop : ∀ s5 : Shared, s5 = { s2 with heap := h4, toks := s2.toks + ([] : List (Str × Value)).length } ->
   codeAny (model X.prog X.w) X.A (.compLoop (.ListComp elt [⟨.Tuple [.Name x px, .Name x2 px2, .Name x3 px3] kt tp, iter, ifs, 0⟩] scope pos) 0 (.ref it) (.ref s2.heap.objs.size) (compEnvC scope cl (s2.heap.push { cls := .type "list", dict := none, data := .seq ([] : List Value).toArray }).objs.size X.env))
    (compPost (model X.prog X.w) X.A X.xe use R (.ref s2.heap.objs.size) (s2.heap.push { cls := .type "list", dict := none, data := .seq ([] : List Value).toArray }).objs.size) s5 := by
  rintro s5 rfl
  refine compLoop_pairIf (fun n s' => ∃ i v v2 v3 H' vs, Inv Y [] (compSt3 σ fr v v2 v3) H' s' /\ tn i s'.heap /\ (∀ b ∈ fp, H' b = none) /\ W i n H' vs) ?_ m0 ⟨0, none, none, none, _, [], I4, st4, fun b hb => (f3 b hb).1, w0⟩
  rintro n s6 ⟨i, v6, v62, v63, H6, vs, I6, st6, fr6, w6⟩
  obtain ⟨hacc, hgo⟩ := turn i n H6 vs w6
  rcases hgo with ⟨stop, qn⟩ | ⟨go, hz, step⟩
  ·have hd := T.done Y eP ew eK eC i [] s6 _ H6 (fun _ _ => False) I6 (fY fr6) st6 stop
   rw [eA] at hd
   refine wpAny_mono hd (fun r s7 ⟨hr, I7⟩ => ?_) fun _ _ z => z.elim
   subst hr
   obtain ⟨m, hn, _⟩ := id I7.loc
   rw [eE] at hn
   have hend : ∀ h' : Heap, Heap.SameBut (s2.heap.push { cls := .type "list", dict := none, data := .seq ([] : List Value).toArray }).objs.size s7.heap h' -> Inv X pins σ H6 { s7 with heap := h' } := fun h' hs' => by
    subst hY
    exact cxC_end I3 f3 (Nat.le_refl _) I7 hs'
   have cf : H6 (s2.heap.push { cls := .type "list", dict := none, data := .seq ([] : List Value).toArray }).objs.size = none := by
    subst hY
    exact I7.free
   have big : ∀ b o, s2.heap.get? b = some o -> b ≠ (s2.heap.push { cls := .type "list", dict := none, data := .seq ([] : List Value).toArray }).objs.size := fun b o q => Nat.ne_of_lt (by rw [Heap.size_push]; exact Nat.lt_succ_of_lt (Heap.lt_size q))
   obtain ⟨m2, hn2, _⟩ := id I2.loc
   obtain ⟨oL, _, _, hoL, _⟩ := id hn2
   exact fin _ _ m H6 s7 qn hn hend cf (big _ _ hoL) (fun z c q => by
    obtain ⟨_, o, w1, _⟩ := I2.cell z c q
    exact big _ _ w1) (fun p hp => by
    obtain ⟨e, _⟩ := I2.pin p hp
    exact big _ _ e) (by
    rw [Heap.size_push]
    exact Nat.le_succ_of_le (Nat.le_trans (Nat.le_refl _) I2.sz))
  ·have hd := T.item Y eP ew eK eC i [] s6 _ H6 (fun _ _ => False) I6 (fY fr6) st6 go
   rw [eA] at hd
   refine wpAny_mono hd (fun r s7 ⟨u, hr, h7⟩ => ?_) fun _ _ z => z.elim
   subst hr
   refine wpAny_mono h7 (fun _ s8 ⟨y, H8, I8, r8, y8, st8, fr8⟩ => ?_) fun _ _ z => z.elim
   have I8' := I8.pinned (fY fr8) (T.obj _ _ st8)
   obtain ⟨ta, va, vb, vc, ey, hta, step'⟩ := step y _ y8
   have h9 := hg _ s8 _ H8 y u (fun σ9 H9 => σ9 = compSt3 σ fr (some va) (some vb) (some vc) /\ H9 = H8) I8' r8 ⟨ta, [va, vb, vc], ey, by rw [eK]; exact hta, rfl, va, [vb, vc], rfl, vb, [vc], rfl, vc, [], rfl, rfl, rfl, rfl⟩
   rw [eA, eP, ew, eE, eX] at h9
   refine wpAny_mono h9 (fun _ s9 ⟨σ9, H9, I9, e9, e9'⟩ => ?_) fun _ _ z => z.elim
   subst e9 e9'
   have ht10 := htl _ s9 _ _ _ I9 step'
   rw [eA, eP, ew, eE, eX] at ht10
   refine wpAny_mono ht10 (fun ok s9t ⟨H9t, I9t, q9t⟩ => ?_) fun _ _ z => z.elim
   cases ok with
   | false =>
    rw [if_neg Bool.false_ne_true] at q9t
    rw [if_neg Bool.false_ne_true]
    obtain ⟨m', hm, w10⟩ := q9t
    refine ⟨m', hm, i + 1, some va, some vb, some vc, _, vs, I9t.unpinned, T.keep _ _ _ st8 fun b hb o q => (I9t.pin (b, o) (List.mem_append_right _ (List.mem_append_right _ (mem_pinsAt hb q)))).1, fun b hb => ?_, w10⟩
    obtain ⟨o, q, _⟩ := T.obj _ _ st8 b hb
    exact (I9t.pin (b, o) (List.mem_append_right _ (List.mem_append_right _ (mem_pinsAt hb q)))).2.1
   | true =>
   rw [if_pos rfl] at q9t
   rw [if_pos rfl]
   have h10 := hel _ s9t _ _ _ I9t q9t
   rw [eA, eP, ew, eE, eX] at h10
   refine wpAny_mono h10 (fun u10 s10 ⟨z10, H10, I10, r10, a10, m', hm, w10⟩ => ?_) fun _ _ z => z.elim
   have h11 := mt_append _ s10 _ H10 (.ref s2.heap.objs.size) [z10] (.ref s2.heap.objs.size) [u10] (fun _ H11 => H11 = upd H10 s2.heap.objs.size (.lst (vs ++ [z10]))) I10 rfl (.cons r10 .nil) ⟨_, vs, z10, rfl, rfl, a10, hz, rfl⟩
   rw [eA, eP, ew, eX] at h11
   refine wpAny_mono h11 (fun _ s11 ⟨_, H11, I11, _, e11⟩ => ?_) fun _ _ z => z.elim
   subst e11
   refine ⟨m', hm, i + 1, some va, some vb, some vc, _, vs ++ [z10], I11.unpinned, T.keep _ _ _ st8 fun b hb o q => (I11.pin (b, o) (List.mem_append_right _ (List.mem_append_right _ (mem_pinsAt hb q)))).1, fun b hb => ?_, w10⟩
   obtain ⟨o, q, _⟩ := T.obj _ _ st8 b hb
   exact (I11.pin (b, o) (List.mem_append_right _ (List.mem_append_right _ (mem_pinsAt hb q)))).2.1
 exact codeAny_compStart_list (loop _ rfl) (T.self _ 0 _ _ _ st4 (loop _ rfl))
theorem pe_comp3 (hc : X.still = true) (S : CompScope3 X N fr x x2 x3 scope cl) (hi : PI X (.Tuple [.Name x px, .Name x2 px2, .Name x3 px3] kt tp) iter wi) (he : ∀ (C : Addr) (s0 : Shared) (H0 : Hp) (fp : List Addr) (pins : List (Addr × Obj)), PE (cxC X N scope cl C s0 H0 fp pins) elt te)
  (hs : ∀ y, foldedSetIterable iter X.env y = pure y := by intro _; rfl) : PE X (.ListComp elt [⟨.Tuple [.Name x px, .Name x2 px2, .Name x3 px3] kt tp, iter, [], 0⟩] scope pos) (tComp3 X.K wi fr te) := by
 intro pins s σ H Q I h
 rw [eval_ListComp]
 exact comp_core3 (tc := fun _ H Q => Q true H) (use := none) hc S hi (fun _ _ _ _ _ => pts_nil) he hs I h fun acc C m H6 s7 qn hn hend _ _ _ _ _ => ⟨m, hn, fun h' hs' => ⟨.ref acc, H6, hend h' hs', rfl, qn⟩⟩
end
theorem CompScope3.gen {X : Cx} {x x2 x3 : Str} {scope : Scope} {cl : List (Str × Addr)} (ys : List Str) (ks : List Nat) (ns' : List (Str × NameKind)) (kind : scope.kind = .function) (nocell : ∀ z ∈ scope.names, z.2 ≠ .cell) (loc : ∀ z ∈ scope.names, z.2 = .local -> scope.names.lookup z.1 = some .local) (own : scope.names.lookup x = some .local) (own2 : scope.names.lookup x2 = some .local) (own3 : scope.names.lookup x3 = some .local)
  (clos : closureFor scope X.env = pure cl) (sub : ∀ p ∈ cl, X.env.cells.lookup p.1 = some p.2) (rl : (relabel scope X.env).names = ns') (only : ∀ p ∈ ns', p.2 = .cell \/ p.2 = .free -> (cl.lookup p.1).isSome = true) (nd : (x :: x2 :: x3 :: ys).Nodup) (ny : ∀ y ∈ ys, ns'.lookup y ≠ some .local) (hl : ks.length = ys.length)
  (hk : ∀ p ∈ ks.zip ys, X.N[p.1]? = some p.2 /\ X.env.kindOf p.2 = some .cell) : CompScope3 X (x :: x2 :: x3 :: ys) ks x x2 x3 scope cl := by
 subst rl
 refine ⟨kind, nocell, loc, own, own2, own3, clos, fun y c h => lookup_mem_all (P := fun y c => X.env.cells.lookup y = some c) sub h, has_of only, nd, rfl, rfl, rfl, by simp [hl], fun j y h => ?_, fun j k h => outs_ok (own := [x, x2, x3]) hl hk j k h⟩
 exact ny y (List.mem_of_getElem? (by simpa using h))
theorem comp3_tupF {K : W.Frag} {a : Addr} {xs : List V} {te : TE} {σ : V -> V -> V -> St} {H : Hp} {Q : VK} (hK : ∀ H', Same H H' -> SqT K H' a xs) (hn : xs.length < sizeLine) (f1 f2 f3 f : Nat -> V)
  (hr : ∀ (i : Nat) (x : V), xs[i]? = some x -> ∃ t : Addr, x = .ref t /\ ∀ H', Same H H' -> SqT K H' t [f1 i, f2 i, f3 i])
  (he : ∀ (i : Nat) (H' : Hp) (Q' : VK), i < xs.length -> Same H H' -> (∀ H2, Same H' H2 -> Q' (f i) H2) -> te (σ (f1 i) (f2 i) (f3 i)) H' Q')
  (q : ∀ p H', Same H H' -> H p = none -> H' p = some (.lst ((List.range xs.length).map f)) -> Q (.ref p) H') : Comp3End K (Itt K a) Q H te σ := by
 intro acc hacc
 refine ⟨fun i m H' vs => i <= xs.length /\ m = xs.length - i /\ Same H H' /\ H' acc = some (.lst vs) /\ vs = (List.range i).map f, ⟨xs.length, Nat.zero_le _, by simp, same_new hacc _, upd_same, rfl⟩, ?_⟩
 rintro i m H' vs ⟨hi, rfl, g, ha, rfl⟩
 refine ⟨ha, ?_⟩
 by_cases hlt : i < xs.length
 ·refine .inr ⟨⟨xs, xs[i], hK _ g, by simp [hlt]⟩, by rw [List.length_map, List.length_range]; omega, fun x H2 h => ?_⟩
  obtain ⟨rfl, hx⟩ := h
  have hx' := hx xs (hK _ g)
  obtain ⟨t, rfl, ht⟩ := hr i x hx'
  refine ⟨t, f1 i, f2 i, f3 i, rfl, ht _ g, he i H2 _ hlt g fun H3 g3 => ⟨g3 _ _ ha, xs.length - (i + 1), by omega, by omega, rfl, fun b o z => ?_, upd_same, ?_⟩⟩
  ·rw [upd_ne (fun y => by subst y; rw [z] at hacc; cases hacc)]
   exact g3 _ _ (g _ _ z)
  ·rw [List.range_succ, List.map_append]
   rfl
 ·have e : i = xs.length := by omega
  subst e
  exact .inl ⟨⟨xs, hK _ g, Nat.le_refl _⟩, q _ _ g hacc ha⟩
section
variable {X : Cx} {N : List Str} {fr : List Nat} {x x2 x3 : Str} {scope : Scope} {cl : List (Str × Addr)} {elt iter : Expr} {px px2 px3 tp pos : Pos} {kt : Nat} {wi : TI} {te : TE}
def tSetC3 (K : W.Frag) (wi : TI) (fr : List Nat) (te : TE) (k : Nat) : TS := fun D σ H => tComp3 K wi fr te σ H fun v H' => D.nx (σ.set k (some v)) H'
theorem ps_setC3 {y : Str} {py spos : Pos} {k : Nat} (hN : X.N.Nodup) (hk : X.N[k]? = some y) (hy : Loc X.env.scope y) (hsw : swapsWith (.ListComp elt [⟨.Tuple [.Name x px, .Name x2 px2, .Name x3 px3] kt tp, iter, [], 0⟩] scope pos) (some (.Name y py)) spos.line X.env = pure true) (hc : X.still = true) (S : CompScope3 X N fr x x2 x3 scope cl) (hi : PI X (.Tuple [.Name x px, .Name x2 px2, .Name x3 px3] kt tp) iter wi) (he : ∀ (C : Addr) (s0 : Shared) (H0 : Hp) (fp : List Addr) (pins : List (Addr × Obj)), PE (cxC X N scope cl C s0 H0 fp pins) elt te)
  (hf : X.fn y = true \/ X.env.scope.names.lookup y = some .local) (hs : ∀ y, foldedSetIterable iter X.env y = pure y := by intro _; rfl) : PS X (.Assign [.Name y py] (.ListComp elt [⟨.Tuple [.Name x px, .Name x2 px2, .Name x3 px3] kt tp, iter, [], 0⟩] scope pos) spos) (tSetC3 X.K wi fr te k) := by
 intro pins s σ H D I h
 rw [exec_Assign_Name_used _ _ _ _ hsw]
 refine wpAny_bind (wpAny_standAt (wpAny_bind ?_))
 show wpAny _ X.A (do let _ <- comprehension (.ListComp elt [⟨.Tuple [.Name x px, .Name x2 px2, .Name x3 px3] kt tp, iter, [], 0⟩] scope pos) scope X.env _ (newList []) false (eval iter X.env) (some (assign (.Name y py) X.env))) _ _ s
 refine wpAny_bind (wpAny_mono (comp_core3 (tc := fun _ H Q => Q true H) (Q := fun v H' => D.nx (σ.set k (some v)) H') (use := some (assign (.Name y py) X.env)) (R := fun _ s' => SP X pins D .next s') hc S hi (fun _ _ _ _ _ => pts_nil) he hs I h (fun acc C m H6 s7 qn hn hend cf cL cC cP cS => by
  have J7 : Inv X pins σ H6 s7 := hend s7.heap ⟨rfl, fun _ _ => rfl⟩
  show wpAny _ X.A (assign (.Name y py) X.env (.ref acc)) _ _ _
  refine wpAny_assign_Name (store_ok2 J7 hN hk hy (v := .ref acc) rfl (fun s8 J8 ⟨a, hsa, ha⟩ => ?_) hf)
  have aC : C ≠ a := by
   rcases ha with e | e
   ·rw [e]; exact Ne.symm cL
   ·exact Ne.symm (cC _ _ e)
  exact ⟨m, hn.sameBut hsa aC, fun h' hs' => ⟨_, H6, J8.off hs' cS cf (Ne.symm cL) cC cP, qn⟩⟩)) (fun _ s' hq => wpAny_pure (wpAny_pure hq)) fun _ _ e => e)
end
end L2
namespace L2
open PySem PySem.Spec PyProof.Rows
theorem isl {h : Heap} {a : Addr} {us : Array Value} (p : PlainL h a us) : h.IsList a us := by
 obtain ⟨o, n, e, c, _, d⟩ := p
 exact ⟨o, e, c, n, d⟩
section
variable {P : Program} {w : World} {A : Around} {E : Value -> Shared -> Prop} {s : Shared}
structure ZL (z TI TO j1 j2 a1 a2 : Addr) (us vs : Array Value) (i : Nat) (f0 : Value) (h : Heap) : Prop where
 zip : IsZip h z TI TO f0
 its : IsPair h TI (.ref j1) (.ref j2)
 to : ∃ a b, IsPair h TO a b
 i1 : h.IsListIter j1 a1 i
 i2 : h.IsTupleIter j2 a2 i
theorem zl_item {z TI TO j1 j2 a1 a2 : Addr} {us vs : Array Value} {i : Nat} {u v : Value} {Q : Value -> Shared -> Prop} (D : ZipApart z TI TO j1 j2 a1 a2) (Z : ZL z TI TO j1 j2 a1 a2 us vs i .none s.heap)
  (t1 : s.heap.IsList a1 us) (t2 : s.heap.IsTuple a2 vs) (eu : us[i]? = some u) (ev : vs[i]? = some v)
  (q : ∀ h', ZL z TI TO j1 j2 a1 a2 us vs (i + 1) (rawInt s.heap.objs.size) h' -> IsPair h' s.heap.objs.size u v -> h'.objs.size = s.heap.objs.size + 1 ->
   (∀ c o, c ≠ z -> c ≠ TO -> c ≠ j1 -> c ≠ j2 -> s.heap.get? c = some o -> h'.get? c = some o) -> Q (.ref s.heap.objs.size) { s with heap := h' }) :
  wpAny (model P w) A (Builtin.«zip.__next__» ⟨[.ref z], []⟩) (fun fin s' => ∃ v, fin = .done (.ret v) /\ Q v s') E s := by
 obtain ⟨hz, hI, ⟨p1, p2, hO⟩, y1, y2⟩ := Z
 show wpAny _ _ (field (.ref z) (1 + 1) >>= _) _ _ _
 refine wpAny_bind (wpAny_field hz rfl (x := .bool false) rfl ?_); show wpAny _ _ (field (.ref z) (2 + 1) >>= _) _ _ _
 refine wpAny_bind (wpAny_field hz rfl (x := .ref TI) rfl (wpAny_bind (wpAny_seqItems hI rfl ?_)))
 refine wpAny_bind (m := Builtin.SmallTypes.ownedTupleIsFree (.ref z)) ?_
 unfold Builtin.SmallTypes.ownedTupleIsFree; refine wpAny_bind (wpAny_field hz rfl (x := .none) rfl (wpAny_pure ?_))
 simp only [if_true]
 refine wpAny_bind (wpAny_rule (wpAny_bind (wpAny_field hz rfl (x := .ref TO) rfl ?_)))
 refine wpAny_bind (wpAny_setField_rec hz (by simp) fun w1 hz1 b1 => ?_)
 replace hz1 : IsZip w1 z TI TO .ellipsis := hz1
 refine wpAny_bind ?_
 simp only [List.zipIdx_cons, List.zipIdx_nil, List.forIn_cons, List.forIn_nil]; refine wpAny_bind (wpAny_bind (wpAny_onRaise ?_))
 refine wpAny_bind (m := Builtin.SmallTypes.nextOf (.ref j1)) (wpAny_nextOf_list_item (y1.extBut b1.extBut D.i1z) (t1.extBut b1.extBut D.l1z) eu fun w2 y12 b2 => wpAny_pure ?_)
 have hO2 : IsPair w2 TO p1 p2 := b2.extBut _ _ D.TOi1 (b1.extBut _ _ D.TOz hO)
 refine wpAny_bind (wpAny_seqItems hO2 rfl (wpAny_bind (wpAny_updateSeq_pair hO2 fun w3 hO3 b3 => ?_)))
 replace hO3 : IsPair w3 TO u p2 := hO3
 refine wpAny_bind (wpAny_letGo (wpAny_pure ?_)); refine wpAny_bind (wpAny_bind (wpAny_onRaise ?_))
 refine wpAny_bind (m := Builtin.SmallTypes.nextOf (.ref j2)) (tnext_item (((y2.extBut b1.extBut D.i2z).extBut b2.extBut D.i12.symm).extBut b3.extBut D.TOi2.symm) (((t2.extBut b1.extBut D.l2z).extBut b2.extBut D.l2i1).extBut b3.extBut D.l2TO) ev fun w4 y24 b4 => wpAny_pure ?_)
 have hO4 : IsPair w4 TO u p2 := b4.extBut _ _ D.TOi2 hO3
 refine wpAny_bind (wpAny_seqItems hO4 rfl (wpAny_bind (wpAny_updateSeq_pair hO4 fun w5 hO5 b5 => ?_)))
 replace hO5 : IsPair w5 TO u v := hO5
 refine wpAny_bind (wpAny_letGo (wpAny_pure (wpAny_pure ?_))); refine wpAny_bind (wpAny_seqItems hO5 rfl (wpAny_bind (wpAny_newTuple ?_)))
 have size5 : w5.objs.size = s.heap.objs.size := by rw [b5.1, b4.1, b3.1, b2.1, b1.1]
 have hz5 : IsZip w5 z TI TO .ellipsis := b5.extBut _ _ D.TOz.symm (b4.extBut _ _ D.i2z.symm (b3.extBut _ _ D.TOz.symm (b2.extBut _ _ D.i1z.symm hz1)))
 have kept5 : ∀ c o, c ≠ z -> c ≠ TO -> c ≠ j1 -> c ≠ j2 -> s.heap.get? c = some o -> w5.get? c = some o := fun c o c1 c2 c3 c4 e => b5.extBut _ _ c2 (b4.extBut _ _ c4 (b3.extBut _ _ c2 (b2.extBut _ _ c3 (b1.extBut _ _ c1 e))))
 have y15 : w5.IsListIter j1 a1 (i + 1) := ((y12.extBut b3.extBut D.TOi1.symm).extBut b4.extBut D.i12).extBut b5.extBut D.TOi1.symm
 have y25 : w5.IsTupleIter j2 a2 (i + 1) := y24.extBut b5.extBut D.TOi2.symm
 have zlt : z < w5.objs.size := Heap.lt_size hz5
 refine wpAny_bind (m := Builtin.SmallTypes.ownedTupleHandOut (.ref z) (.ref w5.objs.size)) ?_
 unfold Builtin.SmallTypes.ownedTupleHandOut
 have hz6 : IsZip (w5.push { cls := .type "tuple", data := .seq #[u, v] }) z TI TO .ellipsis := Heap.get?_push_of_some _ hz5
 refine wpAny_bind (wpAny_setField_rec hz6 (by simp) fun w7 hz7 b7 => ?_)
 replace hz7 : IsZip w7 z TI TO (rawInt w5.objs.size) := hz7
 refine wpAny_setField_rec hz7 (by simp) fun w8 hz8 b8 => ?_
 replace hz8 : IsZip w8 z TI TO (rawInt w5.objs.size) := hz8
 have up : ∀ c o, c ≠ z -> w5.get? c = some o -> w8.get? c = some o := fun c o c1 e => b8.extBut _ _ c1 (b7.extBut _ _ c1 (Heap.get?_push_of_some _ e))
 have new8 : IsPair w8 w5.objs.size u v := b8.extBut _ _ (Nat.ne_of_gt zlt) (b7.extBut _ _ (Nat.ne_of_gt zlt) (Heap.get?_push_size _ rfl))
 have size8 : w8.objs.size = w5.objs.size + 1 := by rw [b8.1, b7.1, Heap.size_push]
 rw [size5] at hz8 new8 size8
 refine wpAny_pure ⟨_, rfl, ?_⟩
 show Q (.ref w5.objs.size) _
 rw [size5]
 exact q w8 ⟨hz8, up _ _ D.TIz (kept5 _ _ D.TIz D.TITO D.TIi1 D.TIi2 hI), ⟨_, _, up _ _ D.TOz hO5⟩, (let ⟨o, e, r⟩ := y15; ⟨o, up _ _ D.i1z e, r⟩), (let ⟨o, e, r⟩ := y25; ⟨o, up _ _ D.i2z e, r⟩)⟩ new8 size8 fun c o c1 c2 c3 c4 e => up c o c1 (kept5 c o c1 c2 c3 c4 e)
theorem zl_end {z TI TO j1 j2 a1 a2 : Addr} {us vs : Array Value} {i : Nat} {Q : Fin -> Shared -> Prop} (ha : Still A s.heap) (nz : A.handled ≠ some (.ref z)) (nj : A.handled ≠ some (.ref j1)) (D : ZipApart z TI TO j1 j2 a1 a2) (Z : ZL z TI TO j1 j2 a1 a2 us vs i .none s.heap)
  (t1 : s.heap.IsList a1 us) (eu : us[i]? = none)
  (q : ∀ h' e, (∀ c o, c ≠ z -> c ≠ TO -> c ≠ j1 -> c ≠ j2 -> s.heap.get? c = some o -> h'.get? c = some o) -> (∃ o, h'.get? e = some o /\ o.cls = .type "StopIteration") -> E (.ref e) { s with heap := h' }) :
  wpAny (model P w) A (Builtin.«zip.__next__» ⟨[.ref z], []⟩) Q E s := by
 obtain ⟨hz, hI, ⟨p1, p2, hO⟩, y1, y2⟩ := Z
 show wpAny _ _ (field (.ref z) (1 + 1) >>= _) _ _ _
 refine wpAny_bind (wpAny_field hz rfl (x := .bool false) rfl ?_); show wpAny _ _ (field (.ref z) (2 + 1) >>= _) _ _ _
 refine wpAny_bind (wpAny_field hz rfl (x := .ref TI) rfl (wpAny_bind (wpAny_seqItems hI rfl ?_)))
 refine wpAny_bind (m := Builtin.SmallTypes.ownedTupleIsFree (.ref z)) ?_
 unfold Builtin.SmallTypes.ownedTupleIsFree; refine wpAny_bind (wpAny_field hz rfl (x := .none) rfl (wpAny_pure ?_))
 simp only [if_true]
 refine wpAny_bind (wpAny_rule (wpAny_bind (wpAny_field hz rfl (x := .ref TO) rfl ?_)))
 refine wpAny_bind (wpAny_setField_rec hz (by simp) fun w1 hz1 b1 => ?_)
 replace hz1 : IsZip w1 z TI TO .ellipsis := hz1
 refine wpAny_bind ?_
 simp only [List.zipIdx_cons, List.zipIdx_nil, List.forIn_cons, List.forIn_nil]; refine wpAny_bind (wpAny_bind (wpAny_onRaise ?_))
 refine wpAny_bind (m := Builtin.SmallTypes.nextOf (.ref j1)) (lnext_end_still (ha.mono fun e o hh h => b1.extBut _ _ (fun x => nz (by rw [<- x]; exact hh)) h) nj (y1.extBut b1.extBut D.i1z) (t1.extBut b1.extBut D.l1z) eu fun w2 e b2 he => ?_)
 obtain ⟨oe, e1, e2⟩ := he
 have hz2 : IsZip w2 z TI TO .ellipsis := b2 _ _ D.i1z.symm hz1
 have ez : e ≠ z := fun x => by
  subst x
  rw [hz2] at e1; cases e1; simp at e2
 exact wpAny_setField_rec hz2 (by simp) fun w3 _ b3 => q w3 e (fun c o c1 _ c3 _ x => b3.extBut _ _ c1 (b2 _ _ c3 (b1.extBut _ _ c1 x))) ⟨oe, b3.extBut _ _ ez e1, e2⟩
theorem zl_new (a1 a2 : Addr) (us vs : Array Value) :
  Meets (Builtin.«zip.__new__» ⟨[.type "zip", .ref a1, .ref a2], []⟩) (fun _ R s => s.heap.IsList a1 us /\ s.heap.IsTuple a2 vs /\
   ∀ h', (∀ c o, s.heap.get? c = some o -> h'.get? c = some o) -> ZL (s.heap.objs.size + 4) (s.heap.objs.size + 2) (s.heap.objs.size + 3) s.heap.objs.size (s.heap.objs.size + 1) a1 a2 us vs 0 .none h' -> h'.objs.size = s.heap.objs.size + 5 -> R (.ok (.ret (.ref (s.heap.objs.size + 4)))) { s with heap := h' }) :=
 .of_wp fun prog w A R s h => by
  obtain ⟨hp, g, d, tk, os⟩ := s; obtain ⟨t1, t2, h⟩ := h
  have hsub := sub_zip
  have T1 : Heap.IsList (Shared.heap ⟨hp, g, d, tk, os⟩) a1 us := t1
  have T2 : Heap.IsTuple (Shared.heap ⟨hp.push { cls := .type "list_iterator", data := .fields #[.ref a1, .int 0 0] }, g, d, tk, os⟩) a2 vs := t2.push _
  wp_walk using wpAny_pyIter_list T1, wpAny_pyIter_tuple T2
  refine ⟨_, rfl, ?_⟩
  simp only [Heap.size_push]
  refine h _ (fun c o e => Heap.get?_push_of_some _ (Heap.get?_push_of_some _ (Heap.get?_push_of_some _ (Heap.get?_push_of_some _ (Heap.get?_push_of_some _ e))))) ⟨?_, ?_, ⟨.none, .none, ?_⟩, ⟨_, Heap.get?_push_of_some _ (Heap.get?_push_of_some _ (Heap.get?_push_of_some _ (Heap.get?_push_of_some _ (Heap.get?_push_size _ rfl)))), rfl, rfl⟩, ⟨_, Heap.get?_push_of_some _ (Heap.get?_push_of_some _ (Heap.get?_push_of_some _ (Heap.get?_push_at (by simp only [Heap.size_push]) rfl))), rfl, rfl⟩⟩ (by simp only [Heap.size_push])
  ·exact Heap.get?_push_at (by simp only [Heap.size_push]) rfl
  ·exact Heap.get?_push_of_some _ (Heap.get?_push_of_some _ (Heap.get?_push_at (by simp only [Heap.size_push]) rfl))
  ·exact Heap.get?_push_of_some _ (Heap.get?_push_at (by simp only [Heap.size_push]) rfl)
theorem zl_call {a1 a2 : Addr} {us vs : Array Value} {Q : Value -> Shared -> Prop} (t1 : s.heap.IsList a1 us) (t2 : s.heap.IsTuple a2 vs)
  (q : ∀ h', (∀ c o, s.heap.get? c = some o -> h'.get? c = some o) -> ZL (s.heap.objs.size + 4) (s.heap.objs.size + 2) (s.heap.objs.size + 3) s.heap.objs.size (s.heap.objs.size + 1) a1 a2 us vs 0 .none h' -> h'.objs.size = s.heap.objs.size + 5 -> Q (.ref (s.heap.objs.size + 4)) { s with heap := h' }) :
  wpAny (model P w) A (call (.type "zip") [.ref a1, .ref a2]) Q E s := by
 refine callType_new F.called_zip (by decide) (F.typeCall_zip_2 _ _) (F.newCall_zip_2 _ _) (fun obj => F.args_object_init_3 obj _ _) F.entry_zip_new (zl_new a1 a2 us vs) ⟨t1, t2, fun h' k Z sz => ?_⟩
 exact ⟨⟨_, Z.zip, rfl⟩, q h' k Z sz⟩
end
def Itzl (K : W.Frag) (a b : Addr) : It :=
 ⟨fun i H => ∃ xs ys x y, SqL K H a xs /\ SqT K H b ys /\ xs[i]? = some x /\ ys[i]? = some y,
  fun i H v H' => ∃ t x y, v = .ref t /\ H t = none /\ H' = upd H t (.tup [x, y]) /\ (∀ xs, SqL K H a xs -> xs[i]? = some x) /\ ∀ ys, SqT K H b ys -> ys[i]? = some y,
  fun i H => ∃ xs ys, SqL K H a xs /\ SqT K H b ys /\ xs.length <= i⟩
theorem turn_zipL {P : Program} {w : World} {K : W.Frag} {elts : List Expr} {kt : Nat} {tp : Pos} {z TI TO j1 j2 a b : Addr} (D : ZipApart z TI TO j1 j2 a b) (us vs : Array Value) :
  Turn P w K (.Tuple elts kt tp) (Itzl K a b) [z, TI, TO, j1, j2] z (fun i h => ZL z TI TO j1 j2 a b us vs i .none h) where
 mem := by simp
 obj := fun i h st c hc => by
  obtain ⟨hz, hI, ⟨p1, p2, hO⟩, y1, y2⟩ := st
  simp only [List.mem_cons, List.not_mem_nil, or_false] at hc
  rcases hc with rfl | rfl | rfl | rfl | rfl
  ·exact ⟨_, hz, fun v q => by cases q⟩
  ·exact ⟨_, hI, fun v q => by cases q⟩
  ·exact ⟨_, hO, fun v q => by cases q⟩
  ·obtain ⟨o, e, c, d⟩ := y1
   exact ⟨o, e, fun v q => by rw [d] at q; cases q⟩
  ·obtain ⟨o, e, c, d⟩ := y2
   exact ⟨o, e, fun v q => by rw [d] at q; cases q⟩
 keep := fun i h h' st k => by
  obtain ⟨hz, hI, ⟨p1, p2, hO⟩, y1, y2⟩ := st
  exact ⟨k z (by simp) _ hz, k TI (by simp) _ hI, ⟨p1, p2, k TO (by simp) _ hO⟩, (let ⟨o, e, r⟩ := y1; ⟨o, k j1 (by simp) _ e, r⟩), (let ⟨o, e, r⟩ := y2; ⟨o, k j2 (by simp) _ e, r⟩)⟩
 item := by
  intro X hP hw hK hc i pins s σ H E I hf st hg
  subst hP hw hK
  obtain ⟨xs, ys, x, y, qx, qy, ex, ey⟩ := hg
  obtain ⟨its, rx, px, lx⟩ := I.list qx
  replace px := isl px
  obtain ⟨its', ry, py, ly⟩ := I.tuple qy
  obtain ⟨u, hu, ru⟩ := rx.get ex
  obtain ⟨v, hv, rv⟩ := ry.get ey
  have ht : s.TypeIs (.ref z) "zip" := ⟨_, st.zip, rfl⟩
  unfold pyNext
  have st' : ZL z TI TO j1 j2 a b its.toArray its'.toArray i .none s.heap := ⟨st.zip, st.its, st.to, st.i1, st.i2⟩
  refine wpAny_bind (wpAny_attempt (wpAny_callSpecial?_slot (name := Str.ofString "__next__") ht F.slot_zip_next (wpAny_call_entry F.slot_zip_next ht F.entry_zip_next
   (zl_item D st' px py (u := u) (v := v) (by simpa using hu) (by simpa using hv) fun h' Z np sz k => wpAny_pure ?_) (F.args_zip_next_1 _))))
  refine ⟨_, rfl, wpAny_letOwnedTupleGo_zip Z.zip fun h2 hz2 b2 => ?_⟩
  have szl : z < s.heap.objs.size := Heap.lt_size st.zip
  have k2 : ∀ c o, c ∉ [z, TI, TO, j1, j2] -> s.heap.get? c = some o -> h2.get? c = some o := fun c o hc e => by
   simp only [List.mem_cons, List.not_mem_nil, or_false, not_or] at hc
   exact b2.extBut _ _ hc.1 (k c o hc.1 hc.2.2.1 hc.2.2.2.1 hc.2.2.2.2 e)
  have I2 : Inv X pins σ H { s with heap := h2 } := I.turnedM (t' := s.toks) k2 hf
  have np2 : IsPair h2 s.heap.objs.size u v := b2.extBut _ _ (Nat.ne_of_gt szl) np
  have fr : H s.heap.objs.size = none := I.hok.fresh (Nat.le_refl _)
  have I3 : Inv X pins σ (upd H s.heap.objs.size (.tup [x, y])) { s with heap := h2 } := by
   have U : Un (frs X.stack) [z, TI, TO, j1, j2] H (upd H s.heap.objs.size (.tup [x, y])) s.heap h2 :=
    ⟨fun c o e _ _ hx => k2 c o hx e, fun c o e _ _ hx => ⟨o.slots, k2 c o hx e⟩, fun c o e n _ => (by rw [upd_ne (Nat.ne_of_lt (Heap.lt_size e))]; exact n), fun c o e hx => ⟨o, k2 c o hx e⟩,
     fun c zs e => (by rw [upd_ne (ne_of_none e fr)]; exact e), fun c o w e => (by rw [upd_ne (ne_of_none e fr)]; exact e), fun c ps e => ⟨#[], by rw [upd_ne (ne_of_none e fr), e]; simp⟩⟩
   refine I.call' (s' := { s with heap := h2 }) (ch := [z, TI, TO, j1, j2]) rfl U (I2.hok.more fr ?_) I.bare fun c hc => ?_
   ·exact ⟨by show 2 <= sizeLine; decide, [u, v], .cons ru (.cons rv .nil), ⟨_, np2, rfl, _, rfl⟩⟩
   ·obtain ⟨_, f1, _, f3, f4, f5⟩ := hf c hc
    exact ⟨f3, f1, f4, f5⟩
  refine ⟨.ref s.heap.objs.size, _, I3, rfl, ⟨_, x, y, rfl, fr, rfl, fun zs hz => by rw [I.list_inj hz qx]; exact ex, fun zs hz => by rw [I.tuple_inj hz qy]; exact ey⟩, ?_, fun c hc => ?_⟩
  ·obtain ⟨o1, e1, r1⟩ := Z.i1
   obtain ⟨o2, e2, r2⟩ := Z.i2
   obtain ⟨p1, p2, e3⟩ := Z.to
   exact ⟨hz2, b2.extBut _ _ D.TIz Z.its, ⟨p1, p2, b2.extBut _ _ D.TOz e3⟩, ⟨o1, b2.extBut _ _ D.i1z e1, r1⟩, ⟨o2, b2.extBut _ _ D.i2z e2, r2⟩⟩
  ·have h0 := (hf c hc).1
   rw [upd_ne ?_]
   ·exact h0
   ·have st2 := st
    obtain ⟨hz, hI, ⟨p1, p2, hO⟩, ⟨o1, y1, _⟩, ⟨o2, y2, _⟩⟩ := st2
    simp only [List.mem_cons, List.not_mem_nil, or_false] at hc
    rcases hc with rfl | rfl | rfl | rfl | rfl
    ·exact Nat.ne_of_lt (Heap.lt_size hz)
    ·exact Nat.ne_of_lt (Heap.lt_size hI)
    ·exact Nat.ne_of_lt (Heap.lt_size hO)
    ·exact Nat.ne_of_lt (Heap.lt_size y1)
    ·exact Nat.ne_of_lt (Heap.lt_size y2)
 done := by
  intro X hP hw hK hc i pins s σ H E I hf st hg
  subst hP hw hK
  obtain ⟨xs, ys, qx, qy, ln⟩ := hg
  obtain ⟨its, rx, px, lx⟩ := I.list qx
  replace px := isl px
  have ht : s.TypeIs (.ref z) "zip" := ⟨_, st.zip, rfl⟩
  have hl := rx.length
  unfold pyNext
  have st' : ZL z TI TO j1 j2 a b its.toArray vs i .none s.heap := ⟨st.zip, st.its, st.to, st.i1, st.i2⟩
  refine wpAny_bind (wpAny_attempt (wpAny_callSpecial?_slot (name := Str.ofString "__next__") ht F.slot_zip_next (wpAny_call_entry F.slot_zip_next ht F.entry_zip_next
   (zl_end (I.stl hc) (I.stn hc (hf z (by simp)).1) (I.stn hc (hf j1 (by simp)).1) D st' px (by simp; omega) fun h' e k he => ?_) (F.args_zip_next_1 _))))
  obtain ⟨o, ho, hce⟩ := he
  refine wpAny_bind (wpAny_isInstance (T := "StopIteration") (b := true) ⟨o, ho, hce⟩ isSubtype_stop ?_)
  refine wpAny_pure ⟨rfl, I.turnedM (t' := s.toks) (fun c o hc e => ?_) hf⟩
  simp only [List.mem_cons, List.not_mem_nil, or_false, not_or] at hc
  exact k c o hc.1 hc.2.2.1 hc.2.2.2.1 hc.2.2.2.2 e
 self := fun _ _ _ _ _ st h => wpAny_pyIter_zip st.zip h
def iZipL (K : W.Frag) (ta : TA) : TI := fun σ H R => ta σ H fun vs H1 => ∃ (a b : Addr) (xs ys : List V), vs = [.ref a, .ref b] /\ SqL K H1 a xs /\ SqT K H1 b ys /\ R (Itzl K a b) H1
theorem pi_zipL {X : Cx} {elts : List Expr} {kt : Nat} {tp : Pos} {a b : Expr} {ta : TA} {p pos : Pos} (hg : Gl X "zip") (hm : X.mg "zip" = none) (ha : PA X [a, b] ta) (hs : starEach [a, b] X.env = [(false, eval a X.env), (false, eval b X.env)] := by rfl) (hs2 : starEach [b] X.env = [(false, eval b X.env)] := by rfl) :
  PI X (.Tuple elts kt tp) (.Call (.Name "zip" p) [a, b] [] pos) (iZipL X.K ta) := by
 intro pins s σ H R I h
 refine Call_ (ld_blt I hg hm boot_zip (PyProof.Rows.callWith_type1 (thn (ha pos pins s σ H _ I h) fun us s1 ⟨vs, H1, I1, r1, q1⟩ => ?_) (by rw [hs, hs2]) (by rw [hs2]; rfl)))
 obtain ⟨x, y, xs, ys, e, qx, qy, q⟩ := q1
 subst e
 cases r1 with
 | cons r rr =>
  cases rr with
  | cons r' rr =>
   cases rr
   cases r
   cases r'
   obtain ⟨its, rx, px, lx⟩ := I1.list qx
   replace px := isl px
   obtain ⟨its', ry, py, ly⟩ := I1.tuple qy
   refine zl_call (us := its.toArray) (vs := its'.toArray) px py fun h' k Z sz => ?_
   refine wpAny_pyIter_zip Z.zip ?_
   have I2 : Inv X pins σ H1 { s1 with heap := h' } := I1.kept (t' := s1.toks) k
   have l1 : x < s1.heap.objs.size := by
    obtain ⟨o, e, _⟩ := px
    exact Heap.lt_size e
   have l2 : y < s1.heap.objs.size := by
    obtain ⟨o, e, _⟩ := py
    exact Heap.lt_size e
   refine ⟨_, [s1.heap.objs.size + 4, s1.heap.objs.size + 2, s1.heap.objs.size + 3, s1.heap.objs.size, s1.heap.objs.size + 1], _, _, H1, rfl, I2, turn_zipL (zipApart_new l1 l2) its.toArray its'.toArray, Z, fun c hc => ?_, q⟩
   have big : s1.heap.objs.size <= c := by
    simp only [List.mem_cons, List.not_mem_nil, or_false] at hc
    rcases hc with rfl | rfl | rfl | rfl | rfl <;> simp
   exact I1.fpOk big (I1.hok.fresh big)
theorem compP_zipR {K : W.Frag} {a b : Addr} {xs ys : List V} {te : TE} {σ : V -> V -> St} {H : Hp} {Q : VK} (hx : ∀ H', Same H H' -> SqT K H' a xs) (hy : ∀ H', Same H H' -> SqT K H' b ys) (hl : xs.length = ys.length) (hn : xs.length < sizeLine)
  (R : Nat -> List V -> Hp -> Prop) (R0 : ∀ p, H p = none -> R 0 [] (upd H p (.lst []))) (Rs : ∀ i vs H1 H2, Same H1 H2 -> R i vs H1 -> R i vs H2)
  (he : ∀ (i : Nat) (x y : V) (vs : List V) (H' : Hp) (acc : Addr) (Q' : VK), xs[i]? = some x -> ys[i]? = some y -> Same H H' -> H acc = none -> H' acc = some (.lst vs) -> R i vs H' -> vs.length = i -> (∀ z H2, Same H' H2 -> R (i + 1) (vs ++ [z]) (upd H2 acc (.lst (vs ++ [z]))) -> Q' z H2) -> te (σ x y) H' Q')
  (q : ∀ p H' vs, Same H H' -> H p = none -> H' p = some (.lst vs) -> vs.length = xs.length -> R xs.length vs H' -> Q (.ref p) H') : CompPEnd K (Itz K a b) Q H te σ := by
 intro acc hacc
 refine ⟨fun i m H' vs => i <= xs.length /\ m = xs.length - i /\ Same H H' /\ H' acc = some (.lst vs) /\ vs.length = i /\ R i vs H', ⟨xs.length, Nat.zero_le _, by simp, same_new hacc _, upd_same, rfl, R0 _ hacc⟩, ?_⟩
 rintro i m H' vs ⟨hi, rfl, g, ha, hv, r⟩
 refine ⟨ha, ?_⟩
 by_cases h : i = xs.length
 ·subst h
  exact .inl ⟨⟨xs, ys, hx _ g, hy _ g, by omega⟩, q acc H' vs g hacc ha hv r⟩
 ·have hlt : i < xs.length := by omega
  have hlt2 : i < ys.length := by omega
  refine .inr ⟨⟨xs, ys, xs[i], ys[i], hx _ g, hy _ g, by simp [hlt], by simp [hlt2]⟩, by omega, ?_⟩
  rintro z H2 ⟨t, x, y, rfl, ht, rfl, ex, ey⟩
  have ex' := ex xs (hx _ g)
  have ey' := ey ys (hy _ g)
  have g2 : Same H' (upd H' t (.tup [x, y])) := same_new ht _
  exact ⟨t, x, y, rfl, SqT.of upd_same, he i x y vs _ acc _ ex' ey' (g.trans g2) hacc (g2 _ _ ha) (Rs _ _ _ _ g2 r) hv fun z H3 g3 r3 => ⟨g3 _ _ (g2 _ _ ha), xs.length - (i + 1), by omega, by omega, rfl, same_upd (g.trans (g2.trans g3)) hacc, upd_same, by simp [hv], r3⟩⟩
theorem compP_zipLR {K : W.Frag} {a b : Addr} {xs ys : List V} {te : TE} {σ : V -> V -> St} {H : Hp} {Q : VK} (hx : ∀ H', Same H H' -> SqL K H' a xs) (hy : ∀ H', Same H H' -> SqT K H' b ys) (hl : xs.length = ys.length) (hn : xs.length < sizeLine)
  (R : Nat -> List V -> Hp -> Prop) (R0 : ∀ p, H p = none -> R 0 [] (upd H p (.lst []))) (Rs : ∀ i vs H1 H2, Same H1 H2 -> R i vs H1 -> R i vs H2)
  (he : ∀ (i : Nat) (x y : V) (vs : List V) (H' : Hp) (acc : Addr) (Q' : VK), xs[i]? = some x -> ys[i]? = some y -> Same H H' -> H acc = none -> H' acc = some (.lst vs) -> R i vs H' -> vs.length = i -> (∀ z H2, Same H' H2 -> R (i + 1) (vs ++ [z]) (upd H2 acc (.lst (vs ++ [z]))) -> Q' z H2) -> te (σ x y) H' Q')
  (q : ∀ p H' vs, Same H H' -> H p = none -> H' p = some (.lst vs) -> vs.length = xs.length -> R xs.length vs H' -> Q (.ref p) H') : CompPEnd K (Itzl K a b) Q H te σ := by
 intro acc hacc
 refine ⟨fun i m H' vs => i <= xs.length /\ m = xs.length - i /\ Same H H' /\ H' acc = some (.lst vs) /\ vs.length = i /\ R i vs H', ⟨xs.length, Nat.zero_le _, by simp, same_new hacc _, upd_same, rfl, R0 _ hacc⟩, ?_⟩
 rintro i m H' vs ⟨hi, rfl, g, ha, hv, r⟩
 refine ⟨ha, ?_⟩
 by_cases h : i = xs.length
 ·subst h
  exact .inl ⟨⟨xs, ys, hx _ g, hy _ g, by omega⟩, q acc H' vs g hacc ha hv r⟩
 ·have hlt : i < xs.length := by omega
  have hlt2 : i < ys.length := by omega
  refine .inr ⟨⟨xs, ys, xs[i], ys[i], hx _ g, hy _ g, by simp [hlt], by simp [hlt2]⟩, by omega, ?_⟩
  rintro z H2 ⟨t, x, y, rfl, ht, rfl, ex, ey⟩
  have ex' := ex xs (hx _ g)
  have ey' := ey ys (hy _ g)
  have g2 : Same H' (upd H' t (.tup [x, y])) := same_new ht _
  exact ⟨t, x, y, rfl, SqT.of upd_same, he i x y vs _ acc _ ex' ey' (g.trans g2) hacc (g2 _ _ ha) (Rs _ _ _ _ g2 r) hv fun z H3 g3 r3 => ⟨g3 _ _ (g2 _ _ ha), xs.length - (i + 1), by omega, by omega, rfl, same_upd (g.trans (g2.trans g3)) hacc, upd_same, by simp [hv], r3⟩⟩
end L2
namespace K24
open PySem L2
def top (i : Nat) : Stmt := PySem.Challenge.pw_conicplaces_k24_plain_ones.main.body.getD i (.Pass ⟨0, 0, 0, 0⟩)
abbrev s_prime_parts : Stmt := top 8
abbrev s_divisor_after : Stmt := top 9
abbrev s_taken_out : Stmt := top 10
abbrev s_core_of : Stmt := top 11
abbrev s_shares_of : Stmt := top 13
abbrev s_row_less : Stmt := top 14
abbrev s_root_of : Stmt := top 15
abbrev s_above_root : Stmt := top 16
abbrev s_worth_of : Stmt := top 19
abbrev s_size_of : Stmt := top 20
abbrev s_lowest_point : Stmt := top 21
abbrev s_vertex_of : Stmt := top 22
abbrev s_refuse_flat : Stmt := top 23
abbrev s_slopes_of : Stmt := top 24
abbrev s_turned_by : Stmt := top 25
abbrev s_added : Stmt := top 26
abbrev s_stretched : Stmt := top 27
abbrev s_row_product : Stmt := top 28
abbrev s_turned_over : Stmt := top 29
abbrev s_crossing_of : Stmt := top 30
abbrev s_crossings_of : Stmt := top 31
abbrev s_plain_of : Stmt := top 34
abbrev s_corners_of : Stmt := top 35
abbrev s_corners_on : Stmt := top 36
abbrev s_off_curve : Stmt := top 37
abbrev s_cores_of : Stmt := top 38
abbrev s_core_of_cores : Stmt := top 39
abbrev s_of : Stmt := top 41
abbrev s_drawn : Stmt := top 42
abbrev s_whole : Stmt := top 43
abbrev s_wholes : Stmt := top 44
abbrev s_row_times : Stmt := top 45
abbrev s_changed : Stmt := top 46
abbrev s_measure : Stmt := top 47
abbrev s_size : Stmt := top 48
abbrev s_shared : Stmt := top 49
abbrev s_is_lowest : Stmt := top 50
abbrev s_square_free : Stmt := top 51
abbrev s_is_plain : Stmt := top 52
abbrev s_worth : Stmt := top 53
abbrev s_plain_drawn : Stmt := top 54
abbrev s_sheared : Stmt := top 55
abbrev s_form : Stmt := top 56
abbrev s_vertex : Stmt := top 57
abbrev s_refused : Stmt := top 58
abbrev s_is_table : Stmt := top 59
abbrev s_law : Stmt := top 60
abbrev s_init_Flat : Stmt := inClass (top 5) 0
structure Adr where
 (ce c0 c4 c7 c8 c9 iFlat gAXES gAXES_0 gAXES_1 gAXES_2 gTURNS gTURNS_0 gTURNS_1 gTURNS_2 : Addr)
structure Txt (K : W.Frag) (mg : Str -> Option Value) (t : Adr) : Prop where
 m_CurveError : mg "CurveError" = some (.ref t.ce)
 m_NoNumber : mg "NoNumber" = some (.ref t.c0)
 m_NotPlain : mg "NotPlain" = some (.ref t.c4)
 m_NoVertex : mg "NoVertex" = some (.ref t.c7)
 m_Flat : mg "Flat" = some (.ref t.c8)
 m_OffCurve : mg "OffCurve" = some (.ref t.c9)
 i_ce : W.kitOne K (.ref t.c8) (.ref t.ce) = some true
 i_0 : W.kitOne K (.ref t.c8) (.ref t.c0) = some false
 i_4 : W.kitOne K (.ref t.c8) (.ref t.c4) = some false
 i_7 : W.kitOne K (.ref t.c8) (.ref t.c7) = some false
 i_8 : W.kitOne K (.ref t.c8) (.ref t.c8) = some true
 i_9 : W.kitOne K (.ref t.c8) (.ref t.c9) = some false
 i_ve : W.kitOne K (.ref t.c8) (.type "ValueError") = some true
 e0 : (W.clsIn K t.c8).isSome = true
 e1 : W.findIn K (.ref t.c8) "__getattribute__" = some (some (.builtin "BaseException.__getattribute__"))
 e2 : W.findIn K (.ref t.c8) "__getattr__" = some none
 e3 : W.findIn K (.ref t.c8) "__class__" = some (some (.builtin "object.__class__"))
 e4 : W.specialIn K (.builtin "object.__class__") "__get__" = some (some (.builtin "getset_descriptor.__get__"))
 e5 : W.takesIn K (.builtin "object.__class__") = some true
 e6 : W.mroIn K t.c8 (.type "object") = some true
 e7 : W.mroIn K t.c8 (.type "BaseException") = some true
 x_Flat : excInB K t.c8 t.iFlat = true
 xf_Flat : W.isFn K (.ref t.iFlat) = true
 xn_Flat : W.findIn K (.ref t.c8) "vertex" = some none
 xd_Flat : (W.clsIn K t.c8).map (·.hasDict) = some true
 xs_Flat : W.findIn K (.ref t.c8) "__setattr__" = some (some (.builtin "object.__setattr__"))
 xo_Flat : (W.clsIn K t.c8).any (fun cd => onlyVE cd.mro) = true
 y1 : W.specialIn K (.ref t.ce) "__getattribute__" = some (some (.builtin "type.__getattribute__"))
 y2 : W.readsIn K t.ce (.type "type") = true
 y3 : W.findCls K (.ref t.ce) (.type "type") "__init__" = some (.val (.builtin "ValueError.__init__"))
 x_CurveError : W.excIn K t.ce bmVE "ValueError.__new__" = true
 u_Flat : W.mroIn K t.c8 (.ref t.ce) = some true
 m_AXES : mg "AXES" = some (.ref t.gAXES)
 k_AXES : TupK K t.gAXES [.ref t.gAXES_0, .ref t.gAXES_1, .ref t.gAXES_2]
 k_AXES_0 : TupK K t.gAXES_0 [.int 1, .int 0, .int 0]
 k_AXES_1 : TupK K t.gAXES_1 [.int 0, .int 1, .int 0]
 k_AXES_2 : TupK K t.gAXES_2 [.int 0, .int 0, .int 1]
 m_TURNS : mg "TURNS" = some (.ref t.gTURNS)
 k_TURNS : TupK K t.gTURNS [.ref t.gTURNS_0, .ref t.gTURNS_1, .ref t.gTURNS_2]
 k_TURNS_0 : TupK K t.gTURNS_0 [.int 0, .int 1, .int 2]
 k_TURNS_1 : TupK K t.gTURNS_1 [.int 1, .int 2, .int 0]
 k_TURNS_2 : TupK K t.gTURNS_2 [.int 2, .int 0, .int 1]
 i_ib : W.kitOne K (.type "int") (.type "bool") = some false
 z_isinstance : mg "isinstance" = none
 z_int : mg "int" = none
 z_bool : mg "bool" = none
 z_len : mg "len" = none
 z_range : mg "range" = none
 z_tuple : mg "tuple" = none
 z_all : mg "all" = none
 z_abs : mg "abs" = none
 z_any : mg "any" = none
 z_sum : mg "sum" = none
 z_zip : mg "zip" = none
 z_max : mg "max" = none
 z_list : mg "list" = none
 z_ValueError : mg "ValueError" = none
theorem Txt.exc {K : W.Frag} {mg : Str -> Option Value} {t : Adr} (T : Txt K mg t) : ExcCls K t.c8 := ⟨T.e0, T.e1, T.e2, T.e3, T.e4, T.e5, T.e6, T.e7⟩
theorem Txt.mk_Flat {K : W.Frag} {mg : Str -> Option Value} {t : Adr} (T : Txt K mg t) : MkX K t.c8 t.iFlat := ⟨T.x_Flat, T.xf_Flat⟩
theorem Txt.fld_Flat {K : W.Frag} {mg : Str -> Option Value} {t : Adr} (T : Txt K mg t) : ExcFld K t.c8 "vertex" := ⟨T.exc, T.xn_Flat, T.xd_Flat⟩
theorem Txt.set_Flat {K : W.Frag} {mg : Str -> Option Value} {t : Adr} (T : Txt K mg t) : ExcSet K t.c8 "vertex" := ⟨T.fld_Flat, T.xs_Flat, T.xo_Flat⟩
theorem b_isi : bootBuiltins "isinstance" = some (.builtin "isinstance") := by decide +kernel
theorem b_int : bootBuiltins "int" = some (.type "int") := by decide +kernel
theorem b_bool : bootBuiltins "bool" = some (.type "bool") := by decide +kernel
theorem b_tuple : bootBuiltins "tuple" = some (.type "tuple") := by decide +kernel
theorem b_all : bootBuiltins "all" = some (.builtin "all") := by decide +kernel
theorem b_abs : bootBuiltins "abs" = some (.builtin "abs") := by decide +kernel
theorem b_any : bootBuiltins "any" = some (.builtin "any") := by decide +kernel
theorem b_sum : bootBuiltins "sum" = some (.builtin "sum") := by decide +kernel
theorem b_max : bootBuiltins "max" = some (.builtin "max") := by decide +kernel
theorem b_list : bootBuiltins "list" = some (.type "list") := by decide +kernel
theorem b_ValueError : bootBuiltins "ValueError" = some (.type "ValueError") := by decide +kernel
theorem byL1 {P : List Value -> Prop} (h : ∀ a0 : Value, P [a0]) : ∀ us : List Value, us.length = 1 -> P us := fun us hl => match us, hl with | [a0], _ => h a0
theorem byL2 {P : List Value -> Prop} (h : ∀ a0 a1 : Value, P [a0, a1]) : ∀ us : List Value, us.length = 2 -> P us := fun us hl => match us, hl with | [a0, a1], _ => h a0 a1
theorem byL3 {P : List Value -> Prop} (h : ∀ a0 a1 a2 : Value, P [a0, a1, a2]) : ∀ us : List Value, us.length = 3 -> P us := fun us hl => match us, hl with | [a0, a1, a2], _ => h a0 a1 a2
theorem iteDF {c A B : Prop} [Decidable c] (hc : ¬ c) (h : B) : if decide c = true then A else B := by
 rw [decide_eq_false hc]
 exact iteF h
theorem neT {c : Prop} [Decidable c] (h : (!decide c) = true) : ¬ c := by
 intro z
 rw [decide_eq_true z] at h
 cases h
theorem neF {c : Prop} [Decidable c] (h : ¬ (!decide c) = true) : c := by
 by_cases z : c
 ·exact z
 ·exact absurd (by rw [decide_eq_false z]; rfl) h
theorem mulS {a b : Int} (h1 : -(2 ^ 64) < b) (h2 : b < 2 ^ 64) : IntMulOk a b := IntMulOk.of_right (intBits_le_64 h1 h2)
theorem mulS' {a b : Int} (h1 : -(2 ^ 64) < a) (h2 : a < 2 ^ 64) : IntMulOk a b := IntMulOk.of_left (intBits_le_64 h1 h2)
@[irreducible] def Lm : Nat := 2 ^ 1000
theorem Lm_eq : Lm = 2 ^ 1000 := by unfold Lm; rfl
theorem Lm_pos : 1 <= Lm := by rw [Lm_eq]; decide +kernel
theorem Lm_bits {x : Int} (h : x.natAbs <= 8 * Lm) : Builtin.Int.intBits x <= 1004 := intBits_le_iff.mpr (Nat.lt_of_le_of_lt h (by rw [Lm_eq]; decide +kernel))
theorem Lm_log {x : Int} (h : x.natAbs <= 8 * Lm) : x.natAbs.log2 < 9000 := Nat.lt_of_lt_of_le (log2_lt_of (k := 1004) (Nat.lt_of_le_of_lt h (by rw [Lm_eq]; decide +kernel)) (by decide)) (by decide)
theorem mulL {a b : Int} (ha : a.natAbs <= 8 * Lm) (hb : b.natAbs <= 8 * Lm) : IntMulOk a b := IntMulOk.of_le (Lm_bits ha) (Lm_bits hb) (by decide)
theorem fdiv_rest (a b : Int) : a - a.fdiv b * b = a.fmod b := by rw [Int.fmod_def, Int.mul_comm]
def spRow : Sp := fun vs H Q _ => ∃ (pa pb : Addr) (x s t y u v k : Int), vs = [.ref pa, .ref pb, .int k] /\ H pa = some (.tup [.int x, .int s, .int t]) /\ H pb = some (.tup [.int y, .int u, .int v]) /\ IntMulOk k y /\ IntMulOk k u /\ IntMulOk k v /\
 ∀ (p : Addr) (H' : Hp), Same H H' -> H' p = some (.tup [.int (x - k * y), .int (s - k * u), .int (t - k * v)]) -> Q (.ref p) H'
def spShares : Sp := fun vs H Q _ => ∃ (x y : Int), vs = [.int x, .int y] /\ x.natAbs <= Lm /\ y.natAbs <= Lm /\
 ∀ (p : Addr) (H' : Hp) (g s t : Int), Same H H' -> H' p = some (.tup [.int g, .int s, .int t]) -> 0 <= g -> g = s * x + t * y -> (∃ k, x = k * g) -> (∃ k, y = k * g) -> s.natAbs <= 8 * Lm -> t.natAbs <= 8 * Lm -> Q (.ref p) H'
theorem hu64_of {A : Around} {k : Nat} (hr : Room k A) : A.units + 64 < cLine := by
 have := hr.un
 omega
open Sm Lw Pn
theorem okB {x y : Int} (hx : Bd 4000 x) (hy : Bd 4000 y) : IntMulOk x y :=
 IntMulOk.of_le (m := 4001) (n := 4001) (intBits_le_iff.mpr (Nat.lt_of_le_of_lt hx (Nat.pow_lt_pow_right (by decide) (by decide)))) (intBits_le_iff.mpr (Nat.lt_of_le_of_lt hy (Nat.pow_lt_pow_right (by decide) (by decide)))) (by decide)
theorem okM {j k : Nat} {x y : Int} (hx : Bd j x) (hy : Bd k y) (h1 : j <= 4000 := by omega) (h2 : k <= 4000 := by omega) : IntMulOk x y := okB (hx.mono h1) (hy.mono h2)
theorem ok2 {y : Int} : IntMulOk 2 y := IntMulOk.of_left (intBits_le_64 (by decide) (by decide))
abbrev v3 (P : P3) : List V := [.int P.x, .int P.y, .int P.z]
abbrev t3 (P : P3) : HO := .tup (v3 P)
abbrev l3 (P : P3) : HO := .lst (v3 P)
def S3 (H : Hp) (p : Addr) (P : P3) : Prop := H p = some (t3 P)
def S6 (H : Hp) (p : Addr) (Q : F6) : Prop := H p = some (.tup [.int Q.a, .int Q.b, .int Q.c, .int Q.d, .int Q.e, .int Q.f])
def ST (H : Hp) (p : Addr) (t : T3) : Prop := ∃ r0 r1 r2 : Addr, H p = some (.tup [.ref r0, .ref r1, .ref r2]) /\ S3 H r0 t.r0 /\ S3 H r1 t.r1 /\ S3 H r2 t.r2
def LT (H : Hp) (p : Addr) (t : T3) : Prop := ∃ r0 r1 r2 : Addr, H p = some (.lst [.ref r0, .ref r1, .ref r2]) /\ S3 H r0 t.r0 /\ S3 H r1 t.r1 /\ S3 H r2 t.r2
theorem LT.mono {H H' : Hp} {p : Addr} {t : T3} (g : Same H H') (h : LT H p t) : LT H' p t := by
 obtain ⟨r0, r1, r2, h0, h1, h2, h3⟩ := h
 exact ⟨r0, r1, r2, g _ _ h0, g _ _ h1, g _ _ h2, g _ _ h3⟩
theorem ST.mono {H H' : Hp} {p : Addr} {t : T3} (g : Same H H') (h : ST H p t) : ST H' p t := by
 obtain ⟨r0, r1, r2, h0, h1, h2, h3⟩ := h
 exact ⟨r0, r1, r2, g _ _ h0, g _ _ h1, g _ _ h2, g _ _ h3⟩
def vmul : V -> V -> V
 | .int a, .int b => .int (a * b)
 | _, _ => .non
def Sq3 (H : Hp) (p : Addr) (x y z : Int) : Prop := H p = some (.tup [.int x, .int y, .int z])
def In3 (M : Int) (x y z : Int) : Prop := (-M <= x /\ x <= M) /\ (-M <= y /\ y <= M) /\ (-M <= z /\ z <= M)
def NZ (x y z : Int) : Prop := x ≠ 0 \/ y ≠ 0 \/ z ≠ 0
@[irreducible] def Top : Int := 2 ^ 900
theorem Top_eq : Top = 2 ^ 900 := by unfold Top; rfl
theorem Top_Lm : Top <= Lm := by rw [Top_eq, Lm_eq]; decide +kernel
theorem bd_top {x : Int} (h : Bd 900 x) : -Top <= x /\ x <= Top := by
 have e : Top = ((2 ^ 900 : Nat) : Int) := by rw [Top_eq]; decide +kernel
 unfold Bd at h
 rw [e]
 generalize (2 : Nat) ^ 900 = N at h
 omega
theorem in3_of {P : P3} (h : BP 900 P) : In3 Top P.x P.y P.z := ⟨bd_top h.x, bd_top h.y, bd_top h.z⟩
theorem in3_abs {x y z : Int} (h : In3 Top x y z) : x.natAbs <= Lm /\ y.natAbs <= Lm /\ z.natAbs <= Lm := by
 have := Top_Lm
 unfold In3 at h
 omega
theorem bd_div {k : Nat} {x d : Int} (hd : d ≠ 0) (h : Bd k (d * x)) : Bd k x := by
 unfold Bd at *
 rw [Int.natAbs_mul] at h
 exact Nat.le_trans (Nat.le_mul_of_pos_left _ (by omega)) h
theorem bp_div {k : Nat} {P : P3} {d : Int} (hd : d ≠ 0) (h : BP k (tm d P)) : BP k P := ⟨bd_div hd h.x, bd_div hd h.y, bd_div hd h.z⟩
theorem bp_tm {j k : Nat} {P : P3} {d : Int} (h : Bd j d) (hP : BP k P) : BP (j + k) (tm d P) := ⟨h.mul hP.x, h.mul hP.y, h.mul hP.z⟩
theorem bp_ad {k : Nat} {P R : P3} (h : BP k P) (h2 : BP k R) : BP (k + 1) (ad P R) := ⟨h.x.add h2.x, h.y.add h2.y, h.z.add h2.z⟩
def st (P : P3) (m : Int) : P3 := ⟨P.x * m, P.y * m, P.z * m⟩
theorem st_eq (P : P3) (m : Int) : st P m = tm m P := by
 simp only [st, tm, P3.mk.injEq]
 exact ⟨Int.mul_comm _ _, Int.mul_comm _ _, Int.mul_comm _ _⟩
theorem b4 : Bd 2 4 := by unfold Bd; decide
theorem bd0 {k : Nat} : Bd k 0 := by
 unfold Bd
 exact Nat.zero_le _
theorem bd1 {k : Nat} : Bd k 1 := by
 unfold Bd
 exact Nat.one_le_two_pow
def cmp (P : P3) : Nat -> Int
 | 0 => P.x
 | 1 => P.y
 | _ => P.z
theorem at3 {P : P3} {k : Nat} (hk : k < 3) : atI (v3 P) (0 + (k : Int)) = some (.int (cmp P k)) := by
 obtain rfl | rfl | rfl : k = 0 \/ k = 1 \/ k = 2 := by omega
 ·rfl
 ·rfl
 ·rfl
def nzAt (P : P3) : V -> Bool
 | .int k => !decide (V.int (cmp P k.toNat) = V.int 0)
 | _ => false
inductive Gen (ns : List Int) : Int -> Prop where
 | zero : Gen ns 0
 | mem {n : Int} : n ∈ ns -> Gen ns n
 | sub {a b : Int} : Gen ns a -> Gen ns b -> Gen ns (a - b)
 | mul (k : Int) {a : Int} : Gen ns a -> Gen ns (k * a)
theorem Gen.rest {ns : List Int} {f o : Int} (h : Gen ns f) (h2 : Gen ns o) : Gen ns (f % o) := by
 have h3 := Int.emod_add_mul_ediv f o
 have h4 : f % o = f - f / o * o := by rw [Int.mul_comm (f / o) o]; omega
 rw [h4]
 exact h.sub (h2.mul _)
theorem Gen.neg {ns : List Int} {f : Int} (h : Gen ns f) : Gen ns (-f) := by
 have := h.mul (-1)
 rw [show (-1) * f = -f by omega] at this
 exact this
theorem get3 {x y z : Int} {i : Nat} {v : V} (h : [V.int x, .int y, .int z][i]? = some v) : ∃ n, v = .int n /\ [x, y, z][i]? = some n := by
 match i, h with
 | 0, h => exact ⟨x, (Option.some.inj h).symm, rfl⟩
 | 1, h => exact ⟨y, (Option.some.inj h).symm, rfl⟩
 | 2, h => exact ⟨z, (Option.some.inj h).symm, rfl⟩
theorem step_dvd {f o d : Int} (h1 : d ∣ o) (h2 : d ∣ f % o) : d ∣ f /\ d ∣ o := ⟨by
 rw [<- Int.emod_add_mul_ediv f o]
 exact Int.dvd_add h2 (Int.dvd_trans h1 (Int.dvd_mul_right _ _)), h1⟩
def spSl : Sp := fun vs H Q _ => ∃ (p : Addr) (F : F6), vs = [.ref p] /\ S6 H p F /\ ∀ (r : Addr) (H' : Hp), Same H H' -> ST H' r (sl F) -> Q (.ref r) H'
def spSize : Sp := fun vs H Q _ => ∃ (p : Addr) (F : F6), vs = [.ref p] /\ S6 H p F /\ BF 600 F /\ Q (.int (sz F)) H
def spStr (K : W.Frag) : Sp := fun vs H Q _ => ∃ (p : Addr) (P : P3) (m : Int), vs = [.ref p, .int m] /\ SqT K H p (v3 P) /\ BP 900 P /\ Bd 900 m /\ ∀ (z : Addr) (H' : Hp), Same H H' -> S3 H' z (st P m) -> Q (.ref z) H'
def spCrK (K : W.Frag) : Sp := fun vs H Q _ => ∃ (p q : Addr) (r s : P3), vs = [.ref p, .ref q] /\ SqT K H p (v3 r) /\ SqT K H q (v3 s) /\ BP 900 r /\ BP 900 s /\ ∀ (z : Addr) (H' : Hp), Same H H' -> S3 H' z (cr r s) -> Q (.ref z) H'
theorem bd_cr2 {j k : Nat} {r s : P3} (h : BP j r) (p : BP k s) : BP (j + k + 1) (cr r s) := ⟨(h.y.mul p.z).sub (h.z.mul p.y), (h.z.mul p.x).sub (h.x.mul p.z), (h.x.mul p.y).sub (h.y.mul p.x)⟩
def spShared : Sp := fun vs H Q _ => ∃ (p : Addr) (b : Bool) (ns : List Int), vs = [.ref p] /\ H p = some (Ho b (ns.map V.int)) /\ ∀ g : Int, 0 <= g -> (∀ n ∈ ns, g ∣ n) -> Gen ns g -> Q (.int g) H
def spLw : Sp := fun vs H Q _ => ∃ (p q : Addr) (F : F6) (P : P3), vs = [.ref p, .ref q] /\ S6 H p F /\ S3 H q P /\ BF 600 F /\ BP 601 P /\ Q (.int (lw F P)) H
def nz : V -> Bool
 | .int n => !decide (V.int n = V.int 0)
 | _ => false
def fst3 (x y z : Int) : Int := if x ≠ 0 then x else if y ≠ 0 then y else z
theorem nz_t {n : Int} (h : n ≠ 0) : nz (.int n) = true := by
 show (!decide (V.int n = V.int 0)) = true
 rw [decide_eq_false (fun z => h (V.int.inj z))]
 rfl
theorem nz_f {n : Int} (h : n = 0) : nz (.int n) = false := by
 subst h
 show (!decide (V.int 0 = V.int 0)) = false
 rw [decide_eq_true rfl]
 rfl
theorem at0 {α : Type} {v : α} {l : List α} : atI (v :: l) (0 : Int) = some v := by
 have : atI (v :: l) ((0 : Nat) : Int) = some v := atI_nat rfl
 exact this
theorem fst_ok {x y z : Int} (h : NZ x y z) : atI (([V.int x, .int y, .int z].filter nz).map id) (0 : Int) = some (.int (fst3 x y z)) := by
 unfold fst3
 by_cases h1 : x ≠ 0
 ·rw [if_pos h1, List.filter_cons, nz_t h1, if_pos rfl]
  exact at0
 ·rw [if_neg h1, List.filter_cons, nz_f (Decidable.not_not.mp h1), if_neg Bool.false_ne_true]
  by_cases h2 : y ≠ 0
  ·rw [if_pos h2, List.filter_cons, nz_t h2, if_pos rfl]
   exact at0
  ·rw [if_neg h2, List.filter_cons, nz_f (Decidable.not_not.mp h2), if_neg Bool.false_ne_true, List.filter_cons, nz_t (show z ≠ 0 by unfold NZ at h; omega), if_pos rfl]
   exact at0
theorem fst_pos {x y z : Int} (h : Pos3 x y z) : 0 < fst3 x y z := by
 unfold fst3
 unfold Pos3 at h
 split
 ·omega
 ·split
  ·omega
  ·omega
theorem pos_nz {x y z : Int} (h : Pos3 x y z) : NZ x y z := by
 unfold Pos3 at h
 unfold NZ
 omega
theorem pos_of {x y z a b c d : Int} (hd : d ≠ 0) (hx : x = d * a) (hy : y = d * b) (hz : z = d * c) (n : NZ x y z) (h : (0 < d /\ 0 < fst3 x y z) \/ (d < 0 /\ fst3 x y z < 0)) : Pos3 a b c := by
 have key : ∀ {x a : Int}, x = d * a -> ((x = 0 ↔ a = 0) /\ ((0 < d /\ 0 < x) \/ (d < 0 /\ x < 0) -> 0 < a)) := by
  intro x a e
  subst e
  refine ⟨⟨fun z => ?_, fun z => by rw [z, Int.mul_zero]⟩, fun z => ?_⟩
  ·rcases Int.mul_eq_zero.mp z with w | w
   ·exact absurd w hd
   ·exact w
  ·rcases z with ⟨h1, h2⟩ | ⟨h1, h2⟩
   ·exact Int.pos_of_mul_pos_left (by rw [Int.mul_comm]; exact h2) h1
   ·have h3 : 0 < (-d) * a := by rw [Int.neg_mul]; omega
    exact Int.pos_of_mul_pos_left (by rw [Int.mul_comm]; exact h3) (show 0 < -d by omega)
 obtain ⟨x1, x2⟩ := key hx
 obtain ⟨y1, y2⟩ := key hy
 obtain ⟨z1, z2⟩ := key hz
 unfold fst3 at h
 unfold Pos3
 unfold NZ at n
 by_cases c1 : x = 0
 ·rw [if_neg (by omega)] at h
  by_cases c2 : y = 0
  ·rw [if_neg (by omega)] at h
   exact .inr (.inr ⟨x1.mp c1, y1.mp c2, z2 h⟩)
  ·rw [if_pos c2] at h
   exact .inr (.inl ⟨x1.mp c1, y2 h⟩)
 ·rw [if_pos c1] at h
  exact .inl (x2 h)
theorem fst_nz {x y z : Int} (h : NZ x y z) : fst3 x y z ≠ 0 := by
 unfold fst3
 unfold NZ at h
 split
 ·assumption
 ·split
  ·assumption
  ·omega
theorem gcd_le {g s t x y k1 k2 : Int} (hx : x.natAbs <= Lm) (hy : y.natAbs <= Lm) (eg : g = s * x + t * y) (e1 : x = k1 * g) (e2 : y = k2 * g) : g.natAbs <= Lm := by
 by_cases h1 : x = 0
 ·by_cases h2 : y = 0
  ·subst h1 h2
   rw [Int.mul_zero, Int.mul_zero] at eg
   subst eg
   exact Nat.zero_le _
  ·refine Nat.le_trans (Nat.le_of_dvd (by omega) (Int.natAbs_dvd_natAbs.mpr ⟨k2, ?_⟩)) hy
   rw [Int.mul_comm]
   exact e2
 ·refine Nat.le_trans (Nat.le_of_dvd (by omega) (Int.natAbs_dvd_natAbs.mpr ⟨k1, ?_⟩)) hx
  rw [Int.mul_comm]
  exact e1
theorem getI {ns : List Int} {i : Nat} {v : V} (h : (ns.map V.int)[i]? = some v) : ∃ n, v = .int n /\ ns[i]? = some n /\ n ∈ ns := by
 rw [List.getElem?_map] at h
 cases e : ns[i]? with
 | none => rw [e] at h; cases h
 | some n => rw [e] at h; exact ⟨n, (Option.some.inj h).symm, rfl, List.mem_of_getElem? e⟩
def spTaken : Sp := fun vs H Q _ => ∃ (x p : Int), vs = [.int x, .int p] /\ x ≠ 0 /\ 2 <= p /\ p.natAbs.log2 < 9000 /\ ∀ (r : Addr) (H' : Hp) (o l : Int), Same H H' -> H' r = some (.tup [.int o, .int l]) -> Pr.Inn x p l o -> 0 <= o -> l.fmod p ≠ 0 -> l ≠ 0 -> l.natAbs <= x.natAbs -> (0 < x -> 0 < l) -> (x < 0 -> l < 0) -> Q (.ref r) H'
theorem taken_less {l p : Int} (h2 : 2 <= p) (l0 : l ≠ 0) (hz : l.fmod p = 0) : l.fdiv p ≠ 0 /\ (l.fdiv p).natAbs < l.natAbs /\ (0 < l -> 0 < l.fdiv p) /\ (l < 0 -> l.fdiv p < 0) := by
 have q := Pr.quot l p
 rw [hz] at q
 have e : l = p * l.fdiv p := by omega
 generalize l.fdiv p = k at e
 have k0 : k ≠ 0 := fun z => l0 (by rw [e, z, Int.mul_zero])
 have ea : l.natAbs = p.natAbs * k.natAbs := by rw [e, Int.natAbs_mul]
 have pa : 2 <= p.natAbs := by omega
 have ka : 1 <= k.natAbs := by omega
 refine ⟨k0, ?_, fun h => ?_, fun h => ?_⟩
 ·have := Nat.mul_le_mul_right k.natAbs pa
  omega
 ·rcases Int.lt_trichotomy k 0 with z | z | z
  ·have := Int.mul_neg_of_pos_of_neg (show 0 < p by omega) z
   omega
  ·exact absurd z k0
  ·exact z
 ·rcases Int.lt_trichotomy k 0 with z | z | z
  ·exact z
  ·exact absurd z k0
  ·have := Int.mul_pos (show 0 < p by omega) z
   omega
abbrev TupL (H : Hp) (rs : List Addr) (xs : List (Int × Int)) : Prop := Paired (fun (r : Addr) (x : Int × Int) => H r = some (.tup [.int x.1, .int x.2])) rs xs
theorem TupL.same {H H' : Hp} (g : Same H H') : ∀ {rs : List Addr} {xs : List (Int × Int)}, TupL H rs xs -> TupL H' rs xs
 | _, _, .nil => .nil
 | _, _, .cons h t => .cons (g _ _ h) (TupL.same g t)
theorem TupL.app {H : Hp} {r : Addr} {x : Int × Int} (h : H r = some (.tup [.int x.1, .int x.2])) : ∀ {rs : List Addr} {xs : List (Int × Int)}, TupL H rs xs -> TupL H (rs ++ [r]) (xs ++ [x])
 | _, _, .nil => .cons h .nil
 | _, _, .cons h' t => .cons h' (TupL.app h t)
theorem TupL.upd {H : Hp} {a : Addr} {o : HO} : ∀ {rs : List Addr} {xs : List (Int × Int)}, TupL H rs xs -> (∀ ys, H a ≠ some (.tup ys)) -> TupL (upd H a o) rs xs
 | _, _, .nil, _ => .nil
 | _, _, .cons h t, n => .cons (by rw [upd_ne (fun z => by subst z; exact n _ h)]; exact h) (TupL.upd t n)
theorem TupL.len {H : Hp} : ∀ {rs : List Addr} {xs : List (Int × Int)}, TupL H rs xs -> rs.length = xs.length
 | _, _, .nil => rfl
 | _, _, .cons _ t => by rw [List.length_cons, List.length_cons, TupL.len t]
theorem TupL.get {H : Hp} : ∀ {rs : List Addr} {xs : List (Int × Int)} {i : Nat} {r : Addr}, TupL H rs xs -> rs[i]? = some r -> ∃ x, xs[i]? = some x /\ H r = some (.tup [.int x.1, .int x.2])
 | _, _, _, _, .nil, e => by simp at e
 | _, _, 0, _, .cons h _, e => by simp at e; subst e; exact ⟨_, rfl, h⟩
 | _, _, i + 1, _, .cons _ t, e => by
  obtain ⟨x, h1, h2⟩ := TupL.get (i := i) t (by simpa using e)
  exact ⟨x, by simpa using h1, h2⟩
def spAfter : Sp := fun vs H Q _ => ∃ d : Int, vs = [.int d] /\ Q (.int (if d = 2 then 3 else d + 2)) H
def W1 (n : Int) (pl : Addr) (H : Hp) (m : Nat) (σ : St) (H' : Hp) : Prop := ∃ (left d : Int) (xs : List (Int × Int)) (rs : List Addr) (of : Option V), σ = [some (.int n), some (.ref pl), some (.int left), some (.int d), of] /\ Same H H' /\ H' pl = some (.lst (rs.map V.ref)) /\
 TupL H' rs xs /\ Pr.Out n left d xs /\ 2 <= d /\ d <= 10000000002 /\ 1 <= left /\ m = (left + 1 - d).toNat
theorem le_sq {g : Int} (h : 1 <= g) : g <= g * g := by
 have := Int.mul_le_mul_of_nonneg_right h (show 0 <= g by omega)
 omega
theorem short {n : Int} {xs : List (Int × Int)} (h : ∀ x ∈ xs, Pr.Part x) (hn : Pr.prodP xs <= n) (n1 : n <= 10000000000) : xs.length < 40 := by
 have h1 := Pr.len_le h
 rcases Nat.lt_or_ge xs.length 40 with h2 | h2
 ·exact h2
 ·have h3 := Pr.pow_mono h2
  have : (2 : Int) ^ 40 = 1099511627776 := by decide
  omega
theorem out_prod {n left d : Int} {xs : List (Int × Int)} (h : Pr.Out n left d xs) (l1 : 1 <= left) : Pr.prodP xs <= n := by
 have e := h.prod
 have := Pr.mul_ge l1 (Int.le_refl (Pr.prodP xs)) (by have := Pr.prodP_pos h.all; omega)
 omega
theorem grown {H H1 : Hp} {pl p : Addr} {rs : List Addr} {xs : List (Int × Int)} {x : Int × Int} (g : Same H H1) (hn : H pl = none) (hp : H1 p = none) (h1 : H1 pl = some (.lst (rs.map V.ref))) (h2 : TupL H1 rs xs) :
  Same H (upd (upd H1 p (.tup [.int x.1, .int x.2])) pl (.lst (rs.map V.ref ++ [.ref p]))) /\ (upd (upd H1 p (.tup [.int x.1, .int x.2])) pl (.lst (rs.map V.ref ++ [.ref p]))) pl = some (.lst ((rs ++ [p]).map V.ref)) /\
  TupL (upd (upd H1 p (.tup [.int x.1, .int x.2])) pl (.lst (rs.map V.ref ++ [.ref p]))) (rs ++ [p]) (xs ++ [x]) := by
 have npl : p ≠ pl := fun z => by subst z; rw [h1] at hp; cases hp
 have g2 := same_new hp (.tup [.int x.1, .int x.2])
 refine ⟨fun b o q => ?_, ?_, ?_⟩
 ·rw [upd_ne (ne_of_none q hn)]
  exact g2 b o (g b o q)
 ·rw [upd_same, List.map_append]
  rfl
 ·have t : TupL (L2.upd H1 p (.tup [.int x.1, .int x.2])) (rs ++ [p]) (xs ++ [x]) := TupL.app upd_same (TupL.same g2 h2)
  exact t.upd fun ys z => by
   rw [upd_ne npl.symm, h1] at z
   cases z
def spParts0 : Sp := fun vs H Q E => ∃ n : Int, vs = [.int n] /\ 1 <= n /\ n <= 10000000000 /\
 ∀ (p : Addr) (rs : List Addr) (xs : List (Int × Int)) (H' : Hp), Same H H' -> H p = none -> H' p = some (.lst (rs.map V.ref)) -> TupL H' rs xs -> Pr.Told n xs -> Q (.ref p) H'
theorem small1000 {n : Nat} (h : n < 1000) : n < sizeLine := Nat.lt_of_lt_of_le h (by decide)
theorem take_more {xs : List (Int × Int)} {i : Nat} {x : Int × Int} (h : xs[i]? = some x) : xs.take (i + 1) = xs.take i ++ [x] := by
 rw [List.take_succ, h]
 rfl
def absI (n : Int) : Int := if n < 0 then -n else n
def sgn (n : Int) : Int := if n < 0 then -1 else 1
theorem abs_sgn (n : Int) : sgn n * absI n = n := by
 unfold sgn absI
 split <;> omega
def spCore0 : Sp := fun vs H Q _ => ∃ n : Int, vs = [.int n] /\ n ≠ 0 /\ -10000000000 <= n /\ n <= 10000000000 /\
 ∀ (p : Addr) (xs : List (Int × Int)) (H' : Hp), Same H H' -> Pr.Told (absI n) xs -> H' p = some (.tup [.int (sgn n * Pr.coreP xs), .int (Pr.rootP xs)]) -> Q (.ref p) H'
theorem core_more {xs : List (Int × Int)} {i : Nat} {p o : Int} (h : xs[i]? = some (p, o)) : Pr.coreP (xs.take (i + 1)) = Pr.coreP (xs.take i) * (if o % 2 = 1 then p else 1) := by
 rw [take_more h, Pr.coreP_app]
 simp [Pr.coreP]
theorem root_more {xs : List (Int × Int)} {i : Nat} {p o : Int} (h : xs[i]? = some (p, o)) : Pr.rootP (xs.take (i + 1)) = Pr.rootP (xs.take i) * p ^ (o / 2).toNat := by
 rw [take_more h, Pr.rootP_app]
 simp [Pr.rootP]
open Pl
def rowOf (t : T3) : Nat -> P3
 | 0 => t.r0
 | 1 => t.r1
 | _ => t.r2
def spOf (K : W.Frag) : Sp := fun vs H Q _ => ∃ (a : Addr) (ns : List Int) (k : Int), vs = [.ref a, .int k] /\ SqL K H a (ns.map V.int) /\ 0 <= k /\ k < 1000 /\ ∀ n : Int, Q (.int n) H
def spDrawn : Sp := fun vs H Q _ => ∃ (c p m : Int), vs = [.int c, .int p, .int m] /\ 0 < p /\ p < 100000 /\ 0 < m /\ ∀ n : Int, 0 <= n -> n < m -> Q (.int n) H
def OT (H : Hp) (q : Addr) (t : T3) : Prop := ST H q t \/ ∃ r0 r1 r2 : Addr, H q = some (.lst [.ref r0, .ref r1, .ref r2]) /\ H r0 = some (l3 t.r0) /\ H r1 = some (l3 t.r1) /\ H r2 = some (l3 t.r2)
def spRt : Sp := fun vs H Q _ => ∃ (p q : Addr) (r : P3) (t : T3), vs = [.ref p, .ref q] /\ H p = some (l3 r) /\ OT H q t /\ BP 2000 r /\ BT 2000 t /\ ∀ (z : Addr) (H' : Hp), Same H H' -> H z = none -> H' z = some (l3 (rt r t)) -> Q (.ref z) H'
def spLc : Sp := fun vs H Q _ => ∃ (p q : Addr) (F : F6) (t : T3), vs = [.ref p, .ref q] /\ S6 H p F /\ ST H q t /\ BF 600 F /\ BT 900 t /\ ∀ (r : Addr) (H' : Hp), Same H H' -> S6 H' r (ch F t) -> Q (.ref r) H'
theorem atR {r0 r1 r2 : Addr} {k : Nat} (hk : k < 3) : ∃ r, atI [V.ref r0, .ref r1, .ref r2] (0 + (k : Int)) = some (.ref r) /\ [r0, r1, r2][k]? = some r := by
 obtain rfl | rfl | rfl : k = 0 \/ k = 1 \/ k = 2 := by omega
 ·exact ⟨r0, rfl, rfl⟩
 ·exact ⟨r1, rfl, rfl⟩
 ·exact ⟨r2, rfl, rfl⟩
theorem row_at {S : Addr -> P3 -> Prop} {r0 r1 r2 : Addr} {t : T3} (h0 : S r0 t.r0) (h1 : S r1 t.r1) (h2 : S r2 t.r2) {k : Nat} {r : Addr} (e : [r0, r1, r2][k]? = some r) : S r (rowOf t k) := by
 match k, e with
 | 0, e => cases e; exact h0
 | 1, e => cases e; exact h1
 | 2, e => cases e; exact h2
theorem row_get {S : Addr -> P3 -> Prop} {r0 r1 r2 : Addr} {t : T3} (h0 : S r0 t.r0) (h1 : S r1 t.r1) (h2 : S r2 t.r2) {k : Nat} {x : V} (e : [V.ref r0, .ref r1, .ref r2][k]? = some x) : ∃ z, x = .ref z /\ S z (rowOf t k) := by
 match k, e with
 | 0, e => exact ⟨r0, (Option.some.inj e).symm, h0⟩
 | 1, e => exact ⟨r1, (Option.some.inj e).symm, h1⟩
 | 2, e => exact ⟨r2, (Option.some.inj e).symm, h2⟩
theorem bd_row {k : Nat} {t : T3} (h : BT k t) (j : Nat) : BP k (rowOf t j) := match j with
 | 0 => h.r0
 | 1 => h.r1
 | n + 2 => h.r2
theorem cmp_tr (t : T3) {i j : Nat} (hi : i < 3) (hj : j < 3) : cmp (rowOf (tr t) i) j = cmp (rowOf t j) i := by
 obtain rfl | rfl | rfl : i = 0 \/ i = 1 \/ i = 2 := by omega
 all_goals (obtain rfl | rfl | rfl : j = 0 \/ j = 1 \/ j = 2 := by omega)
 all_goals rfl
theorem l3_ne {P : P3} {rs : List Addr} (e : l3 P = .lst (rs.map V.ref)) : False := by
 have e2 : [V.int P.x, .int P.y, .int P.z] = rs.map V.ref := by injection e
 match rs, e2 with
 | r :: rs', e2 =>
  rw [List.map_cons] at e2
  have := (List.cons.inj e2).1
  cases this
theorem Laid.ne {row : Nat -> HO} {i : Nat} {vs : List V} {H : Hp} (l : Laid row i vs H) (P : P3) : l3 P ≠ .lst vs := by
 obtain ⟨rs, rfl, _⟩ := l
 exact fun e => l3_ne e
theorem OT.mono {H H' : Hp} {q : Addr} {t : T3} (g : Same H H') (h : OT H q t) : OT H' q t := by
 rcases h with h | ⟨r0, r1, r2, h, h0, h1, h2⟩
 ·exact .inl (h.mono g)
 ·exact .inr ⟨r0, r1, r2, g _ _ h, g _ _ h0, g _ _ h1, g _ _ h2⟩
theorem bd_rt {j k : Nat} {r : P3} {t : T3} (h : BP j r) (p : BT k t) : BP (j + k + 2) (rt r t) :=
 ⟨((h.x.mul p.r0.x).add (h.y.mul p.r1.x)).add ((h.z.mul p.r2.x).mono (Nat.le_succ _)), ((h.x.mul p.r0.y).add (h.y.mul p.r1.y)).add ((h.z.mul p.r2.y).mono (Nat.le_succ _)), ((h.x.mul p.r0.z).add (h.y.mul p.r1.z)).add ((h.z.mul p.r2.z).mono (Nat.le_succ _))⟩
theorem lc_eq (F : F6) (t : T3) : (.tup [V.int ((rt (rt (rowOf (tr t) 0) (sl F)) t).x / 2), .int ((rt (rt (rowOf (tr t) 1) (sl F)) t).y / 2), .int ((rt (rt (rowOf (tr t) 2) (sl F)) t).z / 2), .int (rt (rt (rowOf (tr t) 1) (sl F)) t).z, .int (rt (rt (rowOf (tr t) 0) (sl F)) t).z, .int (rt (rt (rowOf (tr t) 0) (sl F)) t).y] : HO)
  = .tup [.int (ch F t).a, .int (ch F t).b, .int (ch F t).c, .int (ch F t).d, .int (ch F t).e, .int (ch F t).f] := by
 have h2 : ∀ w : Int, 2 * w / 2 = w := fun w => by omega
 rw [rt_bl, rt_bl, rt_bl]
 show (.tup [V.int (bl F (tr t).r0 (tr t).r0 / 2), .int (bl F (tr t).r1 (tr t).r1 / 2), .int (bl F (tr t).r2 (tr t).r2 / 2), _, _, _] : HO) = _
 rw [wo_two, wo_two, wo_two, h2, h2, h2]
 rfl
def d6 (Q : F6) : PyData := .tuple [.int Q.a, .int Q.b, .int Q.c, .int Q.d, .int Q.e, .int Q.f]
theorem DA6 {H : Hp} {p : Addr} {Q : F6} (h : S6 H p Q) : DA H (.ref p) (d6 Q) := .tup h (.cons .int (.cons .int (.cons .int (.cons .int (.cons .int (.cons .int .nil))))))
theorem eq6 (Q : F6) : PyData.eqv (d6 Q) (d6 Q) = true := SeqAt.eqv_refl _ rfl
theorem one_of {g x y z : Int} (o : One3 x y z) (g0 : 0 <= g) (hx : g ∣ x) (hy : g ∣ y) (hz : g ∣ z) : g = 1 := by
 obtain ⟨u, v, w, e⟩ := o
 have : g ∣ 1 := by
  rw [<- e]
  exact Int.dvd_add (Int.dvd_add (Int.dvd_trans hx (Int.dvd_mul_left _ _)) (Int.dvd_trans hy (Int.dvd_mul_left _ _))) (Int.dvd_trans hz (Int.dvd_mul_left _ _))
 have h3 := Nat.dvd_one.mp (Int.natAbs_dvd_natAbs.mpr this)
 omega
theorem _root_.L2.SqT.up {K : W.Frag} {H H' : Hp} {a : Addr} {xs : List V} (e : Same H H') (h : SqT K H a xs) : SqT K H' a xs := by
 rcases h with (h | ⟨o, h⟩) | h
 ·exact .inl (.inl (e _ _ h))
 ·exact .inl (.inr ⟨o, e _ _ h⟩)
 ·exact .inr h
theorem callK_anyT {X : Cx} {K : W.Frag} (hK : X.K = K) (hc : X.calm = true) : CallR X (.builtin "any") (fun xs H Q => ∃ (l : Addr) (ns : List Int), xs = [.ref l] /\ SqT K H l (ns.map V.int) /\ Q (.bl (ns.any (· != 0))) H) := by
 subst hK
 exact call_anyT hc
theorem putS {H H' : Hp} {p : Addr} {o : HO} (g : Same H H') (n : H p = none) : Same H (upd H' p o) := fun b u z => by
 rw [upd_ne (ne_of_none z n)]
 exact g b u z
def STK (K : W.Frag) (H : Hp) (p : Addr) (t : T3) : Prop := ∃ r0 r1 r2 : Addr, SqT K H p [.ref r0, .ref r1, .ref r2] /\ SqT K H r0 (v3 t.r0) /\ SqT K H r1 (v3 t.r1) /\ SqT K H r2 (v3 t.r2)
theorem STK.up {K : W.Frag} {H H' : Hp} {p : Addr} {t : T3} (e : Same H H') (h : STK K H p t) : STK K H' p t := by
 obtain ⟨r0, r1, r2, h0, h1, h2, h3⟩ := h
 exact ⟨r0, r1, r2, h0.up e, h1.up e, h2.up e, h3.up e⟩
theorem STK.of {K : W.Frag} {H : Hp} {p : Addr} {t : T3} (h : ST H p t) : STK K H p t := by
 obtain ⟨r0, r1, r2, h0, h1, h2, h3⟩ := h
 exact ⟨r0, r1, r2, SqT.of h0, SqT.of h1, SqT.of h2, SqT.of h3⟩
inductive Tus (H : Hp) : List V -> List P3 -> Prop where
 | nil : Tus H [] []
 | cons {r : Addr} {P : P3} {vs : List V} {Ps : List P3} : S3 H r P -> Tus H vs Ps -> Tus H (.ref r :: vs) (P :: Ps)
theorem Tus.mono {H H' : Hp} {vs : List V} {Ps : List P3} (g : Same H H') (h : Tus H vs Ps) : Tus H' vs Ps := by
 induction h with
 | nil => exact .nil
 | cons h _ ih => exact .cons (g _ _ h) ih
theorem Tus.put {H : Hp} {vs : List V} {Ps : List P3} {l : Addr} {zs : List V} {o : HO} (h : Tus H vs Ps) (hl : H l = some (.lst zs)) : Tus (upd H l o) vs Ps := by
 induction h with
 | nil => exact .nil
 | @cons r P vs Ps h _ ih =>
  refine .cons ?_ ih
  have ne : r ≠ l := fun w => by
   subst w
   have h' : H r = some (t3 P) := h
   rw [hl] at h'
   cases h'
  show upd H l o r = _
  rw [upd_ne ne]
  exact h
theorem Tus.app {H : Hp} {vs ws : List V} {Ps Rs : List P3} (h : Tus H vs Ps) (k : Tus H ws Rs) : Tus H (vs ++ ws) (Ps ++ Rs) := by
 induction h with
 | nil => exact k
 | cons h _ ih => exact .cons h ih
theorem Tus.len {H : Hp} {vs : List V} {Ps : List P3} (h : Tus H vs Ps) : vs.length = Ps.length := by
 induction h with
 | nil => rfl
 | cons _ _ ih => simp [ih]
theorem Tus.get {H : Hp} {vs : List V} {Ps : List P3} (h : Tus H vs Ps) : ∀ {i : Nat} {v : V}, vs[i]? = some v -> ∃ r P, v = .ref r /\ Ps[i]? = some P /\ S3 H r P := by
 induction h with
 | nil => intro i v e; cases e
 | @cons r P vs Ps h _ ih =>
  intro i v e
  cases i with
  | zero => exact ⟨r, P, (Option.some.inj e).symm, rfl, h⟩
  | succ i => exact ih e
noncomputable def nzH (H : Hp) (v : V) : Bool := @decide (∃ r P, v = .ref r /\ S3 H r P /\ N3 P) (Classical.propDecidable _)
theorem s3_inj {H : Hp} {r : Addr} {P R : P3} (h : S3 H r P) (k : S3 H r R) : P = R := by
 have e : some (t3 P) = some (t3 R) := h.symm.trans k
 injection e with e
 injection e with e
 have e1 := (List.cons.inj e).1
 have e2 := (List.cons.inj (List.cons.inj e).2).1
 have e3 := (List.cons.inj (List.cons.inj (List.cons.inj e).2).2).1
 exact P3.ext' ⟨V.int.inj e1, V.int.inj e2, V.int.inj e3⟩
theorem nzH_at {H : Hp} {r : Addr} {P : P3} (h : S3 H r P) : nzH H (.ref r) = nzb P := by
 rw [Bool.eq_iff_iff]
 unfold nzH
 rw [@decide_eq_true_iff _ (Classical.propDecidable _), nzb_iff]
 constructor
 ·rintro ⟨r', R, e, hR, n⟩
  cases e
  rw [s3_inj h hR]
  exact n
 ·intro n
  exact ⟨r, P, rfl, h, n⟩
theorem any3 (P : P3) : ([P.x, P.y, P.z].any (· != 0)) = nzb P := by
 unfold nzb
 by_cases h1 : P.x = 0 <;> by_cases h2 : P.y = 0 <;> by_cases h3 : P.z = 0 <;> simp [h1, h2, h3]
theorem Tus.first {H : Hp} {vs : List V} {Ps : List P3} {v : P3} (h : Tus H vs Ps) (e : (Ps.filter nzb).head? = some v) : ∃ r rest, (vs.filter (nzH H)).map id = .ref r :: rest /\ S3 H r v := by
 induction h with
 | nil => cases e
 | @cons r P vs Ps h _ ih =>
  rw [List.filter_cons] at e
  rw [List.filter_cons, nzH_at h]
  cases c : nzb P with
  | true =>
   rw [c, if_pos rfl] at e
   rw [if_pos rfl]
   have : P = v := Option.some.inj e
   subst this
   exact ⟨r, _, rfl, h⟩
  | false =>
   rw [c, if_neg Bool.false_ne_true] at e
   rw [if_neg Bool.false_ne_true]
   exact ih e
def rw3 (t : T3) : List P3 := [t.r0, t.r1, t.r2]
def spCrs (K : W.Frag) : Sp := fun vs H Q _ => ∃ (p q : Addr) (t u : T3), vs = [.ref p, .ref q] /\ STK K H p t /\ STK K H q u /\ BT 420 t /\ BT 420 u /\ ∀ (l : Addr) (H' : Hp) (ws : List V), Same H H' -> H' l = some (.lst ws) -> Tus H' ws (crs (rw3 t) (rw3 u)) -> Q (.ref l) H'
theorem rowK {K : W.Frag} {H : Hp} {r0 r1 r2 : Addr} {t : T3} {k : Nat} (h0 : SqT K H r0 (v3 t.r0)) (h1 : SqT K H r1 (v3 t.r1)) (h2 : SqT K H r2 (v3 t.r2)) (b : BT k t) {i : Nat} {v : V} (e : [V.ref r0, .ref r1, .ref r2][i]? = some v) : ∃ z P, v = .ref z /\ (rw3 t)[i]? = some P /\ SqT K H z (v3 P) /\ BP k P := by
 match i, e with
 | 0, e => exact ⟨r0, t.r0, (Option.some.inj e).symm, rfl, h0, b.r0⟩
 | 1, e => exact ⟨r1, t.r1, (Option.some.inj e).symm, rfl, h1, b.r1⟩
 | 2, e => exact ⟨r2, t.r2, (Option.some.inj e).symm, rfl, h2, b.r2⟩
 | n + 3, e => cases e
def axT : T3 := ⟨⟨1, 0, 0⟩, ⟨0, 1, 0⟩, ⟨0, 0, 1⟩⟩
theorem tb_tm0 {F : F6} {d : Int} {R : P3} (hd : d ≠ 0) (h : tb (sl F) (tm d R) = ⟨0, 0, 0⟩) : tb (sl F) R = ⟨0, 0, 0⟩ := by
 have e : ∀ r : P3, rp r (tm d R) = d * rp r R := fun r => by
  simp only [rp, tm]
  grind
 simp only [tb, e, P3.mk.injEq] at h ⊢
 exact ⟨mul_cancel h.1 hd, mul_cancel h.2.1 hd, mul_cancel h.2.2 hd⟩
theorem _root_.L2.SqT.put {K : W.Frag} {H : Hp} {a l : Addr} {xs zs : List V} {o : HO} (h : SqT K H a xs) (hl : H l = some (.lst zs)) : SqT K (upd H l o) a xs := by
 rcases h with (h | ⟨c, h⟩) | h
 ·have ne : a ≠ l := fun w => by subst w; rw [hl] at h; cases h
  exact .inl (.inl (by rw [upd_ne ne]; exact h))
 ·have ne : a ≠ l := fun w => by subst w; rw [hl] at h; cases h
  exact .inl (.inr ⟨c, by rw [upd_ne ne]; exact h⟩)
 ·exact .inr h
theorem _root_.L2.SqL.up {K : W.Frag} {H H' : Hp} {a : Addr} {xs : List V} (e : Same H H') (h : SqL K H a xs) : SqL K H' a xs := by
 rcases h with (h | ⟨o, h⟩) | h
 ·exact .inl (.inl (e _ _ h))
 ·exact .inl (.inr ⟨o, e _ _ h⟩)
 ·exact .inr h
theorem _root_.L2.Sq.up {K : W.Frag} {H H' : Hp} {b : Bool} {a : Addr} {xs : List V} (e : Same H H') (h : Sq K H b a xs) : Sq K H' b a xs := by
 cases b
 ·exact SqT.up e h
 ·exact SqL.up e h
theorem ixb {K : W.Frag} {H : Hp} {b : Bool} {p : Addr} {xs : List V} {i : Int} {v : V} {Q : VK} (h : Sq K H b p xs) (e : atI xs i = some v) (q : Q v H) : rIx K (.ref p) (.int i) H Q := by
 cases b
 ·exact .inr (.inl ⟨p, xs, i, v, rfl, rfl, h, e, q⟩)
 ·exact .inl ⟨p, xs, i, v, rfl, rfl, h, e, q⟩
inductive TuK (K : W.Frag) (H : Hp) : List V -> List P3 -> Prop where
 | nil : TuK K H [] []
 | cons {r : Addr} {P : P3} {vs : List V} {Ps : List P3} : SqT K H r (v3 P) -> TuK K H vs Ps -> TuK K H (.ref r :: vs) (P :: Ps)
theorem TuK.mono {K : W.Frag} {H H' : Hp} {vs : List V} {Ps : List P3} (g : Same H H') (h : TuK K H vs Ps) : TuK K H' vs Ps := by
 induction h with
 | nil => exact .nil
 | cons h _ ih => exact .cons (h.up g) ih
theorem TuK.put {K : W.Frag} {H : Hp} {vs : List V} {Ps : List P3} {l : Addr} {zs : List V} {o : HO} (h : TuK K H vs Ps) (hl : H l = some (.lst zs)) : TuK K (upd H l o) vs Ps := by
 induction h with
 | nil => exact .nil
 | cons h _ ih => exact .cons (h.put hl) ih
theorem TuK.app {K : W.Frag} {H : Hp} {vs ws : List V} {Ps Rs : List P3} (h : TuK K H vs Ps) (k : TuK K H ws Rs) : TuK K H (vs ++ ws) (Ps ++ Rs) := by
 induction h with
 | nil => exact k
 | cons h _ ih => exact .cons h ih
theorem TuK.len {K : W.Frag} {H : Hp} {vs : List V} {Ps : List P3} (h : TuK K H vs Ps) : vs.length = Ps.length := by
 induction h with
 | nil => rfl
 | cons _ _ ih => rw [List.length_cons, List.length_cons, ih]
theorem TuK.get {K : W.Frag} {H : Hp} {vs : List V} {Ps : List P3} (h : TuK K H vs Ps) : ∀ {i : Nat} {v : V}, vs[i]? = some v -> ∃ r P, v = .ref r /\ Ps[i]? = some P /\ SqT K H r (v3 P) := by
 induction h with
 | nil => intro i v e; cases e
 | @cons r P vs Ps h _ ih =>
  intro i v e
  match i, e with
  | 0, e => exact ⟨r, P, (Option.some.inj e).symm, rfl, h⟩
  | i + 1, e => exact ih (i := i) (by simpa using e)
theorem comp_seqR {K : W.Frag} {b : Bool} {a : Addr} {xs : List V} {te : TE} {σ : V -> St} {H : Hp} {Q : VK} (hn : xs.length < sizeLine) (hK : ∀ H', Same H H' -> Sq K H' b a xs) (R : Nat -> List V -> Hp -> Prop) (R0 : ∀ p, H p = none -> R 0 [] (upd H p (.lst [])))
  (he : ∀ (i : Nat) (x : V) (vs : List V) (H' : Hp) (acc : Addr) (Q' : VK), xs[i]? = some x -> Same H H' -> H acc = none -> H' acc = some (.lst vs) -> R i vs H' -> vs.length = i -> (∀ y H2, Same H' H2 -> R (i + 1) (vs ++ [y]) (upd H2 acc (.lst (vs ++ [y]))) -> Q' y H2) -> te (σ x) H' Q')
  (q : ∀ p H' vs, Same H H' -> H p = none -> H' p = some (.lst vs) -> vs.length = xs.length -> R xs.length vs H' -> Q (.ref p) H') : CompEnd (Itb K b a) Q H te σ := by
 cases b with
 | true => exact comp_listR hn hK R R0 he q
 | false => exact comp_tupR hn hK R R0 he q
theorem compIf_listI {K : W.Frag} {a : Addr} {xs : List V} {tc : TT} {te : TE} {σ : V -> St} {H : Hp} {Q : VK} (hn : xs.length < sizeLine) (b : Nat -> Bool) (hK : ∀ H', Same H H' -> SqL K H' a xs) (R : Nat -> List V -> Prop) (R0 : R 0 [])
  (Rt : ∀ i x vs, xs[i]? = some x -> b i = true -> R i vs -> R (i + 1) (vs ++ [x])) (Rf : ∀ i x vs, xs[i]? = some x -> b i = false -> R i vs -> R (i + 1) vs)
  (ht : ∀ (i : Nat) (x : V) (H' : Hp) (Q' : Bool -> Hp -> Prop), xs[i]? = some x -> Same H H' -> (∀ H2, Same H' H2 -> Q' (b i) H2) -> tc (σ x) H' Q')
  (he : ∀ (i : Nat) (x : V) (H' : Hp) (Q' : VK), xs[i]? = some x -> Same H H' -> (∀ H2, Same H' H2 -> Q' x H2) -> te (σ x) H' Q')
  (q : ∀ a H' vs, Same H H' -> H a = none -> H' a = some (.lst vs) -> R xs.length vs -> Q (.ref a) H') : CompIfEnd (Itl K a) Q H tc te σ := by
 intro acc hacc
 refine ⟨fun i m H' vs => i <= xs.length /\ m = xs.length - i /\ Same H H' /\ H' acc = some (.lst vs) /\ vs.length <= i /\ R i vs, ⟨xs.length, Nat.zero_le _, by simp, same_new hacc _, upd_same, Nat.le_refl _, R0⟩, ?_⟩
 rintro i m H' vs ⟨hi, rfl, g, ha, hv, r⟩
 refine ⟨ha, ?_⟩
 by_cases h : i = xs.length
 ·subst h
  exact .inl ⟨⟨xs, hK _ g, Nat.le_refl _⟩, q acc H' vs g hacc ha r⟩
 ·have hlt : i < xs.length := by omega
  refine .inr ⟨⟨xs, xs[i], hK _ g, by simp [hlt]⟩, by omega, ?_⟩
  rintro x H2 ⟨rfl, hx⟩
  have ex := hx xs (hK _ g)
  refine ht i x _ _ ex g fun H3 g3 => ?_
  cases e : b i with
  | true => exact iteT (he i x _ _ ex (g.trans g3) fun H4 g4 => ⟨g4 _ _ (g3 _ _ ha), xs.length - (i + 1), by omega, by omega, rfl, same_upd (g.trans (g3.trans g4)) hacc, upd_same, by simp; omega, Rt i x vs ex e r⟩)
  | false => exact iteF ⟨xs.length - (i + 1), by omega, by omega, rfl, g.trans g3, g3 _ _ ha, by omega, Rf i x vs ex e r⟩
def spRpK (K : W.Frag) : Sp := fun vs H Q _ => ∃ (p q : Addr) (r s : P3), vs = [.ref p, .ref q] /\ S3 H p r /\ SqT K H q (v3 s) /\ BP 2000 r /\ BP 2000 s /\ Q (.int (rp r s)) H
def spTbK (K : W.Frag) : Sp := fun vs H Q _ => ∃ (p q : Addr) (t : T3) (P : P3), vs = [.ref p, .ref q] /\ ST H p t /\ SqT K H q (v3 P) /\ BT 2000 t /\ BP 2000 P /\ ∀ (r : Addr) (H' : Hp), Same H H' -> H r = none -> S3 H' r (tb t P) -> Q (.ref r) H'
def spWoK (K : W.Frag) : Sp := fun vs H Q _ => ∃ (p q : Addr) (F : F6) (P : P3), vs = [.ref p, .ref q] /\ S6 H p F /\ SqT K H q (v3 P) /\ BF 600 F /\ BP 600 P /\ ∀ H', Same H H' -> Q (.int (wo F P)) H'
def spAddK (K : W.Frag) : Sp := fun vs H Q _ => ∃ (p q : Addr) (P R : P3), vs = [.ref p, .ref q] /\ SqT K H p (v3 P) /\ SqT K H q (v3 R) /\ ∀ (z : Addr) (H' : Hp), Same H H' -> S3 H' z (ad P R) -> Q (.ref z) H'
def spLowS (K : W.Frag) : Sp := fun vs H Q _ => ∃ (b : Bool) (p : Addr) (x y z : Int), vs = [.ref p] /\ Sq K H b p [.int x, .int y, .int z] /\ In3 Top x y z /\ NZ x y z /\
 ∀ (r : Addr) (H' : Hp) (a b c d : Int), Same H H' -> Sq3 H' r a b c -> One3 a b c -> Pos3 a b c -> d ≠ 0 -> x = d * a -> y = d * b -> z = d * c -> Q (.ref r) H'
def spTrL : Sp := fun vs H Q _ => ∃ (p : Addr) (t : T3), vs = [.ref p] /\ LT H p t /\ ∀ (r : Addr) (H' : Hp), Same H H' -> ST H' r (tr t) -> Q (.ref r) H'
def spAbove : Sp := fun vs H Q _ => ∃ n, vs = [.int n] /\ 0 <= n /\ n <= Top /\ ∀ g : Int, 0 <= g -> g <= 2 * n + 1 -> n < g * g -> Q (.int g) H
def spRootE : Sp := fun vs H Q _ => ∃ r : Int, vs = [.int (r * r)] /\ 0 <= r /\ r * r <= Top /\ Q (.int r) H
theorem bits_top {g : Int} (h0 : 0 <= g) (h : g <= 2 * Top + 1) : g.natAbs < 2 ^ 1000 := by
 have e : Top = ((2 ^ 900 : Nat) : Int) := by rw [Top_eq]; decide +kernel
 have k : 2 * 2 ^ 900 + 1 < 2 ^ 1000 := by decide +kernel
 rw [e] at h
 generalize (2 : Nat) ^ 900 = N at h k
 generalize (2 : Nat) ^ 1000 = M at k
 omega
theorem newton_step {n g : Int} (n0 : 0 <= n) (g0 : 0 <= g) (hg : n < g * g) : 0 < g /\ 0 <= (g + n.fdiv g) / 2 /\ (g + n.fdiv g) / 2 < g /\ n < ((g + n.fdiv g) / 2 + 1) * ((g + n.fdiv g) / 2 + 1) := by
 have gp : 0 < g := by
  rcases (show g = 0 \/ 0 < g by omega) with h | h
  ·subst h; omega
  ·exact h
 have e : n = g * n.fdiv g + n.fmod g := by rw [Int.fmod_def]; omega
 have r0 := Int.fmod_nonneg_of_pos n gp
 have r1 := Int.fmod_lt_of_pos n gp
 generalize n.fdiv g = q at e ⊢
 generalize n.fmod g = r at e r0 r1
 have q0 : 0 <= q := by
  rcases Int.lt_or_le q 0 with h | h
  ·have := Int.mul_le_mul_of_nonneg_left (show q <= -1 by omega) (Int.le_of_lt gp)
   omega
  ·exact h
 have q1 : q < g := by
  rcases Int.lt_or_le q g with h | h
  ·exact h
  ·have := Int.mul_le_mul_of_nonneg_left h (Int.le_of_lt gp)
   omega
 have sqn : ∀ a : Int, 0 <= a * a := fun a => by
  rcases Int.le_total 0 a with h | h
  ·exact Int.mul_nonneg h h
  ·exact Int.mul_nonneg_of_nonpos_of_nonpos h h
 refine ⟨gp, by omega, by omega, ?_⟩
 have hn : n < g * (q + 1) := by
  have : g * (q + 1) = g * q + g := by rw [Int.mul_add, Int.mul_one]
  omega
 have h2 : g + q + 1 <= 2 * ((g + q) / 2 + 1) := by omega
 generalize (g + q) / 2 + 1 = c at h2 ⊢
 have k := sqn (g - (q + 1))
 have h3 : (g + q + 1) * (g + q + 1) <= (2 * c) * (2 * c) := Int.mul_le_mul h2 h2 (by omega) (by omega)
 grind
theorem root_uniq {g r : Int} (h0 : 0 <= g) (h1 : g * g <= r * r) (h2 : r * r < (g + 1) * (g + 1)) (r0 : 0 <= r) : g = r := by
 rcases Int.lt_trichotomy g r with h | h | h
 ·have := Int.mul_le_mul (show g + 1 <= r by omega) (show g + 1 <= r by omega) (by omega) (by omega)
  omega
 ·exact h
 ·have := Int.mul_le_mul (show r + 1 <= g by omega) (show r + 1 <= g by omega) (by omega) (by omega)
  grind
theorem told_core {n : Int} {xs : List (Int × Int)} (n0 : n ≠ 0) (told : Pr.Told (absI n) xs) : Jc.Sf (sgn n * Pr.coreP xs) /\ n = (sgn n * Pr.coreP xs) * (Pr.rootP xs * Pr.rootP xs) /\ 0 <= Pr.rootP xs := by
 have cr := Pr.core_root told.all
 rw [told.prod] at cr
 have cu : (sgn n * Pr.coreP xs) * (Pr.rootP xs * Pr.rootP xs) = n := by
  have := abs_sgn n
  rw [<- cr] at this
  rw [<- this]
  grind
 have sgk : sgn n = 1 \/ sgn n = -1 := by
  unfold sgn
  split <;> simp
 have u1 := Pr.rootP_pos told.all
 refine ⟨⟨fun z => n0 (by rw [<- cu, z, Int.zero_mul]), fun q hq h => Pr.core_no_sq hq told.all told.rise ?_⟩, cu.symm, by omega⟩
 rcases sgk with e | e
 ·rw [e, Int.one_mul] at h
  exact h
 ·rw [e, Int.neg_mul, Int.one_mul, Int.dvd_neg] at h
  exact h
def spCc : Sp := fun vs H Q _ => ∃ a b : Int, vs = [.int a, .int b] /\ Jc.Sf a /\ Jc.Sf b /\ Bd 400 a /\ Bd 400 b /\ ∀ (c : Int) (H' : Hp), Same H H' -> Jc.Cc a b c -> Bd 800 c -> Q (.int c) H'
def spCores : Sp := fun vs H Q _ => ∃ (p : Addr) (w1 w2 w3 s m : Int), vs = [.ref p, .int s] /\ H p = some (.lst [.int w1, .int w2, .int w3]) /\ w1 ≠ 0 /\ w2 ≠ 0 /\ s ≠ 0 /\ w1.natAbs <= 100 /\ w2.natAbs <= 54000000 /\ s.natAbs <= 8000000 /\ 4 * (w1 * w2 * w3) = s * m * m /\
 ∀ (r : Addr) (H' : Hp) (c1 c2 c3 r1 r2 r3 : Int), Same H H' -> H' r = some (.tup [.int c1, .int c2, .int c3]) -> Jc.Sf c1 -> Jc.Sf c2 -> Jc.Sf c3 -> w1 = c1 * (r1 * r1) -> w2 = c2 * (r2 * r2) -> w3 = c3 * (r3 * r3) -> 0 <= r1 -> 0 <= r2 -> 0 <= r3 ->
  (∀ p, Pr.Prm p -> p ∣ c3 -> p ∣ c1 \/ p ∣ c2 \/ p ∣ s) -> Q (.ref r) H'
def spOff (K : W.Frag) : Sp := fun vs H Q _ => ∃ (b : Bool) (q p : Addr) (F : F6) (us : List V) (Ps : List P3), vs = [.ref q, .ref p] /\ S6 H q F /\ Sq K H b p us /\ TuK K H us Ps /\ Ps.length <= 3 /\ BF 300 F /\ (∀ P ∈ Ps, BP 300 P) /\ (∃ v, offF F Ps = some v) /\
 ∀ (r : Addr) (H' : Hp) (v : P3), Same H H' -> SqT K H' r (v3 v) -> offF F Ps = some v -> Q (.ref r) H'
theorem bp_offs {k : Nat} {Ps : List P3} (h : ∀ P ∈ Ps, BP k P) {v : P3} (hv : v ∈ offs Ps) : BP (k + 1) v := by
 rcases List.mem_append.mp hv with m | m
 ·exact (h v m).mono'
 ·obtain ⟨a, ha, m⟩ := List.mem_flatMap.mp m
  obtain ⟨b, hb, rfl⟩ := List.mem_map.mp m
  exact bp_ad (h a ha) (h b hb)
def OffR (K : W.Frag) (H : Hp) (F : F6) (Vs : List P3) (i : Nat) (vs : List V) : Prop := match (Vs.take i).find? fun v => wo F v != 0 with
 | none => vs = []
 | some v => ∃ r rest, vs = .ref r :: rest /\ SqT K H r (v3 v)
def offB (F : F6) (Vs : List P3) (i : Nat) : Bool := match Vs[i]? with
 | none => false
 | some v => wo F v != 0
theorem offB_at {F : F6} {Vs : List P3} {i : Nat} {v : P3} (h : Vs[i]? = some v) : offB F Vs i = (wo F v != 0) := by
 unfold offB
 rw [h]
theorem OffR.zero {K : W.Frag} {H : Hp} {F : F6} {Vs : List P3} : OffR K H F Vs 0 [] := by
 unfold OffR
 simp
theorem OffR.step {K : W.Frag} {H : Hp} {F : F6} {Vs : List P3} {i : Nat} {vs : List V} {r : Addr} {P : P3} (hP : Vs[i]? = some P) (hr : SqT K H r (v3 P)) (h : OffR K H F Vs i vs) : (offB F Vs i = true -> OffR K H F Vs (i + 1) (vs ++ [.ref r])) /\ (offB F Vs i = false -> OffR K H F Vs (i + 1) vs) := by
 rw [offB_at hP]
 unfold OffR at *
 rw [List.take_succ, hP, List.find?_append]
 cases e : (Vs.take i).find? fun v => wo F v != 0 with
 | some v =>
  rw [e] at h
  obtain ⟨r', rest, rfl, h'⟩ := h
  exact ⟨fun _ => ⟨r', rest ++ [.ref r], rfl, h'⟩, fun _ => ⟨r', rest, rfl, h'⟩⟩
 | none =>
  rw [e] at h
  subst h
  refine ⟨fun c => ?_, fun c => ?_⟩
  ·simp only [Option.none_or, Option.toList, List.find?_cons, c]
   exact ⟨r, [], rfl, hr⟩
  ·simp only [Option.none_or, Option.toList, List.find?_cons, c, List.find?_nil]
theorem axs_bp {k : Nat} : ∀ P ∈ axs, BP k P := by
 intro P h
 simp only [axs, List.mem_cons, List.not_mem_nil, or_false] at h
 rcases h with rfl | rfl | rfl
 ·exact ⟨bd1, bd0, bd0⟩
 ·exact ⟨bd0, bd1, bd0⟩
 ·exact ⟨bd0, bd0, bd1⟩
theorem wo_n3 {F : F6} {v : P3} (h : wo F v ≠ 0) : N3 v := by
 apply Classical.byContradiction
 intro c
 rw [n3_not c] at h
 simp [wo] at h
theorem n3_nz {v : P3} (h : N3 v) : NZ v.x v.y v.z := h
def spCorOn (K : W.Frag) : Sp := fun vs H Q _ => ∃ (q lr : Addr) (F : F6) (P : P3), vs = [.ref q, .ref lr] /\ S6 H q F /\ S3 H lr (tb (sl F) P) /\ In100 F /\ sz F ≠ 0 /\ Fst F P (tb (sl F) P) /\
 ∀ (r r1 r2 : Addr) (H' : Hp) (R S : P3), Same H H' -> H' r = some (.tup [.ref r1, .ref r2]) -> S3 H' r1 R -> S3 H' r2 S -> Crn F P R S -> (wo F R).natAbs <= 54000000 -> BP 100 R -> BP 100 S -> Q (.ref r) H'
def spCo (K : W.Frag) : Sp := fun vs H Q _ => ∃ (q : Addr) (F : F6), vs = [.ref q] /\ S6 H q F /\ In100 F /\ sz F ≠ 0 /\
 ∀ (r r0 r1 r2 : Addr) (H' : Hp) (P R S : P3), Same H H' -> H' r = some (.tup [.ref r0, .ref r1, .ref r2]) -> SqT K H' r0 (v3 P) -> SqT K H' r1 (v3 R) -> SqT K H' r2 (v3 S) -> Crn F P R S -> (wo F P).natAbs <= 100 -> (wo F R).natAbs <= 54000000 -> BP 100 P -> BP 100 R -> BP 100 S -> Q (.ref r) H'
theorem sec_of {F : F6} {P l v R : P3} {d : Int} (el : l = tb (sl F) P) (h : In100 F) (f : Fst F P l) (ev : offF F (axs.map (cr l)) = some v) (d0 : d ≠ 0) (e : v = tm d R) : bl F P R = 0 /\ wo F R ≠ 0 /\ (wo F R).natAbs <= 54000000 /\ BP 100 R := by
 have nz := offF_nz ev
 have b := snd_bd f ev
 have on := on_offs (offF_mem ev)
 rw [e] at nz b on
 have bx := div_le d0 b.1
 have by' := div_le d0 b.2.1
 have bz := div_le d0 b.2.2
 refine ⟨?_, fun z => nz (by rw [wo_tm, z, Int.mul_zero]), wo_le h ⟨bx, by', bz⟩, ⟨Nat.le_trans bx (by decide), Nat.le_trans by' (by decide), Nat.le_trans bz (by decide)⟩⟩
 unfold bl
 rw [<- el]
 have : rp l (tm d R) = d * rp l R := by
  simp only [rp, tm]
  grind
 rw [this] at on
 exact (Int.mul_eq_zero.mp on).resolve_left d0
theorem fst_bp {F : F6} {P l : P3} (h : Fst F P l) : BP 8 l /\ BP 1 P := ⟨⟨Nat.le_trans h.lx (by decide), Nat.le_trans h.ly (by decide), Nat.le_trans h.lz (by decide)⟩, ⟨Nat.le_trans h.px (by decide), Nat.le_trans h.py (by decide), Nat.le_trans h.pz (by decide)⟩⟩
theorem snd_bp {R v : P3} {d : Int} (d0 : d ≠ 0) (e : v = tm d R) (b : v.x.natAbs <= 300 /\ v.y.natAbs <= 300 /\ v.z.natAbs <= 300) : BP 9 R := by
 rw [e] at b
 exact ⟨Nat.le_trans (div_le d0 b.1) (by decide), Nat.le_trans (div_le d0 b.2.1) (by decide), Nat.le_trans (div_le d0 b.2.2) (by decide)⟩
theorem gcd_is {g s t x y : Int} (g0 : 0 <= g) (e : g = s * x + t * y) (k1 : ∃ k, x = k * g) (k2 : ∃ k, y = k * g) : g = (Int.gcd x y : Int) := by
 obtain ⟨a, ea⟩ := k1
 obtain ⟨b, eb⟩ := k2
 have h1 : g ∣ (Int.gcd x y : Int) := Int.dvd_coe_gcd ⟨a, by rw [Int.mul_comm]; exact ea⟩ ⟨b, by rw [Int.mul_comm]; exact eb⟩
 have h2 : (Int.gcd x y : Int) ∣ g := by
  rw [e]
  exact Int.dvd_add (Int.dvd_trans (Int.gcd_dvd_left ..) (Int.dvd_mul_left ..)) (Int.dvd_trans (Int.gcd_dvd_right ..) (Int.dvd_mul_left ..))
 exact Int.dvd_antisymm g0 (Int.natCast_nonneg _) h1 h2
theorem gr_gcd {a b : Int} (a0 : a ≠ 0) : Jc.Gr (Int.gcd a b : Int) a b := by
 refine ⟨?_, Int.gcd_dvd_left .., Int.gcd_dvd_right .., fun p hp x y => Int.dvd_coe_gcd x y⟩
 have : Int.gcd a b ≠ 0 := fun z => a0 (Int.gcd_eq_zero_iff.mp z).1
 omega
theorem ex_quot {c g q m : Int} (m0 : m ≠ 0) (e : c * g = q * m) : (c * g).fdiv m = q := by
 rw [e]
 exact Int.mul_fdiv_cancel _ m0
theorem bd_sq {k : Nat} {r : Int} (h : Bd k (r * r)) : Bd k r := by
 unfold Bd at *
 rw [Int.natAbs_mul] at h
 rcases Nat.eq_zero_or_pos r.natAbs with z | z
 ·omega
 ·exact Nat.le_trans (Nat.le_mul_of_pos_left _ z) h
theorem bd_dvd {k : Nat} {a b : Int} (h : a ∣ b) (b0 : b ≠ 0) (hb : Bd k b) : Bd k a := Jc.nat_dvd h b0 hb
def tn1 (i : Nat) : V := match i with
 | 0 => .int 0
 | 1 => .int 1
 | _ => .int 2
def tn2 (i : Nat) : V := match i with
 | 0 => .int 1
 | 1 => .int 2
 | _ => .int 0
def tn3 (i : Nat) : V := match i with
 | 0 => .int 2
 | 1 => .int 0
 | _ => .int 1
def of3 (a b c : Int) (i : Nat) : V := match i with
 | 0 => .int a
 | 1 => .int b
 | _ => .int c
theorem lt3 {i : Nat} (h : i < 3) : i = 0 \/ i = 1 \/ i = 2 := by omega
theorem pof_all {F : F6} {P R S : P3} {c1 c2 c3 r1 r2 r3 q1 q2 q3 L s1 s2 s3 : Int} (C : Crn F P R S) (sf1 : Jc.Sf c1) (sf2 : Jc.Sf c2) (sf3 : Jc.Sf c3) (h1 : wo F P = c1 * (r1 * r1)) (h2 : wo F R = c2 * (r2 * r2)) (h3 : wo F S = c3 * (r3 * r3))
  (e1 : c1 * (Int.gcd c2 c3 : Int) = q1 * ((Int.gcd c3 c1 : Int) * (Int.gcd c1 c2 : Int))) (e2 : c2 * (Int.gcd c3 c1 : Int) = q2 * ((Int.gcd c1 c2 : Int) * (Int.gcd c2 c3 : Int))) (e3 : c3 * (Int.gcd c1 c2 : Int) = q3 * ((Int.gcd c2 c3 : Int) * (Int.gcd c3 c1 : Int)))
  (L0 : L ≠ 0) (l1 : (Int.gcd c2 c3 : Int) * r2 * r3 = L * s1) (l2 : (Int.gcd c3 c1 : Int) * r3 * r1 = L * s2) (l3 : (Int.gcd c1 c2 : Int) * r1 * r2 = L * s3) :
  ∃ k : Int, k ≠ 0 /\ (wo F P * s1 * s1).fdiv q1 = k /\ me (tr ⟨tm s1 P, tm s2 R, tm s3 S⟩) ≠ 0 /\ ch F (tr ⟨tm s1 P, tm s2 R, tm s3 S⟩) = ⟨k * q1, k * q2, k * q3, 0, 0, 0⟩ /\ Pl.Pln q1 q2 q3 := by
 have G1 := gr_gcd (b := c3) sf2.n0
 have G2 := gr_gcd (b := c1) sf3.n0
 have G3 := gr_gcd (b := c2) sf1.n0
 have Pl' := Jc.tri_pln sf1 sf2 sf3 G1 G2 G3 e1 e2 e3
 obtain ⟨k, k0, s10, x1, x2, x3⟩ := Jc.scale_of Pl' C.w1 C.w2 C.w3 h1 h2 h3 (by have := G1.pos; omega) e1 e2 e3 L0 l1 l2 l3
 have ne : ∀ {w s q : Int}, w * s * s = k * q -> q ≠ 0 -> s ≠ 0 := fun {w s q} e hq z => by
  rw [z, Int.mul_zero] at e
  exact Int.mul_ne_zero k0 hq e.symm
 refine ⟨k, k0, ?_, ?_, ?_, Pl'⟩
 ·rw [x1]
  exact Int.mul_fdiv_cancel _ Pl'.a0
 ·rw [me_tr, me_str]
  exact Int.mul_ne_zero (Int.mul_ne_zero (Int.mul_ne_zero s10 (ne x2 Pl'.b0)) (ne x3 Pl'.c0)) C.me0
 ·rw [ch_str C, x1, x2, x3]
def spIsLow : Sp := fun vs H Q _ => ∃ (p : Addr) (x y z : Int), vs = [.ref p] /\ Sq3 H p x y z /\ One3 x y z /\ Pos3 x y z /\ ∀ H', Same H H' -> Q (.bl true) H'
def spWhol3 : Sp := fun vs H Q _ => ∃ (p : Addr) (x y z : Int), vs = [.ref p, .int 3] /\ Sq3 H p x y z /\ ∀ H', Same H H' -> Q (.bl true) H'
def spLSize : Sp := fun vs H Q _ => ∃ (p : Addr) (F : F6), vs = [.ref p] /\ S6 H p F /\ BF 600 F /\ Q (.int (sz F)) H
def spLm9 : Sp := fun vs H Q _ => ∃ (p : Addr) (t : T3), vs = [.ref p] /\ ST H p t /\ BT 900 t /\ Q (.int (lm t)) H
def spShr : Sp := fun vs H Q _ => ∃ (p : Addr) (a b c k : Int), vs = [.ref p, .int k] /\ S6 H p ⟨a, b, c, 0, 0, 0⟩ /\ a.natAbs <= 21 /\ b.natAbs <= 21 /\ c.natAbs <= 21 /\ ∀ (r : Addr) (H' : Hp) (F : F6), Same H H' -> S6 H' r F -> In100 F -> Q (.ref r) H'
def InU (i : Nat) (vs : List V) : Prop := ∃ ms : List Int, vs = ms.map V.int /\ ms.length = i /\ ∀ m ∈ ms, m.natAbs <= 1
theorem InU.next {i : Nat} {vs : List V} {n : Int} (h : InU i vs) (hn : n.natAbs <= 1) : InU (i + 1) (vs ++ [.int n]) := by
 obtain ⟨ms, rfl, hl, hm⟩ := h
 refine ⟨ms ++ [n], by simp, by simp [hl], fun m hm' => ?_⟩
 rcases List.mem_append.mp hm' with h | h
 ·exact hm m h
 ·rw [List.mem_singleton.mp h]
  exact hn
theorem InU.three {vs : List V} (h : InU 3 vs) : ∃ x y z : Int, vs = [.int x, .int y, .int z] /\ x.natAbs <= 1 /\ y.natAbs <= 1 /\ z.natAbs <= 1 := by
 obtain ⟨ms, rfl, hl, hm⟩ := h
 match ms, hl, hm with
 | [x, y, z], _, hm => exact ⟨x, y, z, rfl, hm x (by simp), hm y (by simp), hm z (by simp)⟩
theorem one_or {x : Int} (h : x.natAbs <= 1) : x = -1 \/ x = 0 \/ x = 1 := by omega
theorem shear1 {a b c x y : Int} (ha : a.natAbs <= 21) (hb : b.natAbs <= 21) (hc : c.natAbs <= 21) (hx : x.natAbs <= 1) (hy : y.natAbs <= 1) : In100 (ch ⟨a, b, c, 0, 0, 0⟩ ⟨⟨1, x, 0⟩, ⟨0, 1, 0⟩, ⟨y, 0, 1⟩⟩) := by
 rcases one_or hx with rfl | rfl | rfl <;> rcases one_or hy with rfl | rfl | rfl <;> (constructor <;> simp only [ch, wo, bl, tb, sl, rp, tr] <;> omega)
theorem shear2 {a b c x y : Int} (ha : a.natAbs <= 21) (hb : b.natAbs <= 21) (hc : c.natAbs <= 21) (hx : x.natAbs <= 1) (hy : y.natAbs <= 1) : In100 (ch ⟨a, b, c, 0, 0, 0⟩ ⟨⟨1, 0, 0⟩, ⟨x, 1, y⟩, ⟨0, 0, 1⟩⟩) := by
 rcases one_or hx with rfl | rfl | rfl <;> rcases one_or hy with rfl | rfl | rfl <;> (constructor <;> simp only [ch, wo, bl, tb, sl, rp, tr] <;> omega)
theorem bd_of21 {a : Int} (h : a.natAbs <= 21) : Bd 600 a := Nat.le_trans (Nat.le_trans h (by decide : 21 <= 2 ^ 5)) (Nat.pow_le_pow_right (by decide) (by decide))
theorem bd_of1 {a : Int} (h : a.natAbs <= 1) : Bd 600 a := bd_of21 (by omega)
def spPd : Sp := fun vs H Q _ => ∃ c m : Int, vs = [.int c, .int m] /\ 1 <= m /\ m <= 1000 /\ ∀ (r : Addr) (H' : Hp) (a b d : Int), Same H H' -> H' r = some (.tup [.int a, .int b, .int d]) -> a.natAbs <= m.natAbs -> b.natAbs <= m.natAbs -> d.natAbs <= m.natAbs -> Q (.ref r) H'
def In1 (m x : Int) : Prop := 1 <= x /\ x <= m
theorem band1 (i : Int) : Builtin.bitAnd i 1 = 0 \/ Builtin.bitAnd i 1 = 1 := by
 rw [show Builtin.bitAnd i 1 = i % 2 from PyProof.Rows.bitAnd_m1 i]
 omega
def spFm24 (K : W.Frag) : Sp := fun vs H Q _ => ∃ (a : Addr) (ns : List Int), vs = [.ref a] /\ SqL K H a (ns.map V.int) /\ ∀ (r : Addr) (H' : Hp) (F : F6), Same H H' -> S6 H' r F -> In100 F -> Q (.ref r) H'
def InB (m i : Nat) (vs : List V) : Prop := ∃ ms : List Int, vs = ms.map V.int /\ ms.length = i /\ ∀ w ∈ ms, w.natAbs <= m
theorem InB.zero {m : Nat} : InB m 0 [] := ⟨[], rfl, rfl, fun _ h => by cases h⟩
theorem InB.next {m i : Nat} {vs : List V} {n : Int} (h : InB m i vs) (hn : n.natAbs <= m) : InB m (i + 1) (vs ++ [.int n]) := by
 obtain ⟨ms, rfl, hl, hm⟩ := h
 refine ⟨ms ++ [n], by simp, by simp [hl], fun w hw => ?_⟩
 rcases List.mem_append.mp hw with h | h
 ·exact hm w h
 ·rw [List.mem_singleton.mp h]
  exact hn
theorem InB.six {m : Nat} {vs : List V} (h : InB m 6 vs) : ∃ a b c d e f : Int, vs = [.int a, .int b, .int c, .int d, .int e, .int f] /\ a.natAbs <= m /\ b.natAbs <= m /\ c.natAbs <= m /\ d.natAbs <= m /\ e.natAbs <= m /\ f.natAbs <= m := by
 obtain ⟨ms, rfl, hl, hm⟩ := h
 match ms, hl, hm with
 | [a, b, c, d, e, f], _, hm => exact ⟨a, b, c, d, e, f, rfl, hm a (by simp), hm b (by simp), hm c (by simp), hm d (by simp), hm e (by simp), hm f (by simp)⟩
def vd3 : V -> V
 | .int n => .int (n / 3)
 | _ => .non
theorem mul3 {x y : Int} (hx : x.natAbs <= 3) (hy : y.natAbs <= 3) : (x * y).natAbs <= 9 := by
 rw [Int.natAbs_mul]
 exact Nat.mul_le_mul hx hy
theorem sm3 {x y : Int} (hx : x.natAbs <= 1000) : IntMulOk x y := mulS' (by omega) (by omega)
theorem lw_small {a b d e f x y : Int} (ha : a.natAbs <= 9) (hb : b.natAbs <= 9) (hd : d.natAbs <= 9) (he : e.natAbs <= 9) (hf : f.natAbs <= 9) (hx : x.natAbs <= 1) (hy : y.natAbs <= 1) : (lw ⟨a, b, 0, d, e, f⟩ ⟨x, y, 1⟩).natAbs <= 45 := by
 rcases one_or hx with rfl | rfl | rfl <;> rcases one_or hy with rfl | rfl | rfl <;> (simp only [lw] <;> omega)
theorem bd_of9 {a : Int} (h : a.natAbs <= 9) : Bd 600 a := bd_of21 (by omega)
def spSfP : Sp := fun vs H Q _ => ∃ n : Int, vs = [.int n] /\ Jc.Sf n /\ n.natAbs <= 10000000000 /\ Q (.bl true) H
theorem sf_no {r d : Int} (h : Jc.Sf r) (d2 : 2 <= d) (e : d * d ∣ r) : False := by
 obtain ⟨p, hp, k, rfl⟩ := Jc.prm_div d.toNat d (by omega) d2
 exact h.sq p hp (Int.dvd_trans ⟨k * k, by grind⟩ e)
theorem sf_abs {n : Int} (h : Jc.Sf n) : Jc.Sf (if n < 0 then -n else n) := by
 split
 ·exact ⟨fun z => h.n0 (by omega), fun p hp k => h.sq p hp (Int.dvd_neg.mp k)⟩
 ·exact h
def spIsPl : Sp := fun vs H Q _ => ∃ (p : Addr) (a b c : Int), vs = [.ref p] /\ H p = some (.tup [.int a, .int b, .int c]) /\ Pl.Pln a b c /\ a.natAbs <= 10000000000 /\ b.natAbs <= 10000000000 /\ c.natAbs <= 10000000000 /\ ∀ H', Same H H' -> Q (.bl true) H'
def spIsTb : Sp := fun vs H Q _ => ∃ (p : Addr) (t : T3), vs = [.ref p] /\ ST H p t /\ BT 900 t /\ lm t ≠ 0 /\ ∀ H', Same H H' -> Q (.bl true) H'
theorem share_one {a b g : Int} (a0 : a ≠ 0) (h : ∀ p, Pr.Prm p -> p ∣ a -> ¬ p ∣ b) (g0 : 0 <= g) (hd : ∀ n ∈ [a, b], g ∣ n) : g = 1 := by
 have da := hd a (by simp)
 have db := hd b (by simp)
 rcases (show g = 0 \/ g = 1 \/ 2 <= g by omega) with z | z | z
 ·rw [z] at da
  exact absurd (Int.zero_dvd.mp da) a0
 ·exact z
 ·obtain ⟨p, hp, hk⟩ := Jc.prm_div g.toNat g (by omega) z
  exact absurd (Int.dvd_trans hk db) (h p hp (Int.dvd_trans hk da))
def spVx0 : Sp := fun vs H Q _ => ∃ (p : Addr) (F : F6), vs = [.ref p] /\ S6 H p F /\ BF 400 F /\ sz F = 0 /\ (sz F = 0 -> ∀ (r : Addr) (H' : Hp) (R : P3), Same H H' -> S3 H' r R -> L3 R -> BP 900 R -> tb (sl F) R = ⟨0, 0, 0⟩ -> Q (.ref r) H')
def FlatE (C : Addr) (F : F6) (H : Hp) (E : XK) : Prop := ∀ (dx r : Addr) (H' : Hp) (R : P3), Same H H' -> H' dx = some (.xd [("vertex", .ref r)]) -> S3 H' r R -> L3 R -> BP 900 R -> tb (sl F) R = ⟨0, 0, 0⟩ -> E (.ref C) (some dx) H'
def spRfX (C : Addr) : Sp := fun vs H Q E => ∃ (p : Addr) (F : F6), vs = [.ref p] /\ S6 H p F /\ BF 400 F /\ (sz F ≠ 0 -> Q .non H) /\ (sz F = 0 -> FlatE C F H E)
def spPofX (C : Addr) : Sp := fun vs H Q E => ∃ (q : Addr) (F : F6), vs = [.ref q] /\ S6 H q F /\ In100 F /\ (sz F ≠ 0 ->
 ∀ (r ta pr : Addr) (H' : Hp) (t : T3) (k q1 q2 q3 : Int), Same H H' -> H' r = some (.tup [.ref ta, .int k, .ref pr]) -> ST H' ta t -> H' pr = some (.tup [.int q1, .int q2, .int q3]) -> k ≠ 0 -> me t ≠ 0 -> ch F t = ⟨k * q1, k * q2, k * q3, 0, 0, 0⟩ -> Pl.Pln q1 q2 q3 ->
  q1.natAbs <= 10000000000 -> q2.natAbs <= 10000000000 -> q3.natAbs <= 10000000000 -> BT 800 t -> Bd 1540 k -> Q (.ref r) H') /\ (sz F = 0 -> FlatE C F H E)
def spVtx : Sp := fun vs H Q _ => ∃ (p r : Addr) (F : F6) (R : P3), vs = [.ref p, .ref r] /\ S6 H p F /\ S3 H r R /\ BF 400 F /\ BP 900 R /\ L3 R /\ tb (sl F) R = ⟨0, 0, 0⟩ /\ ∀ H', Same H H' -> Q (.bl true) H'
def spRef24 : Sp := fun vs H Q _ => ∃ (p : Addr) (F : F6), vs = [.ref p] /\ S6 H p F /\ In100 F /\ sz F = 0 /\ ∀ H', Same H H' -> Q (.bl true) H'
def ab (n : Int) : Int := if n < 0 then -n else n
def vabs : V -> V
 | .int n => .int (ab n)
 | _ => .non
def vmk (k : Int) : V -> V
 | .int n => .int (k * n)
 | _ => .non
theorem ab_le {n : Int} (h : n.natAbs <= 10000000000) : ab n <= 10000000000 := by
 unfold ab
 split <;> omega
section
variable {P : Program} {w : World} {K : W.Frag} {mg : Str -> Option Value} {base : Heap} {t : Adr}
theorem sc_prime_parts : FnScope ["number", "parts", "left", "divisor", "taken"] ["number"] (defScope s_prime_parts) := ⟨rfl, rfl, rfl, by decide +kernel, rfl, by decide +kernel, by decide +kernel⟩
theorem sc_divisor_after : FnScope ["divisor"] ["divisor"] (defScope s_divisor_after) := ⟨rfl, rfl, rfl, by decide +kernel, rfl, by decide +kernel, by decide +kernel⟩
theorem sc_taken_out : FnScope ["number", "prime", "often", "left"] ["number", "prime"] (defScope s_taken_out) := ⟨rfl, rfl, rfl, by decide +kernel, rfl, by decide +kernel, by decide +kernel⟩
theorem sc_core_of : FnScope ["number", "core", "root", "prime", "often", "turn"] ["number"] (defScope s_core_of) := ⟨rfl, rfl, rfl, by decide +kernel, rfl, by decide +kernel, by decide +kernel⟩
theorem sc_shares_of : FnScope ["one", "other", "upper", "lower", "below"] ["one", "other"] (defScope s_shares_of) := ⟨rfl, rfl, rfl, by decide +kernel, rfl, by decide +kernel, by decide +kernel⟩
theorem sc_row_less : FnScope ["row", "taken", "times"] ["row", "taken", "times"] (defScope s_row_less) := ⟨rfl, rfl, rfl, by decide +kernel, rfl, by decide +kernel, by decide +kernel⟩
theorem sc_root_of : FnScope ["number", "guess"] ["number"] (defScope s_root_of) := ⟨rfl, rfl, rfl, by decide +kernel, rfl, by decide +kernel, by decide +kernel⟩
theorem sc_above_root : FnScope ["number", "guess"] ["number"] (defScope s_above_root) := ⟨rfl, rfl, rfl, by decide +kernel, rfl, by decide +kernel, by decide +kernel⟩
theorem sc_worth_of : FnScope ["Q", "P", "products"] ["Q", "P"] (defScope s_worth_of) := ⟨rfl, rfl, rfl, by decide +kernel, rfl, by decide +kernel, by decide +kernel⟩
theorem sc_size_of : FnScope ["Q"] ["Q"] (defScope s_size_of) := ⟨rfl, rfl, rfl, by decide +kernel, rfl, by decide +kernel, by decide +kernel⟩
theorem sc_lowest_point : FnScope ["P", "divisor"] ["P"] (defScope s_lowest_point) := ⟨rfl, rfl, rfl, by decide +kernel, rfl, by decide +kernel, by decide +kernel⟩
theorem sc_vertex_of : FnScope ["Q", "slopes", "crossings"] ["Q"] (defScope s_vertex_of) := ⟨rfl, rfl, rfl, by decide +kernel, rfl, by decide +kernel, by decide +kernel⟩
theorem sc_refuse_flat : FnScope ["Q"] ["Q"] (defScope s_refuse_flat) := ⟨rfl, rfl, rfl, by decide +kernel, rfl, by decide +kernel, by decide +kernel⟩
theorem sc_slopes_of : FnScope ["Q"] ["Q"] (defScope s_slopes_of) := ⟨rfl, rfl, rfl, by decide +kernel, rfl, by decide +kernel, by decide +kernel⟩
theorem sc_turned_by : FnScope ["table", "P"] ["table", "P"] (defScope s_turned_by) := ⟨rfl, rfl, rfl, by decide +kernel, rfl, by decide +kernel, by decide +kernel⟩
theorem sc_added : FnScope ["one", "other"] ["one", "other"] (defScope s_added) := ⟨rfl, rfl, rfl, by decide +kernel, rfl, by decide +kernel, by decide +kernel⟩
theorem sc_stretched : FnScope ["P", "times"] ["P", "times"] (defScope s_stretched) := ⟨rfl, rfl, rfl, by decide +kernel, rfl, by decide +kernel, by decide +kernel⟩
theorem sc_row_product : FnScope ["row", "P"] ["row", "P"] (defScope s_row_product) := ⟨rfl, rfl, rfl, by decide +kernel, rfl, by decide +kernel, by decide +kernel⟩
theorem sc_turned_over : FnScope ["table"] ["table"] (defScope s_turned_over) := ⟨rfl, rfl, rfl, by decide +kernel, rfl, by decide +kernel, by decide +kernel⟩
theorem sc_crossing_of : FnScope ["one", "other"] ["one", "other"] (defScope s_crossing_of) := ⟨rfl, rfl, rfl, by decide +kernel, rfl, by decide +kernel, by decide +kernel⟩
theorem sc_crossings_of : FnScope ["lines", "others", "crossings", "one"] ["lines", "others"] (defScope s_crossings_of) := ⟨rfl, rfl, rfl, by decide +kernel, rfl, by decide +kernel, by decide +kernel⟩
theorem sc_plain_of : FnScope ["Q", "corners", "worths", "cores", "roots", "shared", "plain", "stretches", "scale", "columns"] ["Q"] (defScope s_plain_of) := ⟨rfl, rfl, rfl, by decide +kernel, rfl, by decide +kernel, by decide +kernel⟩
theorem sc_corners_of : FnScope ["Q", "first"] ["Q"] (defScope s_corners_of) := ⟨rfl, rfl, rfl, by decide +kernel, rfl, by decide +kernel, by decide +kernel⟩
theorem sc_corners_on : FnScope ["Q", "line", "first"] ["Q", "line"] (defScope s_corners_on) := ⟨rfl, rfl, rfl, by decide +kernel, rfl, by decide +kernel, by decide +kernel⟩
theorem sc_off_curve : FnScope ["Q", "points", "tried", "one"] ["Q", "points"] (defScope s_off_curve) := ⟨rfl, rfl, rfl, by decide +kernel, rfl, by decide +kernel, by decide +kernel⟩
theorem sc_cores_of : FnScope ["worths", "size", "first", "second"] ["worths", "size"] (defScope s_cores_of) := ⟨rfl, rfl, rfl, by decide +kernel, rfl, by decide +kernel, by decide +kernel⟩
theorem sc_core_of_cores : FnScope ["one", "other", "shared"] ["one", "other"] (defScope s_core_of_cores) := ⟨rfl, rfl, rfl, by decide +kernel, rfl, by decide +kernel, by decide +kernel⟩
theorem sc_of : FnScope ["_law_script", "_law_k"] ["_law_script", "_law_k"] (defScope s_of) := ⟨rfl, rfl, rfl, by decide +kernel, rfl, by decide +kernel, by decide +kernel⟩
theorem sc_drawn : FnScope ["_law_cell", "_law_prime", "_law_many", "_law_part"] ["_law_cell", "_law_prime", "_law_many"] (defScope s_drawn) := ⟨rfl, rfl, rfl, by decide +kernel, rfl, by decide +kernel, by decide +kernel⟩
theorem sc_whole : FnScope ["_law_found"] ["_law_found"] (defScope s_whole) := ⟨rfl, rfl, rfl, by decide +kernel, rfl, by decide +kernel, by decide +kernel⟩
theorem sc_wholes : FnScope ["_law_found", "_law_many"] ["_law_found", "_law_many"] (defScope s_wholes) := ⟨rfl, rfl, rfl, by decide +kernel, rfl, by decide +kernel, by decide +kernel⟩
theorem sc_row_times : FnScope ["_law_row", "_law_other"] ["_law_row", "_law_other"] (defScope s_row_times) := ⟨rfl, rfl, rfl, by decide +kernel, rfl, by decide +kernel, by decide +kernel⟩
theorem sc_changed : FnScope ["_law_form_here", "_law_table", "_law_doubled", "_law_flipped", "_law_half", "_law_whole_here", "_law_a", "_law_b", "_law_c", "_law_d", "_law_e", "_law_f"] ["_law_form_here", "_law_table"] (defScope s_changed) := ⟨rfl, rfl, rfl, by decide +kernel, rfl, by decide +kernel, by decide +kernel⟩
theorem sc_measure : FnScope ["_law_table", "_law_found", "_law_p", "_law_q", "_law_r", "_law_s", "_law_t", "_law_u", "_law_v", "_law_w", "_law_x"] ["_law_table"] (defScope s_measure) := ⟨rfl, rfl, rfl, by decide +kernel, rfl, by decide +kernel, by decide +kernel⟩
theorem sc_size : FnScope ["_law_form_here", "_law_found", "_law_a", "_law_b", "_law_c", "_law_d", "_law_e", "_law_f"] ["_law_form_here"] (defScope s_size) := ⟨rfl, rfl, rfl, by decide +kernel, rfl, by decide +kernel, by decide +kernel⟩
theorem sc_shared : FnScope ["_law_numbers", "_law_found", "_law_number", "_law_other"] ["_law_numbers"] (defScope s_shared) := ⟨rfl, rfl, rfl, by decide +kernel, rfl, by decide +kernel, by decide +kernel⟩
theorem sc_is_lowest : FnScope ["_law_point"] ["_law_point"] (defScope s_is_lowest) := ⟨rfl, rfl, rfl, by decide +kernel, rfl, by decide +kernel, by decide +kernel⟩
theorem sc_square_free : FnScope ["_law_number", "_law_rest", "_law_d", "_law_root"] ["_law_number"] (defScope s_square_free) := ⟨rfl, rfl, rfl, by decide +kernel, rfl, by decide +kernel, by decide +kernel⟩
theorem sc_is_plain : FnScope ["_law_triple", "_law_a", "_law_b", "_law_c"] ["_law_triple"] (defScope s_is_plain) := ⟨rfl, rfl, rfl, by decide +kernel, rfl, by decide +kernel, by decide +kernel⟩
theorem sc_worth : FnScope ["_law_form_here", "_law_point", "_law_found", "_law_a", "_law_b", "_law_c", "_law_d", "_law_e", "_law_f", "_law_x", "_law_y", "_law_z"] ["_law_form_here", "_law_point"] (defScope s_worth) := ⟨rfl, rfl, rfl, by decide +kernel, rfl, by decide +kernel, by decide +kernel⟩
theorem sc_plain_drawn : FnScope ["_law_cell", "_law_most", "_law_found", "_law_signs", "_law_prime", "_law_by", "_law_at"] ["_law_cell", "_law_most"] (defScope s_plain_drawn) := ⟨rfl, rfl, rfl, by decide +kernel, rfl, by decide +kernel, by decide +kernel⟩
theorem sc_sheared : FnScope ["_law_form_here", "_law_cell", "_law_steps", "_law_table"] ["_law_form_here", "_law_cell"] (defScope s_sheared) := ⟨rfl, rfl, rfl, by decide +kernel, rfl, by decide +kernel, by decide +kernel⟩
theorem sc_form : FnScope ["_law_script", "_law_kind", "_law_some", "_law_form_here", "_law_crosses", "_law_last", "_law_worth_here", "_law_a", "_law_b", "_law_c", "_law_p", "_law_q", "_law_r", "_law_s", "_law_t", "_law_u"] ["_law_script"] (defScope s_form) := ⟨rfl, rfl, rfl, by decide +kernel, rfl, by decide +kernel, by decide +kernel⟩
theorem sc_vertex : FnScope ["_law_form_here", "_law_point", "_law_rows", "_law_a", "_law_b", "_law_c", "_law_d", "_law_e", "_law_f"] ["_law_form_here", "_law_point"] (defScope s_vertex) := ⟨rfl, rfl, rfl, by decide +kernel, rfl, by decide +kernel, by decide +kernel⟩
theorem sc_refused : FnScope ["_law_form_here", "_law_told", "_law_e", "_law_base"] ["_law_form_here"] (defScope s_refused) := ⟨rfl, rfl, rfl, by decide +kernel, rfl, by decide +kernel, by decide +kernel⟩
theorem sc_is_table : FnScope ["_law_table"] ["_law_table"] (defScope s_is_table) := ⟨rfl, rfl, rfl, by decide +kernel, rfl, by decide +kernel, by decide +kernel⟩
theorem sc_law : FnScope ["_law_script", "_law_form_here", "_law_found", "_law_due", "_law_table", "_law_scale", "_law_triple"] ["_law_script"] (defScope s_law) := ⟨rfl, rfl, rfl, by decide +kernel, rfl, by decide +kernel, by decide +kernel⟩
theorem sc_init_Flat : FnScope ["self", "vertex"] ["self", "vertex"] (defScope s_init_Flat) := ⟨rfl, rfl, rfl, by decide +kernel, rfl, by decide +kernel, by decide +kernel⟩
theorem ok_whole {f : Addr} {fd : FuncData} (F : Fun K "_law_whole" "_law_whole" s_whole f fd) (T : Txt K mg t)  : FnOkS P w K mg base 1 f fd ["_law_found"] (spWhole) := by
 refine F.okS sc_whole (fun vs H Q E h => ?_) (fun cdv A outer s H fz vs Q E hr h => ?_)
 ·obtain ⟨n, rfl, _⟩ := h
  rfl
 obtain ⟨n, rfl, q⟩ := h
 refine ⟨_, pss_one (ps_ret (pe_and (pe_callB call_isi rfl T.z_isinstance b_isi (pa_cons (pv 0) (pa_cons (pe_bltn (v := .ty "int") rfl T.z_int b_int rfl) pa_nil))) (pe_one (pe_not (pe_callB call_isi rfl T.z_isinstance b_isi (pa_cons (pv 0) (pa_cons (pe_bltn (v := .ty "bool") rfl T.z_bool b_bool rfl) pa_nil))))))), ?_⟩
 refine ⟨_, rfl, _, _, _, _, rfl, .inr ⟨_, rfl⟩, .of (.int _), rfl, _, rfl, ?_⟩
 refine iteT ?_
 exact ⟨_, rfl, _, _, _, _, rfl, .inr ⟨_, rfl⟩, .of (.int _), T.i_ib, _, rfl, q⟩
theorem ok_taken_out {f : Addr} {fd : FuncData} (F : Fun K "taken_out" "taken_out" s_taken_out f fd) (T : Txt K mg t)  : FnOk P w K mg base CX0 1 f fd ["number", "prime"] (spTaken) := by
 refine F.ok sc_taken_out (fun vs H Q E h => ?_) (fun cdv A outer s H vs Q E hr h => ?_)
 ·obtain ⟨_, _, rfl, _⟩ := h
  rfl
 obtain ⟨x, p, rfl, x0, p2, pl, q⟩ := h
 refine ⟨_, pss_cons (ps_set (i := 2) sc_taken_out.nd rfl (Or.inl rfl) pe_int)
  (pss_cons (ps_set (i := 3) sc_taken_out.nd rfl (Or.inl rfl) (pv 0))
  (pss_cons (ps_while PassesOwn.never (pt_cmpR op_eq (pe_op op_modN (pv 3) (pv 1)) pe_int (nomark _)) (pss_cons (ps_set (i := 3) sc_taken_out.nd rfl (Or.inl rfl) (pe_op op_fdivL (pv 3) (pv 1)))
  (pss_one (ps_set (i := 2) sc_taken_out.nd rfl (Or.inl rfl) (pe_op op_add (pv 2) pe_int)))))
  (pss_one (ps_ret (pe_tup (pa_cons (pv 2) (pa_cons (pv 3) pa_nil))))))), ?_⟩
 refine ⟨_, rfl, ?_⟩
 refine ⟨fun m σ H' => ∃ (o l : Int), σ = [some (.int x), some (.int p), some (.int o), some (.int l)] /\ H = H' /\ Pr.Inn x p l o /\ 0 <= o /\ l ≠ 0 /\ l.natAbs <= x.natAbs /\ (0 < x -> 0 < l) /\ (x < 0 -> l < 0) /\ m = l.natAbs,
  ⟨_, 0, x, rfl, rfl, Pr.inn_start x p, by omega, x0, Nat.le_refl _, id, id, rfl⟩, ?_⟩
 rintro m σ H' ⟨o, l, rfl, rfl, inn, o0, l0, lx, s1, s2, rfl⟩
 refine ⟨_, rfl, _, rfl, _, _, rfl, rfl, (by show p ≠ 0; omega), rfl, _, rfl, ?_⟩
 refine ite2 (fun c => ?_) (fun c => ?_)
 ·have z : l.fmod p = 0 := int_inj (decT c)
  obtain ⟨t1, t2, t3, t4⟩ := taken_less p2 l0 z
  refine ⟨fun σ' H2 => σ' = [some (.int x), some (.int p), some (.int (o + 1)), some (.int (l.fdiv p))] /\ H = H2, ?_, ?_⟩
  ·rintro σ' H2 ⟨rfl, rfl⟩
   exact ⟨_, t2, o + 1, l.fdiv p, rfl, rfl, Pr.inn_turn inn o0 z, by omega, t1, by omega, fun h => t3 (s1 h), fun h => t4 (s2 h), rfl⟩
  ·exact ⟨_, rfl, _, rfl, _, _, rfl, rfl, ⟨by omega, pl⟩, _, rfl, _, _, rfl, rfl, rfl, rfl⟩
 ·have z : l.fmod p ≠ 0 := fun z => decF c (congrArg V.int z)
  exact ⟨_, rfl, _, rfl, (by show 2 <= sizeLine; decide), fun r hr' => q r _ o l (same_new hr' _) upd_same inn o0 z l0 lx s1 s2⟩
theorem ok_divisor_after {f : Addr} {fd : FuncData} (F : Fun K "divisor_after" "divisor_after" s_divisor_after f fd) (T : Txt K mg t)  : FnOk P w K mg base CX0 1 f fd ["divisor"] (spAfter) := by
 refine F.ok sc_divisor_after (fun vs H Q E h => ?_) (fun cdv A outer s H vs Q E hr h => ?_)
 ·obtain ⟨d, rfl, _⟩ := h
  rfl
 obtain ⟨d, rfl, q⟩ := h
 refine ⟨_, pss_cons (ps_if (pt_cmpR op_eq (pv 0) pe_int (nomark _)) (pss_one (ps_ret pe_int)) pss_nil)
  (pss_one (ps_ret (pe_op op_add (pv 0) pe_int))), ?_⟩
 refine ⟨_, rfl, rfl, _, rfl, ?_⟩
 refine ite2 (fun c => ?_) (fun c => ?_)
 ·rw [if_pos (int_inj (decT c))] at q
  exact q
 ·rw [if_neg (fun z => decF c (congrArg V.int z))] at q
  exact ⟨_, rfl, _, _, rfl, rfl, q⟩
theorem ok_prime_parts {f : Addr} {fd : FuncData} (F : Fun K "prime_parts" "prime_parts" s_prime_parts f fd) (T : Txt K mg t) (H_divisor_after : Has P w K mg base CX0 1 "divisor_after" ["divisor"] (spAfter)) (H_taken_out : Has P w K mg base CX0 1 "taken_out" ["number", "prime"] (spTaken)) : FnOk P w K mg base CX0 2 f fd ["number"] (spParts0) := by
 obtain ⟨f_divisor_after, d_divisor_after, G_divisor_after, b_divisor_after, k_divisor_after, m_divisor_after⟩ := H_divisor_after
 obtain ⟨f_taken_out, d_taken_out, G_taken_out, b_taken_out, k_taken_out, m_taken_out⟩ := H_taken_out
 refine F.ok sc_prime_parts (fun vs H Q E h => ?_) (fun cdv A outer s H vs Q E hr h => ?_)
 ·obtain ⟨n, rfl, _⟩ := h
  rfl
 obtain ⟨n, rfl, n0, n1, q⟩ := h
 have hr_divisor_after := hr.mono (show 1 <= 1 by decide)
 have hr_taken_out := hr.mono (show 1 <= 1 by decide)
 refine ⟨_, pss_cons (ps_if (pt_cmpR op_lt (pv 0) pe_int (nomark _)) pss_never pss_nil)
  (pss_cons (ps_set (i := 1) sc_prime_parts.nd rfl (Or.inl rfl) (pe_lst pa_nil))
  (pss_cons (ps_set (i := 2) sc_prime_parts.nd rfl (Or.inl rfl) (pv 0))
  (pss_cons (ps_set (i := 3) sc_prime_parts.nd rfl (Or.inl rfl) pe_int)
  (pss_cons (ps_while PassesOwn.never (pt_cmpR op_le (pe_op op_mulG (pv 3) (pv 3)) (pv 2) (nomark _)) (pss_cut (ps_if (pt_cmpR op_eq (pe_op op_modN (pv 2) (pv 3)) pe_int (nomark _)) (pss_cons (ps_set (i := 4) sc_prime_parts.nd rfl (Or.inl rfl) (pe_call G_taken_out hr_taken_out rfl m_taken_out k_taken_out b_taken_out .nil pass0 (pa_cons (pv 2) (pa_cons (pv 3) pa_nil))))
  (pss_cons (ps_expr (pe_bm PySem.F.plainAttrs_list PySem.F.slot_list_append PySem.F.type_list_append mt_append (pv 1) (pa_cons (pe_tup (pa_cons (pv 3) (pa_cons (pe_ix ix_tup (pv 4) pe_int (fun _ _ => rfl)) pa_nil))) pa_nil)))
  (pss_one (ps_set (i := 2) sc_prime_parts.nd rfl (Or.inl rfl) (pe_ix ix_tup (pv 4) pe_int (fun _ _ => rfl)))))) pss_nil)
  (pss_one (ps_set (i := 3) sc_prime_parts.nd rfl (Or.inl rfl) (pe_call G_divisor_after hr_divisor_after rfl m_divisor_after k_divisor_after b_divisor_after .nil pass0 (pa_cons (pv 3) pa_nil))))))
  (pss_cut (ps_if (pt_cmpR op_gt (pv 2) pe_int (nomark _)) (pss_one (ps_expr (pe_bm PySem.F.plainAttrs_list PySem.F.slot_list_append PySem.F.type_list_append mt_append (pv 1) (pa_cons (pe_tup (pa_cons (pv 2) (pa_cons pe_int pa_nil))) pa_nil)))) pss_nil)
  (pss_one (ps_ret (pv 1)))))))), ?_⟩
 refine ⟨_, rfl, _, _, rfl, rfl, _, rfl, iteDF (show ¬ n < 1 by omega) ?_⟩
 refine ⟨(by show 0 <= sizeLine; decide), fun pl hpl => ?_⟩
 refine ⟨_, rfl, ?_⟩
 refine ⟨W1 n pl H, ⟨_, n, 2, [], [], none, rfl, same_new hpl _, upd_same, .nil, Pr.out_start n, by omega, by omega, n0, rfl⟩, ?_⟩
 rintro m σ H1 ⟨left, d, xs, rs, of, rfl, g1, hl1, t1, out, d2, dm, l1, rfl⟩
 have bd : Builtin.Int.intBits d <= 1048576 := bits_lit (k := 64) (by omega) (by decide)
 have ln := Pr.out_left out l1
 have short1 := short out.all (out_prod out l1) n1
 have rlen := t1.len
 refine ⟨_, rfl, _, rfl, _, _, rfl, rfl, mulOk bd bd, _, rfl, _, _, rfl, rfl, _, rfl, ?_⟩
 refine ite2 (fun c => ?_) (fun c => ?_)
 ·have dd : d * d <= left := decT c
  have dl := le_sq (show 1 <= d by omega)
  refine ⟨fun σ' H2 => ∃ m', m' < (left + 1 - d).toNat /\ W1 n pl H m' σ' H2, fun _ _ h => h, ?_⟩
  refine ⟨fun σ' H3 => ∃ (ys : List (Int × Int)) (qs : List Addr) (l2 : Int) (ta : Option V), σ' = [some (.int n), some (.ref pl), some (.int l2), some (.int d), ta] /\ Same H H3 /\ H3 pl = some (.lst (qs.map V.ref)) /\ TupL H3 qs ys /\ Pr.Out n l2 (if d = 2 then 3 else d + 2) ys /\ 1 <= l2 /\ l2 <= left, ?_, ?_⟩
  ·refine ⟨_, rfl, _, rfl, _, _, rfl, rfl, (by show d ≠ 0; omega), rfl, _, rfl, ?_⟩
   refine ite2 (fun c2 => ?_) (fun c2 => ?_)
   ·have z2 : left.fmod d = 0 := int_inj (decT c2)
    refine ⟨_, rfl, _, rfl, left, d, rfl, (by omega), d2, Nat.lt_of_lt_of_le (log2_lt_of (k := 64) (by omega) (by decide)) (by decide), fun r H2 o l2 g2 hr2 inn o0 zl l0 lx sp sn => ?_⟩
    have lp := sp (by omega)
    have o3 : 0 < o := by
     rcases (show o = 0 \/ 0 < o by omega) with h | h
     ·have e := inn.eq
      rw [h, show (0 : Int).toNat = 0 from rfl, Int.pow_zero, Int.one_mul] at e
      rw [<- e] at zl
      exact absurd z2 zl
     ·exact h
    refine ⟨_, rfl, .inl ⟨rfl, _, SqL.of (g2 _ _ hl1)⟩, _, rfl, _, rfl, r, _, _, _, rfl, rfl, SqT.of hr2, rfl, (by show 2 <= sizeLine; decide), fun p hp => ?_⟩
    have hl2 := g2 _ _ hl1
    have npl : pl ≠ p := fun z => by subst z; rw [hl2] at hp; cases hp
    have nr : r ≠ pl := fun z => by subst z; rw [hl2] at hr2; cases hr2
    have nrp : r ≠ p := fun z => by subst z; rw [hr2] at hp; cases hp
    refine ⟨pl, _, _, rfl, rfl, (by rw [upd_ne npl]; exact hl2), (by rw [List.length_map]; exact small1000 (by omega)), ?_⟩
    obtain ⟨k1, k2, k3⟩ := grown (x := (d, o)) (g1.trans g2) hpl hp hl2 (TupL.same g2 t1)
    refine ⟨_, rfl, r, _, _, _, rfl, rfl, SqT.of (by rw [upd_ne nr, upd_ne nrp]; exact hr2), rfl, ?_⟩
    exact ⟨xs ++ [(d, o)], rs ++ [p], l2, _, rfl, k1, k2, k3, Pr.out_some out inn d2 o3 zl rfl, by omega, by omega⟩
   ·have z2 : left.fmod d ≠ 0 := fun z => decF c2 (congrArg V.int z)
    exact ⟨xs, rs, left, _, rfl, g1, hl1, t1, Pr.out_none out (Pr.inn_start left d) d2 rfl z2 rfl, l1, by omega⟩
  ·rintro σ3 H3 ⟨ys, qs, l2, ta, rfl, g3, hl3, t3, out3, l21, l22⟩
   refine ⟨_, rfl, d, rfl, (l2 + 1 - (if d = 2 then 3 else d + 2)).toNat, ?_, l2, _, ys, qs, _, rfl, g3, hl3, t3, out3, ?_, ?_, l21, rfl⟩
   all_goals split <;> omega
 ·have dd : ¬ d * d <= left := decF c
  refine ⟨fun σ' H2 => ∃ (ys : List (Int × Int)) (qs : List Addr) (l2 : Option V) (d2 o2 : Option V), σ' = [some (.int n), some (.ref pl), l2, d2, o2] /\ Same H H2 /\ H2 pl = some (.lst (qs.map V.ref)) /\ TupL H2 qs ys /\ Pr.Told n ys, ?_, ?_⟩
  ·refine ⟨_, rfl, _, _, rfl, rfl, _, rfl, ?_⟩
   refine ite2 (fun c3 => ?_) (fun c3 => ?_)
   ·have o3 : 1 < left := decT c3
    refine ⟨_, rfl, .inl ⟨rfl, _, SqL.of hl1⟩, _, rfl, (by show 2 <= sizeLine; decide), fun p hp => ?_⟩
    have npl : pl ≠ p := fun z => by subst z; rw [hl1] at hp; cases hp
    refine ⟨pl, _, _, rfl, rfl, (by rw [upd_ne npl]; exact hl1), (by rw [List.length_map]; exact small1000 (by omega)), ?_⟩
    obtain ⟨k1, k2, k3⟩ := grown (x := (left, 1)) g1 hpl hp hl1 t1
    exact ⟨xs ++ [(left, 1)], rs ++ [p], _, _, _, rfl, k1, k2, k3, Pr.told_last out d2 (by omega) o3⟩
   ·have o3 : ¬ 1 < left := decF c3
    exact ⟨xs, rs, _, _, _, rfl, g1, hl1, t1, Pr.told_none out (by omega)⟩
  ·rintro σ3 H3 ⟨ys, qs, l3, d3, o3, rfl, g3, hl3, t3, told⟩
   exact ⟨_, rfl, q pl qs ys H3 g3 hpl hl3 t3 told⟩
theorem ok_core_of {f : Addr} {fd : FuncData} (F : Fun K "core_of" "core_of" s_core_of f fd) (T : Txt K mg t) (H_prime_parts : Has P w K mg base CX0 2 "prime_parts" ["number"] (spParts0)) : FnOk P w K mg base CX0 3 f fd ["number"] (spCore0) := by
 obtain ⟨f_prime_parts, d_prime_parts, G_prime_parts, b_prime_parts, k_prime_parts, m_prime_parts⟩ := H_prime_parts
 refine F.ok sc_core_of (fun vs H Q E h => ?_) (fun cdv A outer s H vs Q E hr h => ?_)
 ·obtain ⟨n, rfl, _⟩ := h
  rfl
 obtain ⟨n, rfl, c', n0, n1, q⟩ := h
 have hr_prime_parts := hr.mono (show 2 <= 2 by decide)
 refine ⟨_, pss_cons (ps_if (pt_cmpR op_eq (pv 0) pe_int (nomark _)) pss_never pss_nil)
  (pss_cut (ps_set (i := 1) sc_core_of.nd rfl (Or.inl rfl) (pe_ifExp (pt_cmpR op_lt (pv 0) pe_int (nomark _)) (pe_un un_neg pe_int) pe_int))
  (pss_cons (ps_set (i := 2) sc_core_of.nd rfl (Or.inl rfl) pe_int)
  (pss_cons (ps_for PassesOwn.never rfl (pi_list (pe_call G_prime_parts hr_prime_parts rfl m_prime_parts k_prime_parts b_prime_parts .nil pass0 (pa_cons (pe_callB call_abs rfl T.z_abs b_abs (pa_cons (pv 0) pa_nil)) pa_nil))) (pg_tup rfl (pgs_cons (pg_name (i := 3) sc_core_of.nd rfl (Or.inl rfl)) (pgs_cons (pg_name (i := 4) sc_core_of.nd rfl (Or.inl rfl)) pgs_nil))) (pss_cut (ps_if (pt_cmpR op_eq (pe_op op_mod (pv 4) pe_int) pe_int (nomark _)) (pss_one (ps_set (i := 1) sc_core_of.nd rfl (Or.inl rfl) (pe_op op_mulG (pv 1) (pv 3)))) pss_nil)
  (pss_one (ps_for PassesOwn.never rfl (pi_range1 rfl T.z_range (pa_cons (pe_op op_fdiv (pv 4) pe_int) pa_nil)) (pg_name (i := 5) sc_core_of.nd rfl (Or.inl rfl)) (pss_one (ps_set (i := 2) sc_core_of.nd rfl (Or.inl rfl) (pe_op op_mulG (pv 2) (pv 3))))))))
  (pss_one (ps_ret (pe_tup (pa_cons (pv 1) (pa_cons (pv 2) pa_nil)))))))), ?_⟩
 refine ⟨_, rfl, rfl, _, rfl, iteDF (fun z => c' (int_inj z)) ?_⟩
 refine ⟨fun σ' H' => σ' = [some (.int n), some (.int (sgn n)), none, none, none, none] /\ H = H', ?_, ?_⟩
 ·refine ⟨_, rfl, _, _, rfl, rfl, _, rfl, ?_⟩
  unfold sgn
  refine ite2 (fun c2 => ?_) (fun c2 => ?_)
  ·refine ⟨_, rfl, ?_⟩
   rw [if_pos (decT c2)]
   exact ⟨rfl, rfl⟩
  ·rw [if_neg (decF c2)]
   exact ⟨rfl, rfl⟩
 rintro _ _ ⟨rfl, rfl⟩
 have a1 : 1 <= absI n /\ absI n <= 10000000000 := by
  unfold absI
  split <;> omega
 refine ⟨_, rfl, _, rfl, absI n, rfl, a1.1, a1.2, fun pl rs xs H1 g1 np hl tl told => ?_⟩
 refine ⟨pl, rfl, ⟨_, SqL.of hl⟩, for_list (K := K) (a := pl) (xs := rs.map V.ref) (fun i σ H' => ∃ (pr of tu : Option V), σ = [some (.int n), some (.int (sgn n * Pr.coreP (xs.take i))), some (.int (Pr.rootP (xs.take i))), pr, of, tu] /\ H1 = H')
  ⟨none, none, none, by show [some (V.int n), some (V.int (sgn n)), some (V.int 1), none, none, none] = [some (V.int n), some (V.int (sgn n * 1)), some (V.int 1), none, none, none]; rw [Int.mul_one], rfl⟩ (fun i σ H2 _ ⟨_, _, _, _, e⟩ => e ▸ SqL.of hl) ?_ ?_⟩
 ·rintro i y σ H2 hi ⟨pr, of, tu, rfl, rfl⟩
  obtain ⟨r, hr', rfl⟩ : ∃ r, rs[i]? = some r /\ y = .ref r := by
   rw [List.getElem?_map] at hi
   cases e : rs[i]? with
   | none => rw [e] at hi; cases hi
   | some r => rw [e] at hi; exact ⟨r, rfl, (Option.some.inj hi).symm⟩
  obtain ⟨⟨p, o⟩, hx, ht⟩ := tl.get hr'
  have mem := List.mem_of_getElem? hx
  have prt := told.all _ mem
  have p2 : 2 <= p := prt.prime.two
  have o1 : 1 <= o := prt.often
  have o2 : o <= 40 := Pr.often_le told (by show absI n <= 10000000000; exact a1.2) mem
  have pn : p <= absI n := Pr.part_le told mem
  refine ⟨r, _, rfl, SqT.of ht, rfl, _, _, rfl, _, _, rfl, rfl, ?_⟩
  refine ⟨fun σ' H' => σ' = [some (.int n), some (.int (sgn n * Pr.coreP (xs.take (i + 1)))), some (.int (Pr.rootP (xs.take i))), some (.int p), some (.int o), tu] /\ H1 = H', ?_, ?_⟩
  ·refine ⟨_, rfl, _, _, rfl, rfl, (by show (0 : Int) < 2; decide), rfl, _, rfl, ?_⟩
   rw [core_more hx]
   refine ite2 (fun c2 => ?_) (fun c2 => ?_)
   ·have e : o % 2 = 1 := int_inj (decT c2)
    rw [if_pos e, <- Int.mul_assoc]
    exact ⟨_, rfl, _, rfl, _, _, rfl, rfl, mulS (by omega) (by omega), rfl, rfl⟩
   ·have e : ¬ o % 2 = 1 := fun z => decF c2 (congrArg V.int z)
    rw [if_neg e, Int.mul_one]
    exact ⟨rfl, rfl⟩
  rintro _ _ ⟨rfl, rfl⟩
  refine ⟨_, rfl, _, _, rfl, rfl, ⟨by decide, by decide⟩, o / 2, rfl, (by omega), (by omega),
   for_range (fun j σ H' => ∃ tu : Option V, σ = [some (.int n), some (.int (sgn n * Pr.coreP (xs.take (i + 1)))), some (.int (Pr.rootP (xs.take i) * p ^ j)), some (.int p), some (.int o), tu] /\ H1 = H') ⟨tu, by rw [Int.pow_zero, Int.mul_one], rfl⟩ ?_ ?_⟩
  ·rintro j σ H' hj ⟨tu, rfl, rfl⟩
   refine ⟨_, rfl, _, rfl, _, _, rfl, rfl, mulS (by omega) (by omega), some (.int (0 + (j : Int))), ?_, rfl⟩
   rw [Int.pow_succ, <- Int.mul_assoc]
   rfl
  ·rintro σ H' ⟨tu, rfl, rfl⟩
   refine ⟨some (.int p), some (.int o), tu, ?_, rfl⟩
   rw [root_more hx]
 ·rintro σ H2 ⟨pr, of, tu, rfl, rfl⟩
  have e : xs.take (rs.map V.ref).length = xs := by rw [List.length_map, tl.len, List.take_length]
  rw [e]
  exact ⟨_, rfl, _, rfl, (by show 2 <= sizeLine; decide), fun p hp => q p xs _ (g1.trans (same_new hp _)) told upd_same⟩
theorem ok_row_less {f : Addr} {fd : FuncData} (F : Fun K "row_less" "row_less" s_row_less f fd) (T : Txt K mg t)  : FnOk P w K mg base CX0 1 f fd ["row", "taken", "times"] (spRow) := by
 refine F.ok sc_row_less (fun vs H Q E h => ?_) (fun cdv A outer s H vs Q E hr h => ?_)
 ·obtain ⟨_, _, _, _, _, _, _, _, _, rfl, _⟩ := h
  rfl
 obtain ⟨pa, pb, x, s', t', y, u, v, k, rfl, ha, hb, m1, m2, m3, q⟩ := h
 refine ⟨_, pss_one (ps_ret (pe_tup (pa_cons (pe_op op_sub (pe_ix ix_tup (pv 0) pe_int (fun _ _ => rfl)) (pe_op op_mulG (pv 2) (pe_ix ix_tup (pv 1) pe_int (fun _ _ => rfl)))) (pa_cons (pe_op op_sub (pe_ix ix_tup (pv 0) pe_int (fun _ _ => rfl)) (pe_op op_mulG (pv 2) (pe_ix ix_tup (pv 1) pe_int (fun _ _ => rfl)))) (pa_cons (pe_op op_sub (pe_ix ix_tup (pv 0) pe_int (fun _ _ => rfl)) (pe_op op_mulG (pv 2) (pe_ix ix_tup (pv 1) pe_int (fun _ _ => rfl)))) pa_nil))))), ?_⟩
 exact ⟨_, rfl, pa, _, _, _, rfl, rfl, SqT.of ha, rfl, _, rfl, _, rfl, pb, _, _, _, rfl, rfl, SqT.of hb, rfl, _, _, rfl, rfl, m1, _, _, rfl, rfl,
  _, rfl, pa, _, _, _, rfl, rfl, SqT.of ha, rfl, _, rfl, _, rfl, pb, _, _, _, rfl, rfl, SqT.of hb, rfl, _, _, rfl, rfl, m2, _, _, rfl, rfl,
  _, rfl, pa, _, _, _, rfl, rfl, SqT.of ha, rfl, _, rfl, _, rfl, pb, _, _, _, rfl, rfl, SqT.of hb, rfl, _, _, rfl, rfl, m3, _, _, rfl, rfl,
  (by show 3 <= sizeLine; decide), fun p np => q p _ (same_new np _) upd_same⟩
theorem ok_shares_of {f : Addr} {fd : FuncData} (F : Fun K "shares_of" "shares_of" s_shares_of f fd) (T : Txt K mg t) (H_row_less : Has P w K mg base CX0 1 "row_less" ["row", "taken", "times"] (spRow)) : FnOk P w K mg base CX0 2 f fd ["one", "other"] (spShares) := by
 obtain ⟨f_row_less, d_row_less, G_row_less, b_row_less, k_row_less, m_row_less⟩ := H_row_less
 refine F.ok sc_shares_of (fun vs H Q E h => ?_) (fun cdv A outer s H vs Q E hr h => ?_)
 ·obtain ⟨x, y, rfl, _⟩ := h
  rfl
 obtain ⟨x, y, rfl, hx, hy, q⟩ := h
 have hr_row_less := hr.mono (show 1 <= 1 by decide)
 refine ⟨_, pss_cons (ps_set (i := 2) sc_shares_of.nd rfl (Or.inl rfl) (pe_tup (pa_cons (pv 0) (pa_cons pe_int (pa_cons pe_int pa_nil)))))
  (pss_cons (ps_set (i := 3) sc_shares_of.nd rfl (Or.inl rfl) (pe_tup (pa_cons (pv 1) (pa_cons pe_int (pa_cons pe_int pa_nil)))))
  (pss_cons (ps_while PassesOwn.never (pt_cmpR op_ne (pe_ix ix_tup (pv 3) pe_int (fun _ _ => rfl)) pe_int (nomark _)) (pss_cons (ps_set (i := 4) sc_shares_of.nd rfl (Or.inl rfl) (pe_call G_row_less hr_row_less rfl m_row_less k_row_less b_row_less .nil pass0 (pa_cons (pv 2) (pa_cons (pv 3) (pa_cons (pe_op op_fdivL (pe_ix ix_tup (pv 2) pe_int (fun _ _ => rfl)) (pe_ix ix_tup (pv 3) pe_int (fun _ _ => rfl))) pa_nil)))))
  (pss_cons (ps_set (i := 2) sc_shares_of.nd rfl (Or.inl rfl) (pv 3))
  (pss_one (ps_set (i := 3) sc_shares_of.nd rfl (Or.inl rfl) (pv 4))))))
  (pss_cons (ps_if (pt_cmpR op_lt (pe_ix ix_tup (pv 2) pe_int (fun _ _ => rfl)) pe_int (nomark _)) (pss_one (ps_ret (pe_tup (pa_cons (pe_un un_neg (pe_ix ix_tup (pv 2) pe_int (fun _ _ => rfl))) (pa_cons (pe_un un_neg (pe_ix ix_tup (pv 2) pe_int (fun _ _ => rfl))) (pa_cons (pe_un un_neg (pe_ix ix_tup (pv 2) pe_int (fun _ _ => rfl))) pa_nil)))))) pss_nil)
  (pss_one (ps_ret (pv 2)))))), ?_⟩
 have B4 : ((x.natAbs : Int) + 2 * y.natAbs + 1).natAbs <= 4 * Lm := by
  have := Lm_pos
  omega
 have sz0 := Sh.sz_start (x := x) (y := y)
 generalize ((x.natAbs : Int) + 2 * y.natAbs + 1) = B at B4 sz0
 refine ⟨_, rfl, (by show 3 <= sizeLine; decide), fun p1 n1 => ?_⟩
 refine ⟨_, rfl, (by show 3 <= sizeLine; decide), fun p2 n2 => ?_⟩
 refine ⟨fun m σ H' => ∃ (pa pb : Addr) (a s t b u v : Int) (be : Option V), σ = [some (.int x), some (.int y), some (.ref pa), some (.ref pb), be] /\ Same H H' /\ H' pa = some (.tup [.int a, .int s, .int t]) /\ H' pb = some (.tup [.int b, .int u, .int v]) /\
  Sh.Rows x y a s t b u v /\ Sh.Sz B a s t b u v /\ m = b.natAbs, ⟨_, p1, p2, _, _, _, _, _, _, none, rfl, (same_new n1 _).trans (same_new n2 _), same_new n2 _ _ _ upd_same, upd_same, Sh.rows_start x y, sz0, rfl⟩, ?_⟩
 clear sz0 n1 n2 p1 p2
 rintro m σ H1 ⟨pa, pb, a, s', t', b, u, v, be, rfl, g, ha, hb, rws, sz, rfl⟩
 refine ⟨_, rfl, pb, _, _, _, rfl, rfl, SqT.of hb, rfl, rfl, _, rfl, ?_⟩
 refine ite2 (fun c => ?_) (fun c => ?_)
 ·have b0 : b ≠ 0 := fun z => neT c (congrArg V.int z)
  have sz' := Sh.sz_turn sz b0 (a.fdiv b) (a.fmod b) (Sh.quot a b) rfl
  have rw' := Sh.rows_turn rws (a.fdiv b)
  rw [fdiv_rest] at rw'
  have qs : (a.fdiv b).natAbs <= 8 * Lm := by
   have e : a.fdiv b * b = a - a.fmod b := by have := fdiv_rest a b; omega
   have h1 : (a.fdiv b).natAbs <= (a.fdiv b * b).natAbs := by
    rw [Int.natAbs_mul]
    exact Nat.le_mul_of_pos_right _ (by omega)
   rw [e] at h1
   have h2 := sz.a0
   have h3 := sz'.b0
   omega
  refine ⟨fun σ' H2 => ∃ pc : Addr, σ' = [some (.int x), some (.int y), some (.ref pb), some (.ref pc), some (.ref pc)] /\ Same H1 H2 /\ H2 pc = some (.tup [.int (a - a.fdiv b * b), .int (s' - a.fdiv b * u), .int (t' - a.fdiv b * v)]), ?_, ?_⟩
  ·rintro σ' H2 ⟨pc, rfl, g2, hc⟩
   rw [fdiv_rest] at hc
   exact ⟨(a.fmod b).natAbs, Sh.fmod_abs b0, pb, pc, b, u, v, _, _, _, _, rfl, g.trans g2, g2 _ _ hb, hc, rw', sz', rfl⟩
  ·have z1 := sz.b0
   have z2 := sz.u0
   have z3 := sz.v0
   refine ⟨_, rfl, _, rfl, _, rfl, pa, _, _, _, rfl, rfl, SqT.of ha, rfl, _, rfl, pb, _, _, _, rfl, rfl, SqT.of hb, rfl, _, _, rfl, rfl, ⟨b0, Lm_log (by omega)⟩,
    pa, pb, a, s', t', b, u, v, _, rfl, ha, hb, mulL qs (by omega), mulL qs (by omega), mulL qs (by omega), fun pc H2 g2 hc => ?_⟩
   exact ⟨_, rfl, _, rfl, pc, rfl, g2, hc⟩
 ·have b0 : b = 0 := int_inj (neF c)
  obtain ⟨e1, ⟨k1, e2⟩, ⟨k2, e3⟩⟩ := Sh.rows_end rws b0
  have z2 := sz.s0
  have z3 := sz.t0
  refine ⟨_, rfl, pa, _, _, _, rfl, rfl, SqT.of ha, rfl, _, _, rfl, rfl, _, rfl, ?_⟩
  refine ite2 (fun c => ?_) (fun c => ?_)
  ·have a0 : a < 0 := decT c
   refine ⟨_, rfl, pa, _, _, _, rfl, rfl, SqT.of ha, rfl, _, rfl, _, rfl, pa, _, _, _, rfl, rfl, SqT.of ha, rfl, _, rfl, _, rfl, pa, _, _, _, rfl, rfl, SqT.of ha, rfl, _, rfl, (by show 3 <= sizeLine; decide), fun p np => ?_⟩
   exact q p _ (-a) (-s') (-t') (g.trans (same_new np _)) upd_same (by omega) (by rw [Int.neg_mul, Int.neg_mul]; omega) ⟨-k1, by rw [Int.neg_mul_neg]; exact e2⟩ ⟨-k2, by rw [Int.neg_mul_neg]; exact e3⟩ (by omega) (by omega)
  ·have a0 : ¬ a < 0 := decF c
   exact ⟨_, rfl, q pa H1 a s' t' g ha (by omega) e1 ⟨k1, e2⟩ ⟨k2, e3⟩ (by omega) (by omega)⟩
theorem ok_slopes_of {f : Addr} {fd : FuncData} (F : Fun K "slopes_of" "slopes_of" s_slopes_of f fd) (T : Txt K mg t)  : FnOk P w K mg base CX0 1 f fd ["Q"] (spSl) := by
 refine F.ok sc_slopes_of (fun vs H Q E h => ?_) (fun cdv A outer s H vs Q E hr h => ?_)
 ·obtain ⟨_, _, rfl, _⟩ := h
  rfl
 obtain ⟨p, F, rfl, hp, q⟩ := h
 unfold S6 at hp
 refine ⟨_, pss_one (ps_ret (pe_tup (pa_cons (pe_tup (pa_cons (pe_op op_mulG pe_int (pe_ix ix_tup (pv 0) pe_int (fun _ _ => rfl))) (pa_cons (pe_ix ix_tup (pv 0) pe_int (fun _ _ => rfl)) (pa_cons (pe_ix ix_tup (pv 0) pe_int (fun _ _ => rfl)) pa_nil)))) (pa_cons (pe_tup (pa_cons (pe_ix ix_tup (pv 0) pe_int (fun _ _ => rfl)) (pa_cons (pe_op op_mulG pe_int (pe_ix ix_tup (pv 0) pe_int (fun _ _ => rfl))) (pa_cons (pe_ix ix_tup (pv 0) pe_int (fun _ _ => rfl)) pa_nil)))) (pa_cons (pe_tup (pa_cons (pe_ix ix_tup (pv 0) pe_int (fun _ _ => rfl)) (pa_cons (pe_ix ix_tup (pv 0) pe_int (fun _ _ => rfl)) (pa_cons (pe_op op_mulG pe_int (pe_ix ix_tup (pv 0) pe_int (fun _ _ => rfl))) pa_nil)))) pa_nil))))), ?_⟩
 refine ⟨_, rfl, p, _, _, _, rfl, rfl, SqT.of hp, rfl, _, _, rfl, rfl, ok2, _, rfl, p, _, _, _, rfl, rfl, SqT.of hp, rfl, _, rfl, p, _, _, _, rfl, rfl, SqT.of hp, rfl, (by show 3 <= sizeLine; decide), fun p1 n1 => ?_⟩
 have h1 := same_new n1 (t3 (sl F).r0) _ _ hp
 refine ⟨_, rfl, p, _, _, _, rfl, rfl, SqT.of h1, rfl, _, rfl, p, _, _, _, rfl, rfl, SqT.of h1, rfl, _, _, rfl, rfl, ok2, _, rfl, p, _, _, _, rfl, rfl, SqT.of h1, rfl, (by show 3 <= sizeLine; decide), fun p2 n2 => ?_⟩
 have h2 := same_new n2 (t3 (sl F).r1) _ _ h1
 refine ⟨_, rfl, p, _, _, _, rfl, rfl, SqT.of h2, rfl, _, rfl, p, _, _, _, rfl, rfl, SqT.of h2, rfl, _, rfl, p, _, _, _, rfl, rfl, SqT.of h2, rfl, _, _, rfl, rfl, ok2, (by show 3 <= sizeLine; decide), fun p3 n3 => ⟨(by show 3 <= sizeLine; decide), fun p4 n4 => ?_⟩⟩
 have g3 := same_new n3 (t3 (sl F).r2)
 have g4 := same_new n4 (.tup [.ref p1, .ref p2, .ref p3])
 exact q p4 _ ((same_new n1 _).trans ((same_new n2 _).trans (g3.trans g4))) ⟨p1, p2, p3, upd_same, g4 _ _ (g3 _ _ (same_new n2 _ _ _ upd_same)), g4 _ _ (g3 _ _ upd_same), g4 _ _ upd_same⟩
theorem ok_size_of {f : Addr} {fd : FuncData} (F : Fun K "size_of" "size_of" s_size_of f fd) (T : Txt K mg t)  : FnOk P w K mg base CX0 1 f fd ["Q"] (spSize) := by
 refine F.ok sc_size_of (fun vs H Q E h => ?_) (fun cdv A outer s H vs Q E hr h => ?_)
 ·obtain ⟨_, _, rfl, _⟩ := h
  rfl
 obtain ⟨p, F, rfl, hp, bf, q⟩ := h
 unfold S6 at hp
 refine ⟨_, pss_one (ps_ret (pe_op op_sub (pe_op op_sub (pe_op op_sub (pe_op op_add (pe_op op_mulG (pe_op op_mulG (pe_op op_mulG pe_int (pe_ix ix_tup (pv 0) pe_int (fun _ _ => rfl))) (pe_ix ix_tup (pv 0) pe_int (fun _ _ => rfl))) (pe_ix ix_tup (pv 0) pe_int (fun _ _ => rfl))) (pe_op op_mulG (pe_op op_mulG (pe_ix ix_tup (pv 0) pe_int (fun _ _ => rfl)) (pe_ix ix_tup (pv 0) pe_int (fun _ _ => rfl))) (pe_ix ix_tup (pv 0) pe_int (fun _ _ => rfl)))) (pe_op op_mulG (pe_op op_mulG (pe_ix ix_tup (pv 0) pe_int (fun _ _ => rfl)) (pe_ix ix_tup (pv 0) pe_int (fun _ _ => rfl))) (pe_ix ix_tup (pv 0) pe_int (fun _ _ => rfl)))) (pe_op op_mulG (pe_op op_mulG (pe_ix ix_tup (pv 0) pe_int (fun _ _ => rfl)) (pe_ix ix_tup (pv 0) pe_int (fun _ _ => rfl))) (pe_ix ix_tup (pv 0) pe_int (fun _ _ => rfl)))) (pe_op op_mulG (pe_op op_mulG (pe_ix ix_tup (pv 0) pe_int (fun _ _ => rfl)) (pe_ix ix_tup (pv 0) pe_int (fun _ _ => rfl))) (pe_ix ix_tup (pv 0) pe_int (fun _ _ => rfl))))), ?_⟩
 exact ⟨_, rfl, p, _, _, _, rfl, rfl, SqT.of hp, rfl, _, _, rfl, rfl, okM b4 bf.a, _, rfl, p, _, _, _, rfl, rfl, SqT.of hp, rfl, _, _, rfl, rfl, okM (b4.mul bf.a) bf.b, _, rfl, p, _, _, _, rfl, rfl, SqT.of hp, rfl, _, _, rfl, rfl, okM ((b4.mul bf.a).mul bf.b) bf.c,
  _, rfl, p, _, _, _, rfl, rfl, SqT.of hp, rfl, _, rfl, p, _, _, _, rfl, rfl, SqT.of hp, rfl, _, _, rfl, rfl, okM bf.d bf.e, _, rfl, p, _, _, _, rfl, rfl, SqT.of hp, rfl, _, _, rfl, rfl, okM (bf.d.mul bf.e) bf.f, _, _, rfl, rfl,
  _, rfl, p, _, _, _, rfl, rfl, SqT.of hp, rfl, _, rfl, p, _, _, _, rfl, rfl, SqT.of hp, rfl, _, _, rfl, rfl, okM bf.a bf.d, _, rfl, p, _, _, _, rfl, rfl, SqT.of hp, rfl, _, _, rfl, rfl, okM (bf.a.mul bf.d) bf.d, _, _, rfl, rfl,
  _, rfl, p, _, _, _, rfl, rfl, SqT.of hp, rfl, _, rfl, p, _, _, _, rfl, rfl, SqT.of hp, rfl, _, _, rfl, rfl, okM bf.b bf.e, _, rfl, p, _, _, _, rfl, rfl, SqT.of hp, rfl, _, _, rfl, rfl, okM (bf.b.mul bf.e) bf.e, _, _, rfl, rfl,
  _, rfl, p, _, _, _, rfl, rfl, SqT.of hp, rfl, _, rfl, p, _, _, _, rfl, rfl, SqT.of hp, rfl, _, _, rfl, rfl, okM bf.c bf.f, _, rfl, p, _, _, _, rfl, rfl, SqT.of hp, rfl, _, _, rfl, rfl, okM (bf.c.mul bf.f) bf.f, _, _, rfl, rfl, q⟩
theorem ok_crossing_of {f : Addr} {fd : FuncData} (F : Fun K "crossing_of" "crossing_of" s_crossing_of f fd) (T : Txt K mg t)  : FnOk P w K mg base CX0 1 f fd ["one", "other"] (spCrK K) := by
 refine F.ok sc_crossing_of (fun vs H Q E h => ?_) (fun cdv A outer s H vs Q E hr h => ?_)
 ·obtain ⟨_, _, _, _, rfl, _⟩ := h
  rfl
 obtain ⟨p, q', r, s', rfl, hp, hq, br, bs, q⟩ := h
 refine ⟨_, pss_one (ps_ret (pe_tup (pa_cons (pe_op op_sub (pe_op op_mulG (pe_ix ix_tup (pv 0) pe_int (fun _ _ => rfl)) (pe_ix ix_tup (pv 1) pe_int (fun _ _ => rfl))) (pe_op op_mulG (pe_ix ix_tup (pv 0) pe_int (fun _ _ => rfl)) (pe_ix ix_tup (pv 1) pe_int (fun _ _ => rfl)))) (pa_cons (pe_op op_sub (pe_op op_mulG (pe_ix ix_tup (pv 0) pe_int (fun _ _ => rfl)) (pe_ix ix_tup (pv 1) pe_int (fun _ _ => rfl))) (pe_op op_mulG (pe_ix ix_tup (pv 0) pe_int (fun _ _ => rfl)) (pe_ix ix_tup (pv 1) pe_int (fun _ _ => rfl)))) (pa_cons (pe_op op_sub (pe_op op_mulG (pe_ix ix_tup (pv 0) pe_int (fun _ _ => rfl)) (pe_ix ix_tup (pv 1) pe_int (fun _ _ => rfl))) (pe_op op_mulG (pe_ix ix_tup (pv 0) pe_int (fun _ _ => rfl)) (pe_ix ix_tup (pv 1) pe_int (fun _ _ => rfl)))) pa_nil))))), ?_⟩
 exact ⟨_, rfl, p, _, _, _, rfl, rfl, hp, rfl, _, rfl, q', _, _, _, rfl, rfl, hq, rfl, _, _, rfl, rfl, okM br.y bs.z, _, rfl, p, _, _, _, rfl, rfl, hp, rfl, _, rfl, q', _, _, _, rfl, rfl, hq, rfl, _, _, rfl, rfl, okM br.z bs.y, _, _, rfl, rfl, _, rfl, p, _, _, _, rfl, rfl, hp, rfl, _, rfl, q', _, _, _, rfl, rfl, hq, rfl, _, _, rfl, rfl, okM br.z bs.x, _, rfl, p, _, _, _, rfl, rfl, hp, rfl, _, rfl, q', _, _, _, rfl, rfl, hq, rfl, _, _, rfl, rfl, okM br.x bs.z, _, _, rfl, rfl, _, rfl, p, _, _, _, rfl, rfl, hp, rfl, _, rfl, q', _, _, _, rfl, rfl, hq, rfl, _, _, rfl, rfl, okM br.x bs.y, _, rfl, p, _, _, _, rfl, rfl, hp, rfl, _, rfl, q', _, _, _, rfl, rfl, hq, rfl, _, _, rfl, rfl, okM br.y bs.x, _, _, rfl, rfl, (by show 3 <= sizeLine; decide), fun z nz => q z _ (same_new nz _) upd_same⟩
theorem ok_stretched {f : Addr} {fd : FuncData} (F : Fun K "stretched" "stretched" s_stretched f fd) (T : Txt K mg t)  : FnOk P w K mg base CX0 1 f fd ["P", "times"] (spStr K) := by
 refine F.ok sc_stretched (fun vs H Q E h => ?_) (fun cdv A outer s H vs Q E hr h => ?_)
 ·obtain ⟨_, _, _, rfl, _⟩ := h
  rfl
 obtain ⟨p, P', m, rfl, hp, bp, bm, q⟩ := h
 refine ⟨_, pss_one (ps_ret (pe_tup (pa_cons (pe_op op_mulG (pe_ix ix_tup (pv 0) pe_int (fun _ _ => rfl)) (pv 1)) (pa_cons (pe_op op_mulG (pe_ix ix_tup (pv 0) pe_int (fun _ _ => rfl)) (pv 1)) (pa_cons (pe_op op_mulG (pe_ix ix_tup (pv 0) pe_int (fun _ _ => rfl)) (pv 1)) pa_nil))))), ?_⟩
 exact ⟨_, rfl, p, _, _, _, rfl, rfl, hp, rfl, _, rfl, _, _, rfl, rfl, okM bp.x bm, _, rfl, p, _, _, _, rfl, rfl, hp, rfl, _, rfl, _, _, rfl, rfl, okM bp.y bm, _, rfl, p, _, _, _, rfl, rfl, hp, rfl, _, rfl, _, _, rfl, rfl, okM bp.z bm, (by show 3 <= sizeLine; decide), fun z nz => q z _ (same_new nz _) upd_same⟩
theorem ok_row_product {f : Addr} {fd : FuncData} (F : Fun K "row_product" "row_product" s_row_product f fd) (T : Txt K mg t)  : FnOk P w K mg base CX0 1 f fd ["row", "P"] (spRpK K) := by
 refine F.ok sc_row_product (fun vs H Q E h => ?_) (fun cdv A outer s H vs Q E hr h => ?_)
 ·obtain ⟨_, _, _, _, rfl, _⟩ := h
  rfl
 obtain ⟨p, q', r, s', rfl, hp, hq, br, bs, q⟩ := h
 unfold S3 at hp
 refine ⟨_, pss_one (ps_ret (pe_op op_add (pe_op op_add (pe_op op_mulG (pe_ix ix_tup (pv 0) pe_int (fun _ _ => rfl)) (pe_ix ix_tup (pv 1) pe_int (fun _ _ => rfl))) (pe_op op_mulG (pe_ix ix_tup (pv 0) pe_int (fun _ _ => rfl)) (pe_ix ix_tup (pv 1) pe_int (fun _ _ => rfl)))) (pe_op op_mulG (pe_ix ix_tup (pv 0) pe_int (fun _ _ => rfl)) (pe_ix ix_tup (pv 1) pe_int (fun _ _ => rfl))))), ?_⟩
 exact ⟨_, rfl, p, _, _, _, rfl, rfl, SqT.of hp, rfl, _, rfl, q', _, _, _, rfl, rfl, hq, rfl, _, _, rfl, rfl, okM br.x bs.x, _, rfl, p, _, _, _, rfl, rfl, SqT.of hp, rfl, _, rfl, q', _, _, _, rfl, rfl, hq, rfl, _, _, rfl, rfl, okM br.y bs.y, _, _, rfl, rfl, _, rfl, p, _, _, _, rfl, rfl, SqT.of hp, rfl, _, rfl, q', _, _, _, rfl, rfl, hq, rfl, _, _, rfl, rfl, okM br.z bs.z, _, _, rfl, rfl, q⟩
theorem ok_turned_by {f : Addr} {fd : FuncData} (F : Fun K "turned_by" "turned_by" s_turned_by f fd) (T : Txt K mg t) (H_row_product : Has P w K mg base CX0 1 "row_product" ["row", "P"] (spRpK K)) : FnOk P w K mg base CX0 2 f fd ["table", "P"] (spTbK K) := by
 obtain ⟨f_row_product, d_row_product, G_row_product, b_row_product, k_row_product, m_row_product⟩ := H_row_product
 refine F.ok sc_turned_by (fun vs H Q E h => ?_) (fun cdv A outer s H vs Q E hr h => ?_)
 ·obtain ⟨_, _, _, _, rfl, _⟩ := h
  rfl
 obtain ⟨p, q', t', P', rfl, ht, hq, bt, bp, q⟩ := h
 have hr_row_product := hr.mono (show 1 <= 1 by decide)
 obtain ⟨r0, r1, r2, hp, h0, h1, h2⟩ := ht
 refine ⟨_, pss_one (ps_ret (pe_tup (pa_cons (pe_call G_row_product hr_row_product rfl m_row_product k_row_product b_row_product .nil pass0 (pa_cons (pe_ix ix_tup (pv 0) pe_int (fun _ _ => rfl)) (pa_cons (pv 1) pa_nil))) (pa_cons (pe_call G_row_product hr_row_product rfl m_row_product k_row_product b_row_product .nil pass0 (pa_cons (pe_ix ix_tup (pv 0) pe_int (fun _ _ => rfl)) (pa_cons (pv 1) pa_nil))) (pa_cons (pe_call G_row_product hr_row_product rfl m_row_product k_row_product b_row_product .nil pass0 (pa_cons (pe_ix ix_tup (pv 0) pe_int (fun _ _ => rfl)) (pa_cons (pv 1) pa_nil))) pa_nil))))), ?_⟩
 exact ⟨_, rfl, p, _, _, _, rfl, rfl, SqT.of hp, rfl, _, rfl, r0, q', _, _, rfl, h0, hq, bt.r0, bp, _, rfl, p, _, _, _, rfl, rfl, SqT.of hp, rfl, _, rfl, r1, q', _, _, rfl, h1, hq, bt.r1, bp, _, rfl, p, _, _, _, rfl, rfl, SqT.of hp, rfl, _, rfl, r2, q', _, _, rfl, h2, hq, bt.r2, bp, (by show 3 <= sizeLine; decide), fun z nz => q z _ (same_new nz _) nz upd_same⟩
theorem ok_worth_of {f : Addr} {fd : FuncData} (F : Fun K "worth_of" "worth_of" s_worth_of f fd) (T : Txt K mg t)  : FnOk P w K mg base CX0 1 f fd ["Q", "P"] (spWoK K) := by
 refine F.ok sc_worth_of (fun vs H Q E h => ?_) (fun cdv A outer s H vs Q E hr h => ?_)
 ·obtain ⟨_, _, _, _, rfl, _⟩ := h
  rfl
 obtain ⟨p, q', F, P', rfl, hp, hq, bf, bp, q⟩ := h
 unfold S6 at hp
 refine ⟨_, pss_cons (ps_set (i := 2) sc_worth_of.nd rfl (Or.inl rfl) (pe_tup (pa_cons (pe_op op_mulG (pe_ix ix_tup (pv 1) pe_int (fun _ _ => rfl)) (pe_ix ix_tup (pv 1) pe_int (fun _ _ => rfl))) (pa_cons (pe_op op_mulG (pe_ix ix_tup (pv 1) pe_int (fun _ _ => rfl)) (pe_ix ix_tup (pv 1) pe_int (fun _ _ => rfl))) (pa_cons (pe_op op_mulG (pe_ix ix_tup (pv 1) pe_int (fun _ _ => rfl)) (pe_ix ix_tup (pv 1) pe_int (fun _ _ => rfl))) (pa_cons (pe_op op_mulG (pe_ix ix_tup (pv 1) pe_int (fun _ _ => rfl)) (pe_ix ix_tup (pv 1) pe_int (fun _ _ => rfl))) (pa_cons (pe_op op_mulG (pe_ix ix_tup (pv 1) pe_int (fun _ _ => rfl)) (pe_ix ix_tup (pv 1) pe_int (fun _ _ => rfl))) (pa_cons (pe_op op_mulG (pe_ix ix_tup (pv 1) pe_int (fun _ _ => rfl)) (pe_ix ix_tup (pv 1) pe_int (fun _ _ => rfl))) pa_nil))))))))
  (pss_one (ps_ret (pe_callB (call_sum rfl) rfl T.z_sum b_sum (pa_cons (pe_compPair rfl (CompScope2.gen (cl := []) [] [] [(".0", .local), ("coefficient", .local), ("product", .local)] rfl (by decide +kernel) (by decide +kernel) rfl rfl rfl (by intro p hp; cases hp) rfl (by intro p hp h; simp only [List.mem_cons, List.not_mem_nil, or_false] at hp; rcases hp with rfl | rfl | rfl <;> first | rfl | (rcases h with h | h <;> cases h)) (by decide) (by decide +kernel) rfl (by intro p hp; cases hp)) (pi_zip rfl T.z_zip (pa_cons (pv 0) (pa_cons (pv 2) pa_nil))) (fun C s0 H0 fp pins => pe_op op_mulG (pv 0) (pv 1))) pa_nil)))), ?_⟩
 refine ⟨_, rfl, q', _, _, _, rfl, rfl, hq, rfl, _, rfl, q', _, _, _, rfl, rfl, hq, rfl, _, _, rfl, rfl, okM bp.x bp.x, _, rfl, q', _, _, _, rfl, rfl, hq, rfl, _, rfl, q', _, _, _, rfl, rfl, hq, rfl, _, _, rfl, rfl, okM bp.y bp.y, _, rfl, q', _, _, _, rfl, rfl, hq, rfl, _, rfl, q', _, _, _, rfl, rfl, hq, rfl, _, _, rfl, rfl, okM bp.z bp.z, _, rfl, q', _, _, _, rfl, rfl, hq, rfl, _, rfl, q', _, _, _, rfl, rfl, hq, rfl, _, _, rfl, rfl, okM bp.y bp.z, _, rfl, q', _, _, _, rfl, rfl, hq, rfl, _, rfl, q', _, _, _, rfl, rfl, hq, rfl, _, _, rfl, rfl, okM bp.x bp.z, _, rfl, q', _, _, _, rfl, rfl, hq, rfl, _, rfl, q', _, _, _, rfl, rfl, hq, rfl, _, _, rfl, rfl, okM bp.x bp.y, (by show 6 <= sizeLine; decide), fun p1 n1 => ?_⟩
 have g1 := same_new n1 (.tup [.int (P'.x * P'.x), .int (P'.y * P'.y), .int (P'.z * P'.z), .int (P'.y * P'.z), .int (P'.x * P'.z), .int (P'.x * P'.y)])
 have hp1 := g1 _ _ hp
 refine ⟨_, rfl, _, rfl, p, p1, _, _, rfl, SqT.of hp1, SqT.of upd_same, compP_zipF (fun H' g => SqT.of (g _ _ hp1)) (fun H' g => SqT.of (g _ _ upd_same)) rfl (by show 6 < sizeLine; decide) vmul ?_ ?_⟩
 ·intro i x y H' Q' ex ey g k
  obtain ⟨a, b, rfl, rfl, ha, hb⟩ : ∃ a b : Int, x = .int a /\ y = .int b /\ Bd 600 a /\ Bd (600 + 600) b := by
   match i, ex, ey with
   | 0, ex, ey => exact ⟨_, _, (Option.some.inj ex).symm, (Option.some.inj ey).symm, bf.a, bp.x.mul bp.x⟩
   | 1, ex, ey => exact ⟨_, _, (Option.some.inj ex).symm, (Option.some.inj ey).symm, bf.b, bp.y.mul bp.y⟩
   | 2, ex, ey => exact ⟨_, _, (Option.some.inj ex).symm, (Option.some.inj ey).symm, bf.c, bp.z.mul bp.z⟩
   | 3, ex, ey => exact ⟨_, _, (Option.some.inj ex).symm, (Option.some.inj ey).symm, bf.d, bp.y.mul bp.z⟩
   | 4, ex, ey => exact ⟨_, _, (Option.some.inj ex).symm, (Option.some.inj ey).symm, bf.e, bp.x.mul bp.z⟩
   | 5, ex, ey => exact ⟨_, _, (Option.some.inj ex).symm, (Option.some.inj ey).symm, bf.f, bp.x.mul bp.y⟩
   | n + 6, ex, ey => cases ex
  exact ⟨_, rfl, _, rfl, _, _, rfl, rfl, okM ha hb, k _ (Same.refl _)⟩
 ·intro l H' g h0 hl
  refine ⟨l, [F.a * (P'.x * P'.x), F.b * (P'.y * P'.y), F.c * (P'.z * P'.z), F.d * (P'.y * P'.z), F.e * (P'.x * P'.z), F.f * (P'.x * P'.y)], rfl, hl, ?_⟩
  rw [sum6]
  exact q _ (g1.trans g)
theorem ok_added {f : Addr} {fd : FuncData} (F : Fun K "added" "added" s_added f fd) (T : Txt K mg t)  : FnOk P w K mg base CX0 1 f fd ["one", "other"] (spAddK K) := by
 refine F.ok sc_added (fun vs H Q E h => ?_) (fun cdv A outer s H vs Q E hr h => ?_)
 ·obtain ⟨_, _, _, _, rfl, _⟩ := h
  rfl
 obtain ⟨p, q', P', R', rfl, hp, hq, q⟩ := h
 refine ⟨_, pss_one (ps_ret (pe_tup (pa_cons (pe_op op_add (pe_ix ix_tup (pv 0) pe_int (fun _ _ => rfl)) (pe_ix ix_tup (pv 1) pe_int (fun _ _ => rfl))) (pa_cons (pe_op op_add (pe_ix ix_tup (pv 0) pe_int (fun _ _ => rfl)) (pe_ix ix_tup (pv 1) pe_int (fun _ _ => rfl))) (pa_cons (pe_op op_add (pe_ix ix_tup (pv 0) pe_int (fun _ _ => rfl)) (pe_ix ix_tup (pv 1) pe_int (fun _ _ => rfl))) pa_nil))))), ?_⟩
 exact ⟨_, rfl, p, _, _, _, rfl, rfl, hp, rfl, _, rfl, q', _, _, _, rfl, rfl, hq, rfl, _, _, rfl, rfl, _, rfl, p, _, _, _, rfl, rfl, hp, rfl, _, rfl, q', _, _, _, rfl, rfl, hq, rfl, _, _, rfl, rfl, _, rfl, p, _, _, _, rfl, rfl, hp, rfl, _, rfl, q', _, _, _, rfl, rfl, hq, rfl, _, _, rfl, rfl, (by show 3 <= sizeLine; decide), fun z nz => q z _ (same_new nz _) upd_same⟩
theorem ok_lowest_point {f : Addr} {fd : FuncData} (F : Fun K "lowest_point" "lowest_point" s_lowest_point f fd) (T : Txt K mg t) (H_shares_of : Has P w K mg base CX0 2 "shares_of" ["one", "other"] (spShares)) : FnOk P w K mg base CX0 3 f fd ["P"] (spLowS K) := by
 obtain ⟨f_shares_of, d_shares_of, G_shares_of, b_shares_of, k_shares_of, m_shares_of⟩ := H_shares_of
 refine F.ok sc_lowest_point (fun vs H Q E h => ?_) (fun cdv A outer s H vs Q E hr h => ?_)
 ·obtain ⟨_, _, _, _, _, rfl, _⟩ := h
  rfl
 obtain ⟨b, p, x, y, z, rfl, hp, hb, nzr, q⟩ := h
 have hr_shares_of := hr.mono (show 2 <= 2 by decide)
 refine ⟨_, pss_cons (ps_set (i := 1) sc_lowest_point.nd rfl (Or.inl rfl) (pe_ix ix_tup (pe_call G_shares_of hr_shares_of rfl m_shares_of k_shares_of b_shares_of .nil pass0 (pa_cons (pe_ix ix_tup (pe_call G_shares_of hr_shares_of rfl m_shares_of k_shares_of b_shares_of .nil pass0 (pa_cons (pe_ix ix_seq (pv 0) pe_int (fun _ _ => rfl)) (pa_cons (pe_ix ix_seq (pv 0) pe_int (fun _ _ => rfl)) pa_nil))) pe_int (fun _ _ => rfl)) (pa_cons (pe_ix ix_seq (pv 0) pe_int (fun _ _ => rfl)) pa_nil))) pe_int (fun _ _ => rfl)))
  (pss_cut (ps_if (pt_cmpR op_lt (pe_ix ix_list (pe_compIfC rfl (CompScope.gen (cl := []) [] [] [(".0", .local), ("number", .local)] rfl (by decide +kernel) (by decide +kernel) rfl rfl (by intro p hp; cases hp) rfl (by intro p hp h; simp only [List.mem_cons, List.not_mem_nil, or_false] at hp; rcases hp with rfl | rfl <;> first | rfl | (rcases h with h | h <;> cases h)) (by decide) (by decide +kernel) rfl (by intro p hp; cases hp)) (pi_seq (pv 0)) (fun C s0 H0 fp pins => pt_cmpR op_ne (pv 0) pe_int (nomark _)) (fun C s0 H0 fp pins => pv 0)) pe_int (fun _ _ => rfl)) pe_int (nomark _)) (pss_one (ps_set (i := 1) sc_lowest_point.nd rfl (Or.inl rfl) (pe_un un_neg (pv 1)))) pss_nil)
  (pss_one (ps_ret (pe_tup (pa_cons (pe_op op_fdivL (pe_ix ix_seq (pv 0) pe_int (fun _ _ => rfl)) (pv 1)) (pa_cons (pe_op op_fdivL (pe_ix ix_seq (pv 0) pe_int (fun _ _ => rfl)) (pv 1)) (pa_cons (pe_op op_fdivL (pe_ix ix_seq (pv 0) pe_int (fun _ _ => rfl)) (pv 1)) pa_nil))))))), ?_⟩
 obtain ⟨bx, by', bz⟩ := in3_abs hb
 refine ⟨_, rfl, ixb hp rfl ⟨_, rfl, ixb hp rfl ⟨x, y, rfl, bx, by', fun p1 H1 g s' t' g1 h1 g0 eg ⟨k1, e1⟩ ⟨k2, e2⟩ _ _ => ?_⟩⟩⟩
 have bg := gcd_le bx by' eg e1 e2
 refine ⟨p1, _, _, _, rfl, rfl, SqT.of h1, rfl, _, rfl, ixb (hp.up g1) rfl ⟨g, z, rfl, bg, bz, fun p2 H2 d s2 t2 g2 h2 d0 ed ⟨k3, e3⟩ ⟨k4, e4⟩ _ _ => ?_⟩⟩
 refine ⟨p2, _, _, _, rfl, rfl, SqT.of h2, rfl, ?_⟩
 have bd := gcd_le bg bz ed e3 e4
 have dn : d ≠ 0 := by
  intro zz
  subst zz
  rw [Int.mul_zero] at e3 e4
  subst e3
  rw [Int.mul_zero] at e1 e2
  unfold NZ at nzr
  omega
 have dx : d ∣ x := ⟨k1 * k3, by rw [e1, e3]; grind⟩
 have dy : d ∣ y := ⟨k2 * k3, by rw [e2, e3]; grind⟩
 have dz : d ∣ z := ⟨k4, by rw [Int.mul_comm]; exact e4⟩
 have bez : s2 * s' * x + s2 * t' * y + t2 * z = d := by rw [ed, eg]; grind
 have g12 := g1.trans g2
 have hp2 := hp.up g12
 refine ⟨fun σ' H' => ∃ e : Int, σ' = [some (.ref p), some (.int e)] /\ Same H H' /\ ((e = d /\ 0 < fst3 x y z) \/ (e = -d /\ fst3 x y z < 0)), ?_, ?_⟩
 ·refine ⟨_, rfl, p, b, _, rfl, hp2, compIf_seqF (xs := [.int x, .int y, .int z]) (by show 3 < sizeLine; decide) nz id (fun H' g => hp2.up g) ?_ ?_ ?_⟩
  ·intro i v H' Q' hv g k
   obtain ⟨n, rfl, _⟩ := get3 hv
   exact ⟨_, rfl, rfl, _, rfl, k _ (Same.refl _)⟩
  ·intro i v H' Q' hv e g k
   exact ⟨_, rfl, k _ (Same.refl _)⟩
  ·intro l H' g h0 hl
   have fz := fst_nz nzr
   refine ⟨l, _, _, _, rfl, rfl, SqL.of hl, fst_ok nzr, _, _, rfl, rfl, _, rfl, ite2 (fun c => ?_) (fun c => ?_)⟩
   ·have c' := decT c
    exact ⟨_, rfl, _, rfl, -d, rfl, g12.trans g, .inr ⟨rfl, c'⟩⟩
   ·have c' := decF c
    exact ⟨d, rfl, g12.trans g, .inl ⟨rfl, by omega⟩⟩
 ·rintro _ H3 ⟨e, rfl, g3, he⟩
  have hp3 := hp.up g3
  have en : e ≠ 0 := by omega
  have be : e.natAbs <= Lm := by omega
  have ex : e ∣ x := by
   rcases he with ⟨z, _⟩ | ⟨z, _⟩ <;> rw [z]
   ·exact dx
   ·exact Int.neg_dvd.mpr dx
  have ey : e ∣ y := by
   rcases he with ⟨z, _⟩ | ⟨z, _⟩ <;> rw [z]
   ·exact dy
   ·exact Int.neg_dvd.mpr dy
  have ez : e ∣ z := by
   rcases he with ⟨z, _⟩ | ⟨z, _⟩ <;> rw [z]
   ·exact dz
   ·exact Int.neg_dvd.mpr dz
  have eb : ∃ u v w : Int, u * x + v * y + w * z = e := by
   rcases he with ⟨zz, _⟩ | ⟨zz, _⟩
   ·exact ⟨_, _, _, bez.trans zz.symm⟩
   ·exact ⟨-(s2 * s'), -(s2 * t'), -t2, by rw [zz, <- bez]; grind⟩
  obtain ⟨o, qx, qy, qz⟩ := low_ok en ex ey ez eb
  refine ⟨_, rfl, ixb hp3 rfl ⟨_, rfl, _, _, rfl, rfl, ⟨en, Lm_log (by omega)⟩, _, rfl, ixb hp3 rfl ⟨_, rfl, _, _, rfl, rfl, ⟨en, Lm_log (by omega)⟩,
   _, rfl, ixb hp3 rfl ⟨_, rfl, _, _, rfl, rfl, ⟨en, Lm_log (by omega)⟩, (by show 3 <= sizeLine; decide), fun r nr => ?_⟩⟩⟩⟩
  refine q r _ _ _ _ e (g3.trans (same_new nr _)) upd_same o (pos_of en qx qy qz nzr ?_) en qx qy qz
  rcases he with ⟨zz, w⟩ | ⟨zz, w⟩
  ·exact .inl ⟨by omega, w⟩
  ·exact .inr ⟨by omega, w⟩
theorem ok_turned_over {f : Addr} {fd : FuncData} (F : Fun K "turned_over" "turned_over" s_turned_over f fd) (T : Txt K mg t)  : FnOk P w K mg base CX0 1 f fd ["table"] (spTrL) := by
 refine F.ok sc_turned_over (fun vs H Q E h => ?_) (fun cdv A outer s H vs Q E hr h => ?_)
 ·obtain ⟨_, _, rfl, _⟩ := h
  rfl
 obtain ⟨p, t', rfl, ht, q⟩ := h
 refine ⟨_, pss_one (ps_ret (pe_callTy call_tuple_of rfl T.z_tuple b_tuple (pa_cons (pe_compC rfl (CompScope.gen (cl := [("table", _)]) ["table"] [0] [(".0", .local), ("place", .local), ("table", .cell)] rfl (by decide +kernel) (by decide +kernel) rfl rfl (by intro p hp; simp only [List.mem_cons, List.not_mem_nil, or_false] at hp; rcases hp with rfl <;> rfl) rfl (by intro p hp h; simp only [List.mem_cons, List.not_mem_nil, or_false] at hp; rcases hp with rfl | rfl | rfl <;> first | rfl | (rcases h with h | h <;> cases h)) (by decide) (by decide +kernel) rfl (by intro p hp; simp only [List.zip_cons_cons, List.zip_nil_left, List.mem_cons, List.not_mem_nil, or_false] at hp; rcases hp with rfl <;> exact ⟨rfl, rfl⟩)) (pi_range1 rfl T.z_range (pa_cons pe_int pa_nil)) (fun C s0 H0 fp pins => pe_tup (pa_cons (pe_ix (ixK_tup (K := K) rfl) (pe_ix (ixK_list (K := K) rfl) (pv 1) pe_int (fun _ _ => rfl)) (pv 0) (fun _ _ => rfl)) (pa_cons (pe_ix (ixK_tup (K := K) rfl) (pe_ix (ixK_list (K := K) rfl) (pv 1) pe_int (fun _ _ => rfl)) (pv 0) (fun _ _ => rfl)) (pa_cons (pe_ix (ixK_tup (K := K) rfl) (pe_ix (ixK_list (K := K) rfl) (pv 1) pe_int (fun _ _ => rfl)) (pv 0) (fun _ _ => rfl)) pa_nil))))) pa_nil))), ?_⟩
 refine ⟨3, rfl, by decide, by decide, comp_range 3 (by decide) (Laid fun j => t3 (rowOf (tr t') j)) (fun _ _ => Laid.zero) ?_ ?_⟩
 ·intro i vs H' acc Q' hi g h0 ha r hl k
  obtain ⟨r0, r1, r2, hp, h0', h1', h2'⟩ := ht.mono g
  obtain rfl | rfl | rfl : i = 0 \/ i = 1 \/ i = 2 := by omega
  ·exact ⟨_, rfl, p, _, _, _, rfl, rfl, SqL.of hp, rfl, _, rfl, r0, _, _, _, rfl, rfl, SqT.of h0', rfl, _, rfl, p, _, _, _, rfl, rfl, SqL.of hp, rfl, _, rfl, r1, _, _, _, rfl, rfl, SqT.of h1', rfl, _, rfl, p, _, _, _, rfl, rfl, SqL.of hp, rfl, _, rfl, r2, _, _, _, rfl, rfl, SqT.of h2', rfl, (by show 3 <= sizeLine; decide), fun z nz => k _ _ (same_new nz _) (r.next (same_new nz _) ha nz upd_same fun j e => by cases e)⟩
  ·exact ⟨_, rfl, p, _, _, _, rfl, rfl, SqL.of hp, rfl, _, rfl, r0, _, _, _, rfl, rfl, SqT.of h0', rfl, _, rfl, p, _, _, _, rfl, rfl, SqL.of hp, rfl, _, rfl, r1, _, _, _, rfl, rfl, SqT.of h1', rfl, _, rfl, p, _, _, _, rfl, rfl, SqL.of hp, rfl, _, rfl, r2, _, _, _, rfl, rfl, SqT.of h2', rfl, (by show 3 <= sizeLine; decide), fun z nz => k _ _ (same_new nz _) (r.next (same_new nz _) ha nz upd_same fun j e => by cases e)⟩
  ·exact ⟨_, rfl, p, _, _, _, rfl, rfl, SqL.of hp, rfl, _, rfl, r0, _, _, _, rfl, rfl, SqT.of h0', rfl, _, rfl, p, _, _, _, rfl, rfl, SqL.of hp, rfl, _, rfl, r1, _, _, _, rfl, rfl, SqT.of h1', rfl, _, rfl, p, _, _, _, rfl, rfl, SqL.of hp, rfl, _, rfl, r2, _, _, _, rfl, rfl, SqT.of h2', rfl, (by show 3 <= sizeLine; decide), fun z nz => k _ _ (same_new nz _) (r.next (same_new nz _) ha nz upd_same fun j e => by cases e)⟩
 ·intro l H' vs g h0 hl _ r
  obtain ⟨s0, s1, s2, rfl, e0, e1, e2⟩ := r.three
  refine ⟨l, _, rfl, .inl ⟨SqL.of hl, fun z nz => q z _ (g.trans (same_new nz _)) ⟨s0, s1, s2, upd_same, same_new nz _ _ _ e0, same_new nz _ _ _ e1, same_new nz _ _ _ e2⟩⟩⟩
theorem ok_crossings_of {f : Addr} {fd : FuncData} (F : Fun K "crossings_of" "crossings_of" s_crossings_of f fd) (T : Txt K mg t) (H_crossing_of : Has P w K mg base CX0 1 "crossing_of" ["one", "other"] (spCrK K)) : FnOk P w K mg base CX0 2 f fd ["lines", "others"] (spCrs K) := by
 obtain ⟨f_crossing_of, d_crossing_of, G_crossing_of, b_crossing_of, k_crossing_of, m_crossing_of⟩ := H_crossing_of
 refine F.ok sc_crossings_of (fun vs H Q E h => ?_) (fun cdv A outer s H vs Q E hr h => ?_)
 ·obtain ⟨_, _, _, _, rfl, _⟩ := h
  rfl
 obtain ⟨p, q', t1, t2, rfl, h1, h2, b1, b2, q⟩ := h
 have hr_crossing_of := hr.mono (show 1 <= 1 by decide)
 obtain ⟨r0, r1, r2, hp, e0, e1, e2⟩ := h1
 obtain ⟨s0, s1, s2, hq, f0, f1, f2⟩ := h2
 refine ⟨_, pss_cons (ps_set (i := 2) sc_crossings_of.nd rfl (Or.inl rfl) (pe_lst pa_nil))
  (pss_cons (ps_for PassesOwn.never rfl (pi_tup (pv 0)) (pg_name (i := 3) sc_crossings_of.nd rfl (Or.inr rfl)) (pss_one (ps_expr (pe_bm PySem.F.plainAttrs_list PySem.F.slot_list_extend PySem.F.type_list_extend mt_extend (pv 2) (pa_cons (pe_compC rfl (CompScope.gen (cl := [("one", _)]) ["one"] [3] [(".0", .local), ("other", .local), ("crossing_of", .globalImplicit), ("one", .cell)] rfl (by decide +kernel) (by decide +kernel) rfl rfl (by intro p hp; simp only [List.mem_cons, List.not_mem_nil, or_false] at hp; rcases hp with rfl <;> rfl) rfl (by intro p hp h; simp only [List.mem_cons, List.not_mem_nil, or_false] at hp; rcases hp with rfl | rfl | rfl | rfl <;> first | rfl | (rcases h with h | h <;> cases h)) (by decide) (by decide +kernel) rfl (by intro p hp; simp only [List.zip_cons_cons, List.zip_nil_left, List.mem_cons, List.not_mem_nil, or_false] at hp; rcases hp with rfl <;> exact ⟨rfl, rfl⟩)) (pi_tup (pv 1)) (fun C s0 H0 fp pins => pe_call G_crossing_of hr_crossing_of rfl m_crossing_of k_crossing_of b_crossing_of .nil pass0 (pa_cons (pv 1) (pa_cons (pv 0) pa_nil)))) pa_nil)))))
  (pss_one (ps_ret (pv 2)))), ?_⟩
 refine ⟨(by show 0 <= sizeLine; decide), fun cl ncl => ?_⟩
 have g0 := same_new ncl (.lst [])
 refine ⟨_, rfl, p, rfl, ⟨_, hp.up g0⟩, for_tup (xs := [.ref r0, .ref r1, .ref r2]) (fun i σ H' => ∃ (ox : Option V) (ws : List V), σ = [some (.ref p), some (.ref q'), some (.ref cl), ox] /\ Same H H' /\ H' cl = some (.lst ws) /\ Tus H' ws (crs ((rw3 t1).take i) (rw3 t2)) /\ ws.length <= 3 * i) ⟨none, [], rfl, g0, upd_same, .nil, Nat.le_refl _⟩ ?_ ?_ ?_⟩
 ·rintro i σ H' hi ⟨ox, ws, rfl, g, _⟩
  exact hp.up g
 ·rintro i v σ H1 hv ⟨ox, ws, rfl, g, hcl, tu, len⟩
  have hi : i < 3 := (List.getElem?_eq_some_iff.mp hv).1
  obtain ⟨z, P, rfl, eP, hz, bz⟩ := rowK e0 e1 e2 b1 hv
  refine ⟨_, rfl, .inl ⟨rfl, _, SqL.of hcl⟩, _, rfl, q', rfl, ⟨_, hq.up g⟩, comp_tupR (xs := [.ref s0, .ref s1, .ref s2]) (by show 3 < sizeLine; decide) (fun H' g' => hq.up (g.trans g')) (fun i ws' H' => Tus H' ws' (((rw3 t2).take i).map (cr P))) (fun _ _ => .nil) ?_ ?_⟩
  ·intro j x ws' H2 acc Q' ex g2 h0 ha r hl k
   obtain ⟨y, R, rfl, eR, hy, by'⟩ := rowK f0 f1 f2 b2 ex
   refine ⟨_, rfl, _, rfl, z, y, P, R, rfl, hz.up (g.trans g2), hy.up (g.trans g2), bz.mono', by'.mono', fun w H3 g3 hw => k _ _ g3 ?_⟩
   rw [List.take_add_one, eR, List.map_append]
   exact ((r.mono g3).app (.cons hw .nil)).put (g3 _ _ ha)
  ·intro l H2 ws' g2 _ hl _ r
   have hcl2 := g2 _ _ hcl
   have wl : ws'.length = 3 := r.len
   refine ⟨cl, l, _, _, rfl, rfl, hcl2, hl, Nat.le_trans (by omega : ws.length + ws'.length <= 100) (by decide), some (.ref z), ws ++ ws', rfl, putS (g.trans g2) ncl, upd_same, ?_, by rw [List.length_append]; omega⟩
   have e : crs ((rw3 t1).take (i + 1)) (rw3 t2) = crs ((rw3 t1).take i) (rw3 t2) ++ (rw3 t2).map (cr P) := by
    rw [List.take_add_one, eP]
    simp [crs, List.flatMap_append]
   rw [e]
   exact ((tu.mono g2).app r).put hcl2
 ·rintro σ H1 ⟨ox, ws, rfl, g, hcl, tu, _⟩
  exact ⟨_, rfl, q cl H1 ws g hcl tu⟩
theorem ok_vertex_of {f : Addr} {fd : FuncData} (F : Fun K "vertex_of" "vertex_of" s_vertex_of f fd) (T : Txt K mg t) (H_size_of : Has P w K mg base CX0 1 "size_of" ["Q"] (spSize)) (H_slopes_of : Has P w K mg base CX0 1 "slopes_of" ["Q"] (spSl)) (H_crossings_of : Has P w K mg base CX0 2 "crossings_of" ["lines", "others"] (spCrs K)) (H_lowest_point : Has P w K mg base CX0 3 "lowest_point" ["P"] (spLowS K)) : FnOk P w K mg base CX0 4 f fd ["Q"] (spVx0) := by
 obtain ⟨f_size_of, d_size_of, G_size_of, b_size_of, k_size_of, m_size_of⟩ := H_size_of
 obtain ⟨f_slopes_of, d_slopes_of, G_slopes_of, b_slopes_of, k_slopes_of, m_slopes_of⟩ := H_slopes_of
 obtain ⟨f_crossings_of, d_crossings_of, G_crossings_of, b_crossings_of, k_crossings_of, m_crossings_of⟩ := H_crossings_of
 obtain ⟨f_lowest_point, d_lowest_point, G_lowest_point, b_lowest_point, k_lowest_point, m_lowest_point⟩ := H_lowest_point
 refine F.ok sc_vertex_of (fun vs H Q E h => ?_) (fun cdv A outer s H vs Q E hr h => ?_)
 ·obtain ⟨_, _, rfl, _⟩ := h
  rfl
 obtain ⟨p, F, rfl, hp, bf, qe, q⟩ := h
 have hr_size_of := hr.mono (show 1 <= 3 by decide)
 have hr_slopes_of := hr.mono (show 1 <= 3 by decide)
 have hr_crossings_of := hr.mono (show 2 <= 3 by decide)
 have hr_lowest_point := hr.mono (show 3 <= 3 by decide)
 refine ⟨_, pss_cons (ps_if (pt_cmpR op_ne (pe_call G_size_of hr_size_of rfl m_size_of k_size_of b_size_of .nil pass0 (pa_cons (pv 0) pa_nil)) pe_int (nomark _)) pss_never pss_nil)
  (pss_cons (ps_set (i := 1) sc_vertex_of.nd rfl (Or.inl rfl) (pe_call G_slopes_of hr_slopes_of rfl m_slopes_of k_slopes_of b_slopes_of .nil pass0 (pa_cons (pv 0) pa_nil)))
  (pss_cons (ps_set (i := 2) sc_vertex_of.nd rfl (Or.inl rfl) (pe_op op_cat (pe_op op_cat (pe_call G_crossings_of hr_crossings_of rfl m_crossings_of k_crossings_of b_crossings_of .nil pass0 (pa_cons (pv 1) (pa_cons (pv 1) pa_nil))) (pe_call G_crossings_of hr_crossings_of rfl m_crossings_of k_crossings_of b_crossings_of .nil pass0 (pa_cons (pv 1) (pa_cons (pe_glob (v := .ref t.gAXES) rfl T.m_AXES rfl) pa_nil)))) (pe_call G_crossings_of hr_crossings_of rfl m_crossings_of k_crossings_of b_crossings_of .nil pass0 (pa_cons (pe_glob (v := .ref t.gAXES) rfl T.m_AXES rfl) (pa_cons (pe_glob (v := .ref t.gAXES) rfl T.m_AXES rfl) pa_nil)))))
  (pss_one (ps_ret (pe_call G_lowest_point hr_lowest_point rfl m_lowest_point k_lowest_point b_lowest_point .nil pass0 (pa_cons (pe_ix ix_list (pe_compIfC rfl (CompScope.gen (cl := []) [] [] [(".0", .local), ("crossing", .local), ("any", .globalImplicit)] rfl (by decide +kernel) (by decide +kernel) rfl rfl (by intro p hp; cases hp) rfl (by intro p hp h; simp only [List.mem_cons, List.not_mem_nil, or_false] at hp; rcases hp with rfl | rfl | rfl <;> first | rfl | (rcases h with h | h <;> cases h)) (by decide) (by decide +kernel) rfl (by intro p hp; cases hp)) (pi_list (pv 2)) (fun C s0 H0 fp pins => pt_val (pe_callB (callK_anyT (K := K) rfl rfl) rfl T.z_any b_any (pa_cons (pv 0) pa_nil)) (fun _ => rfl)) (fun C s0 H0 fp pins => pv 0)) pe_int (fun _ _ => rfl)) pa_nil)))))), ?_⟩
 refine ⟨_, rfl, p, F, rfl, hp, bf.mono, rfl, _, rfl, ite2 (fun c => ?_) (fun c => ?_)⟩
 ·exact absurd qe (fun z => neT c (congrArg V.int z))
 have z0 : sz F = 0 := int_inj (neF c)
 refine ⟨_, rfl, p, F, rfl, hp, fun sr H1 g1 hs => ?_⟩
 have stk : STK K H1 sr (sl F) := .of hs
 have axk : ∀ H' : Hp, STK K H' t.gAXES axT := fun H' => ⟨_, _, _, T.k_AXES.sq _, T.k_AXES_0.sq _, T.k_AXES_1.sq _, T.k_AXES_2.sq _⟩
 have bs : BT 420 (sl F) := (bd_sl bf).mono
 have ba : BT 420 axT := ⟨⟨bd1, bd0, bd0⟩, ⟨bd0, bd1, bd0⟩, ⟨bd0, bd0, bd1⟩⟩
 refine ⟨_, rfl, _, rfl, sr, sr, sl F, sl F, rfl, stk, stk, bs, bs, fun l1 H2 v1 g2 hl1 t1 => ?_⟩
 refine ⟨_, rfl, sr, t.gAXES, sl F, axT, rfl, stk.up g2, axk _, bs, ba, fun l2 H3 v2 g3 hl2 t2 => ?_⟩
 have n1 : v1.length = 9 := t1.len
 have n2 : v2.length = 9 := t2.len
 refine ⟨l1, l2, _, _, rfl, rfl, g3 _ _ hl1, hl2, Nat.le_trans (by omega : v1.length + v2.length <= 100) (by decide), fun l3 nl3 => ?_⟩
 have g4 := same_new nl3 (.lst (v1 ++ v2))
 refine ⟨t.gAXES, t.gAXES, axT, axT, rfl, axk _, axk _, ba, ba, fun l4 H5 v4 g5 hl4 t4 => ?_⟩
 have n4 : v4.length = 9 := t4.len
 refine ⟨l3, l4, _, _, rfl, rfl, g5 _ _ upd_same, hl4, Nat.le_trans (by rw [List.length_append]; omega : (v1 ++ v2).length + v4.length <= 100) (by decide), fun l5 nl5 => ?_⟩
 have g6 := same_new nl5 (.lst (v1 ++ v2 ++ v4))
 have tu : Tus (upd H5 l5 (.lst (v1 ++ v2 ++ v4))) (v1 ++ v2 ++ v4) (vxs F) := ((((t1.mono g3).app t2).mono (g4.trans g5)).app t4).mono g6
 obtain ⟨v, ev⟩ := vert_ex F
 obtain ⟨nv, kv⟩ := vert z0 ev
 have bv : BP 803 v := (vx_bp bf (List.mem_filter.mp (List.mem_of_head? ev)).1).mono'
 obtain ⟨r, rest, er, hr'⟩ := tu.first ev
 have gA := g1.trans (g2.trans (g3.trans (g4.trans (g5.trans g6))))
 have hl5 : (upd H5 l5 (.lst (v1 ++ v2 ++ v4))) l5 = some (.lst (v1 ++ v2 ++ v4)) := upd_same
 generalize upd H5 l5 (.lst (v1 ++ v2 ++ v4)) = H6 at *
 refine ⟨_, rfl, l5, rfl, ⟨_, SqL.of hl5⟩, compIf_listF (xs := v1 ++ v2 ++ v4) (Nat.lt_of_le_of_lt (by rw [List.length_append, List.length_append]; omega : (v1 ++ v2 ++ v4).length <= 100) (by decide)) (nzH H6) id (fun H' g => SqL.of (g _ _ hl5)) ?_ ?_ ?_⟩
 ·intro i x H' Q' hv g k
  obtain ⟨r', P, rfl, eP, hP⟩ := tu.get hv
  have kk := k H' (Same.refl _)
  rw [nzH_at hP, <- any3] at kk
  exact ⟨_, rfl, r', [P.x, P.y, P.z], rfl, SqT.of (g _ _ hP), _, rfl, kk⟩
 ·intro i x H' Q' hv e g k
  exact ⟨_, rfl, k _ (Same.refl _)⟩
 ·intro la H7 g7 h0 hla
  rw [er] at hla
  refine ⟨la, _, _, _, rfl, rfl, SqL.of hla, at0, false, r, v.x, v.y, v.z, rfl, SqT.of (g7 _ _ hr'), in3_of bv.mono', nv, fun z H8 a b c' d g8 h8 o3 p3 d0 ex ey ez => ?_⟩
  have em : v = tm d ⟨a, b, c'⟩ := P3.ext' ⟨ex, ey, ez⟩
  exact q z0 z H8 ⟨a, b, c'⟩ (gA.trans (g7.trans g8)) h8 ⟨o3, p3⟩ ((bp_div d0 (em ▸ bv)).mono') (tb_tm0 d0 (em ▸ kv))
theorem ok_above_root {f : Addr} {fd : FuncData} (F : Fun K "above_root" "above_root" s_above_root f fd) (T : Txt K mg t)  : FnOk P w K mg base CX0 1 f fd ["number"] (spAbove) := by
 refine F.ok sc_above_root (fun vs H Q E h => ?_) (fun cdv A outer s H vs Q E hr h => ?_)
 ·obtain ⟨n, rfl, _⟩ := h
  rfl
 obtain ⟨n, rfl, n0, n1, q⟩ := h
 refine ⟨_, pss_cons (ps_set (i := 1) sc_above_root.nd rfl (Or.inl rfl) pe_int)
  (pss_cons (ps_while PassesOwn.never (pt_cmpR op_le (pe_op op_mulG (pv 1) (pv 1)) (pv 0) (nomark _)) (pss_one (ps_set (i := 1) sc_above_root.nd rfl (Or.inl rfl) (pe_op op_mulG pe_int (pv 1)))))
  (pss_one (ps_ret (pv 1)))), ?_⟩
 refine ⟨fun m σ H' => ∃ g : Int, σ = [some (.int n), some (.int g)] /\ H' = H /\ 1 <= g /\ g <= 2 * n + 1 /\ m = (n + 1 - g).toNat, ⟨_, 1, rfl, rfl, by omega, by omega, rfl⟩, ?_⟩
 rintro m σ H' ⟨g, rfl, rfl, g0, g1, rfl⟩
 have bg := bits_lit (bits_top (g := g) (by omega) (by omega)) (by decide)
 refine ⟨_, rfl, _, rfl, _, _, rfl, rfl, mulOk bg bg, _, rfl, _, _, rfl, rfl, _, rfl, ?_⟩
 refine ite2 (fun c => ?_) (fun c => ?_)
 ·have c' : g * g <= n := of_decide_eq_true c
  have gn := le_sq g0
  refine ⟨fun σ' H2 => σ' = [some (.int n), some (.int (2 * g))] /\ H2 = H', ?_, ?_⟩
  ·rintro σ' H2 ⟨rfl, rfl⟩
   exact ⟨_, by omega, 2 * g, rfl, rfl, by omega, by omega, rfl⟩
  ·exact ⟨_, rfl, _, _, rfl, rfl, mulOk (bits_lit (k := 2) (by decide) (by decide)) bg, rfl, rfl⟩
 ·have c' : ¬ g * g <= n := of_decide_eq_false (Bool.eq_false_iff.mpr c)
  exact ⟨_, rfl, q g (by omega) g1 (by omega)⟩
theorem ok_root_of {f : Addr} {fd : FuncData} (F : Fun K "root_of" "root_of" s_root_of f fd) (T : Txt K mg t) (H_above_root : Has P w K mg base CX0 1 "above_root" ["number"] (spAbove)) : FnOk P w K mg base CX0 2 f fd ["number"] (spRootE) := by
 obtain ⟨f_above_root, d_above_root, G_above_root, b_above_root, k_above_root, m_above_root⟩ := H_above_root
 refine F.ok sc_root_of (fun vs H Q E h => ?_) (fun cdv A outer s H vs Q E hr h => ?_)
 ·obtain ⟨n, rfl, _⟩ := h
  rfl
 obtain ⟨r, rfl, r0, n1, q⟩ := h
 have hr_above_root := hr.mono (show 1 <= 1 by decide)
 have n0 : 0 <= r * r := Int.mul_nonneg r0 r0
 have fin : ∀ g : Int, 0 <= g -> g * g <= r * r -> r * r < (g + 1) * (g + 1) -> g = r := fun g a b c => root_uniq a b c r0
 generalize r * r = n at *
 refine ⟨_, pss_cons (ps_if (pt_cmpR op_lt (pv 0) pe_int (nomark _)) pss_never pss_nil)
  (pss_cons (ps_set (i := 1) sc_root_of.nd rfl (Or.inl rfl) (pe_call G_above_root hr_above_root rfl m_above_root k_above_root b_above_root .nil pass0 (pa_cons (pv 0) pa_nil)))
  (pss_cons (ps_while PassesOwn.never (pt_cmpR op_gt (pe_op op_mulG (pv 1) (pv 1)) (pv 0) (nomark _)) (pss_one (ps_set (i := 1) sc_root_of.nd rfl (Or.inl rfl) (pe_op op_fdiv (pe_op op_add (pv 1) (pe_op op_fdivL (pv 0) (pv 1))) pe_int))))
  (pss_one (ps_ret (pv 1))))), ?_⟩
 refine ⟨_, rfl, _, _, rfl, rfl, _, rfl, iteDF (show ¬ n < 0 by omega) ?_⟩
 refine ⟨_, rfl, n, rfl, n0, n1, fun g g0 g1 g2 => ?_⟩
 refine ⟨fun m σ H' => ∃ g : Int, σ = [some (.int n), some (.int g)] /\ H' = H /\ 0 <= g /\ g <= 2 * n + 1 /\ n < (g + 1) * (g + 1) /\ m = g.toNat, ⟨_, g, rfl, rfl, g0, g1, ?_, rfl⟩, ?_⟩
 ·have : (g + 1) * (g + 1) = g * g + 2 * g + 1 := by grind
  omega
 rintro m σ H' ⟨g, rfl, rfl, g0, g1, g2, rfl⟩
 have ng := bits_top (g := g) g0 (by omega)
 have bg := bits_lit ng (by decide)
 refine ⟨_, rfl, _, rfl, _, _, rfl, rfl, mulOk bg bg, _, rfl, _, _, rfl, rfl, _, rfl, ?_⟩
 refine ite2 (fun c => ?_) (fun c => ?_)
 ·have c' : n < g * g := of_decide_eq_true c
  obtain ⟨gp, s0, s1, s2⟩ := newton_step n0 g0 c'
  refine ⟨fun σ' H2 => σ' = [some (.int n), some (.int ((g + n.fdiv g) / 2))] /\ H2 = H', ?_, ?_⟩
  ·rintro σ' H2 ⟨rfl, rfl⟩
   exact ⟨_, by omega, _, rfl, rfl, s0, by omega, s2, rfl⟩
  ·exact ⟨_, rfl, _, rfl, _, rfl, _, _, rfl, rfl, ⟨by omega, Nat.lt_of_lt_of_le (log2_lt_of ng (by decide)) (by decide)⟩, _, _, rfl, rfl, _, _, rfl, rfl, ⟨by decide, by decide⟩, rfl, rfl⟩
 ·have c' : ¬ n < g * g := of_decide_eq_false (Bool.eq_false_iff.mpr c)
  have := fin g g0 (by omega) g2
  subst this
  exact ⟨_, rfl, q⟩
theorem ok_off_curve {f : Addr} {fd : FuncData} (F : Fun K "off_curve" "off_curve" s_off_curve f fd) (T : Txt K mg t) (H_added : Has P w K mg base CX0 1 "added" ["one", "other"] (spAddK K)) (H_worth_of : Has P w K mg base CX0 1 "worth_of" ["Q", "P"] (spWoK K)) : FnOk P w K mg base CX0 2 f fd ["Q", "points"] (spOff K) := by
 obtain ⟨f_added, d_added, G_added, b_added, k_added, m_added⟩ := H_added
 obtain ⟨f_worth_of, d_worth_of, G_worth_of, b_worth_of, k_worth_of, m_worth_of⟩ := H_worth_of
 refine F.ok sc_off_curve (fun vs H Q E h => ?_) (fun cdv A outer s H vs Q E hr h => ?_)
 ·obtain ⟨_, _, _, _, _, _, rfl, _⟩ := h
  rfl
 obtain ⟨b, q', p, F, us, Ps, rfl, hF, hp, tu, len, bf, bp, ⟨v, ev⟩, q⟩ := h
 have hr_added := hr.mono (show 1 <= 1 by decide)
 have hr_worth_of := hr.mono (show 1 <= 1 by decide)
 refine ⟨_, pss_cons (ps_set (i := 2) sc_off_curve.nd rfl (Or.inl rfl) (pe_callTy call_list_of rfl T.z_list b_list (pa_cons (pv 1) pa_nil)))
  (pss_cons (ps_for PassesOwn.never rfl (pi_seq (pv 1)) (pg_name (i := 3) sc_off_curve.nd rfl (Or.inr rfl)) (pss_one (ps_expr (pe_bm PySem.F.plainAttrs_list PySem.F.slot_list_extend PySem.F.type_list_extend mt_extend (pv 2) (pa_cons (pe_compC rfl (CompScope.gen (cl := [("one", _)]) ["one"] [3] [(".0", .local), ("other", .local), ("added", .globalImplicit), ("one", .cell)] rfl (by decide +kernel) (by decide +kernel) rfl rfl (by intro p hp; simp only [List.mem_cons, List.not_mem_nil, or_false] at hp; rcases hp with rfl <;> rfl) rfl (by intro p hp h; simp only [List.mem_cons, List.not_mem_nil, or_false] at hp; rcases hp with rfl | rfl | rfl | rfl <;> first | rfl | (rcases h with h | h <;> cases h)) (by decide) (by decide +kernel) rfl (by intro p hp; simp only [List.zip_cons_cons, List.zip_nil_left, List.mem_cons, List.not_mem_nil, or_false] at hp; rcases hp with rfl <;> exact ⟨rfl, rfl⟩)) (pi_seq (pv 1)) (fun C s0 H0 fp pins => pe_call G_added hr_added rfl m_added k_added b_added .nil pass0 (pa_cons (pv 1) (pa_cons (pv 0) pa_nil)))) pa_nil)))))
  (pss_one (ps_ret (pe_ix ix_list (pe_compIfC rfl (CompScope.gen (cl := [("Q", _)]) ["Q"] [0] [(".0", .local), ("point", .local), ("worth_of", .globalImplicit), ("Q", .cell)] rfl (by decide +kernel) (by decide +kernel) rfl rfl (by intro p hp; simp only [List.mem_cons, List.not_mem_nil, or_false] at hp; rcases hp with rfl <;> rfl) rfl (by intro p hp h; simp only [List.mem_cons, List.not_mem_nil, or_false] at hp; rcases hp with rfl | rfl | rfl | rfl <;> first | rfl | (rcases h with h | h <;> cases h)) (by decide) (by decide +kernel) rfl (by intro p hp; simp only [List.zip_cons_cons, List.zip_nil_left, List.mem_cons, List.not_mem_nil, or_false] at hp; rcases hp with rfl <;> exact ⟨rfl, rfl⟩)) (pi_list (pv 2)) (fun C s0 H0 fp pins => pt_cmpR op_ne (pe_call G_worth_of hr_worth_of rfl m_worth_of k_worth_of b_worth_of .nil pass0 (pa_cons (pv 1) (pa_cons (pv 0) pa_nil))) pe_int (nomark _)) (fun C s0 H0 fp pins => pv 0)) pe_int (fun _ _ => rfl))))), ?_⟩
 have ul := tu.len
 refine ⟨_, rfl, p, us, rfl, (by cases b; exact .inr hp; exact .inl hp), fun tl ntl => ?_⟩
 have g0 := same_new ntl (.lst us)
 refine ⟨_, rfl, p, b, us, rfl, hp.up g0, for_seq (xs := us) (fun i σ H' => ∃ (ox : Option V) (ws : List V), σ = [some (.ref q'), some (.ref p), some (.ref tl), ox] /\ Same H H' /\ H' tl = some (.lst ws) /\ TuK K H' ws (Ps ++ (Ps.take i).flatMap fun a => Ps.map (ad a)) /\ ws.length <= 3 + 3 * i) ⟨none, us, rfl, g0, upd_same, by simpa using tu.mono g0, by omega⟩ ?_ ?_ ?_⟩
 ·rintro i σ H' hi ⟨ox, ws, rfl, g, _⟩
  exact hp.up g
 ·rintro i x σ H1 hx ⟨ox, ws, rfl, g, htl, tw, lw⟩
  have hi : i < us.length := (List.getElem?_eq_some_iff.mp hx).1
  obtain ⟨r, P, rfl, eP, hr'⟩ := tu.get hx
  refine ⟨_, rfl, .inl ⟨rfl, _, SqL.of htl⟩, _, rfl, p, b, us, rfl, hp.up g, comp_seqR (xs := us) (Nat.lt_of_le_of_lt (by omega : us.length <= 100) (by decide)) (fun H' g' => hp.up (g.trans g')) (fun j ws' H' => TuK K H' ws' ((Ps.take j).map (ad P))) (fun _ _ => .nil) ?_ ?_⟩
  ·intro j y ws' H2 acc Q' ey g2 h0 ha rr hl k
   obtain ⟨r2, R, rfl, eR, hr2⟩ := tu.get ey
   refine ⟨_, rfl, _, rfl, r, r2, P, R, rfl, hr'.up (g.trans g2), hr2.up (g.trans g2), fun z H3 g3 hz => k _ _ g3 ?_⟩
   rw [List.take_add_one, eR, List.map_append]
   exact ((rr.mono g3).app (.cons (SqT.of hz) .nil)).put (g3 _ _ ha)
  ·intro l H2 ws' g2 _ hl _ rr
   have htl2 := g2 _ _ htl
   rw [ul, List.take_length] at rr
   have wl : ws'.length = Ps.length := by rw [rr.len, List.length_map]
   refine ⟨tl, l, _, _, rfl, rfl, htl2, hl, Nat.le_trans (by omega : ws.length + ws'.length <= 100) (by decide), some (.ref r), ws ++ ws', rfl, putS (g.trans g2) ntl, upd_same, ?_, by rw [List.length_append]; omega⟩
   have e : (Ps ++ (Ps.take (i + 1)).flatMap fun a => Ps.map (ad a)) = (Ps ++ (Ps.take i).flatMap fun a => Ps.map (ad a)) ++ Ps.map (ad P) := by
    rw [List.take_add_one, eP, List.append_assoc]
    simp [List.flatMap_append]
   rw [e]
   exact ((tw.mono g2).app rr).put htl2
 ·rintro σ H1 ⟨ox, ws, rfl, g, htl, tw, lw⟩
  rw [ul, List.take_length] at tw
  have tw' : TuK K H1 ws (offs Ps) := tw
  have wl := tw'.len
  refine ⟨_, rfl, tl, rfl, ⟨_, SqL.of htl⟩, compIf_listI (xs := ws) (Nat.lt_of_le_of_lt (by omega : ws.length <= 100) (by decide)) (offB F (offs Ps)) (fun H' g' => SqL.of (g' _ _ htl)) (OffR K H1 F (offs Ps)) OffR.zero ?_ ?_ ?_ ?_ ?_⟩
  ·intro i x vs ex e r
   obtain ⟨r', P, rfl, eP, hr'⟩ := tw'.get ex
   exact (OffR.step eP hr' r).1 e
  ·intro i x vs ex e r
   obtain ⟨r', P, rfl, eP, hr'⟩ := tw'.get ex
   exact (OffR.step eP hr' r).2 e
  ·intro i x H' Q' ex g' k
   obtain ⟨r', P, rfl, eP, hr'⟩ := tw'.get ex
   have bP := bp_offs bp (List.mem_of_getElem? eP)
   refine ⟨_, rfl, _, rfl, q', r', F, P, rfl, (g.trans g') _ _ hF, hr'.up g', bf.mono, bP.mono', fun H2 g2 => ?_⟩
   have kk := k H2 g2
   rw [offB_at eP] at kk
   refine ⟨rfl, _, rfl, ?_⟩
   have ee : (!decide (V.int (wo F P) = V.int 0)) = (wo F P != 0) := by
    by_cases z : wo F P = 0
    ·rw [z]; rfl
    ·rw [decide_eq_false (fun w => z (int_inj w))]
     simp [z]
   first
    | exact ee ▸ kk
    | (rw [<- ee] at kk; exact kk)
  ·intro i x H' Q' ex g' k
   exact ⟨_, rfl, k _ (Same.refl _)⟩
  ·intro la H7 vs g7 h0 hla rr
   unfold OffR at rr
   rw [wl, List.take_length] at rr
   have ev' : (offs Ps).find? (fun v => wo F v != 0) = some v := ev
   rw [ev'] at rr
   obtain ⟨r', rest, rfl, hr'⟩ := rr
   exact ⟨la, _, _, _, rfl, rfl, SqL.of hla, at0, q r' _ v (g.trans g7) (hr'.up g7) ev⟩
theorem ok_core_of_cores {f : Addr} {fd : FuncData} (F : Fun K "core_of_cores" "core_of_cores" s_core_of_cores f fd) (T : Txt K mg t) (H_shares_of : Has P w K mg base CX0 2 "shares_of" ["one", "other"] (spShares)) : FnOk P w K mg base CX0 3 f fd ["one", "other"] (spCc) := by
 obtain ⟨f_shares_of, d_shares_of, G_shares_of, b_shares_of, k_shares_of, m_shares_of⟩ := H_shares_of
 refine F.ok sc_core_of_cores (fun vs H Q E h => ?_) (fun cdv A outer s H vs Q E hr h => ?_)
 ·obtain ⟨_, _, rfl, _⟩ := h
  rfl
 obtain ⟨a, b, rfl, sa, sb, ba, bb, q⟩ := h
 have hr_shares_of := hr.mono (show 2 <= 2 by decide)
 refine ⟨_, pss_cons (ps_set (i := 2) sc_core_of_cores.nd rfl (Or.inl rfl) (pe_ix ix_tup (pe_call G_shares_of hr_shares_of rfl m_shares_of k_shares_of b_shares_of .nil pass0 (pa_cons (pv 0) (pa_cons (pv 1) pa_nil))) pe_int (fun _ _ => rfl)))
  (pss_one (ps_ret (pe_op op_mulG (pe_op op_fdivL (pv 0) (pv 2)) (pe_op op_fdivL (pv 1) (pv 2))))), ?_⟩
 have la : a.natAbs <= Lm := Nat.le_trans ba (by rw [Lm_eq]; exact Nat.pow_le_pow_right (by decide) (by decide))
 have lb : b.natAbs <= Lm := Nat.le_trans bb (by rw [Lm_eq]; exact Nat.pow_le_pow_right (by decide) (by decide))
 refine ⟨_, rfl, _, rfl, a, b, rfl, la, lb, fun p H1 g s' t' g1 hp g0 eg ka kb _ _ => ?_⟩
 have G := Jc.gr_of sa.n0 g0 eg ka kb
 have gp := G.pos
 obtain ⟨k1, e1⟩ := ka
 obtain ⟨k2, e2⟩ := kb
 have gn : g ≠ 0 := by omega
 have f1 : a.fdiv g = k1 := by rw [e1]; exact Int.mul_fdiv_cancel _ gn
 have f2 : b.fdiv g = k2 := by rw [e2]; exact Int.mul_fdiv_cancel _ gn
 have lg : g.natAbs <= Lm := gcd_le la lb eg e1 e2
 have b1 : Bd 400 k1 := bd_div gn (by rw [Int.mul_comm, <- e1]; exact ba)
 have b2 : Bd 400 k2 := bd_div gn (by rw [Int.mul_comm, <- e2]; exact bb)
 refine ⟨p, _, _, _, rfl, rfl, SqT.of hp, rfl, _, rfl, _, rfl, _, _, rfl, rfl, ⟨gn, Lm_log (by omega)⟩, _, rfl, _, rfl, _, _, rfl, rfl, ⟨gn, Lm_log (by omega)⟩, _, _, rfl, rfl, ?_, ?_⟩
 ·rw [f1, f2]
  exact okM b1 b2
 ·rw [f1, f2]
  exact q _ _ g1 (Jc.cc_of sa sb G (by rw [Int.mul_comm]; exact e1) (by rw [Int.mul_comm]; exact e2)) (b1.mul b2)
theorem ok_cores_of {f : Addr} {fd : FuncData} (F : Fun K "cores_of" "cores_of" s_cores_of f fd) (T : Txt K mg t) (H_core_of : Has P w K mg base CX0 3 "core_of" ["number"] (spCore0)) (H_core_of_cores : Has P w K mg base CX0 3 "core_of_cores" ["one", "other"] (spCc)) : FnOk P w K mg base CX0 4 f fd ["worths", "size"] (spCores) := by
 obtain ⟨f_core_of, d_core_of, G_core_of, b_core_of, k_core_of, m_core_of⟩ := H_core_of
 obtain ⟨f_core_of_cores, d_core_of_cores, G_core_of_cores, b_core_of_cores, k_core_of_cores, m_core_of_cores⟩ := H_core_of_cores
 refine F.ok sc_cores_of (fun vs H Q E h => ?_) (fun cdv A outer s H vs Q E hr h => ?_)
 ·obtain ⟨_, _, _, _, _, _, rfl, _⟩ := h
  rfl
 obtain ⟨p, w1, w2, w3, s, m, rfl, hp, w10, w20, s0, b1, b2, bs, em, q⟩ := h
 have hr_core_of := hr.mono (show 3 <= 3 by decide)
 have hr_core_of_cores := hr.mono (show 3 <= 3 by decide)
 refine ⟨_, pss_cons (ps_set (i := 2) sc_cores_of.nd rfl (Or.inl rfl) (pe_ix ix_tup (pe_call G_core_of hr_core_of rfl m_core_of k_core_of b_core_of .nil pass0 (pa_cons (pe_ix ix_list (pv 0) pe_int (fun _ _ => rfl)) pa_nil)) pe_int (fun _ _ => rfl)))
  (pss_cons (ps_set (i := 3) sc_cores_of.nd rfl (Or.inl rfl) (pe_ix ix_tup (pe_call G_core_of hr_core_of rfl m_core_of k_core_of b_core_of .nil pass0 (pa_cons (pe_ix ix_list (pv 0) pe_int (fun _ _ => rfl)) pa_nil)) pe_int (fun _ _ => rfl)))
  (pss_one (ps_ret (pe_tup (pa_cons (pv 2) (pa_cons (pv 3) (pa_cons (pe_call G_core_of_cores hr_core_of_cores rfl m_core_of_cores k_core_of_cores b_core_of_cores .nil pass0 (pa_cons (pe_call G_core_of_cores hr_core_of_cores rfl m_core_of_cores k_core_of_cores b_core_of_cores .nil pass0 (pa_cons (pv 2) (pa_cons (pv 3) pa_nil))) (pa_cons (pe_ix ix_tup (pe_call G_core_of hr_core_of rfl m_core_of k_core_of b_core_of .nil pass0 (pa_cons (pv 1) pa_nil)) pe_int (fun _ _ => rfl)) pa_nil))) pa_nil))))))), ?_⟩
 refine ⟨_, rfl, p, _, _, _, rfl, rfl, SqL.of hp, rfl, w1, rfl, w10, by omega, by omega, fun p1 xs H1 g1 told1 h1 => ?_⟩
 obtain ⟨sf1, e1, r1⟩ := told_core w10 told1
 refine ⟨p1, _, _, _, rfl, rfl, SqT.of h1, rfl, ?_⟩
 generalize sgn w1 * Pr.coreP xs = c1 at *
 generalize Pr.rootP xs = u1 at *
 refine ⟨_, rfl, p, _, _, _, rfl, rfl, SqL.of (g1 _ _ hp), rfl, w2, rfl, w20, by omega, by omega, fun p2 ys H2 g2 told2 h2 => ?_⟩
 obtain ⟨sf2, e2, r2⟩ := told_core w20 told2
 refine ⟨p2, _, _, _, rfl, rfl, SqT.of h2, rfl, ?_⟩
 generalize sgn w2 * Pr.coreP ys = c2 at *
 generalize Pr.rootP ys = u2 at *
 have d1 : c1 ∣ w1 := ⟨_, e1⟩
 have d2 : c2 ∣ w2 := ⟨_, e2⟩
 have n1 := Jc.nat_dvd d1 w10 b1
 have n2 := Jc.nat_dvd d2 w20 b2
 have bd : ∀ {x : Int}, x.natAbs <= 54000000 -> Bd 100 x := fun h => Nat.le_trans h (by decide)
 refine ⟨_, rfl, _, rfl, _, rfl, _, rfl, c1, c2, rfl, sf1, sf2, (bd (by omega)).mono (by omega), (bd n2).mono (by omega), fun c12 H3 g3 k12 _ => ?_⟩
 have b12 : Bd 400 c12 := by
  obtain ⟨g, g0, eg⟩ := k12.sq
  have : Bd (100 + 100) (c1 * c2) := (bd (by omega)).mul (bd n2)
  rw [eg, Int.mul_comm] at this
  exact (bd_div (Int.mul_ne_zero g0 g0) this).mono (by omega)
 refine ⟨_, rfl, s, rfl, s0, by omega, by omega, fun p3 zs H4 g4 told3 h4 => ?_⟩
 obtain ⟨sf3, e3, r3⟩ := told_core s0 told3
 refine ⟨p3, _, _, _, rfl, rfl, SqT.of h4, rfl, ?_⟩
 generalize sgn s * Pr.coreP zs = cs at *
 generalize Pr.rootP zs = us at *
 have ds : cs ∣ s := ⟨_, e3⟩
 have n3 := Jc.nat_dvd ds s0 bs
 refine ⟨c12, cs, rfl, k12.sf, sf3, b12, (bd (by omega)).mono (by omega), fun c3 H5 g5 k3 _ => ?_⟩
 obtain ⟨u3, r3', e4⟩ := Jc.third_core e1 e2 e3 w10 w20 k12 k3 em
 refine ⟨(by show 3 <= sizeLine; decide), fun r nr => q r _ c1 c2 c3 u1 u2 u3 (g1.trans (g2.trans (g3.trans (g4.trans (g5.trans (same_new nr _)))))) upd_same sf1 sf2 k3.sf e1 e2 e4 r1 r2 r3' fun p' hp' hd => ?_⟩
 rcases k3.dv p' hp' hd with h | h
 ·rcases k12.dv p' hp' h with h | h
  ·exact .inl h
  ·exact .inr (.inl h)
 ·exact .inr (.inr (Int.dvd_trans h ds))
theorem ok_corners_on {f : Addr} {fd : FuncData} (F : Fun K "corners_on" "corners_on" s_corners_on f fd) (T : Txt K mg t) (H_crossing_of : Has P w K mg base CX0 1 "crossing_of" ["one", "other"] (spCrK K)) (H_off_curve : Has P w K mg base CX0 2 "off_curve" ["Q", "points"] (spOff K)) (H_lowest_point : Has P w K mg base CX0 3 "lowest_point" ["P"] (spLowS K)) (H_slopes_of : Has P w K mg base CX0 1 "slopes_of" ["Q"] (spSl)) (H_turned_by : Has P w K mg base CX0 2 "turned_by" ["table", "P"] (spTbK K)) : FnOk P w K mg base CX0 4 f fd ["Q", "line"] (spCorOn K) := by
 obtain ⟨f_crossing_of, d_crossing_of, G_crossing_of, b_crossing_of, k_crossing_of, m_crossing_of⟩ := H_crossing_of
 obtain ⟨f_off_curve, d_off_curve, G_off_curve, b_off_curve, k_off_curve, m_off_curve⟩ := H_off_curve
 obtain ⟨f_lowest_point, d_lowest_point, G_lowest_point, b_lowest_point, k_lowest_point, m_lowest_point⟩ := H_lowest_point
 obtain ⟨f_slopes_of, d_slopes_of, G_slopes_of, b_slopes_of, k_slopes_of, m_slopes_of⟩ := H_slopes_of
 obtain ⟨f_turned_by, d_turned_by, G_turned_by, b_turned_by, k_turned_by, m_turned_by⟩ := H_turned_by
 refine F.ok sc_corners_on (fun vs H Q E h => ?_) (fun cdv A outer s H vs Q E hr h => ?_)
 ·obtain ⟨_, _, _, _, rfl, _⟩ := h
  rfl
 obtain ⟨q', lr, F, P0, rfl, hF, hl, in1, ns, fs, q⟩ := h
 have hr_crossing_of := hr.mono (show 1 <= 3 by decide)
 have hr_off_curve := hr.mono (show 2 <= 3 by decide)
 have hr_lowest_point := hr.mono (show 3 <= 3 by decide)
 have hr_slopes_of := hr.mono (show 1 <= 3 by decide)
 have hr_turned_by := hr.mono (show 2 <= 3 by decide)
 refine ⟨_, pss_cons (ps_set (i := 2) sc_corners_on.nd rfl (Or.inl rfl) (pe_call G_lowest_point hr_lowest_point rfl m_lowest_point k_lowest_point b_lowest_point .nil pass0 (pa_cons (pe_call G_off_curve hr_off_curve rfl m_off_curve k_off_curve b_off_curve .nil pass0 (pa_cons (pv 0) (pa_cons (pe_compC rfl (CompScope.gen (cl := [("line", _)]) ["line"] [1] [(".0", .local), ("axis", .local), ("crossing_of", .globalImplicit), ("line", .cell)] rfl (by decide +kernel) (by decide +kernel) rfl rfl (by intro p hp; simp only [List.mem_cons, List.not_mem_nil, or_false] at hp; rcases hp with rfl <;> rfl) rfl (by intro p hp h; simp only [List.mem_cons, List.not_mem_nil, or_false] at hp; rcases hp with rfl | rfl | rfl | rfl <;> first | rfl | (rcases h with h | h <;> cases h)) (by decide) (by decide +kernel) rfl (by intro p hp; simp only [List.zip_cons_cons, List.zip_nil_left, List.mem_cons, List.not_mem_nil, or_false] at hp; rcases hp with rfl <;> exact ⟨rfl, rfl⟩)) (pi_tup (pe_glob (v := .ref t.gAXES) rfl T.m_AXES rfl)) (fun C s0 H0 fp pins => pe_call G_crossing_of hr_crossing_of rfl m_crossing_of k_crossing_of b_crossing_of .nil pass0 (pa_cons (pv 1) (pa_cons (pv 0) pa_nil)))) pa_nil))) pa_nil)))
  (pss_one (ps_ret (pe_tup (pa_cons (pv 2) (pa_cons (pe_call G_lowest_point hr_lowest_point rfl m_lowest_point k_lowest_point b_lowest_point .nil pass0 (pa_cons (pe_call G_crossing_of hr_crossing_of rfl m_crossing_of k_crossing_of b_crossing_of .nil pass0 (pa_cons (pv 1) (pa_cons (pe_call G_turned_by hr_turned_by rfl m_turned_by k_turned_by b_turned_by .nil pass0 (pa_cons (pe_call G_slopes_of hr_slopes_of rfl m_slopes_of k_slopes_of b_slopes_of .nil pass0 (pa_cons (pv 0) pa_nil)) (pa_cons (pv 2) pa_nil))) pa_nil))) pa_nil)) pa_nil))))), ?_⟩
 have axk : ∀ H' : Hp, SqT K H' t.gAXES [.ref t.gAXES_0, .ref t.gAXES_1, .ref t.gAXES_2] := fun H' => T.k_AXES.sq _
 have tuA : ∀ H' : Hp, TuK K H' [.ref t.gAXES_0, .ref t.gAXES_1, .ref t.gAXES_2] axs := fun H' => .cons (T.k_AXES_0.sq _) (.cons (T.k_AXES_1.sq _) (.cons (T.k_AXES_2.sq _) .nil))
 obtain ⟨bl8, _⟩ := fst_bp fs
 have el : tb (sl F) P0 = tb (sl F) P0 := rfl
 have nl := line_nz fs.w0
 have exo := offF_ex (off_line ns nl)
 generalize el' : tb (sl F) P0 = l at *
 refine ⟨_, rfl, t.gAXES, rfl, ⟨_, axk _⟩, comp_tupR (xs := [.ref t.gAXES_0, .ref t.gAXES_1, .ref t.gAXES_2]) (by show 3 < sizeLine; decide) (fun H' _ => axk H') (fun i ws H' => TuK K H' ws ((axs.take i).map (cr l))) (fun _ _ => .nil) ?_ ?_⟩
 ·intro i x vs H' acc Q' ex g h0 ha rr hv k
  obtain ⟨r, A', rfl, eA, hA⟩ := (tuA H').get ex
  refine ⟨_, rfl, _, rfl, lr, r, l, A', rfl, SqT.of (g _ _ hl), hA, bl8.mono', axs_bp A' (List.mem_of_getElem? eA), fun z H3 g3 hz => k _ _ g3 ?_⟩
  rw [List.take_add_one, eA, List.map_append]
  exact ((rr.mono g3).app (.cons (SqT.of hz) .nil)).put (g3 _ _ ha)
 intro la H1 ws g1 _ hla _ rr
 have rr' : TuK K H1 ws (axs.map (cr l)) := rr
 have bps : ∀ R ∈ axs.map (cr l), BP 300 R := fun R hR => by
  obtain ⟨A', hA, rfl⟩ := List.mem_map.mp hR
  exact (bd_cr2 bl8 (axs_bp (k := 0) A' hA)).mono'
 refine ⟨true, q', la, F, ws, axs.map (cr l), rfl, g1 _ _ hF, SqL.of hla, rr', by simp [axs], in1.bf.mono, bps, exo, fun r H2 v g2 hr2 ev => ?_⟩
 have bv := snd_bd fs ev
 have nv := wo_n3 (offF_nz ev)
 have bv9 : BP 9 v := ⟨Nat.le_trans bv.1 (by decide), Nat.le_trans bv.2.1 (by decide), Nat.le_trans bv.2.2 (by decide)⟩
 refine ⟨false, r, v.x, v.y, v.z, rfl, hr2, in3_of bv9.mono', n3_nz nv, fun r1 H3 a b c d g3 h3 o3 p3 d0 ex ey ez => ?_⟩
 have em : v = tm d ⟨a, b, c⟩ := P3.ext' ⟨ex, ey, ez⟩
 obtain ⟨bl0, wr0, wrb, bR⟩ := sec_of el'.symm in1 fs ev d0 em
 have bR9 := snd_bp d0 em bv
 have g13 := g1.trans (g2.trans g3)
 have h3' : S3 H3 r1 ⟨a, b, c⟩ := h3
 generalize hRe : (⟨a, b, c⟩ : P3) = R at *
 refine ⟨_, rfl, _, rfl, _, rfl, q', F, rfl, g13 _ _ hF, fun sr H4 g4 hs => ?_⟩
 have bsl : BT 8 (sl F) := bd_sl in1.bf
 refine ⟨_, rfl, sr, r1, sl F, R, rfl, hs, SqT.of (g4 _ _ h3'), bsl.mono, bR9.mono', fun kr H5 g5 _ hk => ?_⟩
 have bk : BP 19 (tb (sl F) R) := (bd_tb bsl bR9).mono'
 refine ⟨lr, kr, l, tb (sl F) R, rfl, SqT.of ((g13.trans (g4.trans g5)) _ _ hl), SqT.of hk, bl8.mono', bk.mono', fun c' H6 g6 hc => ?_⟩
 have bc : BP 28 (cr l (tb (sl F) R)) := (bd_cr2 bl8 bk).mono'
 have n3c := third_nz fs.w0 wr0 bl0
 rw [el'] at n3c
 refine ⟨false, c', _, _, _, rfl, SqT.of hc, in3_of bc.mono', n3_nz n3c, fun r2 H7 a2 b2 c2 d2 g7 h7 o7 p7 d20 ex2 ey2 ez2 => ?_⟩
 have em2 : cr l (tb (sl F) R) = tm d2 ⟨a2, b2, c2⟩ := P3.ext' ⟨ex2, ey2, ez2⟩
 have bS : BP 100 (⟨a2, b2, c2⟩ : P3) := (bp_div d20 (em2 ▸ bc)).mono'
 refine ⟨(by show 2 <= sizeLine; decide), fun p np => ?_⟩
 have gp := same_new np (.tup [.ref r1, .ref r2])
 exact q p r1 r2 _ R ⟨a2, b2, c2⟩ (g13.trans (g4.trans (g5.trans (g6.trans (g7.trans gp))))) upd_same ((g4.trans (g5.trans (g6.trans (g7.trans gp)))) _ _ h3') (gp _ _ h7) (crn_of ns fs.w0 wr0 bl0 d20 (by rw [el']; exact em2)) wrb bR bS
theorem ok_corners_of {f : Addr} {fd : FuncData} (F : Fun K "corners_of" "corners_of" s_corners_of f fd) (T : Txt K mg t) (H_off_curve : Has P w K mg base CX0 2 "off_curve" ["Q", "points"] (spOff K)) (H_slopes_of : Has P w K mg base CX0 1 "slopes_of" ["Q"] (spSl)) (H_turned_by : Has P w K mg base CX0 2 "turned_by" ["table", "P"] (spTbK K)) (H_corners_on : Has P w K mg base CX0 4 "corners_on" ["Q", "line"] (spCorOn K)) : FnOk P w K mg base CX0 5 f fd ["Q"] (spCo K) := by
 obtain ⟨f_off_curve, d_off_curve, G_off_curve, b_off_curve, k_off_curve, m_off_curve⟩ := H_off_curve
 obtain ⟨f_slopes_of, d_slopes_of, G_slopes_of, b_slopes_of, k_slopes_of, m_slopes_of⟩ := H_slopes_of
 obtain ⟨f_turned_by, d_turned_by, G_turned_by, b_turned_by, k_turned_by, m_turned_by⟩ := H_turned_by
 obtain ⟨f_corners_on, d_corners_on, G_corners_on, b_corners_on, k_corners_on, m_corners_on⟩ := H_corners_on
 refine F.ok sc_corners_of (fun vs H Q E h => ?_) (fun cdv A outer s H vs Q E hr h => ?_)
 ·obtain ⟨_, _, rfl, _⟩ := h
  rfl
 obtain ⟨q', F, rfl, hF, in1, ns, q⟩ := h
 have hr_off_curve := hr.mono (show 2 <= 4 by decide)
 have hr_slopes_of := hr.mono (show 1 <= 4 by decide)
 have hr_turned_by := hr.mono (show 2 <= 4 by decide)
 have hr_corners_on := hr.mono (show 4 <= 4 by decide)
 refine ⟨_, pss_cons (ps_set (i := 1) sc_corners_of.nd rfl (Or.inl rfl) (pe_call G_off_curve hr_off_curve rfl m_off_curve k_off_curve b_off_curve .nil pass0 (pa_cons (pv 0) (pa_cons (pe_glob (v := .ref t.gAXES) rfl T.m_AXES rfl) pa_nil))))
  (pss_one (ps_ret (pe_op op_catT (pe_tup (pa_cons (pv 1) pa_nil)) (pe_call G_corners_on hr_corners_on rfl m_corners_on k_corners_on b_corners_on .nil pass0 (pa_cons (pv 0) (pa_cons (pe_call G_turned_by hr_turned_by rfl m_turned_by k_turned_by b_turned_by .nil pass0 (pa_cons (pe_call G_slopes_of hr_slopes_of rfl m_slopes_of k_slopes_of b_slopes_of .nil pass0 (pa_cons (pv 0) pa_nil)) (pa_cons (pv 1) pa_nil))) pa_nil)))))), ?_⟩
 have axk : ∀ H' : Hp, SqT K H' t.gAXES [.ref t.gAXES_0, .ref t.gAXES_1, .ref t.gAXES_2] := fun H' => T.k_AXES.sq _
 have tuA : ∀ H' : Hp, TuK K H' [.ref t.gAXES_0, .ref t.gAXES_1, .ref t.gAXES_2] axs := fun H' => .cons (T.k_AXES_0.sq _) (.cons (T.k_AXES_1.sq _) (.cons (T.k_AXES_2.sq _) .nil))
 refine ⟨_, rfl, false, q', t.gAXES, F, _, axs, rfl, hF, axk _, tuA _, by decide, in1.bf.mono, axs_bp, offF_ex (off_axes ns), fun r0 H1 P1 g1 hr0 ev => ?_⟩
 have fs := fst_bd in1 ev
 obtain ⟨bl8, bP⟩ := fst_bp fs
 refine ⟨_, rfl, (by show 1 <= sizeLine; decide), fun p1 np1 => ?_⟩
 have gp1 := same_new np1 (.tup [.ref r0])
 refine ⟨_, rfl, _, rfl, q', F, rfl, gp1 _ _ (g1 _ _ hF), fun sr H2 g2 hs => ?_⟩
 refine ⟨_, rfl, sr, r0, sl F, P1, rfl, hs, hr0.up (gp1.trans g2), (bd_sl in1.bf).mono, bP.mono', fun kr H3 g3 _ hk => ?_⟩
 refine ⟨q', kr, F, P1, rfl, (g1.trans (gp1.trans (g2.trans g3))) _ _ hF, hk, in1, ns, fs, fun r r1 r2 H4 R S g4 hr4 h1 h2 C wR bR bS => ?_⟩
 have g24 := g2.trans (g3.trans g4)
 refine ⟨p1, r, _, _, rfl, rfl, SqT.of (g24 _ _ upd_same), SqT.of hr4, by simp, (by show 3 <= sizeLine; decide), (fun z => by cases z), fun _ p np => ?_⟩
 have gp := same_new np (.tup [.ref r0, .ref r1, .ref r2])
 exact q p r0 r1 r2 _ P1 R S (g1.trans (gp1.trans (g24.trans gp))) upd_same (hr0.up (gp1.trans (g24.trans gp))) (SqT.of (gp _ _ h1)) (SqT.of (gp _ _ h2)) C fs.w wR bP.mono' bR bS
theorem ok_plain_of {f : Addr} {fd : FuncData} (F : Fun K "plain_of" "plain_of" s_plain_of f fd) (T : Txt K mg t) (H_refuse_flat : Has P w K mg base (XD P w) 5 "refuse_flat" ["Q"] (spRfX t.c8)) (H_corners_of : Has P w K mg base CX0 5 "corners_of" ["Q"] (spCo K)) (H_worth_of : Has P w K mg base CX0 1 "worth_of" ["Q", "P"] (spWoK K)) (H_size_of : Has P w K mg base CX0 1 "size_of" ["Q"] (spSize)) (H_cores_of : Has P w K mg base CX0 4 "cores_of" ["worths", "size"] (spCores)) (H_root_of : Has P w K mg base CX0 2 "root_of" ["number"] (spRootE)) (H_shares_of : Has P w K mg base CX0 2 "shares_of" ["one", "other"] (spShares)) (H_lowest_point : Has P w K mg base CX0 3 "lowest_point" ["P"] (spLowS K)) (H_stretched : Has P w K mg base CX0 1 "stretched" ["P", "times"] (spStr K)) (H_turned_over : Has P w K mg base CX0 1 "turned_over" ["table"] (spTrL)) : FnOk P w K mg base (XD P w) 6 f fd ["Q"] (spPofX t.c8) := by
 obtain ⟨f_refuse_flat, d_refuse_flat, G_refuse_flat, b_refuse_flat, k_refuse_flat, m_refuse_flat⟩ := H_refuse_flat
 obtain ⟨f_corners_of, d_corners_of, G_corners_of, b_corners_of, k_corners_of, m_corners_of⟩ := H_corners_of
 obtain ⟨f_worth_of, d_worth_of, G_worth_of, b_worth_of, k_worth_of, m_worth_of⟩ := H_worth_of
 obtain ⟨f_size_of, d_size_of, G_size_of, b_size_of, k_size_of, m_size_of⟩ := H_size_of
 obtain ⟨f_cores_of, d_cores_of, G_cores_of, b_cores_of, k_cores_of, m_cores_of⟩ := H_cores_of
 obtain ⟨f_root_of, d_root_of, G_root_of, b_root_of, k_root_of, m_root_of⟩ := H_root_of
 obtain ⟨f_shares_of, d_shares_of, G_shares_of, b_shares_of, k_shares_of, m_shares_of⟩ := H_shares_of
 obtain ⟨f_lowest_point, d_lowest_point, G_lowest_point, b_lowest_point, k_lowest_point, m_lowest_point⟩ := H_lowest_point
 obtain ⟨f_stretched, d_stretched, G_stretched, b_stretched, k_stretched, m_stretched⟩ := H_stretched
 obtain ⟨f_turned_over, d_turned_over, G_turned_over, b_turned_over, k_turned_over, m_turned_over⟩ := H_turned_over
 refine F.okD sc_plain_of (fun vs H Q E h => ?_) (fun cdv A outer s H vs Q E hr h => ?_)
 ·obtain ⟨_, _, rfl, _⟩ := h
  rfl
 obtain ⟨q', F, rfl, hF, in1, qN, qE⟩ := h
 have hr_refuse_flat := hr.mono (show 5 <= 5 by decide)
 have hr_corners_of := hr.mono (show 5 <= 5 by decide)
 have hr_worth_of := hr.mono (show 1 <= 5 by decide)
 have hr_size_of := hr.mono (show 1 <= 5 by decide)
 have hr_cores_of := hr.mono (show 4 <= 5 by decide)
 have hr_root_of := hr.mono (show 2 <= 5 by decide)
 have hr_shares_of := hr.mono (show 2 <= 5 by decide)
 have hr_lowest_point := hr.mono (show 3 <= 5 by decide)
 have hr_stretched := hr.mono (show 1 <= 5 by decide)
 have hr_turned_over := hr.mono (show 1 <= 5 by decide)
 refine ⟨_, pss_cons (ps_expr (pe_call G_refuse_flat hr_refuse_flat rfl m_refuse_flat k_refuse_flat b_refuse_flat .nil passD (pa_cons (pv 0) pa_nil)))
  (pss_cons (PS.nox (ps_set (i := 1) sc_plain_of.nd rfl (Or.inl rfl) (pe_call G_corners_of hr_corners_of rfl m_corners_of k_corners_of b_corners_of .nil pass0 (pa_cons (pv 0) pa_nil))))
  (pss_cons (PS.nox (ps_setC0 (k := 2) sc_plain_of.nd rfl (Or.inl rfl) rfl rfl (CompScope.gen (cl := [("Q", _)]) ["Q"] [0] [(".0", .local), ("corner", .local), ("worth_of", .globalImplicit), ("Q", .cell)] rfl (by decide +kernel) (by decide +kernel) rfl rfl (by intro p hp; simp only [List.mem_cons, List.not_mem_nil, or_false] at hp; rcases hp with rfl <;> rfl) rfl (by intro p hp h; simp only [List.mem_cons, List.not_mem_nil, or_false] at hp; rcases hp with rfl | rfl | rfl | rfl <;> first | rfl | (rcases h with h | h <;> cases h)) (by decide) (by decide +kernel) rfl (by intro p hp; simp only [List.zip_cons_cons, List.zip_nil_left, List.mem_cons, List.not_mem_nil, or_false] at hp; rcases hp with rfl <;> exact ⟨rfl, rfl⟩)) (pi_tup (pv 1)) (fun C s0 H0 fp pins => pe_call G_worth_of hr_worth_of rfl m_worth_of k_worth_of b_worth_of .nil pass0 (pa_cons (pv 1) (pa_cons (pv 0) pa_nil))) (Or.inl rfl)))
  (pss_cons (PS.nox (ps_set (i := 3) sc_plain_of.nd rfl (Or.inr rfl) (pe_call G_cores_of hr_cores_of rfl m_cores_of k_cores_of b_cores_of .nil pass0 (pa_cons (pv 2) (pa_cons (pe_call G_size_of hr_size_of rfl m_size_of k_size_of b_size_of .nil pass0 (pa_cons (pv 0) pa_nil)) pa_nil)))))
  (pss_cons (PS.nox (ps_set (i := 4) sc_plain_of.nd rfl (Or.inr rfl) (pe_compPair rfl (CompScope2.gen (cl := []) [] [] [(".0", .local), ("worth", .local), ("core", .local), ("root_of", .globalImplicit)] rfl (by decide +kernel) (by decide +kernel) rfl rfl rfl (by intro p hp; cases hp) rfl (by intro p hp h; simp only [List.mem_cons, List.not_mem_nil, or_false] at hp; rcases hp with rfl | rfl | rfl | rfl <;> first | rfl | (rcases h with h | h <;> cases h)) (by decide) (by decide +kernel) rfl (by intro p hp; cases hp)) (pi_zipL rfl T.z_zip (pa_cons (pv 2) (pa_cons (pv 3) pa_nil))) (fun C s0 H0 fp pins => pe_call G_root_of hr_root_of rfl m_root_of k_root_of b_root_of .nil pass0 (pa_cons (pe_op op_fdivL (pv 0) (pv 1)) pa_nil)))))
  (pss_cons (PS.nox (ps_set (i := 5) sc_plain_of.nd rfl (Or.inr rfl) (pe_comp3 rfl (CompScope3.gen (cl := [("cores", _)]) ["cores"] [3] [(".0", .local), ("first", .local), ("second", .local), ("third", .local), ("shares_of", .globalImplicit), ("cores", .cell)] rfl (by decide +kernel) (by decide +kernel) rfl rfl rfl rfl (by intro p hp; simp only [List.mem_cons, List.not_mem_nil, or_false] at hp; rcases hp with rfl <;> rfl) rfl (by intro p hp h; simp only [List.mem_cons, List.not_mem_nil, or_false] at hp; rcases hp with rfl | rfl | rfl | rfl | rfl | rfl <;> first | rfl | (rcases h with h | h <;> cases h)) (by decide) (by decide +kernel) rfl (by intro p hp; simp only [List.zip_cons_cons, List.zip_nil_left, List.mem_cons, List.not_mem_nil, or_false] at hp; rcases hp with rfl <;> exact ⟨rfl, rfl⟩)) (pi_tup (pe_glob (v := .ref t.gTURNS) rfl T.m_TURNS rfl)) (fun C s0 H0 fp pins => pe_ix (ixK_tup (K := K) rfl) (pe_call G_shares_of hr_shares_of rfl m_shares_of k_shares_of b_shares_of .nil pass0 (pa_cons (pe_ix (ixK_tup (K := K) rfl) (pv 3) (pv 1) (fun _ _ => rfl)) (pa_cons (pe_ix (ixK_tup (K := K) rfl) (pv 3) (pv 2) (fun _ _ => rfl)) pa_nil))) pe_int (fun _ _ => rfl)))))
  (pss_cons (PS.nox (ps_setC3 (k := 6) sc_plain_of.nd rfl (Or.inl rfl) rfl rfl (CompScope3.gen (cl := [("shared", _), ("cores", _)]) ["cores", "shared"] [3, 5] [(".0", .local), ("first", .local), ("second", .local), ("third", .local), ("cores", .cell), ("shared", .cell)] rfl (by decide +kernel) (by decide +kernel) rfl rfl rfl rfl (by intro p hp; simp only [List.mem_cons, List.not_mem_nil, or_false] at hp; rcases hp with rfl | rfl <;> rfl) rfl (by intro p hp h; simp only [List.mem_cons, List.not_mem_nil, or_false] at hp; rcases hp with rfl | rfl | rfl | rfl | rfl | rfl <;> first | rfl | (rcases h with h | h <;> cases h)) (by decide) (by decide +kernel) rfl (by intro p hp; simp only [List.zip_cons_cons, List.zip_nil_left, List.mem_cons, List.not_mem_nil, or_false] at hp; rcases hp with rfl | rfl <;> exact ⟨rfl, rfl⟩)) (pi_tup (pe_glob (v := .ref t.gTURNS) rfl T.m_TURNS rfl)) (fun C s0 H0 fp pins => pe_op op_fdivL (pe_op op_mulG (pe_ix (ixK_tup (K := K) rfl) (pv 3) (pv 0) (fun _ _ => rfl)) (pe_ix (ixK_list (K := K) rfl) (pv 4) (pv 0) (fun _ _ => rfl))) (pe_op op_mulG (pe_ix (ixK_list (K := K) rfl) (pv 4) (pv 1) (fun _ _ => rfl)) (pe_ix (ixK_list (K := K) rfl) (pv 4) (pv 2) (fun _ _ => rfl)))) (Or.inl rfl)))
  (pss_cons (PS.nox (ps_set (i := 7) sc_plain_of.nd rfl (Or.inl rfl) (pe_call G_lowest_point hr_lowest_point rfl m_lowest_point k_lowest_point b_lowest_point .nil pass0 (pa_cons (pe_comp3 rfl (CompScope3.gen (cl := [("shared", _), ("roots", _)]) ["roots", "shared"] [4, 5] [(".0", .local), ("first", .local), ("second", .local), ("third", .local), ("roots", .cell), ("shared", .cell)] rfl (by decide +kernel) (by decide +kernel) rfl rfl rfl rfl (by intro p hp; simp only [List.mem_cons, List.not_mem_nil, or_false] at hp; rcases hp with rfl | rfl <;> rfl) rfl (by intro p hp h; simp only [List.mem_cons, List.not_mem_nil, or_false] at hp; rcases hp with rfl | rfl | rfl | rfl | rfl | rfl <;> first | rfl | (rcases h with h | h <;> cases h)) (by decide) (by decide +kernel) rfl (by intro p hp; simp only [List.zip_cons_cons, List.zip_nil_left, List.mem_cons, List.not_mem_nil, or_false] at hp; rcases hp with rfl | rfl <;> exact ⟨rfl, rfl⟩)) (pi_tup (pe_glob (v := .ref t.gTURNS) rfl T.m_TURNS rfl)) (fun C s0 H0 fp pins => pe_op op_mulG (pe_op op_mulG (pe_ix (ixK_list (K := K) rfl) (pv 4) (pv 0) (fun _ _ => rfl)) (pe_ix (ixK_list (K := K) rfl) (pv 3) (pv 1) (fun _ _ => rfl))) (pe_ix (ixK_list (K := K) rfl) (pv 3) (pv 2) (fun _ _ => rfl)))) pa_nil))))
  (pss_cons (PS.nox (ps_set (i := 8) sc_plain_of.nd rfl (Or.inl rfl) (pe_op op_fdivL (pe_op op_mulG (pe_op op_mulG (pe_ix ix_list (pv 2) pe_int (fun _ _ => rfl)) (pe_ix ix_tup (pv 7) pe_int (fun _ _ => rfl))) (pe_ix ix_tup (pv 7) pe_int (fun _ _ => rfl))) (pe_ix ix_list (pv 6) pe_int (fun _ _ => rfl)))))
  (pss_cons (PS.nox (ps_setCP (k := 9) sc_plain_of.nd rfl (Or.inl rfl) rfl rfl (CompScope2.gen (cl := []) [] [] [(".0", .local), ("corner", .local), ("stretch", .local), ("stretched", .globalImplicit)] rfl (by decide +kernel) (by decide +kernel) rfl rfl rfl (by intro p hp; cases hp) rfl (by intro p hp h; simp only [List.mem_cons, List.not_mem_nil, or_false] at hp; rcases hp with rfl | rfl | rfl | rfl <;> first | rfl | (rcases h with h | h <;> cases h)) (by decide) (by decide +kernel) rfl (by intro p hp; cases hp)) (pi_zip rfl T.z_zip (pa_cons (pv 1) (pa_cons (pv 7) pa_nil))) (fun C s0 H0 fp pins => pe_call G_stretched hr_stretched rfl m_stretched k_stretched b_stretched .nil pass0 (pa_cons (pv 0) (pa_cons (pv 1) pa_nil))) (Or.inl rfl)))
  (pss_one (PS.nox (ps_ret (pe_tup (pa_cons (pe_call G_turned_over hr_turned_over rfl m_turned_over k_turned_over b_turned_over .nil pass0 (pa_cons (pv 9) pa_nil)) (pa_cons (pv 8) (pa_cons (pe_callTy call_tuple_of rfl T.z_tuple b_tuple (pa_cons (pv 6) pa_nil)) pa_nil)))))))))))))))), ?_⟩
 have tk : ∀ H' : Hp, SqT K H' t.gTURNS [.ref t.gTURNS_0, .ref t.gTURNS_1, .ref t.gTURNS_2] := fun H' => T.k_TURNS.sq _
 have tr3 : ∀ (H0 : Hp) (i : Nat) (x : V), ([.ref t.gTURNS_0, .ref t.gTURNS_1, .ref t.gTURNS_2] : List V)[i]? = some x -> ∃ u : Addr, x = .ref u /\ ∀ H', Same H0 H' -> SqT K H' u [tn1 i, tn2 i, tn3 i] := fun H0 i x ex => by
  match i, ex with
  | 0, ex => exact ⟨_, (Option.some.inj ex).symm, fun H' _ => T.k_TURNS_0.sq _⟩
  | 1, ex => exact ⟨_, (Option.some.inj ex).symm, fun H' _ => T.k_TURNS_1.sq _⟩
  | 2, ex => exact ⟨_, (Option.some.inj ex).symm, fun H' _ => T.k_TURNS_2.sq _⟩
  | n + 3, ex => cases ex
 have bf : BF 600 F := in1.bf.mono
 refine ⟨_, rfl, q', F, rfl, hF, in1.bf.mono, fun ns => ?_, qE⟩
 have q := qN ns
 refine ⟨_, rfl, q', F, rfl, hF, in1, ns, fun co r0 r1 r2 H1 P1 R S g1 hco h0 h1 h2 C wP wR bP bR bS => ?_⟩
 have hF1 := g1 _ _ hF
 -- worths
 have tu : TuK K H1 [.ref r0, .ref r1, .ref r2] [P1, R, S] := .cons h0 (.cons h1 (.cons h2 .nil))
 refine ⟨_, rfl, co, rfl, ⟨_, SqT.of hco⟩, comp_tupR (xs := [.ref r0, .ref r1, .ref r2]) (by show 3 < sizeLine; decide) (fun H' g => SqT.of (g _ _ hco)) (fun i ws _ => ws = ([.int (wo F P1), .int (wo F R), .int (wo F S)] : List V).take i) (fun _ _ => rfl) ?_ ?_⟩
 ·intro i x vs H' acc Q' ex g _ ha rr hv k
  obtain ⟨r, A', rfl, eA, hA⟩ := tu.get ex
  have bA : BP 600 A' := by
   have hm := List.mem_of_getElem? eA
   simp only [List.mem_cons, List.not_mem_nil, or_false] at hm
   rcases hm with rfl | rfl | rfl
   ·exact bP.mono'
   ·exact bR.mono'
   ·exact bS.mono'
  refine ⟨_, rfl, _, rfl, q', r, F, A', rfl, g _ _ hF1, hA.up g, bf, bA, fun H2 g2 => k _ _ g2 ?_⟩
  have eW : ([.int (wo F P1), .int (wo F R), .int (wo F S)] : List V)[i]? = some (.int (wo F A')) := by
   have : ([P1, R, S].map fun A => V.int (wo F A))[i]? = some (.int (wo F A')) := by rw [List.getElem?_map, eA]; rfl
   exact this
  rw [List.take_add_one, eW, rr]
  rfl
 intro wl H2 ws g2 _ hw _ rr
 have hw' : H2 wl = some (.lst [.int (wo F P1), .int (wo F R), .int (wo F S)]) := by rw [hw, rr]; rfl
 have g12 := g1.trans g2
 -- cores
 refine ⟨_, rfl, _, rfl, q', F, rfl, g12 _ _ hF, bf, wl, wo F P1, wo F R, wo F S, sz F, me ⟨P1, R, S⟩, rfl, hw', C.w1, C.w2, ns, wP, wR, sz_le in1, C.prod, fun cl H3 c1 c2 c3 u1 u2 u3 g3 hc sf1 sf2 sf3 x1 x2 x3 v1 v2 v3' dv => ?_⟩
 have bw1 : Bd 220 (wo F P1) := (bd_wo in1.bf bP).mono (by omega)
 have bw2 : Bd 220 (wo F R) := (bd_wo in1.bf bR).mono (by omega)
 have bw3 : Bd 220 (wo F S) := (bd_wo in1.bf bS).mono (by omega)
 have bc1 : Bd 220 c1 := bd_dvd ⟨_, x1⟩ C.w1 bw1
 have bc2 : Bd 220 c2 := bd_dvd ⟨_, x2⟩ C.w2 bw2
 have bc3 : Bd 220 c3 := bd_dvd ⟨_, x3⟩ C.w3 bw3
 have bu1 : Bd 220 (u1 * u1) := bd_dvd ⟨c1, by rw [Int.mul_comm]; exact x1⟩ C.w1 bw1
 have bu2 : Bd 220 (u2 * u2) := bd_dvd ⟨c2, by rw [Int.mul_comm]; exact x2⟩ C.w2 bw2
 have bu3 : Bd 220 (u3 * u3) := bd_dvd ⟨c3, by rw [Int.mul_comm]; exact x3⟩ C.w3 bw3
 have lg : ∀ {x : Int}, Bd 900 x -> x.natAbs.log2 < 9000 := fun {x} h => Lm_log (Nat.le_trans h (by rw [Lm_eq]; exact Nat.le_trans (Nat.pow_le_pow_right (by decide) (by decide : 900 <= 1000)) (by omega)))
 have lm : ∀ {x : Int}, Bd 220 x -> x.natAbs <= Lm := fun {x} h => Nat.le_trans h (by rw [Lm_eq]; exact Nat.pow_le_pow_right (by decide) (by decide))
 -- roots
 refine ⟨_, rfl, _, rfl, wl, cl, _, _, rfl, SqL.of (g3 _ _ hw'), SqT.of hc, compP_zipLR (xs := [.int (wo F P1), .int (wo F R), .int (wo F S)]) (ys := [.int c1, .int c2, .int c3]) (fun H' g => SqL.of (g _ _ (g3 _ _ hw'))) (fun H' g => SqT.of (g _ _ hc)) rfl (by show 3 < sizeLine; decide)
  (fun i vs _ => vs = ([.int u1, .int u2, .int u3] : List V).take i) (fun _ _ => rfl) (fun _ _ _ _ _ h => h) ?_ ?_⟩
 ·intro i x y vs H' acc Q' ex ey g _ ha rr hv k
  match i, ex, ey, rr with
  | 0, ex, ey, rr =>
   obtain rfl : V.int (wo F P1) = x := Option.some.inj ex
   obtain rfl : V.int c1 = y := Option.some.inj ey
   have f : (wo F P1).fdiv c1 = u1 * u1 := by rw [x1]; exact Int.mul_fdiv_cancel_left _ sf1.n0
   exact ⟨_, rfl, _, rfl, _, _, rfl, rfl, ⟨sf1.n0, lg (bc1.mono (by omega))⟩, u1, (by show [V.int ((wo F P1).fdiv c1)] = _; rw [f]), v1, (bd_top (bu1.mono (by omega))).2, k _ _ (Same.refl _) (by rw [rr]; rfl)⟩
  | 1, ex, ey, rr =>
   obtain rfl : V.int (wo F R) = x := Option.some.inj ex
   obtain rfl : V.int c2 = y := Option.some.inj ey
   have f : (wo F R).fdiv c2 = u2 * u2 := by rw [x2]; exact Int.mul_fdiv_cancel_left _ sf2.n0
   exact ⟨_, rfl, _, rfl, _, _, rfl, rfl, ⟨sf2.n0, lg (bc2.mono (by omega))⟩, u2, (by show [V.int ((wo F R).fdiv c2)] = _; rw [f]), v2, (bd_top (bu2.mono (by omega))).2, k _ _ (Same.refl _) (by rw [rr]; rfl)⟩
  | 2, ex, ey, rr =>
   obtain rfl : V.int (wo F S) = x := Option.some.inj ex
   obtain rfl : V.int c3 = y := Option.some.inj ey
   have f : (wo F S).fdiv c3 = u3 * u3 := by rw [x3]; exact Int.mul_fdiv_cancel_left _ sf3.n0
   exact ⟨_, rfl, _, rfl, _, _, rfl, rfl, ⟨sf3.n0, lg (bc3.mono (by omega))⟩, u3, (by show [V.int ((wo F S).fdiv c3)] = _; rw [f]), v3', (bd_top (bu3.mono (by omega))).2, k _ _ (Same.refl _) (by rw [rr]; rfl)⟩
  | n + 3, ex, ey, rr => cases ex
 intro rl H4 us g4 _ hrl _ rr
 have hrl' : H4 rl = some (.lst [.int u1, .int u2, .int u3]) := by rw [hrl, rr]; rfl
 have hc4 := g4 _ _ hc
 -- shared
 have G1 := gr_gcd (b := c3) sf2.n0
 have G2 := gr_gcd (b := c1) sf3.n0
 have G3 := gr_gcd (b := c2) sf1.n0
 refine ⟨t.gTURNS, rfl, ⟨_, tk _⟩, comp3_tupF (xs := [.ref t.gTURNS_0, .ref t.gTURNS_1, .ref t.gTURNS_2]) (fun H' _ => tk H') (by show 3 < sizeLine; decide) tn1 tn2 tn3 (of3 (Int.gcd c2 c3 : Int) (Int.gcd c3 c1 : Int) (Int.gcd c1 c2 : Int)) (tr3 _) ?_ ?_⟩
 ·intro i H' Q' hi g k
  have hc' := g _ _ hc4
  obtain rfl | rfl | rfl := lt3 hi
  ·exact ⟨_, rfl, _, rfl, cl, _, _, _, rfl, rfl, SqT.of hc', rfl, _, rfl, _, rfl, cl, _, _, _, rfl, rfl, SqT.of hc', rfl, c2, c3, rfl, lm bc2, lm bc3, fun p H2 g s' t' g2 hp g0 eg ka kb _ _ => ⟨p, _, _, _, rfl, rfl, SqT.of hp, rfl, by
    rw [gcd_is g0 eg ka kb]
    exact k _ g2⟩⟩
  ·exact ⟨_, rfl, _, rfl, cl, _, _, _, rfl, rfl, SqT.of hc', rfl, _, rfl, _, rfl, cl, _, _, _, rfl, rfl, SqT.of hc', rfl, c3, c1, rfl, lm bc3, lm bc1, fun p H2 g s' t' g2 hp g0 eg ka kb _ _ => ⟨p, _, _, _, rfl, rfl, SqT.of hp, rfl, by
    rw [gcd_is g0 eg ka kb]
    exact k _ g2⟩⟩
  ·exact ⟨_, rfl, _, rfl, cl, _, _, _, rfl, rfl, SqT.of hc', rfl, _, rfl, _, rfl, cl, _, _, _, rfl, rfl, SqT.of hc', rfl, c1, c2, rfl, lm bc1, lm bc2, fun p H2 g s' t' g2 hp g0 eg ka kb _ _ => ⟨p, _, _, _, rfl, rfl, SqT.of hp, rfl, by
    rw [gcd_is g0 eg ka kb]
    exact k _ g2⟩⟩
 intro sl' H5 g5 _ hs5
 have hs5' : H5 sl' = some (.lst [.int (Int.gcd c2 c3 : Int), .int (Int.gcd c3 c1 : Int), .int (Int.gcd c1 c2 : Int)]) := hs5
 obtain ⟨q1, e1⟩ := Jc.tri_dvd sf1 G1 G2 G3
 obtain ⟨q2, e2⟩ := Jc.tri_dvd sf2 G2 G3 G1
 obtain ⟨q3, e3⟩ := Jc.tri_dvd sf3 G3 G1 G2
 rw [Int.mul_comm _ q1] at e1
 rw [Int.mul_comm _ q2] at e2
 rw [Int.mul_comm _ q3] at e3
 have p1 := G1.pos
 have p2 := G2.pos
 have p3 := G3.pos
 have bg1 : Bd 220 (Int.gcd c2 c3 : Int) := bd_dvd G1.da sf2.n0 bc2
 have bg2 : Bd 220 (Int.gcd c3 c1 : Int) := bd_dvd G2.da sf3.n0 bc3
 have bg3 : Bd 220 (Int.gcd c1 c2 : Int) := bd_dvd G3.da sf1.n0 bc1
 obtain ⟨n1, n2, n3⟩ := Jc.tri_le sf1 sf2 sf3 G1 G2 G3 e1 e2 e3 ⟨_, x1⟩ ⟨_, x2⟩ dv C.w1 C.w2 ns wP wR (sz_le in1)
 have al : ∀ {L s1 s2 s3 : Int}, _ := fun {L s1 s2 s3} => pof_all (L := L) (s1 := s1) (s2 := s2) (s3 := s3) C sf1 sf2 sf3 x1 x2 x3 e1 e2 e3
 generalize (Int.gcd c2 c3 : Int) = d1 at *
 generalize (Int.gcd c3 c1 : Int) = d2 at *
 generalize (Int.gcd c1 c2 : Int) = d3 at *
 have m23 : d2 * d3 ≠ 0 := Int.mul_ne_zero (by omega) (by omega)
 have m31 : d3 * d1 ≠ 0 := Int.mul_ne_zero (by omega) (by omega)
 have m12 : d1 * d2 ≠ 0 := Int.mul_ne_zero (by omega) (by omega)
 have hc5 := g5 _ _ hc4
 have hrl5 := g5 _ _ hrl'
 -- plain
 refine ⟨t.gTURNS, rfl, ⟨_, tk _⟩, comp3_tupF (xs := [.ref t.gTURNS_0, .ref t.gTURNS_1, .ref t.gTURNS_2]) (fun H' _ => tk H') (by show 3 < sizeLine; decide) tn1 tn2 tn3 (of3 q1 q2 q3) (tr3 _) ?_ ?_⟩
 ·intro i H' Q' hi g k
  have hc' := g _ _ hc5
  have hs' := g _ _ hs5'
  obtain rfl | rfl | rfl := lt3 hi
  ·exact ⟨_, rfl, _, rfl, cl, _, _, _, rfl, rfl, SqT.of hc', rfl, _, rfl, _, rfl, sl', _, _, _, rfl, rfl, SqL.of hs', rfl, _, _, rfl, rfl, okM bc1 bg1, _, rfl, _, rfl, sl', _, _, _, rfl, rfl, SqL.of hs', rfl, _, rfl, _, rfl, sl', _, _, _, rfl, rfl, SqL.of hs', rfl, _, _, rfl, rfl, okM bg2 bg3, _, _, rfl, rfl, ⟨m23, lg ((bg2.mul bg3).mono (by omega))⟩, by
    show Q' (V.int ((c1 * d1).fdiv (d2 * d3))) H'
    rw [ex_quot m23 e1]
    exact k _ (Same.refl _)⟩
  ·exact ⟨_, rfl, _, rfl, cl, _, _, _, rfl, rfl, SqT.of hc', rfl, _, rfl, _, rfl, sl', _, _, _, rfl, rfl, SqL.of hs', rfl, _, _, rfl, rfl, okM bc2 bg2, _, rfl, _, rfl, sl', _, _, _, rfl, rfl, SqL.of hs', rfl, _, rfl, _, rfl, sl', _, _, _, rfl, rfl, SqL.of hs', rfl, _, _, rfl, rfl, okM bg3 bg1, _, _, rfl, rfl, ⟨m31, lg ((bg3.mul bg1).mono (by omega))⟩, by
    show Q' (V.int ((c2 * d2).fdiv (d3 * d1))) H'
    rw [ex_quot m31 e2]
    exact k _ (Same.refl _)⟩
  ·exact ⟨_, rfl, _, rfl, cl, _, _, _, rfl, rfl, SqT.of hc', rfl, _, rfl, _, rfl, sl', _, _, _, rfl, rfl, SqL.of hs', rfl, _, _, rfl, rfl, okM bc3 bg3, _, rfl, _, rfl, sl', _, _, _, rfl, rfl, SqL.of hs', rfl, _, rfl, _, rfl, sl', _, _, _, rfl, rfl, SqL.of hs', rfl, _, _, rfl, rfl, okM bg1 bg2, _, _, rfl, rfl, ⟨m12, lg ((bg1.mul bg2).mono (by omega))⟩, by
    show Q' (V.int ((c3 * d3).fdiv (d1 * d2))) H'
    rw [ex_quot m12 e3]
    exact k _ (Same.refl _)⟩
 intro pl H6 g6 _ hpl
 have hpl' : H6 pl = some (.lst [.int q1, .int q2, .int q3]) := hpl
 have hs6 := g6 _ _ hs5'
 have hrl6 := g6 _ _ hrl5
 have bv1 := bd_sq bu1
 have bv2 := bd_sq bu2
 have bv3 := bd_sq bu3
 -- stretches
 refine ⟨t.gTURNS, rfl, ⟨_, tk _⟩, comp3_tupF (xs := [.ref t.gTURNS_0, .ref t.gTURNS_1, .ref t.gTURNS_2]) (fun H' _ => tk H') (by show 3 < sizeLine; decide) tn1 tn2 tn3 (of3 (d1 * u2 * u3) (d2 * u3 * u1) (d3 * u1 * u2)) (tr3 _) ?_ ?_⟩
 ·intro i H' Q' hi g k
  have hs' := g _ _ hs6
  have hr' := g _ _ hrl6
  obtain rfl | rfl | rfl := lt3 hi
  ·exact ⟨_, rfl, _, rfl, sl', _, _, _, rfl, rfl, SqL.of hs', rfl, _, rfl, _, rfl, rl, _, _, _, rfl, rfl, SqL.of hr', rfl, _, _, rfl, rfl, okM bg1 bv2, _, rfl, _, rfl, rl, _, _, _, rfl, rfl, SqL.of hr', rfl, _, _, rfl, rfl, okM (bg1.mul bv2) bv3, k _ (Same.refl _)⟩
  ·exact ⟨_, rfl, _, rfl, sl', _, _, _, rfl, rfl, SqL.of hs', rfl, _, rfl, _, rfl, rl, _, _, _, rfl, rfl, SqL.of hr', rfl, _, _, rfl, rfl, okM bg2 bv3, _, rfl, _, rfl, rl, _, _, _, rfl, rfl, SqL.of hr', rfl, _, _, rfl, rfl, okM (bg2.mul bv3) bv1, k _ (Same.refl _)⟩
  ·exact ⟨_, rfl, _, rfl, sl', _, _, _, rfl, rfl, SqL.of hs', rfl, _, rfl, _, rfl, rl, _, _, _, rfl, rfl, SqL.of hr', rfl, _, _, rfl, rfl, okM bg3 bv1, _, rfl, _, rfl, rl, _, _, _, rfl, rfl, SqL.of hr', rfl, _, _, rfl, rfl, okM (bg3.mul bv1) bv2, k _ (Same.refl _)⟩
 intro stl H7 g7 _ hst
 have hst' : H7 stl = some (.lst [.int (d1 * u2 * u3), .int (d2 * u3 * u1), .int (d3 * u1 * u2)]) := hst
 have u20 : u2 ≠ 0 := fun z => C.w2 (by rw [x2, z]; simp)
 have u30 : u3 ≠ 0 := fun z => C.w3 (by rw [x3, z]; simp)
 have bL1 : Bd 660 (d1 * u2 * u3) := ((bg1.mul bv2).mul bv3).mono (by omega)
 have bL2 : Bd 660 (d2 * u3 * u1) := ((bg2.mul bv3).mul bv1).mono (by omega)
 have bL3 : Bd 660 (d3 * u1 * u2) := ((bg3.mul bv1).mul bv2).mono (by omega)
 refine ⟨true, stl, _, _, _, rfl, SqL.of hst', ⟨bd_top (bL1.mono (by omega)), bd_top (bL2.mono (by omega)), bd_top (bL3.mono (by omega))⟩, .inl (Int.mul_ne_zero (Int.mul_ne_zero (by omega) u20) u30), fun sr H8 s1 s2 s3 L g8 hsr _ _ L0 l1 l2 l3 => ?_⟩
 obtain ⟨_, k0, rfl, m0, ech, pln⟩ := al L0 l1 l2 l3
 have bs1 : Bd 660 s1 := bd_div L0 (l1 ▸ bL1)
 have bs2 : Bd 660 s2 := bd_div L0 (l2 ▸ bL2)
 have bs3 : Bd 660 s3 := bd_div L0 (l3 ▸ bL3)
 have hsr' : H8 sr = some (.tup [.int s1, .int s2, .int s3]) := hsr
 have g38 := g3.trans (g4.trans (g5.trans (g6.trans (g7.trans g8))))
 have hw8 := g38 _ _ hw'
 have hpl8 := (g7.trans g8) _ _ hpl'
 have bq1 : Bd 900 q1 := Nat.le_trans n1 (by decide +kernel)
 -- scale
 refine ⟨_, rfl, wl, _, _, _, rfl, rfl, SqL.of hw8, rfl, _, rfl, sr, _, _, _, rfl, rfl, SqT.of hsr', rfl, _, _, rfl, rfl, okM bw1 bs1, _, rfl, sr, _, _, _, rfl, rfl, SqT.of hsr', rfl, _, _, rfl, rfl, okM (bw1.mul bs1) bs1, _, rfl, pl, _, _, _, rfl, rfl, SqL.of hpl8, rfl, _, _, rfl, rfl, ⟨pln.a0, lg bq1⟩, ?_⟩
 -- columns
 have g28 := g2.trans g38
 have hco8 := g28 _ _ hco
 refine ⟨_, rfl, _, rfl, co, sr, _, _, rfl, SqT.of hco8, SqT.of hsr', compP_zipR (xs := [.ref r0, .ref r1, .ref r2]) (ys := [.int s1, .int s2, .int s3]) (fun H' g => SqT.of (g _ _ hco8)) (fun H' g => SqT.of (g _ _ hsr')) rfl (by show 3 < sizeLine; decide)
  (fun i vs H' => Tus H' vs ([tm s1 P1, tm s2 R, tm s3 S].take i)) (fun _ _ => .nil) (fun _ _ _ _ g h => h.mono g) ?_ ?_⟩
 ·intro i x y vs H' acc Q' ex ey g _ ha rr hv kk
  match i, ex, ey, rr with
  | 0, ex, ey, rr =>
   obtain rfl : V.ref r0 = x := Option.some.inj ex
   obtain rfl : V.int s1 = y := Option.some.inj ey
   refine ⟨_, rfl, _, rfl, r0, P1, s1, rfl, (h0.up g28).up g, bP.mono', bs1.mono (by omega), fun z H2 g2 hz => kk _ _ g2 ?_⟩
   rw [st_eq] at hz
   exact ((rr.mono g2).app (.cons hz .nil)).put (g2 _ _ ha)
  | 1, ex, ey, rr =>
   obtain rfl : V.ref r1 = x := Option.some.inj ex
   obtain rfl : V.int s2 = y := Option.some.inj ey
   refine ⟨_, rfl, _, rfl, r1, R, s2, rfl, (h1.up g28).up g, bR.mono', bs2.mono (by omega), fun z H2 g2 hz => kk _ _ g2 ?_⟩
   rw [st_eq] at hz
   exact ((rr.mono g2).app (.cons hz .nil)).put (g2 _ _ ha)
  | 2, ex, ey, rr =>
   obtain rfl : V.ref r2 = x := Option.some.inj ex
   obtain rfl : V.int s3 = y := Option.some.inj ey
   refine ⟨_, rfl, _, rfl, r2, S, s3, rfl, (h2.up g28).up g, bS.mono', bs3.mono (by omega), fun z H2 g2 hz => kk _ _ g2 ?_⟩
   rw [st_eq] at hz
   exact ((rr.mono g2).app (.cons hz .nil)).put (g2 _ _ ha)
  | n + 3, ex, ey, rr => cases ex
 intro cl2 H9 vs g9 _ hcl2 _ rr
 have rr' : Tus H9 vs [tm s1 P1, tm s2 R, tm s3 S] := rr
 cases rr' with
 | cons t0 rr' =>
  cases rr' with
  | cons t1 rr' =>
   cases rr' with
   | cons t2 rr' =>
    cases rr'
    refine ⟨_, rfl, cl2, ⟨tm s1 P1, tm s2 R, tm s3 S⟩, rfl, ⟨_, _, _, hcl2, t0, t1, t2⟩, fun ta H10 g10 hta => ?_⟩
    have hpl10 := (g9.trans g10) _ _ hpl8
    refine ⟨_, rfl, _, rfl, pl, _, rfl, .inl ⟨SqL.of hpl10, fun pr npr => ?_⟩⟩
    have gpr := same_new npr (.tup [.int q1, .int q2, .int q3])
    refine ⟨(by show 3 <= sizeLine; decide), fun p np => ?_⟩
    have gp := same_new np (.tup [.ref ta, .int ((wo F P1 * s1 * s1).fdiv q1), .ref pr])
    have bt : BT 800 (tr ⟨tm s1 P1, tm s2 R, tm s3 S⟩) := bd_tr ⟨(bp_tm bs1 bP).mono', (bp_tm bs2 bR).mono', (bp_tm bs3 bS).mono'⟩
    have bk : Bd 1540 ((wo F P1 * s1 * s1).fdiv q1) := by
     have e : ((wo F P1 * s1 * s1).fdiv q1) * q1 = wo F P1 * s1 * s1 := by
      have := congrArg F6.a ech
      rw [ch_str C] at this
      exact this.symm
     have : Bd (220 + 660 + 660) (q1 * ((wo F P1 * s1 * s1).fdiv q1)) := by rw [Int.mul_comm, e]; exact (bw1.mul bs1).mul bs1
     exact bd_div pln.a0 this
    exact q p ta pr _ _ _ q1 q2 q3 (g1.trans (g28.trans (g9.trans (g10.trans (gpr.trans gp))))) upd_same ((hta.mono gpr).mono gp) (gp _ _ upd_same) k0 m0 ech pln n1 n2 n3 bt bk
theorem ok_of {f : Addr} {fd : FuncData} (F : Fun K "_law_of" "_law_of" s_of f fd) (T : Txt K mg t)  : FnOk P w K mg base CX0 1 f fd ["_law_script", "_law_k"] (spOf K) := by
 refine F.ok sc_of (fun vs H Q E h => ?_) (fun cdv A outer s H vs Q E hr h => ?_)
 ·obtain ⟨a, ns, k, rfl, _⟩ := h
  rfl
 obtain ⟨a, ns, k, rfl, hS, h0, h1, q⟩ := h
 refine ⟨_, pss_cons (ps_if (pt_cmpR op_lt (pv 1) (pe_callB call_len_seq rfl T.z_len PySem.boot_len (pa_cons (pv 0) pa_nil)) (nomark _)) (pss_one (ps_ret (pe_ix ix_list (pv 0) (pv 1) (fun _ _ => rfl)))) pss_nil)
  (pss_one (ps_ret (pe_op op_add (pe_op op_mulG pe_int (pv 1)) pe_int))), ?_⟩
 refine ⟨_, rfl, _, rfl, a, _, rfl, .inl hS, _, _, rfl, rfl, _, rfl, ?_⟩
 refine ite2 (fun c => ?_) (fun c => ?_)
 ·exact ⟨_, rfl, _, rfl, a, _, _, _, rfl, rfl, hS, cell_in h0 (decT c), q _⟩
 ·exact ⟨_, rfl, _, _, rfl, rfl, mulS (by omega) (by omega), _, _, rfl, rfl, q _⟩
theorem ok_drawn {f : Addr} {fd : FuncData} (F : Fun K "_law_drawn" "_law_drawn" s_drawn f fd) (T : Txt K mg t)  : FnOk P w K mg base CX0 1 f fd ["_law_cell", "_law_prime", "_law_many"] (spDrawn) := by
 refine F.ok sc_drawn (fun vs H Q E h => ?_) (fun cdv A outer s H vs Q E hr h => ?_)
 ·obtain ⟨_, _, _, rfl, _⟩ := h
  rfl
 obtain ⟨c, p, m, rfl, p0, p1, m0, q⟩ := h
 refine ⟨_, pss_cons (ps_set (i := 3) sc_drawn.nd rfl (Or.inl rfl) (pe_op op_add (pe_op op_mod (pv 0) (pv 1)) pe_int))
  (pss_one (ps_ret (pe_op op_mod (pe_op op_mod (pe_op op_add (pe_op op_mulG (pe_op op_mulG (pv 3) (pv 3)) (pv 3)) (pe_op op_mulG pe_int (pv 3))) pe_int) (pv 2)))), ?_⟩
 refine ⟨_, rfl, _, rfl, _, _, rfl, rfl, p0, _, _, rfl, rfl, ?_⟩
 have h1 := Int.emod_nonneg c (show p ≠ 0 by omega)
 have h2 := Int.emod_lt_of_pos c p0
 refine ⟨_, rfl, _, rfl, _, _, rfl, rfl, mulS (by omega) (by omega), _, rfl, _, _, rfl, rfl, mulS (by omega) (by omega), _, rfl, _, _, rfl, rfl, mulS (by omega) (by omega), _, _, rfl, rfl, _, _, rfl, rfl, (by show (0 : Int) < 999983; decide), _, rfl, _, _, rfl, rfl, m0, ?_⟩
 exact q _ (Int.emod_nonneg _ (by omega)) (Int.emod_lt_of_pos _ m0)
theorem ok_row_times {f : Addr} {fd : FuncData} (F : Fun K "_law_row_times" "_law_row_times" s_row_times f fd) (T : Txt K mg t)  : FnOk P w K mg base CX0 1 f fd ["_law_row", "_law_other"] (spRt) := by
 refine F.ok sc_row_times (fun vs H Q E h => ?_) (fun cdv A outer s H vs Q E hr h => ?_)
 ·obtain ⟨_, _, _, _, rfl, _⟩ := h
  rfl
 obtain ⟨p, q', r, t', rfl, hp, hq, br, bt, q⟩ := h
 refine ⟨_, pss_one (ps_ret (pe_compK rfl (CompScopeK.gen (cl := [("_law_row", _), ("_law_other", _)]) ["_law_other", "_law_row"] [1, 0] [(".0", .local), ("_law_m", .cell), ("sum", .globalImplicit), ("range", .globalImplicit), ("_law_other", .cell), ("_law_row", .cell)] rfl (fun _ => rfl) (fun _ => rfl) (by decide +kernel) rfl (by intro p hp; simp only [List.mem_cons, List.not_mem_nil, or_false] at hp; rcases hp with rfl | rfl <;> rfl) rfl rfl (by intro p hp h; simp only [List.mem_cons, List.not_mem_nil, or_false] at hp; rcases hp with rfl | rfl | rfl | rfl | rfl | rfl <;> first | exact Or.inr rfl | exact Or.inl rfl | (rcases h with h | h <;> cases h)) (by decide) (by decide +kernel) rfl (by intro p hp; simp only [List.zip_cons_cons, List.zip_nil_left, List.mem_cons, List.not_mem_nil, or_false] at hp; rcases hp with rfl | rfl <;> exact ⟨rfl, rfl⟩)) (pi_range1 rfl T.z_range (pa_cons pe_int pa_nil)) (fun C s0 H0 fp pins => pe_callB (call_sum rfl) rfl T.z_sum b_sum (pa_cons (pe_compC rfl (CompScope.gen (cl := [("_law_row", _), ("_law_other", _), ("_law_m", _)]) ["_law_m", "_law_other", "_law_row"] [0, 1, 2] [(".0", .local), ("_law_k", .local), ("_law_m", .cell), ("_law_other", .cell), ("_law_row", .cell)] rfl (by decide +kernel) (by decide +kernel) rfl rfl (by intro p hp; simp only [List.mem_cons, List.not_mem_nil, or_false] at hp; rcases hp with rfl | rfl | rfl <;> rfl) rfl (by intro p hp h; simp only [List.mem_cons, List.not_mem_nil, or_false] at hp; rcases hp with rfl | rfl | rfl | rfl | rfl <;> first | rfl | (rcases h with h | h <;> cases h)) (by decide) (by decide +kernel) rfl (by intro p hp; simp only [List.zip_cons_cons, List.zip_nil_left, List.mem_cons, List.not_mem_nil, or_false] at hp; rcases hp with rfl | rfl | rfl <;> exact ⟨rfl, rfl⟩)) (pi_range1 rfl T.z_range (pa_cons pe_int pa_nil)) (fun C s0 H0 fp pins => pe_op op_mulG (pe_ix (ixK_list (K := K) rfl) (pv 3) (pv 0) (fun _ _ => rfl)) (pe_ix (ixK_seq (K := K) rfl) (pe_ix (ixK_seq (K := K) rfl) (pv 2) (pv 0) (fun _ _ => rfl)) (pv 1) (fun _ _ => rfl)))) pa_nil)))), ?_⟩
 have bt' := bd_tr bt
 refine ⟨3, rfl, by decide, by decide, comp_rangeF 3 (by decide) (fun m => .int ([(rt r t').x, (rt r t').y, (rt r t').z].getD m 0)) ?_ (fun z H' g nz hz => q z H' g nz hz)⟩
 intro m H' Q' hm g k
 have hp1 := g _ _ hp
 refine ⟨3, rfl, by decide, by decide, comp_rangeF 3 (by decide) (fun j => .int ([r.x * ([t'.r0.x, t'.r0.y, t'.r0.z].getD m 0), r.y * ([t'.r1.x, t'.r1.y, t'.r1.z].getD m 0), r.z * ([t'.r2.x, t'.r2.y, t'.r2.z].getD m 0)].getD j 0)) ?_ ?_⟩
 ·intro j H2 Q2 hj g2 k2'
  have hp2 := g2 _ _ hp1
  rcases hq with hq | ⟨r0, r1, r2, hq, h0, h1, h2⟩
  ·obtain ⟨r0, r1, r2, hqq, h0, h1, h2⟩ := (hq.mono g).mono g2
   obtain rfl | rfl | rfl : m = 0 \/ m = 1 \/ m = 2 := by omega
   ·obtain rfl | rfl | rfl : j = 0 \/ j = 1 \/ j = 2 := by omega
    ·exact ⟨_, rfl, _, rfl, p, _, _, _, rfl, rfl, SqL.of hp2, rfl, _, rfl, _, rfl, .inr (.inl ⟨q', _, _, _, rfl, rfl, SqT.of hqq, rfl, _, rfl, .inr (.inl ⟨r0, _, _, _, rfl, rfl, SqT.of h0, rfl, _, _, rfl, rfl, okM br.x bt.r0.x, k2' _ (Same.refl _)⟩)⟩)⟩
    ·exact ⟨_, rfl, _, rfl, p, _, _, _, rfl, rfl, SqL.of hp2, rfl, _, rfl, _, rfl, .inr (.inl ⟨q', _, _, _, rfl, rfl, SqT.of hqq, rfl, _, rfl, .inr (.inl ⟨r1, _, _, _, rfl, rfl, SqT.of h1, rfl, _, _, rfl, rfl, okM br.y bt.r1.x, k2' _ (Same.refl _)⟩)⟩)⟩
    ·exact ⟨_, rfl, _, rfl, p, _, _, _, rfl, rfl, SqL.of hp2, rfl, _, rfl, _, rfl, .inr (.inl ⟨q', _, _, _, rfl, rfl, SqT.of hqq, rfl, _, rfl, .inr (.inl ⟨r2, _, _, _, rfl, rfl, SqT.of h2, rfl, _, _, rfl, rfl, okM br.z bt.r2.x, k2' _ (Same.refl _)⟩)⟩)⟩
   ·obtain rfl | rfl | rfl : j = 0 \/ j = 1 \/ j = 2 := by omega
    ·exact ⟨_, rfl, _, rfl, p, _, _, _, rfl, rfl, SqL.of hp2, rfl, _, rfl, _, rfl, .inr (.inl ⟨q', _, _, _, rfl, rfl, SqT.of hqq, rfl, _, rfl, .inr (.inl ⟨r0, _, _, _, rfl, rfl, SqT.of h0, rfl, _, _, rfl, rfl, okM br.x bt.r0.y, k2' _ (Same.refl _)⟩)⟩)⟩
    ·exact ⟨_, rfl, _, rfl, p, _, _, _, rfl, rfl, SqL.of hp2, rfl, _, rfl, _, rfl, .inr (.inl ⟨q', _, _, _, rfl, rfl, SqT.of hqq, rfl, _, rfl, .inr (.inl ⟨r1, _, _, _, rfl, rfl, SqT.of h1, rfl, _, _, rfl, rfl, okM br.y bt.r1.y, k2' _ (Same.refl _)⟩)⟩)⟩
    ·exact ⟨_, rfl, _, rfl, p, _, _, _, rfl, rfl, SqL.of hp2, rfl, _, rfl, _, rfl, .inr (.inl ⟨q', _, _, _, rfl, rfl, SqT.of hqq, rfl, _, rfl, .inr (.inl ⟨r2, _, _, _, rfl, rfl, SqT.of h2, rfl, _, _, rfl, rfl, okM br.z bt.r2.y, k2' _ (Same.refl _)⟩)⟩)⟩
   ·obtain rfl | rfl | rfl : j = 0 \/ j = 1 \/ j = 2 := by omega
    ·exact ⟨_, rfl, _, rfl, p, _, _, _, rfl, rfl, SqL.of hp2, rfl, _, rfl, _, rfl, .inr (.inl ⟨q', _, _, _, rfl, rfl, SqT.of hqq, rfl, _, rfl, .inr (.inl ⟨r0, _, _, _, rfl, rfl, SqT.of h0, rfl, _, _, rfl, rfl, okM br.x bt.r0.z, k2' _ (Same.refl _)⟩)⟩)⟩
    ·exact ⟨_, rfl, _, rfl, p, _, _, _, rfl, rfl, SqL.of hp2, rfl, _, rfl, _, rfl, .inr (.inl ⟨q', _, _, _, rfl, rfl, SqT.of hqq, rfl, _, rfl, .inr (.inl ⟨r1, _, _, _, rfl, rfl, SqT.of h1, rfl, _, _, rfl, rfl, okM br.y bt.r1.z, k2' _ (Same.refl _)⟩)⟩)⟩
    ·exact ⟨_, rfl, _, rfl, p, _, _, _, rfl, rfl, SqL.of hp2, rfl, _, rfl, _, rfl, .inr (.inl ⟨q', _, _, _, rfl, rfl, SqT.of hqq, rfl, _, rfl, .inr (.inl ⟨r2, _, _, _, rfl, rfl, SqT.of h2, rfl, _, _, rfl, rfl, okM br.z bt.r2.z, k2' _ (Same.refl _)⟩)⟩)⟩
  ·obtain rfl | rfl | rfl : m = 0 \/ m = 1 \/ m = 2 := by omega
   ·obtain rfl | rfl | rfl : j = 0 \/ j = 1 \/ j = 2 := by omega
    ·exact ⟨_, rfl, _, rfl, p, _, _, _, rfl, rfl, SqL.of hp2, rfl, _, rfl, _, rfl, .inl ⟨q', _, _, _, rfl, rfl, SqL.of (g2 _ _ (g _ _ hq)), rfl, _, rfl, .inl ⟨r0, _, _, _, rfl, rfl, SqL.of (g2 _ _ (g _ _ h0)), rfl, _, _, rfl, rfl, okM br.x bt.r0.x, k2' _ (Same.refl _)⟩⟩⟩
    ·exact ⟨_, rfl, _, rfl, p, _, _, _, rfl, rfl, SqL.of hp2, rfl, _, rfl, _, rfl, .inl ⟨q', _, _, _, rfl, rfl, SqL.of (g2 _ _ (g _ _ hq)), rfl, _, rfl, .inl ⟨r1, _, _, _, rfl, rfl, SqL.of (g2 _ _ (g _ _ h1)), rfl, _, _, rfl, rfl, okM br.y bt.r1.x, k2' _ (Same.refl _)⟩⟩⟩
    ·exact ⟨_, rfl, _, rfl, p, _, _, _, rfl, rfl, SqL.of hp2, rfl, _, rfl, _, rfl, .inl ⟨q', _, _, _, rfl, rfl, SqL.of (g2 _ _ (g _ _ hq)), rfl, _, rfl, .inl ⟨r2, _, _, _, rfl, rfl, SqL.of (g2 _ _ (g _ _ h2)), rfl, _, _, rfl, rfl, okM br.z bt.r2.x, k2' _ (Same.refl _)⟩⟩⟩
   ·obtain rfl | rfl | rfl : j = 0 \/ j = 1 \/ j = 2 := by omega
    ·exact ⟨_, rfl, _, rfl, p, _, _, _, rfl, rfl, SqL.of hp2, rfl, _, rfl, _, rfl, .inl ⟨q', _, _, _, rfl, rfl, SqL.of (g2 _ _ (g _ _ hq)), rfl, _, rfl, .inl ⟨r0, _, _, _, rfl, rfl, SqL.of (g2 _ _ (g _ _ h0)), rfl, _, _, rfl, rfl, okM br.x bt.r0.y, k2' _ (Same.refl _)⟩⟩⟩
    ·exact ⟨_, rfl, _, rfl, p, _, _, _, rfl, rfl, SqL.of hp2, rfl, _, rfl, _, rfl, .inl ⟨q', _, _, _, rfl, rfl, SqL.of (g2 _ _ (g _ _ hq)), rfl, _, rfl, .inl ⟨r1, _, _, _, rfl, rfl, SqL.of (g2 _ _ (g _ _ h1)), rfl, _, _, rfl, rfl, okM br.y bt.r1.y, k2' _ (Same.refl _)⟩⟩⟩
    ·exact ⟨_, rfl, _, rfl, p, _, _, _, rfl, rfl, SqL.of hp2, rfl, _, rfl, _, rfl, .inl ⟨q', _, _, _, rfl, rfl, SqL.of (g2 _ _ (g _ _ hq)), rfl, _, rfl, .inl ⟨r2, _, _, _, rfl, rfl, SqL.of (g2 _ _ (g _ _ h2)), rfl, _, _, rfl, rfl, okM br.z bt.r2.y, k2' _ (Same.refl _)⟩⟩⟩
   ·obtain rfl | rfl | rfl : j = 0 \/ j = 1 \/ j = 2 := by omega
    ·exact ⟨_, rfl, _, rfl, p, _, _, _, rfl, rfl, SqL.of hp2, rfl, _, rfl, _, rfl, .inl ⟨q', _, _, _, rfl, rfl, SqL.of (g2 _ _ (g _ _ hq)), rfl, _, rfl, .inl ⟨r0, _, _, _, rfl, rfl, SqL.of (g2 _ _ (g _ _ h0)), rfl, _, _, rfl, rfl, okM br.x bt.r0.z, k2' _ (Same.refl _)⟩⟩⟩
    ·exact ⟨_, rfl, _, rfl, p, _, _, _, rfl, rfl, SqL.of hp2, rfl, _, rfl, _, rfl, .inl ⟨q', _, _, _, rfl, rfl, SqL.of (g2 _ _ (g _ _ hq)), rfl, _, rfl, .inl ⟨r1, _, _, _, rfl, rfl, SqL.of (g2 _ _ (g _ _ h1)), rfl, _, _, rfl, rfl, okM br.y bt.r1.z, k2' _ (Same.refl _)⟩⟩⟩
    ·exact ⟨_, rfl, _, rfl, p, _, _, _, rfl, rfl, SqL.of hp2, rfl, _, rfl, _, rfl, .inl ⟨q', _, _, _, rfl, rfl, SqL.of (g2 _ _ (g _ _ hq)), rfl, _, rfl, .inl ⟨r2, _, _, _, rfl, rfl, SqL.of (g2 _ _ (g _ _ h2)), rfl, _, _, rfl, rfl, okM br.z bt.r2.z, k2' _ (Same.refl _)⟩⟩⟩
 ·intro l H3 g3 _ hl3
  refine ⟨l, [r.x * ([t'.r0.x, t'.r0.y, t'.r0.z].getD m 0), r.y * ([t'.r1.x, t'.r1.y, t'.r1.z].getD m 0), r.z * ([t'.r2.x, t'.r2.y, t'.r2.z].getD m 0)], rfl, hl3, ?_⟩
  rw [sum3]
  have z := k _ g3
  obtain rfl | rfl | rfl : m = 0 \/ m = 1 \/ m = 2 := by omega
  ·exact z
  ·exact z
  ·exact z
theorem ok_changed {f : Addr} {fd : FuncData} (F : Fun K "_law_changed" "_law_changed" s_changed f fd) (T : Txt K mg t) (H_row_times : Has P w K mg base CX0 1 "_law_row_times" ["_law_row", "_law_other"] (spRt)) : FnOk P w K mg base CX0 2 f fd ["_law_form_here", "_law_table"] (spLc) := by
 obtain ⟨f_row_times, d_row_times, G_row_times, b_row_times, k_row_times, m_row_times⟩ := H_row_times
 refine F.ok sc_changed (fun vs H Q E h => ?_) (fun cdv A outer s H vs Q E hr h => ?_)
 ·obtain ⟨_, _, _, _, rfl, _⟩ := h
  rfl
 obtain ⟨p, q', F, t', rfl, hp, ht, bf, bt, q⟩ := h
 have hr_row_times := hr.mono (show 1 <= 1 by decide)
 unfold S6 at hp
 refine ⟨_, pss_cons (ps_asg (pv 0) (pg_tup rfl (pgs_cons (pg_name (i := 6) sc_changed.nd rfl (Or.inl rfl)) (pgs_cons (pg_name (i := 7) sc_changed.nd rfl (Or.inl rfl)) (pgs_cons (pg_name (i := 8) sc_changed.nd rfl (Or.inl rfl)) (pgs_cons (pg_name (i := 9) sc_changed.nd rfl (Or.inl rfl)) (pgs_cons (pg_name (i := 10) sc_changed.nd rfl (Or.inl rfl)) (pgs_cons (pg_name (i := 11) sc_changed.nd rfl (Or.inl rfl)) pgs_nil))))))))
  (pss_cons (ps_set (i := 2) sc_changed.nd rfl (Or.inr rfl) (pe_lst (pa_cons (pe_lst (pa_cons (pe_op op_mulG pe_int (pv 6)) (pa_cons (pv 11) (pa_cons (pv 10) pa_nil)))) (pa_cons (pe_lst (pa_cons (pv 11) (pa_cons (pe_op op_mulG pe_int (pv 7)) (pa_cons (pv 9) pa_nil)))) (pa_cons (pe_lst (pa_cons (pv 10) (pa_cons (pv 9) (pa_cons (pe_op op_mulG pe_int (pv 8)) pa_nil)))) pa_nil)))))
  (pss_cons (ps_setCK (k := 3) sc_changed.nd rfl (Or.inl rfl) rfl rfl (CompScopeK.gen (cl := [("_law_table", _)]) ["_law_table"] [1] [(".0", .local), ("_law_j", .cell), ("range", .globalImplicit), ("_law_table", .cell)] rfl (fun _ => rfl) (fun _ => rfl) (by decide +kernel) rfl (by intro p hp; simp only [List.mem_cons, List.not_mem_nil, or_false] at hp; rcases hp with rfl <;> rfl) rfl rfl (by intro p hp h; simp only [List.mem_cons, List.not_mem_nil, or_false] at hp; rcases hp with rfl | rfl | rfl | rfl <;> first | exact Or.inr rfl | exact Or.inl rfl | (rcases h with h | h <;> cases h)) (by decide) (by decide +kernel) rfl (by intro p hp; simp only [List.zip_cons_cons, List.zip_nil_left, List.mem_cons, List.not_mem_nil, or_false] at hp; rcases hp with rfl <;> exact ⟨rfl, rfl⟩)) (pi_range1 rfl T.z_range (pa_cons pe_int pa_nil)) (fun C s0 H0 fp pins => pe_compC rfl (CompScope.gen (cl := [("_law_table", _), ("_law_j", _)]) ["_law_j", "_law_table"] [0, 1] [(".0", .local), ("_law_k", .local), ("_law_j", .cell), ("_law_table", .cell)] rfl (by decide +kernel) (by decide +kernel) rfl rfl (by intro p hp; simp only [List.mem_cons, List.not_mem_nil, or_false] at hp; rcases hp with rfl | rfl <;> rfl) rfl (by intro p hp h; simp only [List.mem_cons, List.not_mem_nil, or_false] at hp; rcases hp with rfl | rfl | rfl | rfl <;> first | rfl | (rcases h with h | h <;> cases h)) (by decide) (by decide +kernel) rfl (by intro p hp; simp only [List.zip_cons_cons, List.zip_nil_left, List.mem_cons, List.not_mem_nil, or_false] at hp; rcases hp with rfl | rfl <;> exact ⟨rfl, rfl⟩)) (pi_range1 rfl T.z_range (pa_cons pe_int pa_nil)) (fun C s0 H0 fp pins => pe_ix (ixK_tup (K := K) rfl) (pe_ix (ixK_tup (K := K) rfl) (pv 2) (pv 0) (fun _ _ => rfl)) (pv 1) (fun _ _ => rfl))) (Or.inl rfl))
  (pss_cons (ps_setC0 (k := 4) sc_changed.nd rfl (Or.inl rfl) rfl rfl (CompScope.gen (cl := [("_law_doubled", _)]) ["_law_doubled"] [2] [(".0", .local), ("_law_row", .local), ("_law_row_times", .globalImplicit), ("_law_doubled", .cell)] rfl (by decide +kernel) (by decide +kernel) rfl rfl (by intro p hp; simp only [List.mem_cons, List.not_mem_nil, or_false] at hp; rcases hp with rfl <;> rfl) rfl (by intro p hp h; simp only [List.mem_cons, List.not_mem_nil, or_false] at hp; rcases hp with rfl | rfl | rfl | rfl <;> first | rfl | (rcases h with h | h <;> cases h)) (by decide) (by decide +kernel) rfl (by intro p hp; simp only [List.zip_cons_cons, List.zip_nil_left, List.mem_cons, List.not_mem_nil, or_false] at hp; rcases hp with rfl <;> exact ⟨rfl, rfl⟩)) (pi_list (pv 3)) (fun C s0 H0 fp pins => pe_call G_row_times hr_row_times rfl m_row_times k_row_times b_row_times .nil pass0 (pa_cons (pv 0) (pa_cons (pv 1) pa_nil))) (Or.inl rfl))
  (pss_cons (ps_setC0 (k := 5) sc_changed.nd rfl (Or.inl rfl) rfl rfl (CompScope.gen (cl := [("_law_table", _)]) ["_law_table"] [1] [(".0", .local), ("_law_row", .local), ("_law_row_times", .globalImplicit), ("_law_table", .cell)] rfl (by decide +kernel) (by decide +kernel) rfl rfl (by intro p hp; simp only [List.mem_cons, List.not_mem_nil, or_false] at hp; rcases hp with rfl <;> rfl) rfl (by intro p hp h; simp only [List.mem_cons, List.not_mem_nil, or_false] at hp; rcases hp with rfl | rfl | rfl | rfl <;> first | rfl | (rcases h with h | h <;> cases h)) (by decide) (by decide +kernel) rfl (by intro p hp; simp only [List.zip_cons_cons, List.zip_nil_left, List.mem_cons, List.not_mem_nil, or_false] at hp; rcases hp with rfl <;> exact ⟨rfl, rfl⟩)) (pi_list (pv 4)) (fun C s0 H0 fp pins => pe_call G_row_times hr_row_times rfl m_row_times k_row_times b_row_times .nil pass0 (pa_cons (pv 0) (pa_cons (pv 1) pa_nil))) (Or.inl rfl))
  (pss_one (ps_ret (pe_tup (pa_cons (pe_op op_fdiv (pe_ix ix_list (pe_ix ix_list (pv 5) pe_int (fun _ _ => rfl)) pe_int (fun _ _ => rfl)) pe_int) (pa_cons (pe_op op_fdiv (pe_ix ix_list (pe_ix ix_list (pv 5) pe_int (fun _ _ => rfl)) pe_int (fun _ _ => rfl)) pe_int) (pa_cons (pe_op op_fdiv (pe_ix ix_list (pe_ix ix_list (pv 5) pe_int (fun _ _ => rfl)) pe_int (fun _ _ => rfl)) pe_int) (pa_cons (pe_ix ix_list (pe_ix ix_list (pv 5) pe_int (fun _ _ => rfl)) pe_int (fun _ _ => rfl)) (pa_cons (pe_ix ix_list (pe_ix ix_list (pv 5) pe_int (fun _ _ => rfl)) pe_int (fun _ _ => rfl)) (pa_cons (pe_ix ix_list (pe_ix ix_list (pv 5) pe_int (fun _ _ => rfl)) pe_int (fun _ _ => rfl)) pa_nil))))))))))))), ?_⟩
 refine ⟨_, rfl, p, _, rfl, SqT.of hp, rfl, _, _, rfl, _, _, rfl, _, _, rfl, _, _, rfl, _, _, rfl, _, _, rfl, rfl, ?_⟩
 refine ⟨_, rfl, _, _, rfl, rfl, ok2, _, rfl, _, rfl, (by show 3 <= sizeLine; decide), fun d0 n0 => ⟨_, rfl, _, rfl, _, _, rfl, rfl, ok2, _, rfl, (by show 3 <= sizeLine; decide), fun d1 n1 => ⟨_, rfl, _, rfl, _, rfl, _, _, rfl, rfl, ok2, (by show 3 <= sizeLine; decide), fun d2 n2 => ⟨(by show 3 <= sizeLine; decide), fun d3 n3 => ?_⟩⟩⟩⟩
 have f0 := same_new n0 (l3 (sl F).r0)
 have f1 := same_new n1 (l3 (sl F).r1)
 have f2 := same_new n2 (l3 (sl F).r2)
 have f3 := same_new n3 (.lst [.ref d0, .ref d1, .ref d2])
 have gd := f0.trans (f1.trans (f2.trans f3))
 have hd := OT.mono (Same.refl _) (.inr ⟨d0, d1, d2, upd_same, (f1.trans (f2.trans f3)) d0 _ upd_same, (f2.trans f3) d1 _ upd_same, f3 d2 _ upd_same⟩ : OT _ d3 (sl F))
 have ht1 := ht.mono gd
 generalize (upd _ d3 _ : Hp) = H1 at gd hd ht1 ⊢
 have btr := bd_tr bt
 refine ⟨3, rfl, by decide, by decide, comp_range 3 (by decide) (Laid fun j => l3 (rowOf (tr t') j)) (fun _ _ => Laid.zero) ?_ ?_⟩
 ·intro i vs H' acc Q' hi g h0 ha r hl k
  refine ⟨3, rfl, by decide, by decide, comp_rangeF 3 (by decide) (fun m => .int (cmp (rowOf (tr t') i) m)) ?_ ?_⟩
  ·intro m H2 Q2 hm g2 k2'
   obtain ⟨r0, r1, r2, hq, h0', h1', h2'⟩ := (ht1.mono g).mono g2
   obtain ⟨z, ez, ez2⟩ := atR (r0 := r0) (r1 := r1) (r2 := r2) hm
   have hz := row_at (S := fun r P => S3 H2 r P) h0' h1' h2' ez2
   refine ⟨_, rfl, _, rfl, q', _, _, _, rfl, rfl, SqT.of hq, ez, _, rfl, z, _, _, _, rfl, rfl, SqT.of hz, at3 hi, ?_⟩
   have e := cmp_tr t' hi hm
   have kk := k2' H2 (Same.refl _)
   rw [e] at kk
   exact kk
  ·intro l H3 g3 nl hl3
   exact k _ _ g3 (r.next g3 ha nl hl3 fun j => Laid.ne r _)
 intro fl H2 vs g2 _ hfl _ r
 obtain ⟨s0, s1, s2, rfl, e0, e1, e2⟩ := r.three
 clear r
 have bsl := bd_sl bf
 refine ⟨_, rfl, fl, rfl, ⟨_, SqL.of hfl⟩, comp_listR (xs := [.ref s0, .ref s1, .ref s2]) (by show 3 < sizeLine; decide) (fun H' g => SqL.of (g _ _ hfl)) (Laid fun j => l3 (rt (rowOf (tr t') j) (sl F))) (fun _ _ => Laid.zero) ?_ ?_⟩
 ·intro i x vs H' acc Q' ex g h0 ha r hl k
  obtain ⟨z, rfl, hz⟩ := row_get (S := fun r P => H' r = some (l3 P)) (t := tr t') (g _ _ e0) (g _ _ e1) (g _ _ e2) ex
  exact ⟨_, rfl, _, rfl, z, d3, _, _, rfl, hz, (hd.mono g2).mono g, (bd_row btr i).mono (by decide), BT.mono bsl (by decide), fun y H3 g3 ny hy => k _ _ g3 (r.next g3 ha ny hy fun j => Laid.ne r _)⟩
 intro ha' H3 vs g3 _ hha _ r
 obtain ⟨u0, u1, u2, rfl, i0, i1, i2⟩ := r.three
 clear r
 have brt : ∀ j, BP 2000 (rt (rowOf (tr t') j) (sl F)) := fun j => (bd_rt (bd_row btr j) bsl).mono (by decide)
 refine ⟨_, rfl, ha', rfl, ⟨_, SqL.of hha⟩, comp_listR (xs := [.ref u0, .ref u1, .ref u2]) (by show 3 < sizeLine; decide) (fun H' g => SqL.of (g _ _ hha)) (Laid fun j => l3 (rt (rt (rowOf (tr t') j) (sl F)) t')) (fun _ _ => Laid.zero) ?_ ?_⟩
 ·intro i x vs H' acc Q' ex g h0 ha r hl k
  obtain ⟨z, rfl, hz⟩ := row_get (S := fun r P => H' r = some (l3 P)) (t := ⟨rt (rowOf (tr t') 0) (sl F), rt (rowOf (tr t') 1) (sl F), rt (rowOf (tr t') 2) (sl F)⟩) (g _ _ i0) (g _ _ i1) (g _ _ i2) ex
  have ei : rowOf (⟨rt (rowOf (tr t') 0) (sl F), rt (rowOf (tr t') 1) (sl F), rt (rowOf (tr t') 2) (sl F)⟩ : T3) i = rt (rowOf (tr t') i) (sl F) := match i with
   | 0 => rfl
   | 1 => rfl
   | n + 2 => rfl
  rw [ei] at hz
  exact ⟨_, rfl, _, rfl, z, q', _, t', rfl, hz, .inl (((ht1.mono g2).mono g3).mono g), brt i, BT.mono bt (by decide), fun y H3 g3 ny hy => k _ _ g3 (r.next g3 ha ny hy fun j => Laid.ne r _)⟩
 intro wh H4 vs g4 _ hwh _ r
 obtain ⟨w0, w1, w2, rfl, j0, j1, j2⟩ := r.three
 refine ⟨_, rfl, wh, _, _, _, rfl, rfl, SqL.of hwh, rfl, w0, _, _, _, rfl, rfl, SqL.of j0, rfl, _, _, rfl, rfl, ⟨by decide, by decide⟩, _, rfl, wh, _, _, _, rfl, rfl, SqL.of hwh, rfl, w1, _, _, _, rfl, rfl, SqL.of j1, rfl, _, _, rfl, rfl, ⟨by decide, by decide⟩, _, rfl, wh, _, _, _, rfl, rfl, SqL.of hwh, rfl, w2, _, _, _, rfl, rfl, SqL.of j2, rfl, _, _, rfl, rfl, ⟨by decide, by decide⟩, _, rfl, wh, _, _, _, rfl, rfl, SqL.of hwh, rfl, w1, _, _, _, rfl, rfl, SqL.of j1, rfl, _, rfl, wh, _, _, _, rfl, rfl, SqL.of hwh, rfl, w0, _, _, _, rfl, rfl, SqL.of j0, rfl, _, rfl, wh, _, _, _, rfl, rfl, SqL.of hwh, rfl, w0, _, _, _, rfl, rfl, SqL.of j0, rfl, (by show 6 <= sizeLine; decide), fun z nz => q z _ (gd.trans (g2.trans (g3.trans (g4.trans (same_new nz _))))) ?_⟩
 unfold S6
 rw [<- lc_eq]
 exact upd_same
theorem ok_worth {f : Addr} {fd : FuncData} (F : Fun K "_law_worth" "_law_worth" s_worth f fd) (T : Txt K mg t)  : FnOk P w K mg base CX0 1 f fd ["_law_form_here", "_law_point"] (spLw) := by
 refine F.ok sc_worth (fun vs H Q E h => ?_) (fun cdv A outer s H vs Q E hr h => ?_)
 ·obtain ⟨_, _, _, _, rfl, _⟩ := h
  rfl
 obtain ⟨p, q', F, P', rfl, hp, hq, bf, bp, q⟩ := h
 unfold S3 at hq
 unfold S6 at hp
 refine ⟨_, pss_cons (ps_asg (pv 0) (pg_tup rfl (pgs_cons (pg_name (i := 3) sc_worth.nd rfl (Or.inl rfl)) (pgs_cons (pg_name (i := 4) sc_worth.nd rfl (Or.inl rfl)) (pgs_cons (pg_name (i := 5) sc_worth.nd rfl (Or.inl rfl)) (pgs_cons (pg_name (i := 6) sc_worth.nd rfl (Or.inl rfl)) (pgs_cons (pg_name (i := 7) sc_worth.nd rfl (Or.inl rfl)) (pgs_cons (pg_name (i := 8) sc_worth.nd rfl (Or.inl rfl)) pgs_nil))))))))
  (pss_cons (ps_asg (pv 1) (pg_tup rfl (pgs_cons (pg_name (i := 9) sc_worth.nd rfl (Or.inl rfl)) (pgs_cons (pg_name (i := 10) sc_worth.nd rfl (Or.inl rfl)) (pgs_cons (pg_name (i := 11) sc_worth.nd rfl (Or.inl rfl)) pgs_nil)))))
  (pss_cons (ps_set (i := 2) sc_worth.nd rfl (Or.inl rfl) (pe_op op_add (pe_op op_add (pe_op op_mulG (pe_op op_mulG (pv 3) (pv 9)) (pv 9)) (pe_op op_mulG (pe_op op_mulG (pv 4) (pv 10)) (pv 10))) (pe_op op_mulG (pe_op op_mulG (pv 5) (pv 11)) (pv 11))))
  (pss_one (ps_ret (pe_op op_add (pe_op op_add (pe_op op_add (pv 2) (pe_op op_mulG (pe_op op_mulG (pv 6) (pv 10)) (pv 11))) (pe_op op_mulG (pe_op op_mulG (pv 7) (pv 9)) (pv 11))) (pe_op op_mulG (pe_op op_mulG (pv 8) (pv 9)) (pv 10))))))), ?_⟩
 refine ⟨_, rfl, p, _, rfl, SqT.of hp, rfl, _, _, rfl, _, _, rfl, _, _, rfl, _, _, rfl, _, _, rfl, _, _, rfl, rfl, ?_⟩
 refine ⟨_, rfl, q', _, rfl, SqT.of hq, rfl, _, _, rfl, _, _, rfl, _, _, rfl, rfl, ?_⟩
 refine ⟨_, rfl, _, rfl, _, _, rfl, rfl, okM bf.a bp.x, _, rfl, _, _, rfl, rfl, okM (bf.a.mul bp.x) bp.x, _, rfl, _, rfl, _, _, rfl, rfl, okM bf.b bp.y, _, rfl, _, _, rfl, rfl, okM (bf.b.mul bp.y) bp.y, _, _, rfl, rfl, _, rfl, _, rfl, _, _, rfl, rfl, okM bf.c bp.z, _, rfl, _, _, rfl, rfl, okM (bf.c.mul bp.z) bp.z, _, _, rfl, rfl, ?_⟩
 exact ⟨_, rfl, _, rfl, _, rfl, _, _, rfl, rfl, okM bf.d bp.y, _, rfl, _, _, rfl, rfl, okM (bf.d.mul bp.y) bp.z, _, _, rfl, rfl, _, rfl, _, rfl, _, _, rfl, rfl, okM bf.e bp.x, _, rfl, _, _, rfl, rfl, okM (bf.e.mul bp.x) bp.z, _, _, rfl, rfl, _, rfl, _, rfl, _, _, rfl, rfl, okM bf.f bp.x, _, rfl, _, _, rfl, rfl, okM (bf.f.mul bp.x) bp.y, _, _, rfl, rfl, q⟩
theorem ok_shared {f : Addr} {fd : FuncData} (F : Fun K "_law_shared" "_law_shared" s_shared f fd) (T : Txt K mg t)  : FnOkS P w K mg base 1 f fd ["_law_numbers"] (spShared) := by
 refine F.okS sc_shared (fun vs H Q E h => ?_) (fun cdv A outer s H fz vs Q E hr h => ?_)
 ·obtain ⟨_, _, _, rfl, _⟩ := h
  rfl
 obtain ⟨p, b, ns, rfl, hp, q⟩ := h
 refine ⟨_, pss_cons (ps_set (i := 1) sc_shared.nd rfl (Or.inl rfl) pe_int)
  (pss_cons (ps_for PassesOwn.never rfl (pi_seq (pv 0)) (pg_name (i := 2) sc_shared.nd rfl (Or.inl rfl)) (pss_cons (ps_set (i := 3) sc_shared.nd rfl (Or.inl rfl) (pe_callB call_abs rfl T.z_abs b_abs (pa_cons (pv 2) pa_nil)))
  (pss_one (ps_while PassesOwn.never (pt_cmpR op_ne (pv 3) pe_int (nomark _)) (pss_one (ps_par (i := 1) (j := 3) rfl sc_shared.nd rfl rfl (by decide) rfl rfl (pa_cons (pv 3) (pa_cons (pe_op op_mod (pv 1) (pv 3)) pa_nil)) rfl))))))
  (pss_one (ps_ret (pv 1)))), ?_⟩
 refine ⟨_, rfl, p, b, ns.map V.int, rfl, Sq.of hp, for_seq (xs := ns.map V.int) (fun i σ H' => ∃ (g : Int) (nh ot : Option V), σ = [some (.ref p), some (.int g), nh, ot] /\ H = H' /\ 0 <= g /\ Gen ns g /\ ∀ n ∈ ns.take i, g ∣ n) ⟨0, none, none, rfl, rfl, by decide, .zero, fun n hn => by cases hn⟩ ?_ ?_ ?_⟩
 ·rintro i σ H' hi ⟨g, nh, ot, rfl, rfl, _⟩
  exact Sq.of hp
 ·rintro i v σ H' hv ⟨g, nh, ot, rfl, rfl, g0, gc, hd⟩
  obtain ⟨n, rfl, hn, nm⟩ := getI hv
  refine ⟨_, rfl, n, rfl, ?_⟩
  refine ⟨fun m σ H' => ∃ (f o : Int), σ = [some (.ref p), some (.int f), some (.int n), some (.int o)] /\ H = H' /\ 0 <= f /\ 0 <= o /\ Gen ns f /\ Gen ns o /\ (∀ d : Int, d ∣ f -> d ∣ o -> d ∣ g /\ d ∣ n) /\ m = o.toNat, ⟨_, g, _, rfl, rfl, g0, ?_, gc, ?_, fun d d1 d2 => ⟨d1, ?_⟩, rfl⟩, ?_⟩
  ·show 0 <= (if n < 0 then -n else n)
   split <;> omega
  ·show Gen ns (if n < 0 then -n else n)
   split
   ·exact (Gen.mem nm).neg
   ·exact .mem nm
  ·have d2' : d ∣ (if n < 0 then -n else n) := d2
   split at d2'
   ·exact Int.dvd_neg.mp d2'
   ·exact d2'
  rintro m σ H1 ⟨f, o', rfl, rfl, f0, o0, fc, oc, hd2, rfl⟩
  refine ⟨_, rfl, rfl, _, rfl, ite2 (fun c => ?_) (fun c => ?_)⟩
  ·have on : o' ≠ 0 := fun zz => neT c (congrArg V.int zz)
   have op : 0 < o' := by omega
   have r0 := Int.emod_nonneg f on
   have r1 := Int.emod_lt_of_pos f op
   refine ⟨fun σ' H2 => σ' = [some (.ref p), some (.int o'), some (.int n), some (.int (f % o'))] /\ H = H2, ?_, ?_⟩
   ·rintro σ' H2 ⟨rfl, rfl⟩
    exact ⟨(f % o').toNat, by omega, o', f % o', rfl, rfl, o0, r0, oc, fc.rest oc, fun d d1 d2 => (fun z => hd2 d z.1 z.2) (step_dvd d1 d2), rfl⟩
   ·exact ⟨_, rfl, _, rfl, _, rfl, _, _, rfl, rfl, op, _, _, rfl, rfl, rfl⟩
  ·have on : o' = 0 := int_inj (neF c)
   subst on
   obtain ⟨w1, w2⟩ := hd2 f (Int.dvd_refl f) (Int.dvd_zero f)
   refine ⟨f, _, _, rfl, rfl, f0, fc, fun w hw => ?_⟩
   rw [List.take_succ, hn] at hw
   rcases List.mem_append.mp hw with z | z
   ·exact Int.dvd_trans w1 (hd w z)
   ·have : w = n := by simpa using z
    rw [this]
    exact w2
 ·rintro σ H' ⟨g, nh, ot, rfl, rfl, g0, gc, hd⟩
  rw [List.length_map, List.take_length] at hd
  exact ⟨_, rfl, q g g0 hd gc⟩
theorem ok_wholes {f : Addr} {fd : FuncData} (F : Fun K "_law_wholes" "_law_wholes" s_wholes f fd) (T : Txt K mg t) (H_whole : HasS P w K mg base 1 "_law_whole" ["_law_found"] (spWhole)) : FnOkS P w K mg base 2 f fd ["_law_found", "_law_many"] (spWhol3) := by
 obtain ⟨f_whole, d_whole, G_whole, b_whole, k_whole, m_whole⟩ := H_whole
 refine F.okS sc_wholes (fun vs H Q E h => ?_) (fun cdv A outer s H fz vs Q E hr h => ?_)
 ·obtain ⟨_, _, _, _, rfl, _⟩ := h
  rfl
 obtain ⟨p, x, y, z, rfl, hp, q⟩ := h
 have hr_whole := hr.mono (show 1 <= 1 by decide)
 unfold Sq3 at hp
 refine ⟨_, pss_cons (ps_if (PW.pt (pw_or (pt_not (pt_val (pe_callB call_isi rfl T.z_isinstance b_isi (pa_cons (pv 0) (pa_cons (pe_bltn (v := .ty "tuple") rfl T.z_tuple b_tuple rfl) pa_nil))) (fun _ => rfl))) (pw_or1 (pt_cmpR op_ne (pe_callB call_len_seq rfl T.z_len PySem.boot_len (pa_cons (pv 0) pa_nil)) (pv 1) (nomark _))))) (pss_one (ps_ret pe_bl)) pss_nil)
  (pss_one (ps_ret (pe_callB (call_all rfl) rfl T.z_all b_all (pa_cons (pe_compC rfl (CompScope.gen (cl := []) [] [] [(".0", .local), ("_law_one", .local), ("_law_whole", .globalImplicit)] rfl (by decide +kernel) (by decide +kernel) rfl rfl (by intro p hp; cases hp) rfl (by intro p hp h; simp only [List.mem_cons, List.not_mem_nil, or_false] at hp; rcases hp with rfl | rfl | rfl <;> first | rfl | (rcases h with h | h <;> cases h)) (by decide) (by decide +kernel) rfl (by intro p hp; cases hp)) (pi_tup (pv 0)) (fun C s0 H0 fp pins => pe_callS G_whole hr_whole rfl rfl m_whole k_whole b_whole .nil (pa_cons (pv 0) pa_nil))) pa_nil)))), ?_⟩
 refine ⟨_, rfl, _, _, _, _, rfl, .inr ⟨_, rfl⟩, .of (.tup hp), rfl, _, rfl, iteF ?_⟩
 refine ⟨_, rfl, p, _, rfl, .inr (SqT.of hp), _, rfl, rfl, _, rfl, iteNS rfl ?_⟩
 refine ⟨_, rfl, p, rfl, ⟨_, SqT.of hp⟩, comp_tupF (xs := [.int x, .int y, .int z]) (SqT.of hp) (by show 3 < sizeLine; decide) (fun _ => .bl true) (fun H' g => SqT.of (g _ _ hp)) ?_ ?_⟩
 ·intro i v H' Q' hv g k
  obtain ⟨n, rfl, _⟩ := get3 hv
  exact ⟨_, rfl, n, rfl, k _ (Same.refl _)⟩
 ·intro l H' g h0 hl
  exact ⟨l, [true, true, true], rfl, hl, q _ g⟩
theorem ok_is_lowest {f : Addr} {fd : FuncData} (F : Fun K "_law_is_lowest" "_law_is_lowest" s_is_lowest f fd) (T : Txt K mg t) (H_wholes : HasS P w K mg base 2 "_law_wholes" ["_law_found", "_law_many"] (spWhol3)) (H_shared : HasS P w K mg base 1 "_law_shared" ["_law_numbers"] (spShared)) : FnOkS P w K mg base 3 f fd ["_law_point"] (spIsLow) := by
 obtain ⟨f_wholes, d_wholes, G_wholes, b_wholes, k_wholes, m_wholes⟩ := H_wholes
 obtain ⟨f_shared, d_shared, G_shared, b_shared, k_shared, m_shared⟩ := H_shared
 refine F.okS sc_is_lowest (fun vs H Q E h => ?_) (fun cdv A outer s H fz vs Q E hr h => ?_)
 ·obtain ⟨_, _, _, _, rfl, _⟩ := h
  rfl
 obtain ⟨p, x, y, z, rfl, hp, o, ps, q⟩ := h
 have hr_wholes := hr.mono (show 2 <= 2 by decide)
 have hr_shared := hr.mono (show 1 <= 2 by decide)
 refine ⟨_, pss_cons (ps_if (PW.pt (pw_or (pt_not (pt_val (pe_callS G_wholes hr_wholes rfl rfl m_wholes k_wholes b_wholes .nil (pa_cons (pv 0) (pa_cons pe_int pa_nil))) (fun _ => rfl))) (pw_or1 (pt_cmpR op_ne (pe_callS G_shared hr_shared rfl rfl m_shared k_shared b_shared .nil (pa_cons (pv 0) pa_nil)) pe_int (nomark _))))) (pss_one (ps_ret pe_bl)) pss_nil)
  (pss_one (ps_ret (pe_cmpR op_gt (pe_ix ix_list (pe_compIfC rfl (CompScope.gen (cl := []) [] [] [(".0", .local), ("_law_number", .local)] rfl (by decide +kernel) (by decide +kernel) rfl rfl (by intro p hp; cases hp) rfl (by intro p hp h; simp only [List.mem_cons, List.not_mem_nil, or_false] at hp; rcases hp with rfl | rfl <;> first | rfl | (rcases h with h | h <;> cases h)) (by decide) (by decide +kernel) rfl (by intro p hp; cases hp)) (pi_tup (pv 0)) (fun C s0 H0 fp pins => pt_cmpR op_ne (pv 0) pe_int (nomark _)) (fun C s0 H0 fp pins => pv 0)) pe_int (fun _ _ => rfl)) pe_int (nomark _)))), ?_⟩
 refine ⟨_, rfl, p, x, y, z, rfl, hp, fun H1 g1 => ⟨_, rfl, iteF ?_⟩⟩
 have hp1 := g1 _ _ hp
 refine ⟨_, rfl, p, false, [x, y, z], rfl, hp1, fun g9 g90 hd9 _ => ?_⟩
 obtain rfl := one_of o g90 (hd9 x (by simp)) (hd9 y (by simp)) (hd9 z (by simp))
 refine ⟨rfl, _, rfl, iteNS rfl ?_⟩
 refine ⟨_, rfl, p, rfl, ⟨_, SqT.of hp1⟩, compIf_tupF (xs := [.int x, .int y, .int z]) (by show 3 < sizeLine; decide) nz id (fun H' g => SqT.of (g _ _ hp1)) ?_ ?_ ?_⟩
 ·intro i v H' Q' hv g k
  obtain ⟨n, rfl, _⟩ := get3 hv
  exact ⟨_, rfl, rfl, _, rfl, k _ (Same.refl _)⟩
 ·intro i v H' Q' hv e g k
  exact ⟨_, rfl, k _ (Same.refl _)⟩
 ·intro l H' g h0 hl
  refine ⟨l, _, _, _, rfl, rfl, SqL.of hl, fst_ok (pos_nz ps), _, _, rfl, rfl, ?_⟩
  have d : Q (.bl (decide (0 < fst3 x y z))) H' := by
   rw [decide_eq_true (fst_pos ps)]
   exact q _ (g1.trans g)
  exact d
theorem ok_size {f : Addr} {fd : FuncData} (F : Fun K "_law_size" "_law_size" s_size f fd) (T : Txt K mg t)  : FnOk P w K mg base CX0 1 f fd ["_law_form_here"] (spLSize) := by
 refine F.ok sc_size (fun vs H Q E h => ?_) (fun cdv A outer s H vs Q E hr h => ?_)
 ·obtain ⟨_, _, rfl, _⟩ := h
  rfl
 obtain ⟨p, F, rfl, hp, bf, q⟩ := h
 unfold S6 at hp
 refine ⟨_, pss_cons (ps_asg (pv 0) (pg_tup rfl (pgs_cons (pg_name (i := 2) sc_size.nd rfl (Or.inl rfl)) (pgs_cons (pg_name (i := 3) sc_size.nd rfl (Or.inl rfl)) (pgs_cons (pg_name (i := 4) sc_size.nd rfl (Or.inl rfl)) (pgs_cons (pg_name (i := 5) sc_size.nd rfl (Or.inl rfl)) (pgs_cons (pg_name (i := 6) sc_size.nd rfl (Or.inl rfl)) (pgs_cons (pg_name (i := 7) sc_size.nd rfl (Or.inl rfl)) pgs_nil))))))))
  (pss_cons (ps_set (i := 1) sc_size.nd rfl (Or.inl rfl) (pe_op op_add (pe_op op_mulG (pe_op op_mulG (pe_op op_mulG pe_int (pv 2)) (pv 3)) (pv 4)) (pe_op op_mulG (pe_op op_mulG (pv 5) (pv 6)) (pv 7))))
  (pss_one (ps_ret (pe_op op_sub (pe_op op_sub (pe_op op_sub (pv 1) (pe_op op_mulG (pe_op op_mulG (pv 2) (pv 5)) (pv 5))) (pe_op op_mulG (pe_op op_mulG (pv 3) (pv 6)) (pv 6))) (pe_op op_mulG (pe_op op_mulG (pv 4) (pv 7)) (pv 7)))))), ?_⟩
 refine ⟨_, rfl, p, _, rfl, SqT.of hp, rfl, _, _, rfl, _, _, rfl, _, _, rfl, _, _, rfl, _, _, rfl, _, _, rfl, rfl, ?_⟩
 refine ⟨_, rfl, _, _, rfl, rfl, okM b4 bf.a, _, rfl, _, _, rfl, rfl, okM (b4.mul bf.a) bf.b, _, rfl, _, _, rfl, rfl, okM ((b4.mul bf.a).mul bf.b) bf.c, _, rfl, _, rfl, _, _, rfl, rfl, okM bf.d bf.e, _, rfl, _, _, rfl, rfl, okM (bf.d.mul bf.e) bf.f, _, _, rfl, rfl, ?_⟩
 exact ⟨_, rfl, _, rfl, _, rfl, _, _, rfl, rfl, okM bf.a bf.d, _, rfl, _, _, rfl, rfl, okM (bf.a.mul bf.d) bf.d, _, _, rfl, rfl, _, rfl, _, rfl, _, _, rfl, rfl, okM bf.b bf.e, _, rfl, _, _, rfl, rfl, okM (bf.b.mul bf.e) bf.e, _, _, rfl, rfl, _, rfl, _, rfl, _, _, rfl, rfl, okM bf.c bf.f, _, rfl, _, _, rfl, rfl, okM (bf.c.mul bf.f) bf.f, _, _, rfl, rfl, q⟩
theorem ok_measure {f : Addr} {fd : FuncData} (F : Fun K "_law_measure" "_law_measure" s_measure f fd) (T : Txt K mg t)  : FnOk P w K mg base CX0 1 f fd ["_law_table"] (spLm9) := by
 refine F.ok sc_measure (fun vs H Q E h => ?_) (fun cdv A outer s H vs Q E hr h => ?_)
 ·obtain ⟨_, _, rfl, _⟩ := h
  rfl
 obtain ⟨p, t', rfl, ht, bt, q⟩ := h
 obtain ⟨r0, r1, r2, hp, h0, h1, h2⟩ := ht
 refine ⟨_, pss_cons (ps_asg (pe_ix ix_tup (pv 0) pe_int (fun _ _ => rfl)) (pg_tup rfl (pgs_cons (pg_name (i := 2) sc_measure.nd rfl (Or.inl rfl)) (pgs_cons (pg_name (i := 3) sc_measure.nd rfl (Or.inl rfl)) (pgs_cons (pg_name (i := 4) sc_measure.nd rfl (Or.inl rfl)) pgs_nil)))))
  (pss_cons (ps_asg (pe_ix ix_tup (pv 0) pe_int (fun _ _ => rfl)) (pg_tup rfl (pgs_cons (pg_name (i := 5) sc_measure.nd rfl (Or.inl rfl)) (pgs_cons (pg_name (i := 6) sc_measure.nd rfl (Or.inl rfl)) (pgs_cons (pg_name (i := 7) sc_measure.nd rfl (Or.inl rfl)) pgs_nil)))))
  (pss_cons (ps_asg (pe_ix ix_tup (pv 0) pe_int (fun _ _ => rfl)) (pg_tup rfl (pgs_cons (pg_name (i := 8) sc_measure.nd rfl (Or.inl rfl)) (pgs_cons (pg_name (i := 9) sc_measure.nd rfl (Or.inl rfl)) (pgs_cons (pg_name (i := 10) sc_measure.nd rfl (Or.inl rfl)) pgs_nil)))))
  (pss_cons (ps_set (i := 1) sc_measure.nd rfl (Or.inl rfl) (pe_op op_add (pe_op op_add (pe_op op_mulG (pe_op op_mulG (pv 2) (pv 6)) (pv 10)) (pe_op op_mulG (pe_op op_mulG (pv 3) (pv 7)) (pv 8))) (pe_op op_mulG (pe_op op_mulG (pv 4) (pv 5)) (pv 9))))
  (pss_one (ps_ret (pe_op op_sub (pe_op op_sub (pe_op op_sub (pv 1) (pe_op op_mulG (pe_op op_mulG (pv 4) (pv 6)) (pv 8))) (pe_op op_mulG (pe_op op_mulG (pv 3) (pv 5)) (pv 10))) (pe_op op_mulG (pe_op op_mulG (pv 2) (pv 7)) (pv 9)))))))), ?_⟩
 refine ⟨_, rfl, p, _, _, _, rfl, rfl, SqT.of hp, rfl, r0, _, rfl, SqT.of h0, rfl, _, _, rfl, _, _, rfl, _, _, rfl, rfl, ?_⟩
 refine ⟨_, rfl, p, _, _, _, rfl, rfl, SqT.of hp, rfl, r1, _, rfl, SqT.of h1, rfl, _, _, rfl, _, _, rfl, _, _, rfl, rfl, ?_⟩
 refine ⟨_, rfl, p, _, _, _, rfl, rfl, SqT.of hp, rfl, r2, _, rfl, SqT.of h2, rfl, _, _, rfl, _, _, rfl, _, _, rfl, rfl, ?_⟩
 refine ⟨_, rfl, _, rfl, _, _, rfl, rfl, okM bt.r0.x bt.r1.y, _, rfl, _, _, rfl, rfl, okM (bt.r0.x.mul bt.r1.y) bt.r2.z, _, rfl, _, rfl, _, _, rfl, rfl, okM bt.r0.y bt.r1.z, _, rfl, _, _, rfl, rfl, okM (bt.r0.y.mul bt.r1.z) bt.r2.x, _, _, rfl, rfl, _, rfl, _, rfl, _, _, rfl, rfl, okM bt.r0.z bt.r1.x, _, rfl, _, _, rfl, rfl, okM (bt.r0.z.mul bt.r1.x) bt.r2.y, _, _, rfl, rfl, ?_⟩
 exact ⟨_, rfl, _, rfl, _, rfl, _, _, rfl, rfl, okM bt.r0.z bt.r1.y, _, rfl, _, _, rfl, rfl, okM (bt.r0.z.mul bt.r1.y) bt.r2.x, _, _, rfl, rfl, _, rfl, _, rfl, _, _, rfl, rfl, okM bt.r0.y bt.r1.x, _, rfl, _, _, rfl, rfl, okM (bt.r0.y.mul bt.r1.x) bt.r2.z, _, _, rfl, rfl, _, rfl, _, rfl, _, _, rfl, rfl, okM bt.r0.x bt.r1.z, _, rfl, _, _, rfl, rfl, okM (bt.r0.x.mul bt.r1.z) bt.r2.y, _, _, rfl, rfl, q⟩
theorem ok_sheared {f : Addr} {fd : FuncData} (F : Fun K "_law_sheared" "_law_sheared" s_sheared f fd) (T : Txt K mg t) (H_drawn : Has P w K mg base CX0 1 "_law_drawn" ["_law_cell", "_law_prime", "_law_many"] (spDrawn)) (H_changed : Has P w K mg base CX0 2 "_law_changed" ["_law_form_here", "_law_table"] (spLc)) : FnOk P w K mg base CX0 3 f fd ["_law_form_here", "_law_cell"] (spShr) := by
 obtain ⟨f_drawn, d_drawn, G_drawn, b_drawn, k_drawn, m_drawn⟩ := H_drawn
 obtain ⟨f_changed, d_changed, G_changed, b_changed, k_changed, m_changed⟩ := H_changed
 refine F.ok sc_sheared (fun vs H Q E h => ?_) (fun cdv A outer s H vs Q E hr h => ?_)
 ·obtain ⟨_, _, _, _, _, rfl, _⟩ := h
  rfl
 obtain ⟨p, a, b, c, k, rfl, hp, ha, hb, hc, q⟩ := h
 have hr_drawn := hr.mono (show 1 <= 2 by decide)
 have hr_changed := hr.mono (show 2 <= 2 by decide)
 refine ⟨_, pss_cons (ps_setC0 (k := 2) sc_sheared.nd rfl (Or.inl rfl) rfl rfl (CompScope.gen (cl := [("_law_cell", _)]) ["_law_cell"] [1] [(".0", .local), ("_law_prime", .local), ("_law_drawn", .globalImplicit), ("_law_cell", .cell)] rfl (by decide +kernel) (by decide +kernel) rfl rfl (by intro p hp; simp only [List.mem_cons, List.not_mem_nil, or_false] at hp; rcases hp with rfl <;> rfl) rfl (by intro p hp h; simp only [List.mem_cons, List.not_mem_nil, or_false] at hp; rcases hp with rfl | rfl | rfl | rfl <;> first | rfl | (rcases h with h | h <;> cases h)) (by decide) (by decide +kernel) rfl (by intro p hp; simp only [List.zip_cons_cons, List.zip_nil_left, List.mem_cons, List.not_mem_nil, or_false] at hp; rcases hp with rfl <;> exact ⟨rfl, rfl⟩)) (pi_list (pe_lst (pa_cons pe_int (pa_cons pe_int (pa_cons pe_int pa_nil))))) (fun C s0 H0 fp pins => pe_op op_sub (pe_call G_drawn hr_drawn rfl m_drawn k_drawn b_drawn .nil pass0 (pa_cons (pv 1) (pa_cons (pv 0) (pa_cons pe_int pa_nil)))) pe_int) (Or.inl rfl))
  (pss_cons (ps_set (i := 3) sc_sheared.nd rfl (Or.inl rfl) (pe_tup (pa_cons (pe_tup (pa_cons pe_int (pa_cons (pe_ix ix_list (pv 2) pe_int (fun _ _ => rfl)) (pa_cons pe_int pa_nil)))) (pa_cons (pe_tup (pa_cons pe_int (pa_cons pe_int (pa_cons pe_int pa_nil)))) (pa_cons (pe_tup (pa_cons (pe_ix ix_list (pv 2) pe_int (fun _ _ => rfl)) (pa_cons pe_int (pa_cons pe_int pa_nil)))) pa_nil)))))
  (pss_cut (ps_if (pt_cmpR op_eq (pe_ix ix_list (pv 2) pe_int (fun _ _ => rfl)) pe_int (nomark _)) (pss_one (ps_set (i := 3) sc_sheared.nd rfl (Or.inl rfl) (pe_tup (pa_cons (pe_tup (pa_cons pe_int (pa_cons pe_int (pa_cons pe_int pa_nil)))) (pa_cons (pe_tup (pa_cons (pe_ix ix_list (pv 2) pe_int (fun _ _ => rfl)) (pa_cons pe_int (pa_cons (pe_ix ix_list (pv 2) pe_int (fun _ _ => rfl)) pa_nil)))) (pa_cons (pe_tup (pa_cons pe_int (pa_cons pe_int (pa_cons pe_int pa_nil)))) pa_nil)))))) pss_nil)
  (pss_one (ps_ret (pe_call G_changed hr_changed rfl m_changed k_changed b_changed .nil pass0 (pa_cons (pv 0) (pa_cons (pv 3) pa_nil))))))), ?_⟩
 have bF : BF 600 (⟨a, b, c, 0, 0, 0⟩ : F6) := ⟨bd_of21 ha, bd_of21 hb, bd_of21 hc, bd0, bd0, bd0⟩
 refine ⟨(by show 3 <= sizeLine; decide), fun pl npl => ?_⟩
 have g0 := same_new npl (.lst [.int 7951, .int 7963, .int 7993])
 refine ⟨pl, rfl, ⟨_, SqL.of upd_same⟩, comp_listR (xs := [.int 7951, .int 7963, .int 7993]) (by show 3 < sizeLine; decide) (fun H' g => SqL.of (g _ _ upd_same)) (fun i vs _ => InU i vs) (fun _ _ => ⟨[], rfl, rfl, fun _ h => by cases h⟩) ?_ ?_⟩
 ·intro i x vs H' acc Q' ex g _ ha' rr hv kk
  obtain ⟨n, rfl, en⟩ := get3 ex
  have hn : 0 < n /\ n < 100000 := by
   match i, ex with
   | 0, ex => cases ex; omega
   | 1, ex => cases ex; omega
   | 2, ex => cases ex; omega
   | j + 3, ex => cases ex
  exact ⟨_, rfl, _, rfl, k, n, 3, rfl, hn.1, hn.2, by decide, fun m m0 m1 => ⟨_, _, rfl, rfl, kk _ _ (Same.refl _) (rr.next (by omega))⟩⟩
 intro st H1 vs g1 _ hst _ rr
 obtain ⟨x, y, z, rfl, hx, hy, hz⟩ := InU.three rr
 have hp1 := (g0.trans g1) _ _ hp
 refine ⟨_, rfl, st, _, _, _, rfl, rfl, SqL.of hst, rfl, (by show 3 <= sizeLine; decide), fun p1 n1 => ⟨(by show 3 <= sizeLine; decide), fun p2 n2 => ⟨_, rfl, st, _, _, _, rfl, rfl, SqL.of (same_new n2 _ _ _ (same_new n1 _ _ _ hst)), rfl, (by show 3 <= sizeLine; decide), fun p3 n3 => ⟨(by show 3 <= sizeLine; decide), fun p4 n4 => ?_⟩⟩⟩⟩
 have f1 := same_new n1 (.tup [.int 1, .int x, .int 0])
 have f2 := same_new n2 (.tup [.int 0, .int 1, .int 0])
 have f3 := same_new n3 (.tup [.int y, .int 0, .int 1])
 have f4 := same_new n4 (.tup [.ref p1, .ref p2, .ref p3])
 have gt := f1.trans (f2.trans (f3.trans f4))
 have hT : ST (upd (upd (upd (upd H1 p1 (.tup [.int 1, .int x, .int 0])) p2 (.tup [.int 0, .int 1, .int 0])) p3 (.tup [.int y, .int 0, .int 1])) p4 (.tup [.ref p1, .ref p2, .ref p3])) p4 ⟨⟨1, x, 0⟩, ⟨0, 1, 0⟩, ⟨y, 0, 1⟩⟩ :=
  ⟨p1, p2, p3, upd_same, (f2.trans (f3.trans f4)) p1 _ upd_same, (f3.trans f4) p2 _ upd_same, f4 p3 _ upd_same⟩
 have hst2 := gt _ _ hst
 have hp2 := gt _ _ hp1
 have gA := g0.trans (g1.trans gt)
 generalize (upd (upd (upd (upd H1 p1 _) p2 _) p3 _) p4 _ : Hp) = H2 at *
 refine ⟨fun σ' H' => ∃ (tp : Addr) (t' : T3), σ' = [some (.ref p), some (.int k), some (.ref st), some (.ref tp)] /\ Same H2 H' /\ ST H' tp t' /\ BT 600 t' /\ In100 (ch ⟨a, b, c, 0, 0, 0⟩ t'), ?_, ?_⟩
 ·refine ⟨_, rfl, st, _, _, _, rfl, rfl, SqL.of hst2, rfl, rfl, _, rfl, ite2 (fun _ => ?_) (fun _ => ?_)⟩
  ·refine ⟨(by show 3 <= sizeLine; decide), fun p5 n5 => ⟨_, rfl, st, _, _, _, rfl, rfl, SqL.of (same_new n5 _ _ _ hst2), rfl, _, rfl, st, _, _, _, rfl, rfl, SqL.of (same_new n5 _ _ _ hst2), rfl, (by show 3 <= sizeLine; decide), fun p6 n6 => ⟨(by show 3 <= sizeLine; decide), fun p7 n7 => ⟨(by show 3 <= sizeLine; decide), fun p8 n8 => ?_⟩⟩⟩⟩
   have f5 := same_new n5 (.tup [.int 1, .int 0, .int 0])
   have f6 := same_new n6 (.tup [.int x, .int 1, .int y])
   have f7 := same_new n7 (.tup [.int 0, .int 0, .int 1])
   have f8 := same_new n8 (.tup [.ref p5, .ref p6, .ref p7])
   exact ⟨p8, ⟨⟨1, 0, 0⟩, ⟨x, 1, y⟩, ⟨0, 0, 1⟩⟩, rfl, f5.trans (f6.trans (f7.trans f8)), ⟨p5, p6, p7, upd_same, (f6.trans (f7.trans f8)) p5 _ upd_same, (f7.trans f8) p6 _ upd_same, f8 p7 _ upd_same⟩, ⟨⟨bd1, bd0, bd0⟩, ⟨bd_of1 hx, bd1, bd_of1 hy⟩, ⟨bd0, bd0, bd1⟩⟩, shear2 ha hb hc hx hy⟩
  ·exact ⟨p4, _, rfl, Same.refl _, hT, ⟨⟨bd1, bd_of1 hx, bd0⟩, ⟨bd0, bd1, bd0⟩, ⟨bd_of1 hy, bd0, bd1⟩⟩, shear1 ha hb hc hx hy⟩
 rintro _ H3 ⟨tp, t', rfl, g3, hT3, bt, inF⟩
 exact ⟨_, rfl, _, rfl, p, tp, _, t', rfl, g3 _ _ hp2, hT3, bF, bt.mono, fun r H4 g4 h4 => q r H4 _ (gA.trans (g3.trans g4)) h4 inF⟩
theorem ok_plain_drawn {f : Addr} {fd : FuncData} (F : Fun K "_law_plain_drawn" "_law_plain_drawn" s_plain_drawn f fd) (T : Txt K mg t) (H_drawn : Has P w K mg base CX0 1 "_law_drawn" ["_law_cell", "_law_prime", "_law_many"] (spDrawn)) : FnOk P w K mg base CX0 2 f fd ["_law_cell", "_law_most"] (spPd) := by
 obtain ⟨f_drawn, d_drawn, G_drawn, b_drawn, k_drawn, m_drawn⟩ := H_drawn
 refine F.ok sc_plain_drawn (fun vs H Q E h => ?_) (fun cdv A outer s H vs Q E hr h => ?_)
 ·obtain ⟨_, _, rfl, _⟩ := h
  rfl
 obtain ⟨c, m, rfl, m1, m2, q⟩ := h
 have hr_drawn := hr.mono (show 1 <= 1 by decide)
 refine ⟨_, pss_cons (ps_set (i := 2) sc_plain_drawn.nd rfl (Or.inr rfl) (pe_lst (pa_cons pe_int (pa_cons pe_int (pa_cons pe_int pa_nil)))))
  (pss_cons (ps_for PassesOwn.never rfl (pi_list (pe_lst (pa_cons (pe_tup (pa_cons pe_int (pa_cons pe_int pa_nil))) (pa_cons (pe_tup (pa_cons pe_int (pa_cons pe_int pa_nil))) (pa_cons (pe_tup (pa_cons pe_int (pa_cons pe_int pa_nil))) (pa_cons (pe_tup (pa_cons pe_int (pa_cons pe_int pa_nil))) pa_nil)))))) (pg_tup rfl (pgs_cons (pg_name (i := 4) sc_plain_drawn.nd rfl (Or.inl rfl)) (pgs_cons (pg_name (i := 5) sc_plain_drawn.nd rfl (Or.inl rfl)) pgs_nil))) (pss_cons (ps_set (i := 6) sc_plain_drawn.nd rfl (Or.inl rfl) (pe_call G_drawn hr_drawn rfl m_drawn k_drawn b_drawn .nil pass0 (pa_cons (pv 0) (pa_cons (pv 5) (pa_cons pe_int pa_nil)))))
  (pss_one (ps_if (PW.pt (pw_and (pt_cmpR op_lt (pv 6) pe_int (nomark _)) (pw_and1 (pt_cmpR op_le (pe_op op_mulG (pe_ix ix_list (pv 2) (pv 6) (fun _ _ => rfl)) (pv 4)) (pv 1) (nomark _))))) (pss_one (ps_asg (pe_op op_mulG (pe_ix ix_list (pv 2) (pv 6) (fun _ _ => rfl)) (pv 4)) (pg_sub (pv 2) (pv 6) set_list))) pss_nil))))
  (pss_cons (ps_set (i := 3) sc_plain_drawn.nd rfl (Or.inr rfl) (pe_call G_drawn hr_drawn rfl m_drawn k_drawn b_drawn .nil pass0 (pa_cons (pv 0) (pa_cons pe_int (pa_cons pe_int pa_nil)))))
  (pss_one (ps_ret (pe_callTy call_tuple_of rfl T.z_tuple b_tuple (pa_cons (pe_compC rfl (CompScope.gen (cl := [("_law_signs", _), ("_law_found", _)]) ["_law_found", "_law_signs"] [2, 3] [(".0", .local), ("_law_k", .local), ("_law_found", .cell), ("_law_signs", .cell)] rfl (by decide +kernel) (by decide +kernel) rfl rfl (by intro p hp; simp only [List.mem_cons, List.not_mem_nil, or_false] at hp; rcases hp with rfl | rfl <;> rfl) rfl (by intro p hp h; simp only [List.mem_cons, List.not_mem_nil, or_false] at hp; rcases hp with rfl | rfl | rfl | rfl <;> first | rfl | (rcases h with h | h <;> cases h)) (by decide) (by decide +kernel) rfl (by intro p hp; simp only [List.zip_cons_cons, List.zip_nil_left, List.mem_cons, List.not_mem_nil, or_false] at hp; rcases hp with rfl | rfl <;> exact ⟨rfl, rfl⟩)) (pi_range1 rfl T.z_range (pa_cons pe_int pa_nil)) (fun C s0 H0 fp pins => pe_op op_mulG (pe_ix (ixK_list (K := K) rfl) (pv 1) (pv 0) (fun _ _ => rfl)) (pe_op op_sub pe_int (pe_op op_mulG pe_int (pe_op op_and (pe_op op_shr (pv 2) (pv 0)) pe_int))))) pa_nil)))))), ?_⟩
 refine ⟨(by show 3 <= sizeLine; decide), fun fl nfl => ?_⟩
 have f0 := same_new nfl (.lst [.int 1, .int 1, .int 1])
 refine ⟨(by show 2 <= sizeLine; decide), fun p1 n1 => ⟨(by show 2 <= sizeLine; decide), fun p2 n2 => ⟨(by show 2 <= sizeLine; decide), fun p3 n3 => ⟨(by show 2 <= sizeLine; decide), fun p4 n4 => ⟨(by show 4 <= sizeLine; decide), fun pl npl => ?_⟩⟩⟩⟩⟩
 have f1 := same_new n1 (.tup [.int 2, .int 7937])
 have f2 := same_new n2 (.tup [.int 3, .int 7949])
 have f3 := same_new n3 (.tup [.int 5, .int 7951])
 have f4 := same_new n4 (.tup [.int 7, .int 7963])
 have f5 := same_new npl (.lst [.ref p1, .ref p2, .ref p3, .ref p4])
 have h1 := (f2.trans (f3.trans (f4.trans f5))) p1 _ upd_same
 have h2 := (f3.trans (f4.trans f5)) p2 _ upd_same
 have h3 := (f4.trans f5) p3 _ upd_same
 have h4 := f5 p4 _ upd_same
 have hfl := (f1.trans (f2.trans (f3.trans (f4.trans f5)))) fl _ upd_same
 have gA := f0.trans (f1.trans (f2.trans (f3.trans (f4.trans f5))))
 have hpl : (upd (upd (upd (upd (upd (upd H fl (.lst [.int 1, .int 1, .int 1])) p1 (.tup [.int 2, .int 7937])) p2 (.tup [.int 3, .int 7949])) p3 (.tup [.int 5, .int 7951])) p4 (.tup [.int 7, .int 7963])) pl (.lst [.ref p1, .ref p2, .ref p3, .ref p4])) pl = some (.lst [.ref p1, .ref p2, .ref p3, .ref p4]) := upd_same
 generalize (upd (upd (upd (upd (upd (upd H fl _) p1 _) p2 _) p3 _) p4 _) pl _ : Hp) = H1 at *
 have npf : pl ≠ fl := fun z => by
  rw [z, hfl] at hpl
  cases hpl
 have row : ∀ (i : Nat) (x : V), ([.ref p1, .ref p2, .ref p3, .ref p4] : List V)[i]? = some x -> ∃ (r : Addr) (pr by' : Int), x = .ref r /\ H1 r = some (.tup [.int pr, .int by']) /\ 2 <= pr /\ pr <= 7 /\ 0 < by' /\ by' < 100000 := fun i x ex => by
  match i, ex with
  | 0, ex => exact ⟨p1, 2, 7937, (Option.some.inj ex).symm, h1, by omega, by omega, by omega, by omega⟩
  | 1, ex => exact ⟨p2, 3, 7949, (Option.some.inj ex).symm, h2, by omega, by omega, by omega, by omega⟩
  | 2, ex => exact ⟨p3, 5, 7951, (Option.some.inj ex).symm, h3, by omega, by omega, by omega, by omega⟩
  | 3, ex => exact ⟨p4, 7, 7963, (Option.some.inj ex).symm, h4, by omega, by omega, by omega, by omega⟩
  | n + 4, ex => cases ex
 refine ⟨pl, rfl, ⟨_, SqL.of hpl⟩, for_list (xs := [.ref p1, .ref p2, .ref p3, .ref p4]) (fun i σ H' => ∃ (o4 o5 o6 : Option V) (x y z : Int), σ = [some (.int c), some (.int m), some (.ref fl), none, o4, o5, o6] /\ (∀ b o, b ≠ fl -> H1 b = some o -> H' b = some o) /\ H' fl = some (.lst [.int x, .int y, .int z]) /\ In1 m x /\ In1 m y /\ In1 m z)
  ⟨none, none, none, 1, 1, 1, rfl, fun _ _ _ h => h, hfl, ⟨by omega, m1⟩, ⟨by omega, m1⟩, ⟨by omega, m1⟩⟩ ?_ ?_ ?_⟩
 ·rintro i σ H' hi ⟨o4, o5, o6, x, y, z, rfl, k, _⟩
  exact SqL.of (k _ _ npf hpl)
 ·rintro i v σ H' ev ⟨o4, o5, o6, x, y, z, rfl, k, hf, ix, iy, iz⟩
  obtain ⟨r, pr, by', rfl, hr, a1, a2, a3, a4⟩ := row i v ev
  have nrf : r ≠ fl := fun w => by
   rw [w, hfl] at hr
   cases hr
  have hr' := k _ _ nrf hr
  obtain ⟨ix1, ix2⟩ := ix
  obtain ⟨iy1, iy2⟩ := iy
  obtain ⟨iz1, iz2⟩ := iz
  have kp : ∀ (o : HO) b u, b ≠ fl -> H1 b = some u -> upd H' fl o b = some u := fun o b u nb e => by
   rw [upd_ne nb]
   exact k b u nb e
  refine ⟨r, _, rfl, SqT.of hr', rfl, _, _, rfl, _, _, rfl, rfl, ?_⟩
  refine ⟨_, rfl, _, rfl, c, by', 5, rfl, a3, a4, by decide, fun n n0 n1 => ?_⟩
  refine ⟨_, rfl, _, _, rfl, rfl, _, rfl, ite2 (fun c1 => ?_) (fun c1 => ?_)⟩
  ·have lt : n < 3 := decT c1
   obtain rfl | rfl | rfl : n = 0 \/ n = 1 \/ n = 2 := by omega
   ·refine ⟨_, rfl, _, rfl, fl, _, _, _, rfl, rfl, SqL.of hf, rfl, _, rfl, _, _, rfl, rfl, mulS' (by omega) (by omega), _, rfl, _, _, rfl, rfl, _, rfl, ite2 (fun c2 => ?_) (fun c2 => ?_)⟩
    ·refine ⟨_, rfl, _, rfl, fl, _, _, _, rfl, rfl, SqL.of hf, rfl, _, rfl, _, _, rfl, rfl, mulS' (by omega) (by omega), _, rfl, _, rfl, fl, _, _, 0, rfl, rfl, hf, rfl, ?_⟩
     refine ⟨_, _, _, x * pr, y, z, rfl, kp _, upd_same, ⟨?_, decT c2⟩, ⟨iy1, iy2⟩, ⟨iz1, iz2⟩⟩
     have := Int.mul_le_mul_of_nonneg_left (show (1 : Int) <= pr by omega) (show 0 <= x by omega)
     omega
    ·exact ⟨_, _, _, x, y, z, rfl, k, hf, ⟨ix1, ix2⟩, ⟨iy1, iy2⟩, ⟨iz1, iz2⟩⟩
   ·refine ⟨_, rfl, _, rfl, fl, _, _, _, rfl, rfl, SqL.of hf, rfl, _, rfl, _, _, rfl, rfl, mulS' (by omega) (by omega), _, rfl, _, _, rfl, rfl, _, rfl, ite2 (fun c2 => ?_) (fun c2 => ?_)⟩
    ·refine ⟨_, rfl, _, rfl, fl, _, _, _, rfl, rfl, SqL.of hf, rfl, _, rfl, _, _, rfl, rfl, mulS' (by omega) (by omega), _, rfl, _, rfl, fl, _, _, 1, rfl, rfl, hf, rfl, ?_⟩
     refine ⟨_, _, _, x, y * pr, z, rfl, kp _, upd_same, ⟨ix1, ix2⟩, ⟨?_, decT c2⟩, ⟨iz1, iz2⟩⟩
     have := Int.mul_le_mul_of_nonneg_left (show (1 : Int) <= pr by omega) (show 0 <= y by omega)
     omega
    ·exact ⟨_, _, _, x, y, z, rfl, k, hf, ⟨ix1, ix2⟩, ⟨iy1, iy2⟩, ⟨iz1, iz2⟩⟩
   ·refine ⟨_, rfl, _, rfl, fl, _, _, _, rfl, rfl, SqL.of hf, rfl, _, rfl, _, _, rfl, rfl, mulS' (by omega) (by omega), _, rfl, _, _, rfl, rfl, _, rfl, ite2 (fun c2 => ?_) (fun c2 => ?_)⟩
    ·refine ⟨_, rfl, _, rfl, fl, _, _, _, rfl, rfl, SqL.of hf, rfl, _, rfl, _, _, rfl, rfl, mulS' (by omega) (by omega), _, rfl, _, rfl, fl, _, _, 2, rfl, rfl, hf, rfl, ?_⟩
     refine ⟨_, _, _, x, y, z * pr, rfl, kp _, upd_same, ⟨ix1, ix2⟩, ⟨iy1, iy2⟩, ⟨?_, decT c2⟩⟩
     have := Int.mul_le_mul_of_nonneg_left (show (1 : Int) <= pr by omega) (show 0 <= z by omega)
     omega
    ·exact ⟨_, _, _, x, y, z, rfl, k, hf, ⟨ix1, ix2⟩, ⟨iy1, iy2⟩, ⟨iz1, iz2⟩⟩
  ·exact ⟨_, _, _, x, y, z, rfl, k, hf, ⟨ix1, ix2⟩, ⟨iy1, iy2⟩, ⟨iz1, iz2⟩⟩
 ·rintro σ H' ⟨o4, o5, o6, x, y, z, rfl, k, hf, ix, iy, iz⟩
  have gE : Same H H' := fun b o e => k b o (ne_of_none e nfl) (gA b o e)
  refine ⟨_, rfl, c, 8009, 8, rfl, by decide, by decide, by decide, fun sg s0 s1 => ?_⟩
  refine ⟨3, rfl, by decide, by decide, comp_range 3 (by decide) (fun i vs _ => ∃ ms : List Int, vs = ms.map V.int /\ ms.length = i /\ ∀ w ∈ ms, w.natAbs <= m.natAbs) (fun _ _ => ⟨[], rfl, rfl, fun _ h => by cases h⟩) ?_ ?_⟩
  ·intro i vs H2 acc Q' hi g h0 ha r hl kk
   have hf2 := g _ _ hf
   obtain ⟨ms, rfl, ml, mb⟩ := r
   obtain ⟨w, ew, w1, w2⟩ : ∃ w : Int, atI [V.int x, .int y, .int z] (0 + (i : Int)) = some (.int w) /\ 1 <= w /\ w <= m := by
    obtain rfl | rfl | rfl := lt3 hi
    ·exact ⟨x, rfl, ix⟩
    ·exact ⟨y, rfl, iy⟩
    ·exact ⟨z, rfl, iz⟩
   refine ⟨_, rfl, _, rfl, fl, _, _, _, rfl, rfl, SqL.of hf2, ew, _, rfl, _, rfl, _, _, rfl, rfl, (by show (0 : Int) <= 0 + (i : Int); omega), _, _, rfl, rfl, _, _, rfl, rfl, ok2, _, _, rfl, rfl, _, _, rfl, rfl, ?_, ?_⟩
   ·exact mulS' (by omega) (by omega)
   ·refine kk _ _ (Same.refl _) ⟨ms ++ [_], by rw [List.map_append]; rfl, by simp [ml], fun u hu => ?_⟩
    rcases List.mem_append.mp hu with hu | hu
    ·exact mb u hu
    ·rw [List.mem_singleton.mp hu]
     rcases band1 (sg / 2 ^ (0 + (i : Int)).toNat) with e | e <;> rw [e] <;> omega
  ·intro l H2 vs g nl hl _ r
   obtain ⟨ms, rfl, ml, mb⟩ := r
   match ms, ml, mb with
   | [u, v, w], _, mb =>
    exact ⟨l, _, rfl, .inl ⟨SqL.of hl, fun zz nz => q zz _ u v w (gE.trans (g.trans (same_new nz _))) upd_same (mb u (by simp)) (mb v (by simp)) (mb w (by simp))⟩⟩
theorem ok_form {f : Addr} {fd : FuncData} (F : Fun K "_law_form" "_law_form" s_form f fd) (T : Txt K mg t) (H_drawn : Has P w K mg base CX0 1 "_law_drawn" ["_law_cell", "_law_prime", "_law_many"] (spDrawn)) (H_of : Has P w K mg base CX0 1 "_law_of" ["_law_script", "_law_k"] (spOf K)) (H_worth : Has P w K mg base CX0 1 "_law_worth" ["_law_form_here", "_law_point"] (spLw)) (H_plain_drawn : Has P w K mg base CX0 2 "_law_plain_drawn" ["_law_cell", "_law_most"] (spPd)) (H_sheared : Has P w K mg base CX0 3 "_law_sheared" ["_law_form_here", "_law_cell"] (spShr)) : FnOk P w K mg base CX0 4 f fd ["_law_script"] (spFm24 K) := by
 obtain ⟨f_drawn, d_drawn, G_drawn, b_drawn, k_drawn, m_drawn⟩ := H_drawn
 obtain ⟨f_of, d_of, G_of, b_of, k_of, m_of⟩ := H_of
 obtain ⟨f_worth, d_worth, G_worth, b_worth, k_worth, m_worth⟩ := H_worth
 obtain ⟨f_plain_drawn, d_plain_drawn, G_plain_drawn, b_plain_drawn, k_plain_drawn, m_plain_drawn⟩ := H_plain_drawn
 obtain ⟨f_sheared, d_sheared, G_sheared, b_sheared, k_sheared, m_sheared⟩ := H_sheared
 refine F.ok sc_form (fun vs H Q E h => ?_) (fun cdv A outer s H vs Q E hr h => ?_)
 ·obtain ⟨_, _, rfl, _⟩ := h
  rfl
 obtain ⟨a, ns, rfl, hS, q⟩ := h
 have hr_drawn := hr.mono (show 1 <= 3 by decide)
 have hr_of := hr.mono (show 1 <= 3 by decide)
 have hr_worth := hr.mono (show 1 <= 3 by decide)
 have hr_plain_drawn := hr.mono (show 2 <= 3 by decide)
 have hr_sheared := hr.mono (show 3 <= 3 by decide)
 refine ⟨_, pss_cons (ps_set (i := 1) sc_form.nd rfl (Or.inl rfl) (pe_call G_drawn hr_drawn rfl m_drawn k_drawn b_drawn .nil pass0 (pa_cons (pe_call G_of hr_of rfl m_of k_of b_of .nil pass0 (pa_cons (pv 0) (pa_cons pe_int pa_nil))) (pa_cons pe_int (pa_cons pe_int pa_nil)))))
  (pss_cons (ps_setC0 (k := 2) sc_form.nd rfl (Or.inl rfl) rfl rfl (CompScope.gen (cl := [("_law_script", _)]) ["_law_script"] [0] [(".0", .local), ("_law_k", .local), ("_law_drawn", .globalImplicit), ("_law_of", .globalImplicit), ("_law_script", .cell)] rfl (by decide +kernel) (by decide +kernel) rfl rfl (by intro p hp; simp only [List.mem_cons, List.not_mem_nil, or_false] at hp; rcases hp with rfl <;> rfl) rfl (by intro p hp h; simp only [List.mem_cons, List.not_mem_nil, or_false] at hp; rcases hp with rfl | rfl | rfl | rfl | rfl <;> first | rfl | (rcases h with h | h <;> cases h)) (by decide) (by decide +kernel) rfl (by intro p hp; simp only [List.zip_cons_cons, List.zip_nil_left, List.mem_cons, List.not_mem_nil, or_false] at hp; rcases hp with rfl <;> exact ⟨rfl, rfl⟩)) (pi_range1 rfl T.z_range (pa_cons pe_int pa_nil)) (fun C s0 H0 fp pins => pe_op op_sub (pe_call G_drawn hr_drawn rfl m_drawn k_drawn b_drawn .nil pass0 (pa_cons (pe_call G_of hr_of rfl m_of k_of b_of .nil pass0 (pa_cons (pv 1) (pa_cons (pe_op op_add pe_int (pv 0)) pa_nil))) (pa_cons pe_int (pa_cons pe_int pa_nil)))) pe_int) (Or.inl rfl))
  (pss_cut (ps_if (PW.pt (pw_and (pt_cmpR op_eq (pv 1) pe_int (nomark _)) (pw_and1 (pt_cmpR op_eq (pe_op op_mod (pe_call G_of hr_of rfl m_of k_of b_of .nil pass0 (pa_cons (pv 0) (pa_cons pe_int pa_nil))) pe_int) pe_int (nomark _))))) (pss_one (ps_ret (pe_callTy call_tuple_of rfl T.z_tuple b_tuple (pa_cons (pe_compC rfl (CompScope.gen (cl := [("_law_script", _)]) ["_law_script"] [0] [(".0", .local), ("_law_k", .local), ("_law_drawn", .globalImplicit), ("_law_of", .globalImplicit), ("_law_script", .cell)] rfl (by decide +kernel) (by decide +kernel) rfl rfl (by intro p hp; simp only [List.mem_cons, List.not_mem_nil, or_false] at hp; rcases hp with rfl <;> rfl) rfl (by intro p hp h; simp only [List.mem_cons, List.not_mem_nil, or_false] at hp; rcases hp with rfl | rfl | rfl | rfl | rfl <;> first | rfl | (rcases h with h | h <;> cases h)) (by decide) (by decide +kernel) rfl (by intro p hp; simp only [List.zip_cons_cons, List.zip_nil_left, List.mem_cons, List.not_mem_nil, or_false] at hp; rcases hp with rfl <;> exact ⟨rfl, rfl⟩)) (pi_range1 rfl T.z_range (pa_cons pe_int pa_nil)) (fun C s0 H0 fp pins => pe_op op_sub (pe_call G_drawn hr_drawn rfl m_drawn k_drawn b_drawn .nil pass0 (pa_cons (pe_call G_of hr_of rfl m_of k_of b_of .nil pass0 (pa_cons (pv 1) (pa_cons (pe_op op_add pe_int (pv 0)) pa_nil))) (pa_cons pe_int (pa_cons pe_int pa_nil)))) pe_int)) pa_nil)))) pss_nil)
  (pss_cut (ps_if (PW.pt (pw_and (pt_cmpR op_eq (pv 1) pe_int (nomark _)) (pw_and1 (pt_cmpR op_eq (pe_op op_mod (pe_call G_of hr_of rfl m_of k_of b_of .nil pass0 (pa_cons (pv 0) (pa_cons pe_int pa_nil))) pe_int) pe_int (nomark _))))) (pss_cons (ps_asg (pe_compC rfl (CompScope.gen (cl := []) [] [] [(".0", .local), ("_law_number", .local)] rfl (by decide +kernel) (by decide +kernel) rfl rfl (by intro p hp; cases hp) rfl (by intro p hp h; simp only [List.mem_cons, List.not_mem_nil, or_false] at hp; rcases hp with rfl | rfl <;> first | rfl | (rcases h with h | h <;> cases h)) (by decide) (by decide +kernel) rfl (by intro p hp; cases hp)) (pi_list (pv 2)) (fun C s0 H0 fp pins => pe_op op_fdiv (pv 0) pe_int)) (pg_lst rfl (pgs_cons (pg_name (i := 10) sc_form.nd rfl (Or.inl rfl)) (pgs_cons (pg_name (i := 11) sc_form.nd rfl (Or.inl rfl)) (pgs_cons (pg_name (i := 12) sc_form.nd rfl (Or.inl rfl)) (pgs_cons (pg_name (i := 13) sc_form.nd rfl (Or.inl rfl)) (pgs_cons (pg_name (i := 14) sc_form.nd rfl (Or.inl rfl)) (pgs_cons (pg_name (i := 15) sc_form.nd rfl (Or.inl rfl)) pgs_nil))))))))
  (pss_cons (ps_set (i := 4) sc_form.nd rfl (Or.inl rfl) (pe_tup (pa_cons (pe_op op_add (pe_op op_mulG (pv 11) (pv 15)) (pe_op op_mulG (pv 12) (pv 14))) (pa_cons (pe_op op_add (pe_op op_mulG (pv 10) (pv 15)) (pe_op op_mulG (pv 12) (pv 13))) (pa_cons (pe_op op_add (pe_op op_mulG (pv 10) (pv 14)) (pe_op op_mulG (pv 11) (pv 13))) pa_nil)))))
  (pss_one (ps_ret (pe_op op_catT (pe_tup (pa_cons (pe_op op_mulG (pv 10) (pv 13)) (pa_cons (pe_op op_mulG (pv 11) (pv 14)) (pa_cons (pe_op op_mulG (pv 12) (pv 15)) pa_nil)))) (pv 4)))))) pss_nil)
  (pss_cons (ps_if (pt_cmpR op_eq (pv 1) pe_int (nomark _)) (pss_one (ps_ret (pe_callTy call_tuple_of rfl T.z_tuple b_tuple (pa_cons (pv 2) pa_nil)))) pss_nil)
  (pss_cons (ps_if (pt_cmpR op_eq (pv 1) pe_int (nomark _)) (pss_cons (ps_set (i := 5) sc_form.nd rfl (Or.inl rfl) (pe_op op_sub (pe_call G_drawn hr_drawn rfl m_drawn k_drawn b_drawn .nil pass0 (pa_cons (pe_call G_of hr_of rfl m_of k_of b_of .nil pass0 (pa_cons (pv 0) (pa_cons pe_int pa_nil))) (pa_cons pe_int (pa_cons pe_int pa_nil)))) pe_int))
  (pss_cons (ps_set (i := 3) sc_form.nd rfl (Or.inl rfl) (pe_tup (pa_cons (pe_ix ix_list (pv 2) pe_int (fun _ _ => rfl)) (pa_cons (pe_ix ix_list (pv 2) pe_int (fun _ _ => rfl)) (pa_cons pe_int (pa_cons (pe_ix ix_list (pv 2) pe_int (fun _ _ => rfl)) (pa_cons (pe_ix ix_list (pv 2) pe_int (fun _ _ => rfl)) (pa_cons (pv 5) pa_nil))))))))
  (pss_cons (ps_set (i := 6) sc_form.nd rfl (Or.inl rfl) (pe_call G_worth hr_worth rfl m_worth k_worth b_worth .nil pass0 (pa_cons (pv 3) (pa_cons (pe_tup (pa_cons (pe_op op_sub (pe_op op_mod (pe_ix ix_list (pv 2) pe_int (fun _ _ => rfl)) pe_int) pe_int) (pa_cons (pe_op op_sub (pe_op op_mod (pe_ix ix_list (pv 2) pe_int (fun _ _ => rfl)) pe_int) pe_int) (pa_cons pe_int pa_nil)))) pa_nil))))
  (pss_one (ps_ret (pe_op op_catT (pe_op op_catT (pe_slice sl_tup (pv 3) po_none (po_some pe_int)) (pe_tup (pa_cons (pe_op op_sub pe_int (pv 6)) pa_nil))) (pe_slice sl_tup (pv 3) (po_some pe_int) po_none))))))) pss_nil)
  (pss_cons (ps_asg (pe_call G_plain_drawn hr_plain_drawn rfl m_plain_drawn k_plain_drawn b_plain_drawn .nil pass0 (pa_cons (pe_call G_of hr_of rfl m_of k_of b_of .nil pass0 (pa_cons (pv 0) (pa_cons pe_int pa_nil))) (pa_cons pe_int pa_nil))) (pg_tup rfl (pgs_cons (pg_name (i := 7) sc_form.nd rfl (Or.inl rfl)) (pgs_cons (pg_name (i := 8) sc_form.nd rfl (Or.inl rfl)) (pgs_cons (pg_name (i := 9) sc_form.nd rfl (Or.inl rfl)) pgs_nil)))))
  (pss_cons (ps_set (i := 3) sc_form.nd rfl (Or.inl rfl) (pe_tup (pa_cons (pv 7) (pa_cons (pv 8) (pa_cons (pv 9) (pa_cons pe_int (pa_cons pe_int (pa_cons pe_int pa_nil))))))))
  (pss_cons (ps_if (pt_cmpR op_eq (pv 1) pe_int (nomark _)) (pss_one (ps_ret (pv 3))) pss_nil)
  (pss_one (ps_ret (pe_call G_sheared hr_sheared rfl m_sheared k_sheared b_sheared .nil pass0 (pa_cons (pv 3) (pa_cons (pe_call G_of hr_of rfl m_of k_of b_of .nil pass0 (pa_cons (pv 0) (pa_cons pe_int pa_nil))) pa_nil))))))))))))), ?_⟩
 refine ⟨_, rfl, a, ns, _, rfl, hS, by decide, by decide, fun n0 => ⟨_, _, _, rfl, by decide, by decide, by decide, fun kd k0 k1 => ?_⟩⟩
 refine ⟨6, rfl, by decide, by decide, comp_range 6 (by decide) (fun i vs _ => InB 9 i vs) (fun _ _ => InB.zero) ?_ ?_⟩
 ·intro i vs H' acc Q' hi g _ _ r _ k
  exact ⟨_, rfl, _, rfl, _, _, rfl, rfl, a, ns, _, rfl, g.seq hS, by omega, by omega, fun x => ⟨_, _, _, rfl, by decide, by decide, by decide, fun n a0 a1 => ⟨_, _, rfl, rfl, k _ _ (Same.refl _) (r.next (by omega))⟩⟩⟩
 intro l H1 vs g1 _ hl _ r
 obtain ⟨s0, s1, s2, s3, s4, s5, rfl, b0, b1, b2, b3, b4, b5⟩ := r.six
 have hS1 := g1.seq hS
 -- kind 0, great
 refine ⟨fun σ' H' => σ' = [some (.ref a), some (.int kd), some (.ref l), none, none, none, none, none, none, none, none, none, none, none, none, none] /\ H1 = H', ?_, ?_⟩
 ·refine ⟨_, rfl, rfl, _, rfl, ite2 (fun c1 => ?_) (fun c1 => ?_)⟩
  ·refine ⟨_, rfl, a, ns, _, rfl, hS1, by decide, by decide, fun x => ⟨_, _, rfl, rfl, (by show (0 : Int) < 8; decide), rfl, _, rfl, ite2 (fun c2 => ?_) (fun c2 => ?_)⟩⟩
   ·refine ⟨6, rfl, by decide, by decide, comp_range 6 (by decide) (fun i vs _ => InB 100 i vs) (fun _ _ => InB.zero) ?_ ?_⟩
    ·intro i vs H' acc Q' hi g _ _ r _ k
     exact ⟨_, rfl, _, rfl, _, _, rfl, rfl, a, ns, _, rfl, g.seq hS1, by omega, by omega, fun x => ⟨_, _, _, rfl, by decide, by decide, by decide, fun n a0 a1 => ⟨_, _, rfl, rfl, k _ _ (Same.refl _) (r.next (by omega))⟩⟩⟩
    ·intro l2 H2 vs g2 _ hl2 _ r
     obtain ⟨t0, t1, t2, t3', t4, t5, rfl, c0, c1', c2', c3, c4, c5⟩ := r.six
     exact ⟨l2, _, rfl, .inl ⟨SqL.of hl2, fun z nz => q z _ ⟨t0, t1, t2, t3', t4, t5⟩ (g1.trans (g2.trans (same_new nz _))) upd_same ⟨c0, c1', c2', c3, c4, c5⟩⟩⟩
   ·exact ⟨rfl, rfl⟩
  ·exact ⟨rfl, rfl⟩
 rintro _ _ ⟨rfl, rfl⟩
 -- kind 0, a product
 refine ⟨fun σ' H' => σ' = [some (.ref a), some (.int kd), some (.ref l), none, none, none, none, none, none, none, none, none, none, none, none, none] /\ H1 = H', ?_, ?_⟩
 ·refine ⟨_, rfl, rfl, _, rfl, ite2 (fun c1 => ?_) (fun c1 => ?_)⟩
  ·refine ⟨_, rfl, a, ns, _, rfl, hS1, by decide, by decide, fun x => ⟨_, _, rfl, rfl, (by show (0 : Int) < 8; decide), rfl, _, rfl, ite2 (fun c2 => ?_) (fun c2 => ?_)⟩⟩
   ·refine ⟨_, rfl, l, rfl, ⟨_, SqL.of hl⟩, comp_listF (xs := [.int s0, .int s1, .int s2, .int s3, .int s4, .int s5]) (SqL.of hl) (by show 6 < sizeLine; decide) vd3 (fun H' g => SqL.of (g _ _ hl)) ?_ ?_⟩
    ·intro i x H' Q' ex g k
     have hm := List.mem_of_getElem? ex
     simp only [List.mem_cons, List.not_mem_nil, or_false] at hm
     obtain ⟨n, rfl⟩ : ∃ n : Int, x = .int n := by
      rcases hm with rfl | rfl | rfl | rfl | rfl | rfl <;> exact ⟨_, rfl⟩
     exact ⟨_, rfl, _, _, rfl, rfl, ⟨by decide, by decide⟩, k _ (Same.refl _)⟩
    ·intro l2 H2 g2 _ hl2
     have hl2' : H2 l2 = some (.lst [.int (s0 / 3), .int (s1 / 3), .int (s2 / 3), .int (s3 / 3), .int (s4 / 3), .int (s5 / 3)]) := hl2
     have d0 : (s0 / 3).natAbs <= 3 := by omega
     have d1 : (s1 / 3).natAbs <= 3 := by omega
     have d2 : (s2 / 3).natAbs <= 3 := by omega
     have d3 : (s3 / 3).natAbs <= 3 := by omega
     have d4 : (s4 / 3).natAbs <= 3 := by omega
     have d5 : (s5 / 3).natAbs <= 3 := by omega
     generalize s0 / 3 = p0 at *
     generalize s1 / 3 = p1 at *
     generalize s2 / 3 = p2 at *
     generalize s3 / 3 = p3 at *
     generalize s4 / 3 = p4 at *
     generalize s5 / 3 = p5 at *
     refine ⟨l2, _, rfl, SqL.of hl2', rfl, _, _, rfl, _, _, rfl, _, _, rfl, _, _, rfl, _, _, rfl, _, _, rfl, rfl, ?_⟩
     refine ⟨_, rfl, _, rfl, _, _, rfl, rfl, sm3 (by omega), _, rfl, _, rfl, _, _, rfl, rfl, sm3 (by omega), _, _, rfl, rfl, _, rfl, _, rfl, _, _, rfl, rfl, sm3 (by omega), _, rfl, _, rfl, _, _, rfl, rfl, sm3 (by omega), _, _, rfl, rfl, _, rfl, _, rfl, _, _, rfl, rfl, sm3 (by omega), _, rfl, _, rfl, _, _, rfl, rfl, sm3 (by omega), _, _, rfl, rfl, (by show 3 <= sizeLine; decide), fun pc npc => ?_⟩
     refine ⟨_, rfl, _, rfl, _, _, rfl, rfl, sm3 (by omega), _, rfl, _, rfl, _, _, rfl, rfl, sm3 (by omega), _, rfl, _, rfl, _, _, rfl, rfl, sm3 (by omega), (by show 3 <= sizeLine; decide), fun pa npa => ?_⟩
     refine ⟨_, rfl, pa, pc, _, _, rfl, rfl, SqT.of upd_same, SqT.of (same_new npa _ _ _ upd_same), by simp, (by show 6 <= sizeLine; decide), (fun z => by cases z), fun _ z nz => ?_⟩
     have m03 := mul3 d0 d3
     have m14 := mul3 d1 d4
     have m25 := mul3 d2 d5
     have m15 := mul3 d1 d5
     have m24 := mul3 d2 d4
     have m05 := mul3 d0 d5
     have m23 := mul3 d2 d3
     have m04 := mul3 d0 d4
     have m13 := mul3 d1 d3
     exact q z _ ⟨p0 * p3, p1 * p4, p2 * p5, p1 * p5 + p2 * p4, p0 * p5 + p2 * p3, p0 * p4 + p1 * p3⟩ (g1.trans (g2.trans ((same_new npc _).trans ((same_new npa _).trans (same_new nz _))))) upd_same ⟨by show (p0 * p3).natAbs <= 100; omega, by show (p1 * p4).natAbs <= 100; omega, by show (p2 * p5).natAbs <= 100; omega, by show (p1 * p5 + p2 * p4).natAbs <= 100; omega, by show (p0 * p5 + p2 * p3).natAbs <= 100; omega, by show (p0 * p4 + p1 * p3).natAbs <= 100; omega⟩
   ·exact ⟨rfl, rfl⟩
  ·exact ⟨rfl, rfl⟩
 rintro _ _ ⟨rfl, rfl⟩
 refine ⟨_, rfl, rfl, _, rfl, ite2 (fun c1 => ?_) (fun c1 => ?_)⟩
 ·exact ⟨_, rfl, l, _, rfl, .inl ⟨SqL.of hl, fun z nz => q z _ ⟨s0, s1, s2, s3, s4, s5⟩ (g1.trans (same_new nz _)) upd_same ⟨by show s0.natAbs <= 100; omega, by show s1.natAbs <= 100; omega, by show s2.natAbs <= 100; omega, by show s3.natAbs <= 100; omega, by show s4.natAbs <= 100; omega, by show s5.natAbs <= 100; omega⟩⟩⟩
 refine ⟨_, rfl, rfl, _, rfl, ite2 (fun c2 => ?_) (fun c2 => ?_)⟩
 ·refine ⟨_, rfl, a, ns, _, rfl, hS1, by decide, by decide, fun x => ⟨_, _, _, rfl, by decide, by decide, by decide, fun n a0 a1 => ⟨_, _, rfl, rfl, ?_⟩⟩⟩
  have b6 : (n - 9).natAbs <= 9 := by omega
  refine ⟨_, rfl, l, _, _, _, rfl, rfl, SqL.of hl, rfl, _, rfl, l, _, _, _, rfl, rfl, SqL.of hl, rfl, _, rfl, l, _, _, _, rfl, rfl, SqL.of hl, rfl, _, rfl, l, _, _, _, rfl, rfl, SqL.of hl, rfl, _, rfl, (by show 6 <= sizeLine; decide), fun pf npf => ?_⟩
  have f1 := same_new npf (.tup [.int s0, .int s1, .int 0, .int s3, .int s4, .int (n - 9)])
  have hl1 := f1 _ _ hl
  refine ⟨_, rfl, _, rfl, l, _, _, _, rfl, rfl, SqL.of hl1, rfl, _, _, rfl, rfl, (by show (0 : Int) < 3; decide), _, _, rfl, rfl, _, rfl, l, _, _, _, rfl, rfl, SqL.of hl1, rfl, _, _, rfl, rfl, (by show (0 : Int) < 3; decide), _, _, rfl, rfl, (by show 3 <= sizeLine; decide), fun pp npp => ?_⟩
  have e2 : (s2 % 3 - 1).natAbs <= 1 := by omega
  have e5 : (s5 % 3 - 1).natAbs <= 1 := by omega
  have f2 := same_new npp (.tup [.int (s2 % 3 - 1), .int (s5 % 3 - 1), .int 1])
  have bl1 : ∀ {y : Int}, y.natAbs <= 1 -> Bd 601 y := fun h => (bd_of1 h).mono (by decide)
  refine ⟨pf, pp, ⟨s0, s1, 0, s3, s4, n - 9⟩, ⟨s2 % 3 - 1, s5 % 3 - 1, 1⟩, rfl, f2 _ _ upd_same, upd_same, ⟨bd_of9 b0, bd_of9 b1, bd0, bd_of9 b3, bd_of9 b4, bd_of9 b6⟩, ⟨bl1 e2, bl1 e5, bd1⟩, ?_⟩
  have lw9 := lw_small b0 b1 b3 b4 b6 e2 e5
  generalize lw ⟨s0, s1, 0, s3, s4, n - 9⟩ ⟨s2 % 3 - 1, s5 % 3 - 1, 1⟩ = wh at *
  have hpf := f2 _ _ (show (upd H1 pf (.tup [.int s0, .int s1, .int 0, .int s3, .int s4, .int (n - 9)])) pf = some (.tup [.int s0, .int s1, .int 0, .int s3, .int s4, .int (n - 9)]) from upd_same)
  have g12 := g1.trans (f1.trans f2)
  generalize (upd (upd H1 pf _) pp _ : Hp) = H3 at *
  refine ⟨_, rfl, _, rfl, pf, _, rfl, SqT.of hpf, (by simp [HT.sIx]), fun pa npa => ?_⟩
  have f3 := same_new npa (.tup [.int s0, .int s1])
  refine ⟨_, rfl, _, _, rfl, rfl, (by show 1 <= sizeLine; decide), fun pb npb => ?_⟩
  have f4 := same_new npb (.tup [.int (0 - wh)])
  refine ⟨pa, pb, _, _, rfl, rfl, SqT.of (f4 _ _ upd_same), SqT.of upd_same, (by intro z; cases z), (by show 3 <= sizeLine; decide), (fun z => by cases z), fun _ pd npd => ?_⟩
  have f5 := same_new npd (.tup [.int s0, .int s1, .int (0 - wh)])
  refine ⟨_, rfl, _, rfl, pf, _, rfl, SqT.of ((f3.trans (f4.trans f5)) _ _ hpf), (by simp [HT.sIx]), fun pe npe => ?_⟩
  have f6 := same_new npe (.tup [.int s3, .int s4, .int (n - 9)])
  refine ⟨pd, pe, _, _, rfl, rfl, SqT.of (f6 _ _ upd_same), SqT.of upd_same, (by intro z; cases z), (by show 6 <= sizeLine; decide), (fun z => by cases z), fun _ z nz => ?_⟩
  exact q z _ ⟨s0, s1, 0 - wh, s3, s4, n - 9⟩ (g12.trans (f3.trans (f4.trans (f5.trans (f6.trans (same_new nz _)))))) upd_same ⟨by show s0.natAbs <= 100; omega, by show s1.natAbs <= 100; omega, by show (0 - wh).natAbs <= 100; omega, by show s3.natAbs <= 100; omega, by show s4.natAbs <= 100; omega, by show (n - 9).natAbs <= 100; omega⟩
 refine ⟨_, rfl, a, ns, _, rfl, hS1, by decide, by decide, fun x => ⟨x, 21, rfl, by decide, by decide, fun r' H2 u v w g2 hr2 bu bv bw => ?_⟩⟩
 have bu' : u.natAbs <= 21 := bu
 have bv' : v.natAbs <= 21 := bv
 have bw' : w.natAbs <= 21 := bw
 refine ⟨r', _, rfl, SqT.of hr2, rfl, _, _, rfl, _, _, rfl, _, _, rfl, rfl, ?_⟩
 refine ⟨_, rfl, _, rfl, _, rfl, (by show 6 <= sizeLine; decide), fun pf npf => ?_⟩
 have f1 := same_new npf (.tup [.int u, .int v, .int w, .int 0, .int 0, .int 0])
 refine ⟨_, rfl, rfl, _, rfl, ite2 (fun c3 => ?_) (fun c3 => ?_)⟩
 ·exact ⟨_, rfl, q pf _ ⟨u, v, w, 0, 0, 0⟩ (g1.trans (g2.trans f1)) upd_same ⟨by show u.natAbs <= 100; omega, by show v.natAbs <= 100; omega, by show w.natAbs <= 100; omega, by show (0 : Int).natAbs <= 100; decide, by show (0 : Int).natAbs <= 100; decide, by show (0 : Int).natAbs <= 100; decide⟩⟩
 ·exact ⟨_, rfl, _, rfl, a, ns, _, rfl, (g2.trans f1).seq hS1, by decide, by decide, fun x => ⟨pf, u, v, w, x, rfl, upd_same, bu', bv', bw', fun z H3 F g3 h3 i3 => q z H3 F (g1.trans (g2.trans (f1.trans g3))) h3 i3⟩⟩
theorem ok_square_free {f : Addr} {fd : FuncData} (F : Fun K "_law_square_free" "_law_square_free" s_square_free f fd) (T : Txt K mg t)  : FnOk P w K mg base CX0 1 f fd ["_law_number"] (spSfP) := by
 refine F.ok sc_square_free (fun vs H Q E h => ?_) (fun cdv A outer s H vs Q E hr h => ?_)
 ·obtain ⟨_, rfl, _⟩ := h
  rfl
 obtain ⟨n, rfl, sf, nb, q⟩ := h
 refine ⟨_, pss_cons (ps_set (i := 1) sc_square_free.nd rfl (Or.inl rfl) (pe_callB call_abs rfl T.z_abs b_abs (pa_cons (pv 0) pa_nil)))
  (pss_cons (ps_set (i := 2) sc_square_free.nd rfl (Or.inl rfl) pe_int)
  (pss_cons (ps_while PassesOwn.never (pt_cmpR op_le (pe_op op_mulG (pe_op op_mulG (pv 2) (pv 2)) (pv 2)) (pv 1) (nomark _)) (pss_cons (ps_if (pt_cmpR op_eq (pe_op op_mod (pv 1) (pe_op op_mulG (pv 2) (pv 2))) pe_int (nomark _)) (pss_one (ps_ret pe_bl)) pss_nil)
  (pss_cut (ps_if (pt_cmpR op_eq (pe_op op_mod (pv 1) (pv 2)) pe_int (nomark _)) (pss_one (ps_set (i := 1) sc_square_free.nd rfl (Or.inl rfl) (pe_op op_fdivL (pv 1) (pv 2)))) pss_nil)
  (pss_one (ps_set (i := 2) sc_square_free.nd rfl (Or.inl rfl) (pe_op op_add (pv 2) pe_int))))))
  (pss_cons (ps_set (i := 3) sc_square_free.nd rfl (Or.inl rfl) pe_int)
  (pss_cons (ps_while PassesOwn.never (pt_cmpR op_lt (pe_op op_mulG (pv 3) (pv 3)) (pv 1) (nomark _)) (pss_one (ps_set (i := 3) sc_square_free.nd rfl (Or.inl rfl) (pe_op op_mulG pe_int (pv 3)))))
  (pss_cons (ps_while PassesOwn.never (pt_cmpR op_gt (pe_op op_mulG (pv 3) (pv 3)) (pv 1) (nomark _)) (pss_one (ps_set (i := 3) sc_square_free.nd rfl (Or.inl rfl) (pe_op op_fdiv (pe_op op_add (pv 3) (pe_op op_fdivL (pv 1) (pv 3))) pe_int))))
  (pss_one (ps_ret (pe_and (pe_cmpR op_ne (pv 0) pe_int (nomark _)) (pe_one (pe_or (pe_cmpR op_eq (pv 1) pe_int (nomark _)) (pe_one (pe_cmpR op_ne (pe_op op_mulG (pv 3) (pv 3)) (pv 1) (nomark _))))))))))))), ?_⟩
 have sa := sf_abs sf
 have r1 : 1 <= (if n < 0 then -n else n) := by
  have := sf.n0
  split <;> omega
 have r2 : (if n < 0 then -n else n) <= 10000000000 := by split <;> omega
 refine ⟨_, rfl, n, rfl, ?_⟩
 refine ⟨fun m σ H' => ∃ r d : Int, σ = [some (.int n), some (.int r), some (.int d), none] /\ H = H' /\ Jc.Sf r /\ 1 <= r /\ r <= 10000000000 /\ 2 <= d /\ d <= 10000000003 /\ m = (10000000003 - d).toNat, ⟨_, _, 2, rfl, rfl, sa, r1, r2, by omega, by omega, rfl⟩, ?_⟩
 rintro m σ H' ⟨r, d, rfl, rfl, sr, ra, rb, da, db, rfl⟩
 have bd : Bd 64 d := Nat.le_trans (show d.natAbs <= 10000000003 by omega) (by decide)
 refine ⟨_, rfl, _, rfl, _, _, rfl, rfl, okM bd bd, _, rfl, _, _, rfl, rfl, okM (bd.mul bd) bd, _, rfl, _, _, rfl, rfl, _, rfl, ite2 (fun c => ?_) (fun c => ?_)⟩
 ·have cc : d * d * d <= r := decT c
  have dd : d <= d * d := le_sq (by omega)
  have ddd : d * d <= d * d * d := by
   have := Int.mul_le_mul_of_nonneg_left (show (1 : Int) <= d by omega) (show 0 <= d * d by omega)
   omega
  refine ⟨fun σ' H2 => ∃ r' : Int, σ' = [some (.int n), some (.int r'), some (.int (d + 1)), none] /\ H = H2 /\ Jc.Sf r' /\ 1 <= r' /\ r' <= 10000000000, ?_, ?_⟩
  ·rintro σ' H2 ⟨r', rfl, rfl, s', x1, x2⟩
   exact ⟨_, by omega, r', d + 1, rfl, rfl, s', x1, x2, by omega, by omega, rfl⟩
  refine ⟨_, rfl, _, rfl, _, rfl, _, _, rfl, rfl, okM bd bd, _, _, rfl, rfl, (by show 0 < d * d; omega), rfl, _, rfl, iteDF (fun z => sf_no sr da (Int.dvd_of_emod_eq_zero (int_inj z))) ?_⟩
  refine ⟨fun σ' H2 => ∃ r' : Int, σ' = [some (.int n), some (.int r'), some (.int d), none] /\ H = H2 /\ Jc.Sf r' /\ 1 <= r' /\ r' <= 10000000000, ?_, ?_⟩
  ·refine ⟨_, rfl, _, rfl, _, _, rfl, rfl, (by show 0 < d; omega), rfl, _, rfl, ite2 (fun c2 => ?_) (fun c2 => ?_)⟩
   ·obtain ⟨k, ek⟩ := Int.dvd_of_emod_eq_zero (int_inj (decT c2) : r % d = 0)
    have f : r.fdiv d = k := by rw [ek]; exact Int.mul_fdiv_cancel_left _ (by omega)
    have k1 : 1 <= k := by
     rcases Int.lt_or_le k 1 with z | z
     ·have := Int.mul_le_mul_of_nonneg_left (show k <= 0 by omega) (show 0 <= d by omega)
      omega
     ·exact z
    have k2 : k <= r := by
     have := Int.mul_le_mul_of_nonneg_right (show (1 : Int) <= d by omega) (show 0 <= k by omega)
     omega
    refine ⟨_, rfl, _, rfl, _, _, rfl, rfl, ⟨by omega, Nat.lt_of_lt_of_le (log2_lt_of (k := 64) (by omega) (by decide)) (by decide)⟩, r.fdiv d, rfl, rfl, ?_⟩
    rw [f]
    exact ⟨Jc.sf_dvd sr ⟨d, by rw [Int.mul_comm]; exact ek⟩, k1, by omega⟩
   ·exact ⟨r, rfl, rfl, sr, ra, rb⟩
  rintro _ _ ⟨r', rfl, rfl, s', x1, x2⟩
  exact ⟨_, rfl, _, _, rfl, rfl, r', rfl, rfl, s', x1, x2⟩
 have bq : ∀ {g : Int}, 0 <= g -> g <= 20000000001 -> Bd 64 g := fun h1 h2 => Nat.le_trans (show _ <= 20000000001 by omega) (by decide)
 refine ⟨fun m σ H' => ∃ g : Int, σ = [some (.int n), some (.int r), some (.int d), some (.int g)] /\ H = H' /\ 1 <= g /\ g <= 2 * r + 1 /\ m = (2 * r + 1 - g).toNat, ⟨_, 1, rfl, rfl, by omega, by omega, rfl⟩, ?_⟩
 rintro m σ H' ⟨g, rfl, rfl, g1, g2, rfl⟩
 have bg := bq (g := g) (by omega) (by omega)
 refine ⟨_, rfl, _, rfl, _, _, rfl, rfl, okM bg bg, _, rfl, _, _, rfl, rfl, _, rfl, ite2 (fun c2 => ?_) (fun c2 => ?_)⟩
 ·have cc : g * g < r := decT c2
  have gg := le_sq g1
  refine ⟨fun σ' H2 => σ' = [some (.int n), some (.int r), some (.int d), some (.int (2 * g))] /\ H = H2, ?_, ?_⟩
  ·rintro σ' H2 ⟨rfl, rfl⟩
   exact ⟨_, by omega, 2 * g, rfl, rfl, by omega, by omega, rfl⟩
  ·exact ⟨_, rfl, _, _, rfl, rfl, ok2, rfl, rfl⟩
 have cc : ¬ g * g < r := decF c2
 refine ⟨fun m σ H' => ∃ g : Int, σ = [some (.int n), some (.int r), some (.int d), some (.int g)] /\ H = H' /\ 0 <= g /\ g <= 2 * r + 1 /\ m = g.toNat, ⟨_, g, rfl, rfl, by omega, g2, rfl⟩, ?_⟩
 clear cc bg g1 g2 c2
 rintro m σ H' ⟨g, rfl, rfl, g1, g2, rfl⟩
 have bg := bq (g := g) g1 (by omega)
 refine ⟨_, rfl, _, rfl, _, _, rfl, rfl, okM bg bg, _, rfl, _, _, rfl, rfl, _, rfl, ite2 (fun c2 => ?_) (fun c2 => ?_)⟩
 ·have cc : r < g * g := decT c2
  obtain ⟨gp, s0, s1, _⟩ := newton_step (by omega) g1 cc
  refine ⟨fun σ' H2 => σ' = [some (.int n), some (.int r), some (.int d), some (.int ((g + r.fdiv g) / 2))] /\ H = H2, ?_, ?_⟩
  ·rintro σ' H2 ⟨rfl, rfl⟩
   exact ⟨_, by omega, _, rfl, rfl, s0, by omega, rfl⟩
  ·exact ⟨_, rfl, _, rfl, _, rfl, _, _, rfl, rfl, ⟨by omega, Nat.lt_of_lt_of_le (log2_lt_of (k := 64) (by omega) (by decide)) (by decide)⟩, _, _, rfl, rfl, _, _, rfl, rfl, ⟨by decide, by decide⟩, rfl, rfl⟩
 refine ⟨_, rfl, rfl, _, rfl, ite2 (fun _ => ?_) (fun c4 => absurd (int_inj (neF c4)) sf.n0)⟩
 refine ⟨_, rfl, rfl, _, rfl, ite2 (fun c3 => ?_) (fun c3 => ?_)⟩
 ·have e : decide (V.int r = V.int 1) = true := c3
  first
   | exact q
   | (rw [e]; exact q)
   | (simp only [e]; exact q)
 ·have e1 : r ≠ 1 := fun z => decF c3 (congrArg V.int z)
  have ne : g * g ≠ r := fun z => by
   rcases (show g = 0 \/ g = 1 \/ 2 <= g by omega) with w | w | w
   ·rw [w] at z
    omega
   ·rw [w] at z
    omega
   ·exact sf_no sr w (by rw [z]; exact Int.dvd_refl r)
  have e : decide (V.int (g * g) = V.int r) = false := decide_eq_false fun z => ne (int_inj z)
  refine ⟨_, rfl, _, rfl, _, _, rfl, rfl, okM bg bg, _, rfl, rfl, ?_⟩
  first
   | exact q
   | (rw [e]; exact q)
   | (show Q (.bl (!decide (V.int (g * g) = V.int r))) _; rw [e]; exact q)
theorem ok_is_plain {f : Addr} {fd : FuncData} (F : Fun K "_law_is_plain" "_law_is_plain" s_is_plain f fd) (T : Txt K mg t) (H_square_free : Has P w K mg base CX0 1 "_law_square_free" ["_law_number"] (spSfP)) (H_shared : HasS P w K mg base 1 "_law_shared" ["_law_numbers"] (spShared)) : FnOk P w K mg base CX0 2 f fd ["_law_triple"] (spIsPl) := by
 obtain ⟨f_square_free, d_square_free, G_square_free, b_square_free, k_square_free, m_square_free⟩ := H_square_free
 obtain ⟨f_shared, d_shared, G_shared, b_shared, k_shared, m_shared⟩ := H_shared
 refine F.ok sc_is_plain (fun vs H Q E h => ?_) (fun cdv A outer s H vs Q E hr h => ?_)
 ·obtain ⟨_, _, _, _, rfl, _⟩ := h
  rfl
 obtain ⟨p, a, b, c, rfl, hp, pl, ba, bb, bc, q⟩ := h
 have hr_square_free := hr.mono (show 1 <= 1 by decide)
 have hr_shared := hr.q.mono (show 1 <= 1 by decide)
 refine ⟨_, pss_cons (ps_if (pt_not (pt_val (pe_callB (call_all rfl) rfl T.z_all b_all (pa_cons (pe_compC rfl (CompScope.gen (cl := []) [] [] [(".0", .local), ("_law_number", .local), ("_law_square_free", .globalImplicit)] rfl (by decide +kernel) (by decide +kernel) rfl rfl (by intro p hp; cases hp) rfl (by intro p hp h; simp only [List.mem_cons, List.not_mem_nil, or_false] at hp; rcases hp with rfl | rfl | rfl <;> first | rfl | (rcases h with h | h <;> cases h)) (by decide) (by decide +kernel) rfl (by intro p hp; cases hp)) (pi_tup (pv 0)) (fun C s0 H0 fp pins => pe_call G_square_free hr_square_free rfl m_square_free k_square_free b_square_free .nil pass0 (pa_cons (pv 0) pa_nil))) pa_nil)) (fun _ => rfl))) (pss_one (ps_ret pe_bl)) pss_nil)
  (pss_cons (ps_asg (pv 0) (pg_tup rfl (pgs_cons (pg_name (i := 1) sc_is_plain.nd rfl (Or.inl rfl)) (pgs_cons (pg_name (i := 2) sc_is_plain.nd rfl (Or.inl rfl)) (pgs_cons (pg_name (i := 3) sc_is_plain.nd rfl (Or.inl rfl)) pgs_nil)))))
  (pss_one (ps_ret (pe_and (pe_cmpR op_eq (pe_callS G_shared hr_shared rfl rfl m_shared k_shared b_shared .nil (pa_cons (pe_lst (pa_cons (pv 1) (pa_cons (pv 2) pa_nil))) pa_nil)) pe_int (nomark _)) (pe_and (pe_cmpR op_eq (pe_callS G_shared hr_shared rfl rfl m_shared k_shared b_shared .nil (pa_cons (pe_lst (pa_cons (pv 2) (pa_cons (pv 3) pa_nil))) pa_nil)) pe_int (nomark _)) (pe_one (pe_cmpR op_eq (pe_callS G_shared hr_shared rfl rfl m_shared k_shared b_shared .nil (pa_cons (pe_lst (pa_cons (pv 3) (pa_cons (pv 1) pa_nil))) pa_nil)) pe_int (nomark _)))))))), ?_⟩
 refine ⟨_, rfl, p, rfl, ⟨_, SqT.of hp⟩, comp_tupF (xs := [.int a, .int b, .int c]) (SqT.of hp) (by show 3 < sizeLine; decide) (fun _ => .bl true) (fun H' g => SqT.of (g _ _ hp)) ?_ ?_⟩
 ·intro i v H' Q' hv g k
  match i, hv with
  | 0, hv =>
   obtain rfl : V.int a = v := Option.some.inj hv
   exact ⟨_, rfl, a, rfl, ⟨pl.a0, pl.sa⟩, ba, k _ (Same.refl _)⟩
  | 1, hv =>
   obtain rfl : V.int b = v := Option.some.inj hv
   exact ⟨_, rfl, b, rfl, ⟨pl.b0, pl.sb⟩, bb, k _ (Same.refl _)⟩
  | 2, hv =>
   obtain rfl : V.int c = v := Option.some.inj hv
   exact ⟨_, rfl, c, rfl, ⟨pl.c0, pl.sc⟩, bc, k _ (Same.refl _)⟩
  | n + 3, hv => cases hv
 intro l H1 g1 h0 hl
 refine ⟨l, [true, true, true], rfl, hl, _, rfl, iteF ?_⟩
 have hp1 := g1 _ _ hp
 refine ⟨_, rfl, p, _, rfl, SqT.of hp1, rfl, _, _, rfl, _, _, rfl, _, _, rfl, rfl, ?_⟩
 refine ⟨_, rfl, _, rfl, (by show 2 <= sizeLine; decide), fun x nx => ⟨x, true, [a, b], rfl, upd_same, fun g g0 hd _ => ?_⟩⟩
 obtain rfl := share_one pl.a0 pl.ab g0 hd
 have f1 := same_new nx (.lst [.int a, .int b])
 refine ⟨rfl, _, rfl, iteT ?_⟩
 refine ⟨_, rfl, _, rfl, (by show 2 <= sizeLine; decide), fun y ny => ⟨y, true, [b, c], rfl, upd_same, fun g g0 hd _ => ?_⟩⟩
 obtain rfl := share_one pl.b0 pl.bc g0 hd
 have f2 := same_new ny (.lst [.int b, .int c])
 refine ⟨rfl, _, rfl, iteT ?_⟩
 refine ⟨_, rfl, _, rfl, (by show 2 <= sizeLine; decide), fun z nz => ⟨z, true, [c, a], rfl, upd_same, fun g g0 hd _ => ?_⟩⟩
 obtain rfl := share_one pl.c0 pl.ca g0 hd
 exact ⟨rfl, q _ (g1.trans (f1.trans (f2.trans (same_new nz _))))⟩
theorem ok_is_table {f : Addr} {fd : FuncData} (F : Fun K "_law_is_table" "_law_is_table" s_is_table f fd) (T : Txt K mg t) (H_wholes : HasS P w K mg base 2 "_law_wholes" ["_law_found", "_law_many"] (spWhol3)) (H_measure : Has P w K mg base CX0 1 "_law_measure" ["_law_table"] (spLm9)) : FnOk P w K mg base CX0 3 f fd ["_law_table"] (spIsTb) := by
 obtain ⟨f_wholes, d_wholes, G_wholes, b_wholes, k_wholes, m_wholes⟩ := H_wholes
 obtain ⟨f_measure, d_measure, G_measure, b_measure, k_measure, m_measure⟩ := H_measure
 refine F.ok sc_is_table (fun vs H Q E h => ?_) (fun cdv A outer s H vs Q E hr h => ?_)
 ·obtain ⟨_, _, rfl, _⟩ := h
  rfl
 obtain ⟨p, t', rfl, ht, bt, m0, q⟩ := h
 have hr_wholes := hr.q.mono (show 2 <= 2 by decide)
 have hr_measure := hr.mono (show 1 <= 2 by decide)
 obtain ⟨r0, r1, r2, hp, h0, h1, h2⟩ := id ht
 refine ⟨_, pss_cons (ps_if (PW.pt (pw_or (pt_not (pt_val (pe_callB call_isi rfl T.z_isinstance b_isi (pa_cons (pv 0) (pa_cons (pe_bltn (v := .ty "tuple") rfl T.z_tuple b_tuple rfl) pa_nil))) (fun _ => rfl))) (pw_or1 (pt_cmpR op_ne (pe_callB call_len_seq rfl T.z_len PySem.boot_len (pa_cons (pv 0) pa_nil)) pe_int (nomark _))))) (pss_one (ps_ret pe_bl)) pss_nil)
  (pss_one (ps_ret (pe_and (pe_callB (call_all rfl) rfl T.z_all b_all (pa_cons (pe_compC rfl (CompScope.gen (cl := []) [] [] [(".0", .local), ("_law_row", .local), ("_law_wholes", .globalImplicit)] rfl (by decide +kernel) (by decide +kernel) rfl rfl (by intro p hp; cases hp) rfl (by intro p hp h; simp only [List.mem_cons, List.not_mem_nil, or_false] at hp; rcases hp with rfl | rfl | rfl <;> first | rfl | (rcases h with h | h <;> cases h)) (by decide) (by decide +kernel) rfl (by intro p hp; cases hp)) (pi_tup (pv 0)) (fun C s0 H0 fp pins => pe_callS G_wholes hr_wholes rfl rfl m_wholes k_wholes b_wholes .nil (pa_cons (pv 0) (pa_cons pe_int pa_nil)))) pa_nil)) (pe_one (pe_cmpR op_ne (pe_call G_measure hr_measure rfl m_measure k_measure b_measure .nil pass0 (pa_cons (pv 0) pa_nil)) pe_int (nomark _)))))), ?_⟩
 refine ⟨_, rfl, _, _, _, _, rfl, .inr ⟨_, rfl⟩, .of (.tup hp), rfl, _, rfl, iteF ?_⟩
 refine ⟨_, rfl, p, _, rfl, .inr (SqT.of hp), rfl, _, rfl, iteNS rfl ?_⟩
 refine ⟨_, rfl, p, rfl, ⟨_, SqT.of hp⟩, comp_tupF (xs := [.ref r0, .ref r1, .ref r2]) (SqT.of hp) (by show 3 < sizeLine; decide) (fun _ => .bl true) (fun H' g => SqT.of (g _ _ hp)) ?_ ?_⟩
 ·intro i v H' Q' hv g k
  obtain ⟨z, rfl, hz⟩ := row_get (S := fun r P => S3 H' r P) (t := t') (g _ _ h0) (g _ _ h1) (g _ _ h2) hv
  exact ⟨_, rfl, z, _, _, _, rfl, hz, fun H2 g2 => k _ g2⟩
 intro l H1 g1 _ hl
 refine ⟨l, [true, true, true], rfl, hl, _, rfl, iteT ?_⟩
 refine ⟨_, rfl, p, t', rfl, ht.mono g1, bt, ?_⟩
 have e : decide (V.int (lm t') = V.int 0) = false := decide_eq_false fun z => m0 (int_inj z)
 first
  | exact ⟨rfl, q _ g1⟩
  | exact ⟨_, rfl, q _ g1⟩
  | (refine ⟨rfl, ?_⟩; show Q (.bl (!decide (V.int (lm t') = V.int 0))) _; rw [e]; exact q _ g1)
  | (refine ⟨_, rfl, ?_⟩; rw [e]; exact q _ g1)
theorem ok_init_Flat {f : Addr} {fd : FuncData} (F : Fun K "__init__" "Flat.__init__" s_init_Flat f fd) (T : Txt K mg t)  : FnOk P w K mg base CX0 1 f fd ["self", "vertex"] (spIni t.c8 "vertex") := by
 refine F.ok sc_init_Flat (fun vs H Q E h => ?_) (fun cdv A outer s H vs Q E hr h => ?_)
 ·obtain ⟨_, _, rfl, _⟩ := h
  rfl
 obtain ⟨e, v, rfl, he, q⟩ := h
 refine ⟨_, pss_cons (ps_expr (pe_baseInit rfl T.m_CurveError T.y1 T.y2 T.y3 (pa_cons (pv 0) (pa_cons pe_str pa_nil)))) (pss_one (ps_excfld (pv 0) (pv 1) rfl)), ?_⟩
 refine ⟨_, rfl, e, t.c8, t.iFlat, _, rfl, he, T.x_Flat, ?_⟩
 refine ⟨_, rfl, _, rfl, e, t.c8, rfl, upd_same, T.set_Flat, fun dx hdx => ?_⟩
 have ne : dx ≠ e := fun z => by subst z; rw [upd_same] at hdx; cases hdx
 refine q dx _ upd_same (by rw [upd_ne ne]; exact upd_same) fun b o nb hb => ?_
 have bd : b ≠ dx := fun z => by subst z; rw [upd_ne nb] at hdx; rw [hdx] at hb; cases hb
 rw [upd_ne nb, upd_ne bd, upd_ne nb]
 exact hb
theorem ok_refuse_flat {f : Addr} {fd : FuncData} (F : Fun K "refuse_flat" "refuse_flat" s_refuse_flat f fd) (T : Txt K mg t) (H_size_of : Has P w K mg base CX0 1 "size_of" ["Q"] (spSize)) (H_vertex_of : Has P w K mg base CX0 4 "vertex_of" ["Q"] (spVx0)) (H_init_Flat : HasI P w K mg base 1 t.iFlat ["self", "vertex"] (spIni t.c8 "vertex")) : FnOk P w K mg base (XD P w) 5 f fd ["Q"] (spRfX t.c8) := by
 obtain ⟨f_size_of, d_size_of, G_size_of, b_size_of, k_size_of, m_size_of⟩ := H_size_of
 obtain ⟨f_vertex_of, d_vertex_of, G_vertex_of, b_vertex_of, k_vertex_of, m_vertex_of⟩ := H_vertex_of
 obtain ⟨d_init_Flat, G_init_Flat, b_init_Flat⟩ := H_init_Flat
 refine F.okD sc_refuse_flat (fun vs H Q E h => ?_) (fun cdv A outer s H vs Q E hr h => ?_)
 ·obtain ⟨_, _, rfl, _⟩ := h
  rfl
 obtain ⟨p, F, rfl, hp, bf, q1, q2⟩ := h
 have hr_size_of := hr.mono (show 1 <= 4 by decide)
 have hr_vertex_of := hr.mono (show 4 <= 4 by decide)
 have hr_init_Flat := hr.mono (show 1 <= 4 by decide)
 refine ⟨_, pss_one (ps_if (pt_cmpR op_eq (pe_call G_size_of hr_size_of rfl m_size_of k_size_of b_size_of .nil pass0 (pa_cons (pv 0) pa_nil)) pe_int (nomark _)) (pss_one (ps_raiseD T.mk_Flat G_init_Flat (hr.mono (show 1 + 1 <= 4 by decide)) b_init_Flat T.m_Flat rfl (pa_cons (pe_call G_vertex_of hr_vertex_of rfl m_vertex_of k_vertex_of b_vertex_of .nil pass0 (pa_cons (pv 0) pa_nil)) pa_nil))) pss_nil), ?_⟩
 refine ⟨_, rfl, p, F, rfl, hp, bf.mono, rfl, _, rfl, ite2 (fun c => ?_) (fun c => ?_)⟩
 ·have z0 : sz F = 0 := int_inj (decT c)
  refine ⟨_, rfl, p, F, rfl, hp, bf, z0, fun _ r H1 R g1 hr1 l3 bp kr => ?_⟩
  refine ⟨(by show 1 <= sizeLine; decide), fun e he => ⟨e, _, rfl, upd_same, fun dx H2 he2 hdx k => ⟨rfl, dx, he2, ?_⟩⟩⟩
  have ne : dx ≠ e := fun z => by subst z; rw [he2] at hdx; cases hdx
  have kp : ∀ b o, H1 b = some o -> without H2 e b = some o := fun b o hb => by
   have nb := ne_of_none hb he
   rw [without_ne nb]
   exact k b o nb (by rw [upd_ne nb]; exact hb)
  exact q2 z0 dx r _ R (fun b o hb => kp b o (g1 b o hb)) (by rw [without_ne ne]; exact hdx) (kp _ _ hr1) l3 bp kr
 ·exact q1 (fun z => decF c (congrArg V.int z))
theorem ok_vertex {f : Addr} {fd : FuncData} (F : Fun K "_law_vertex" "_law_vertex" s_vertex f fd) (T : Txt K mg t) (H_is_lowest : HasS P w K mg base 3 "_law_is_lowest" ["_law_point"] (spIsLow)) : FnOkS P w K mg base 4 f fd ["_law_form_here", "_law_point"] (spVtx) := by
 obtain ⟨f_is_lowest, d_is_lowest, G_is_lowest, b_is_lowest, k_is_lowest, m_is_lowest⟩ := H_is_lowest
 refine F.okS sc_vertex (fun vs H Q E h => ?_) (fun cdv A outer s H fz vs Q E hr h => ?_)
 ·obtain ⟨_, _, _, _, rfl, _⟩ := h
  rfl
 obtain ⟨p, r, F, R, rfl, hp, hR, bf, bR, lR, kR, q⟩ := h
 have hr_is_lowest := hr.mono (show 3 <= 3 by decide)
 have hp' : H p = some (.tup [.int F.a, .int F.b, .int F.c, .int F.d, .int F.e, .int F.f]) := hp
 refine ⟨_, pss_cons (ps_if (pt_not (pt_val (pe_callS G_is_lowest hr_is_lowest rfl rfl m_is_lowest k_is_lowest b_is_lowest .nil (pa_cons (pv 1) pa_nil)) (fun _ => rfl))) (pss_one (ps_ret pe_bl)) pss_nil)
  (pss_cons (ps_asg (pv 0) (pg_tup rfl (pgs_cons (pg_name (i := 3) sc_vertex.nd rfl (Or.inl rfl)) (pgs_cons (pg_name (i := 4) sc_vertex.nd rfl (Or.inl rfl)) (pgs_cons (pg_name (i := 5) sc_vertex.nd rfl (Or.inl rfl)) (pgs_cons (pg_name (i := 6) sc_vertex.nd rfl (Or.inl rfl)) (pgs_cons (pg_name (i := 7) sc_vertex.nd rfl (Or.inl rfl)) (pgs_cons (pg_name (i := 8) sc_vertex.nd rfl (Or.inl rfl)) pgs_nil))))))))
  (pss_cons (ps_set (i := 2) sc_vertex.nd rfl (Or.inl rfl) (pe_lst (pa_cons (pe_tup (pa_cons (pe_op op_mulG pe_int (pv 3)) (pa_cons (pv 8) (pa_cons (pv 7) pa_nil)))) (pa_cons (pe_tup (pa_cons (pv 8) (pa_cons (pe_op op_mulG pe_int (pv 4)) (pa_cons (pv 6) pa_nil)))) (pa_cons (pe_tup (pa_cons (pv 7) (pa_cons (pv 6) (pa_cons (pe_op op_mulG pe_int (pv 5)) pa_nil)))) pa_nil)))))
  (pss_one (ps_ret (pe_callB (call_all rfl) rfl T.z_all b_all (pa_cons (pe_compK rfl (CompScopeK.gen (cl := [("_law_point", _)]) ["_law_point"] [1] [(".0", .local), ("_law_row", .cell), ("sum", .globalImplicit), ("range", .globalImplicit), ("_law_point", .cell)] rfl (fun _ => rfl) (fun _ => rfl) (by decide +kernel) rfl (by intro p hp; simp only [List.mem_cons, List.not_mem_nil, or_false] at hp; rcases hp with rfl <;> rfl) rfl rfl (by intro p hp h; simp only [List.mem_cons, List.not_mem_nil, or_false] at hp; rcases hp with rfl | rfl | rfl | rfl | rfl <;> first | exact Or.inr rfl | exact Or.inl rfl | (rcases h with h | h <;> cases h)) (by decide) (by decide +kernel) rfl (by intro p hp; simp only [List.zip_cons_cons, List.zip_nil_left, List.mem_cons, List.not_mem_nil, or_false] at hp; rcases hp with rfl <;> exact ⟨rfl, rfl⟩)) (pi_list (pv 2)) (fun C s0 H0 fp pins => pe_cmpR op_eq (pe_callB (call_sum rfl) rfl T.z_sum b_sum (pa_cons (pe_compC rfl (CompScope.gen (cl := [("_law_row", _), ("_law_point", _)]) ["_law_point", "_law_row"] [1, 0] [(".0", .local), ("_law_k", .local), ("_law_point", .cell), ("_law_row", .cell)] rfl (by decide +kernel) (by decide +kernel) rfl rfl (by intro p hp; simp only [List.mem_cons, List.not_mem_nil, or_false] at hp; rcases hp with rfl | rfl <;> rfl) rfl (by intro p hp h; simp only [List.mem_cons, List.not_mem_nil, or_false] at hp; rcases hp with rfl | rfl | rfl | rfl <;> first | rfl | (rcases h with h | h <;> cases h)) (by decide) (by decide +kernel) rfl (by intro p hp; simp only [List.zip_cons_cons, List.zip_nil_left, List.mem_cons, List.not_mem_nil, or_false] at hp; rcases hp with rfl | rfl <;> exact ⟨rfl, rfl⟩)) (pi_range1 rfl T.z_range (pa_cons pe_int pa_nil)) (fun C s0 H0 fp pins => pe_op op_mulG (pe_ix (ixK_tup (K := K) rfl) (pv 2) (pv 0) (fun _ _ => rfl)) (pe_ix (ixK_tup (K := K) rfl) (pv 1) (pv 0) (fun _ _ => rfl)))) pa_nil)) pe_int (nomark _))) pa_nil)))))), ?_⟩
 refine ⟨_, rfl, r, R.x, R.y, R.z, rfl, hR, lR.1, lR.2, fun H2 g2 => ⟨_, rfl, iteF ?_⟩⟩
 have hp2 := g2 _ _ hp'
 have hr2 : H2 r = some (.tup [.int R.x, .int R.y, .int R.z]) := g2 _ _ hR
 refine ⟨_, rfl, p, _, rfl, SqT.of hp2, rfl, _, _, rfl, _, _, rfl, _, _, rfl, _, _, rfl, _, _, rfl, _, _, rfl, rfl, ?_⟩
 have b2 : Bd 2 2 := by unfold Bd; decide
 simp only [tb, sl, P3.mk.injEq] at kR
 obtain ⟨k1, k2, k3⟩ := kR
 refine ⟨_, rfl, _, _, rfl, rfl, okM b2 bf.a, _, rfl, _, rfl, (by show 3 <= sizeLine; decide), fun p1 n1 => ⟨_, rfl, _, rfl, _, _, rfl, rfl, okM b2 bf.b, _, rfl, (by show 3 <= sizeLine; decide), fun p2 n2 => ⟨_, rfl, _, rfl, _, rfl, _, _, rfl, rfl, okM b2 bf.c, (by show 3 <= sizeLine; decide), fun p3 n3 => ⟨(by show 3 <= sizeLine; decide), fun pl npl => ?_⟩⟩⟩⟩
 have f1 := same_new n1 (.tup [.int (2 * F.a), .int F.f, .int F.e])
 have f2 := same_new n2 (.tup [.int F.f, .int (2 * F.b), .int F.d])
 have f3 := same_new n3 (.tup [.int F.e, .int F.d, .int (2 * F.c)])
 have f4 := same_new npl (.lst [.ref p1, .ref p2, .ref p3])
 have h1 := (f2.trans (f3.trans f4)) p1 _ upd_same
 have h2 := (f3.trans f4) p2 _ upd_same
 have h3 := f4 p3 _ upd_same
 have gA := f1.trans (f2.trans (f3.trans f4))
 have hr5 := gA _ _ hr2
 have hpl : (upd (upd (upd (upd H2 p1 (.tup [.int (2 * F.a), .int F.f, .int F.e])) p2 (.tup [.int F.f, .int (2 * F.b), .int F.d])) p3 (.tup [.int F.e, .int F.d, .int (2 * F.c)])) pl (.lst [.ref p1, .ref p2, .ref p3])) pl = some (.lst [.ref p1, .ref p2, .ref p3]) := upd_same
 generalize (upd (upd (upd (upd H2 p1 _) p2 _) p3 _) pl _ : Hp) = H3 at *
 have B2 : ∀ {x : Int}, Bd 400 x -> Bd 402 (2 * x) := fun {x} h => b2.mul h
 have B0 : ∀ {x : Int}, Bd 400 x -> Bd 402 x := fun {x} h => h.mono (by decide)
 refine ⟨_, rfl, pl, rfl, ⟨_, SqL.of hpl⟩, comp_listF (xs := [.ref p1, .ref p2, .ref p3]) (SqL.of hpl) (by show 3 < sizeLine; decide) (fun _ => .bl true) (fun H' g => SqL.of (g _ _ hpl)) ?_ ?_⟩
 ·intro i v H' Q' hv g kk
  obtain ⟨z, P', rfl, hz, e0, bP⟩ : ∃ (z : Addr) (P' : P3), v = .ref z /\ H' z = some (.tup [.int P'.x, .int P'.y, .int P'.z]) /\ rp P' R = 0 /\ BP 402 P' := by
   match i, hv with
   | 0, hv => exact ⟨p1, ⟨2 * F.a, F.f, F.e⟩, (Option.some.inj hv).symm, g _ _ h1, k1, ⟨B2 bf.a, B0 bf.f, B0 bf.e⟩⟩
   | 1, hv => exact ⟨p2, ⟨F.f, 2 * F.b, F.d⟩, (Option.some.inj hv).symm, g _ _ h2, k2, ⟨B0 bf.f, B2 bf.b, B0 bf.d⟩⟩
   | 2, hv => exact ⟨p3, ⟨F.e, F.d, 2 * F.c⟩, (Option.some.inj hv).symm, g _ _ h3, k3, ⟨B0 bf.e, B0 bf.d, B2 bf.c⟩⟩
   | n + 3, hv => cases hv
  have hr6 := g _ _ hr5
  refine ⟨3, rfl, by decide, by decide, comp_rangeF 3 (by decide) (fun j => .int ([P'.x * R.x, P'.y * R.y, P'.z * R.z].getD j 0)) ?_ ?_⟩
  ·intro j H4 Q4 hj g4 k4
   have hz4 := g4 _ _ hz
   have hr4 := g4 _ _ hr6
   obtain rfl | rfl | rfl : j = 0 \/ j = 1 \/ j = 2 := by omega
   ·exact ⟨_, rfl, _, rfl, z, _, _, _, rfl, rfl, SqT.of hz4, rfl, _, rfl, _, rfl, r, _, _, _, rfl, rfl, SqT.of hr4, rfl, _, _, rfl, rfl, okM bP.x bR.x, k4 _ (Same.refl _)⟩
   ·exact ⟨_, rfl, _, rfl, z, _, _, _, rfl, rfl, SqT.of hz4, rfl, _, rfl, _, rfl, r, _, _, _, rfl, rfl, SqT.of hr4, rfl, _, _, rfl, rfl, okM bP.y bR.y, k4 _ (Same.refl _)⟩
   ·exact ⟨_, rfl, _, rfl, z, _, _, _, rfl, rfl, SqT.of hz4, rfl, _, rfl, _, rfl, r, _, _, _, rfl, rfl, SqT.of hr4, rfl, _, _, rfl, rfl, okM bP.z bR.z, k4 _ (Same.refl _)⟩
  ·intro l H4 g4 _ hl4
   refine ⟨l, [P'.x * R.x, P'.y * R.y, P'.z * R.z], rfl, hl4, rfl, ?_⟩
   rw [sum3]
   have e1 : decide (V.int (P'.x * R.x + P'.y * R.y + P'.z * R.z) = V.int 0) = true := decide_eq_true (congrArg V.int e0)
   rw [e1]
   exact kk _ g4
 ·intro l H4 g4 _ hl
  exact ⟨l, [true, true, true], rfl, hl, q _ (g2.trans (gA.trans g4))⟩
theorem ok_refused {f : Addr} {fd : FuncData} (F : Fun K "_law_refused" "_law_refused" s_refused f fd) (T : Txt K mg t) (H_plain_of : Has P w K mg base (XD P w) 6 "plain_of" ["Q"] (spPofX t.c8)) (H_vertex : HasS P w K mg base 4 "_law_vertex" ["_law_form_here", "_law_point"] (spVtx)) : FnOk P w K mg base CX0 7 f fd ["_law_form_here"] (spRef24) := by
 obtain ⟨f_plain_of, d_plain_of, G_plain_of, b_plain_of, k_plain_of, m_plain_of⟩ := H_plain_of
 obtain ⟨f_vertex, d_vertex, G_vertex, b_vertex, k_vertex, m_vertex⟩ := H_vertex
 refine F.ok sc_refused (fun vs H Q E h => ?_) (fun cdv A outer s H vs Q E hr h => ?_)
 ·obtain ⟨_, _, rfl, _⟩ := h
  rfl
 obtain ⟨p, F, rfl, hp, in1, z0, q⟩ := h
 have hr_plain_of := hr.mono (show 6 <= 6 by decide)
 have hr_vertex := hr.q.mono (show 4 <= 6 by decide)
 refine ⟨_, pss_cons (ps_set (i := 1) sc_refused.nd rfl (Or.inl rfl) pe_bl)
  (pss_cons (ps_tryD (i := 2) (C := t.c8) G_plain_of hr_plain_of rfl m_plain_of k_plain_of b_plain_of (pa_cons (pv 0) pa_nil) T.m_Flat rfl (mat_self T.x_Flat) sc_refused.nd rfl rfl
   (fun ea o u => pss_cons (ps_set (i := 1) sc_refused.nd rfl (Or.inl rfl) (pe_and (pe_callS G_vertex (hr_vertex.mark _) rfl rfl m_vertex k_vertex b_vertex .nil (pa_cons (pv 0) (pa_cons (pe_xfldS K (pv 2)) pa_nil))) (pe_one (pe_not (pe_callB (call_isiS (K := K) rfl) rfl T.z_isinstance b_isi (pa_cons (pv 2) (pa_cons (pe_glob (v := .ref t.c7) rfl T.m_NoVertex rfl) pa_nil)))))))
    (pss_one (ps_set (i := 1) sc_refused.nd rfl (Or.inl rfl) (pe_and (pv 1) (pe_and (pe_not (pe_callB (call_isiS (K := K) rfl) rfl T.z_isinstance b_isi (pa_cons (pv 2) (pa_cons (pe_glob (v := .ref t.c4) rfl T.m_NotPlain rfl) pa_nil))))
     (pe_one (pe_not (pe_callB (call_isiS (K := K) rfl) rfl T.z_isinstance b_isi (pa_cons (pv 2) (pa_cons (pe_glob (v := .ref t.c9) rfl T.m_OffCurve rfl) pa_nil)))))))))))
  (pss_cons (ps_set (i := 3) sc_refused.nd rfl (Or.inl rfl) pe_bl)
  (pss_cons (ps_tryD (i := 2) (C := t.c8) G_plain_of hr_plain_of rfl m_plain_of k_plain_of b_plain_of (pa_cons (pv 0) pa_nil) T.m_CurveError rfl (mat_up T.x_Flat T.x_CurveError T.u_Flat) sc_refused.nd rfl rfl
   (fun ea o u => pss_one (ps_set (i := 3) sc_refused.nd rfl (Or.inl rfl) (pe_callB (call_isiS (K := K) rfl) rfl T.z_isinstance b_isi (pa_cons (pv 2) (pa_cons (pe_bltn (v := .ty "ValueError") rfl T.z_ValueError b_ValueError rfl) pa_nil))))))
  (pss_one (ps_ret (pe_and (pv 1) (pe_one (pv 3)))))))), ?_⟩
 refine ⟨_, rfl, p, F, rfl, hp, in1, fun ns => absurd z0 ns, fun _ dx r H1 R g1 hdx hr1 l3 bp kr => ⟨dx, rfl, rfl, fun e o he => ?_⟩⟩
 have g2 := same_new he (.frz o (.ext (ExcD t.c8 e dx)))
 have rd : Rd (upd H1 e (.frz o (.ext (ExcD t.c8 e dx)))) e (.ext (ExcD t.c8 e dx)) := .inr ⟨o, upd_same⟩
 have rdM : ∀ {H2 : Hp}, Same (upd H1 e (.frz o (.ext (ExcD t.c8 e dx)))) H2 -> Rd H2 e (.ext (ExcD t.c8 e dx)) := fun g => .inr ⟨o, g _ _ upd_same⟩
 refine ⟨_, rfl, _, rfl, e, t.c8, dx, _, _, rfl, rd, g2 _ _ hdx, T.fld_Flat, rfl, p, r, F, R, rfl, g2 _ _ (g1 _ _ hp), g2 _ _ hr1, in1.bf.mono, bp, l3, kr, fun H3 g3 => ?_⟩
 refine ⟨_, rfl, iteT ?_⟩
 refine ⟨_, rfl, _, _, _, _, rfl, .inl ⟨_, rfl⟩, .exc T.exc (rdM g3), T.i_7, _, rfl, ?_⟩
 refine ⟨_, rfl, _, rfl, iteT ?_⟩
 refine ⟨_, rfl, _, _, _, _, rfl, .inl ⟨_, rfl⟩, .exc T.exc (rdM g3), T.i_4, _, rfl, _, rfl, iteT ?_⟩
 refine ⟨_, rfl, _, _, _, _, rfl, .inl ⟨_, rfl⟩, .exc T.exc (rdM g3), T.i_9, _, rfl, ?_⟩
 have gA := g1.trans (g2.trans g3)
 refine ⟨_, rfl, p, F, rfl, gA _ _ hp, in1, fun ns => absurd z0 ns, fun _ dx2 r2 H4 R2 g4 hdx2 hr2 _ _ _ => ⟨dx2, rfl, rfl, fun e2 o2 he2 => ?_⟩⟩
 have g5 := same_new he2 (.frz o2 (.ext (ExcD t.c8 e2 dx2)))
 refine ⟨_, rfl, _, _, _, _, rfl, .inr ⟨_, rfl⟩, .exc T.exc (.inr ⟨o2, upd_same⟩), T.i_ve, ?_⟩
 exact ⟨_, rfl, _, rfl, iteT ⟨_, rfl, q _ (gA.trans (g4.trans g5))⟩⟩
theorem ok_law {f : Addr} {fd : FuncData} (F : Fun K "law" "law" s_law f fd) (T : Txt K mg t) (H_form : Has P w K mg base CX0 4 "_law_form" ["_law_script"] (spFm24 K)) (H_size : Has P w K mg base CX0 1 "_law_size" ["_law_form_here"] (spLSize)) (H_refused : Has P w K mg base CX0 7 "_law_refused" ["_law_form_here"] (spRef24)) (H_plain_of : Has P w K mg base (XD P w) 6 "plain_of" ["Q"] (spPofX t.c8)) (H_is_table : Has P w K mg base CX0 3 "_law_is_table" ["_law_table"] (spIsTb)) (H_whole : HasS P w K mg base 1 "_law_whole" ["_law_found"] (spWhole)) (H_wholes : HasS P w K mg base 2 "_law_wholes" ["_law_found", "_law_many"] (spWhol3)) (H_is_plain : Has P w K mg base CX0 2 "_law_is_plain" ["_law_triple"] (spIsPl)) (H_changed : Has P w K mg base CX0 2 "_law_changed" ["_law_form_here", "_law_table"] (spLc)) : FnOk P w K mg base CX0 8 f fd ["_law_script"] (spLaw K) := by
 obtain ⟨f_form, d_form, G_form, b_form, k_form, m_form⟩ := H_form
 obtain ⟨f_size, d_size, G_size, b_size, k_size, m_size⟩ := H_size
 obtain ⟨f_refused, d_refused, G_refused, b_refused, k_refused, m_refused⟩ := H_refused
 obtain ⟨f_plain_of, d_plain_of, G_plain_of, b_plain_of, k_plain_of, m_plain_of⟩ := H_plain_of
 obtain ⟨f_is_table, d_is_table, G_is_table, b_is_table, k_is_table, m_is_table⟩ := H_is_table
 obtain ⟨f_whole, d_whole, G_whole, b_whole, k_whole, m_whole⟩ := H_whole
 obtain ⟨f_wholes, d_wholes, G_wholes, b_wholes, k_wholes, m_wholes⟩ := H_wholes
 obtain ⟨f_is_plain, d_is_plain, G_is_plain, b_is_plain, k_is_plain, m_is_plain⟩ := H_is_plain
 obtain ⟨f_changed, d_changed, G_changed, b_changed, k_changed, m_changed⟩ := H_changed
 refine F.ok sc_law (fun vs H Q E h => ?_) (fun cdv A outer s H vs Q E hr h => ?_)
 ·obtain ⟨a, ns, rfl, _⟩ := h
  rfl
 obtain ⟨a, ns, rfl, hS, h63, hb, q⟩ := h
 have hr_form := hr.mono (show 4 <= 7 by decide)
 have hr_size := hr.mono (show 1 <= 7 by decide)
 have hr_refused := hr.mono (show 7 <= 7 by decide)
 have hr_plain_of := hr.mono (show 6 <= 7 by decide)
 have hr_is_table := hr.mono (show 3 <= 7 by decide)
 have hr_whole := hr.q.mono (show 1 <= 7 by decide)
 have hr_wholes := hr.q.mono (show 2 <= 7 by decide)
 have hr_is_plain := hr.mono (show 2 <= 7 by decide)
 have hr_changed := hr.mono (show 2 <= 7 by decide)
 have hu64 := hu64_of hr
 refine ⟨_, pss_cons (ps_set (i := 1) sc_law.nd rfl (Or.inl rfl) (pe_call G_form hr_form rfl m_form k_form b_form .nil pass0 (pa_cons (pv 0) pa_nil)))
  (pss_cons (ps_if (pt_cmpR op_eq (pe_call G_size hr_size rfl m_size k_size b_size .nil pass0 (pa_cons (pv 1) pa_nil)) pe_int (nomark _)) (pss_one (ps_ret (pe_call G_refused hr_refused rfl m_refused k_refused b_refused .nil pass0 (pa_cons (pv 1) pa_nil)))) pss_nil)
  (pss_cons (ps_set (i := 2) sc_law.nd rfl (Or.inl rfl) (pe_call G_plain_of hr_plain_of rfl m_plain_of k_plain_of b_plain_of .nil passD0 (pa_cons (pv 1) pa_nil)))
  (pss_cons (ps_if (PW.pt (pw_or (pt_not (pt_val (pe_callB call_isi rfl T.z_isinstance b_isi (pa_cons (pv 2) (pa_cons (pe_bltn (v := .ty "tuple") rfl T.z_tuple b_tuple rfl) pa_nil))) (fun _ => rfl))) (pw_or1 (pt_cmpR op_ne (pe_callB call_len_seq rfl T.z_len PySem.boot_len (pa_cons (pv 2) pa_nil)) pe_int (nomark _))))) (pss_one (ps_ret pe_bl)) pss_nil)
  (pss_cons (ps_asg (pv 2) (pg_tup rfl (pgs_cons (pg_name (i := 4) sc_law.nd rfl (Or.inl rfl)) (pgs_cons (pg_name (i := 5) sc_law.nd rfl (Or.inr rfl)) (pgs_cons (pg_name (i := 6) sc_law.nd rfl (Or.inl rfl)) pgs_nil)))))
  (pss_cons (ps_if (PW.pt (pw_or (pt_not (pt_val (pe_call G_is_table hr_is_table rfl m_is_table k_is_table b_is_table .nil pass0 (pa_cons (pv 4) pa_nil)) (fun _ => rfl))) (pw_or (pt_not (pt_val (pe_callS G_whole hr_whole rfl rfl m_whole k_whole b_whole .nil (pa_cons (pv 5) pa_nil)) (fun _ => rfl))) (pw_or1 (pt_cmpR op_eq (pv 5) pe_int (nomark _)))))) (pss_one (ps_ret pe_bl)) pss_nil)
  (pss_cons (ps_if (PW.pt (pw_or (pt_not (pt_val (pe_callS G_wholes hr_wholes rfl rfl m_wholes k_wholes b_wholes .nil (pa_cons (pv 6) (pa_cons pe_int pa_nil))) (fun _ => rfl))) (pw_or1 (pt_cmpR op_gt (pe_callB (call_maxL rfl) rfl T.z_max b_max (pa_cons (pe_compC rfl (CompScope.gen (cl := []) [] [] [(".0", .local), ("_law_number", .local), ("abs", .globalImplicit)] rfl (by decide +kernel) (by decide +kernel) rfl rfl (by intro p hp; cases hp) rfl (by intro p hp h; simp only [List.mem_cons, List.not_mem_nil, or_false] at hp; rcases hp with rfl | rfl | rfl <;> first | rfl | (rcases h with h | h <;> cases h)) (by decide) (by decide +kernel) rfl (by intro p hp; cases hp)) (pi_tup (pv 6)) (fun C s0 H0 fp pins => pe_callB call_abs rfl T.z_abs b_abs (pa_cons (pv 0) pa_nil))) pa_nil)) (pe_op op_pow pe_int pe_int) (nomark _))))) (pss_one (ps_ret pe_bl)) pss_nil)
  (pss_cons (ps_if (pt_not (pt_val (pe_call G_is_plain hr_is_plain rfl m_is_plain k_is_plain b_is_plain .nil pass0 (pa_cons (pv 6) pa_nil)) (fun _ => rfl))) (pss_one (ps_ret pe_bl)) pss_nil)
  (pss_cons (ps_set (i := 3) sc_law.nd rfl (Or.inl rfl) (pe_op op_catT (pe_callTy call_tuple_of rfl T.z_tuple b_tuple (pa_cons (pe_compC rfl (CompScope.gen (cl := [("_law_scale", _)]) ["_law_scale"] [5] [(".0", .local), ("_law_number", .local), ("_law_scale", .cell)] rfl (by decide +kernel) (by decide +kernel) rfl rfl (by intro p hp; simp only [List.mem_cons, List.not_mem_nil, or_false] at hp; rcases hp with rfl <;> rfl) rfl (by intro p hp h; simp only [List.mem_cons, List.not_mem_nil, or_false] at hp; rcases hp with rfl | rfl | rfl <;> first | rfl | (rcases h with h | h <;> cases h)) (by decide) (by decide +kernel) rfl (by intro p hp; simp only [List.zip_cons_cons, List.zip_nil_left, List.mem_cons, List.not_mem_nil, or_false] at hp; rcases hp with rfl <;> exact ⟨rfl, rfl⟩)) (pi_tup (pv 6)) (fun C s0 H0 fp pins => pe_op op_mulG (pv 1) (pv 0))) pa_nil)) (pe_tup (pa_cons pe_int (pa_cons pe_int (pa_cons pe_int pa_nil))))))
  (pss_one (ps_ret (pe_cmpR (op_eqD hu64) (pe_call G_changed hr_changed rfl m_changed k_changed b_changed .nil pass0 (pa_cons (pv 1) (pa_cons (pv 4) pa_nil))) (pv 3) (nomark _)))))))))))), ?_⟩
 refine ⟨_, rfl, a, ns, rfl, hS, fun pf H1 F g1 hF in1 => ?_⟩
 have bF : BF 600 F := in1.bf.mono
 refine ⟨_, rfl, pf, F, rfl, hF, bF, rfl, _, rfl, ite2 (fun c => ?_) (fun c => ?_)⟩
 ·exact ⟨_, rfl, pf, F, rfl, hF, in1, int_inj (decT c), fun H2 g2 => q _⟩
 have ns0 : sz F ≠ 0 := fun z => decF c (congrArg V.int z)
 refine ⟨_, rfl, pf, F, rfl, hF, in1, fun _ r ta pr H2 t' k q1 q2 q3 g2 hr' ht hpr k0 m0 ec pl b1 b2 b3 bt bk => ?_, fun z => absurd z ns0⟩
 refine ⟨_, rfl, _, _, _, _, rfl, .inr ⟨_, rfl⟩, .of (.tup hr'), rfl, _, rfl, iteF ?_⟩
 refine ⟨_, rfl, r, _, rfl, .inr (SqT.of hr'), rfl, _, rfl, iteNS rfl ?_⟩
 refine ⟨_, rfl, r, _, rfl, SqT.of hr', rfl, _, _, rfl, _, _, rfl, _, _, rfl, rfl, ?_⟩
 refine ⟨_, rfl, ta, t', rfl, ht, bt.mono, (by rw [lm_eq]; exact m0), fun H3 g3 => ⟨_, rfl, iteF ?_⟩⟩
 refine ⟨_, rfl, k, rfl, _, rfl, iteF ?_⟩
 refine ⟨_, rfl, rfl, _, rfl, iteDF (fun z => k0 (int_inj z)) ?_⟩
 refine ⟨_, rfl, pr, q1, q2, q3, rfl, g3 _ _ hpr, fun H4 g4 => ⟨_, rfl, iteF ?_⟩⟩
 have hpr4 := g4 _ _ (g3 _ _ hpr)
 refine ⟨_, rfl, pr, rfl, ⟨_, SqT.of hpr4⟩, comp_tupF (xs := [.int q1, .int q2, .int q3]) (SqT.of hpr4) (by show 3 < sizeLine; decide) vabs (fun H' g => SqT.of (g _ _ hpr4)) ?_ ?_⟩
 ·intro i v H' Q' hv g kk
  obtain ⟨n, rfl, _⟩ := get3 hv
  exact ⟨_, rfl, n, rfl, kk _ (Same.refl _)⟩
 intro l H5 g5 _ hl
 refine ⟨l, [ab q1, ab q2, ab q3], rfl, hl, by simp, fun m hm _ => ?_⟩
 have mb : m <= 10000000000 := by
  simp only [List.mem_cons, List.not_mem_nil, or_false] at hm
  rcases hm with rfl | rfl | rfl
  ·exact ab_le b1
  ·exact ab_le b2
  ·exact ab_le b3
 refine ⟨_, _, rfl, rfl, ⟨by decide, by decide, by decide⟩, _, _, rfl, rfl, _, rfl, iteDF (fun z => ?_) ?_⟩
 ·have z' : (10 : Int) ^ Int.toNat 10 < m := z
  have e : (10 : Int) ^ Int.toNat 10 = 10000000000 := by decide
  omega
 refine ⟨_, rfl, pr, q1, q2, q3, rfl, g5 _ _ hpr4, pl, b1, b2, b3, fun H6 g6 => ⟨_, rfl, iteF ?_⟩⟩
 have hpr6 := g6 _ _ (g5 _ _ hpr4)
 refine ⟨_, rfl, pr, rfl, ⟨_, SqT.of hpr6⟩, comp_tupF (xs := [.int q1, .int q2, .int q3]) (SqT.of hpr6) (by show 3 < sizeLine; decide) (vmk k) (fun H' g => SqT.of (g _ _ hpr6)) ?_ ?_⟩
 ·intro i v H' Q' hv g kk
  have bn : ∃ n : Int, v = .int n /\ n.natAbs <= 10000000000 := by
   match i, hv with
   | 0, hv => exact ⟨q1, (Option.some.inj hv).symm, b1⟩
   | 1, hv => exact ⟨q2, (Option.some.inj hv).symm, b2⟩
   | 2, hv => exact ⟨q3, (Option.some.inj hv).symm, b3⟩
   | n + 3, hv => cases hv
  obtain ⟨n, rfl, hn⟩ := bn
  have b40 : Bd 40 n := Nat.le_trans hn (by decide)
  exact ⟨_, rfl, _, rfl, _, _, rfl, rfl, okM bk b40, kk _ (Same.refl _)⟩
 intro l2 H7 g7 _ hl2
 refine ⟨l2, _, rfl, .inl ⟨SqL.of hl2, fun z nz => ⟨(by show 3 <= sizeLine; decide), fun p0 n0 => ⟨z, p0, _, _, rfl, rfl, SqT.of (same_new n0 _ _ _ upd_same), SqT.of upd_same, by simp, (by show 6 <= sizeLine; decide), (fun z => by cases z), fun _ z2 nz2 => ?_⟩⟩⟩⟩
 have f1 := same_new nz (.tup ([.int q1, .int q2, .int q3].map (vmk k)))
 have f2 := same_new n0 (.tup [.int 0, .int 0, .int 0])
 have f3 := same_new nz2 (.tup ([.int q1, .int q2, .int q3].map (vmk k) ++ [.int 0, .int 0, .int 0]))
 have gB := g3.trans (g4.trans (g5.trans (g6.trans (g7.trans (f1.trans (f2.trans f3))))))
 refine ⟨_, rfl, _, rfl, pf, ta, F, t', rfl, gB _ _ (g2 _ _ hF), ht.mono gB, bF, bt.mono, fun pc H9 g9 hc => ?_⟩
 rw [ec] at hc
 have hd : S6 H9 z2 ⟨k * q1, k * q2, k * q3, 0, 0, 0⟩ := g9 _ _ upd_same
 refine ⟨_, rfl, _, _, DA6 hc, DA6 hd, rfl, rfl, ?_⟩
 rw [eq6]
 exact q _
end
theorem all_mk {l : W.OpenLaw} {w : World} {K : W.Frag} {h : Heap} {mg : Str -> Option Value} {fa qce qc0 qc4 qc7 qc8 qc9 qiFlat qgAXES qgAXES_0 qgAXES_1 qgAXES_2 qgTURNS qgTURNS_0 qgTURNS_1 qgTURNS_2 : Addr} (X : K.In h) (G : h.Ns mainGlobals mg) (hfa : mg "law" = some (.ref fa))
  {f1 f2 f3 f4 f5 f6 f7 f8 f9 f10 f11 f12 f13 f14 f15 f16 f17 f18 f19 f20 f21 f23 f24 f25 f26 f27 f28 f29 f30 f31 f32 f33 f34 f35 f36 f37 f38 f39 f40 f41 f42 f43 f44 f45 f46 f47 f48 : Addr} {od1 an1 od2 an2 od3 an3 od4 an4 od5 an5 od6 an6 od7 an7 od8 an8 od9 an9 od10 an10 od11 an11 od12 an12 od13 an13 od14 an14 od15 an15 od16 an16 od17 an17 od18 an18 od19 an19 od20 an20 od21 an21 od22 an22 od23 an23 od24 an24 od25 an25 od26 an26 od27 an27 od28 an28 od29 an29 od30 an30 od31 an31 od32 an32 od33 an33 od34 an34 od35 an35 od36 an36 od37 an37 od38 an38 od39 an39 od40 an40 od41 an41 od42 an42 od43 an43 od44 an44 od45 an45 od46 an46 od47 an47 od48 an48 : Option Addr} {sl1 sl2 sl3 sl4 sl5 sl6 sl7 sl8 sl9 sl10 sl11 sl12 sl13 sl14 sl15 sl16 sl17 sl18 sl19 sl20 sl21 sl22 sl23 sl24 sl25 sl26 sl27 sl28 sl29 sl30 sl31 sl32 sl33 sl34 sl35 sl36 sl37 sl38 sl39 sl40 sl41 sl42 sl43 sl44 sl45 sl46 sl47 sl48 : Array (Option Value)} {oc1 kV1 dc1 pm1 cd1 ct1 oc2 kV2 dc2 pm2 cd2 ct2 oc3 kV3 dc3 pm3 cd3 ct3 oc4 kV4 dc4 pm4 cd4 ct4 oc5 kV5 dc5 pm5 cd5 ct5 oc6 kV6 dc6 pm6 cd6 ct6 oc7 kV7 dc7 pm7 cd7 ct7 oc8 kV8 dc8 pm8 cd8 ct8 oc9 kV9 dc9 pm9 cd9 ct9 oc10 kV10 dc10 pm10 cd10 ct10 oc11 kV11 dc11 pm11 cd11 ct11 oc12 kV12 dc12 pm12 cd12 ct12 oc13 kV13 dc13 pm13 cd13 ct13 oc14 kV14 dc14 pm14 cd14 ct14 oc15 kV15 dc15 pm15 cd15 ct15 oc16 kV16 dc16 pm16 cd16 ct16 oc17 kV17 dc17 pm17 cd17 ct17 oc18 kV18 dc18 pm18 cd18 ct18 oc19 kV19 dc19 pm19 cd19 ct19 oc20 kV20 dc20 pm20 cd20 ct20 oc21 kV21 dc21 pm21 cd21 ct21 oc22 kV22 dc22 pm22 cd22 ct22 oc23 kV23 dc23 pm23 cd23 ct23 oc24 kV24 dc24 pm24 cd24 ct24 oc25 kV25 dc25 pm25 cd25 ct25 oc26 kV26 dc26 pm26 cd26 ct26 oc27 kV27 dc27 pm27 cd27 ct27 oc28 kV28 dc28 pm28 cd28 ct28 oc29 kV29 dc29 pm29 cd29 ct29 oc30 kV30 dc30 pm30 cd30 ct30 oc31 kV31 dc31 pm31 cd31 ct31 oc32 kV32 dc32 pm32 cd32 ct32 oc33 kV33 dc33 pm33 cd33 ct33 oc34 kV34 dc34 pm34 cd34 ct34 oc35 kV35 dc35 pm35 cd35 ct35 oc36 kV36 dc36 pm36 cd36 ct36 oc37 kV37 dc37 pm37 cd37 ct37 oc38 kV38 dc38 pm38 cd38 ct38 oc39 kV39 dc39 pm39 cd39 ct39 oc40 kV40 dc40 pm40 cd40 ct40 oc41 kV41 dc41 pm41 cd41 ct41 oc42 kV42 dc42 pm42 cd42 ct42 oc43 kV43 dc43 pm43 cd43 ct43 oc44 kV44 dc44 pm44 cd44 ct44 oc45 kV45 dc45 pm45 cd45 ct45 oc46 kV46 dc46 pm46 cd46 ct46 oc47 kV47 dc47 pm47 cd47 ct47 oc48 kV48 dc48 pm48 cd48 ct48 : Value}
  (a1 : W.nsIn K mainGlobals "taken_out" = some (some (.ref f1))) (l1 : K.lookup f1 = some ⟨oc1, od1, .func (W.fnOf "taken_out" "taken_out" (defArgs s_taken_out) (defBody s_taken_out) (defScope s_taken_out) .none kV1 dc1 pm1 an1 cd1 ct1), sl1⟩) (g1 : W.codeIn K cd1 "taken_out" = true) (k1 : W.keepIn K (.ref f1) = true)
  (a2 : W.nsIn K mainGlobals "divisor_after" = some (some (.ref f2))) (l2 : K.lookup f2 = some ⟨oc2, od2, .func (W.fnOf "divisor_after" "divisor_after" (defArgs s_divisor_after) (defBody s_divisor_after) (defScope s_divisor_after) .none kV2 dc2 pm2 an2 cd2 ct2), sl2⟩) (g2 : W.codeIn K cd2 "divisor_after" = true) (k2 : W.keepIn K (.ref f2) = true)
  (a3 : W.nsIn K mainGlobals "prime_parts" = some (some (.ref f3))) (l3 : K.lookup f3 = some ⟨oc3, od3, .func (W.fnOf "prime_parts" "prime_parts" (defArgs s_prime_parts) (defBody s_prime_parts) (defScope s_prime_parts) .none kV3 dc3 pm3 an3 cd3 ct3), sl3⟩) (g3 : W.codeIn K cd3 "prime_parts" = true) (k3 : W.keepIn K (.ref f3) = true)
  (a4 : W.nsIn K mainGlobals "core_of" = some (some (.ref f4))) (l4 : K.lookup f4 = some ⟨oc4, od4, .func (W.fnOf "core_of" "core_of" (defArgs s_core_of) (defBody s_core_of) (defScope s_core_of) .none kV4 dc4 pm4 an4 cd4 ct4), sl4⟩) (g4 : W.codeIn K cd4 "core_of" = true) (k4 : W.keepIn K (.ref f4) = true)
  (a5 : W.nsIn K mainGlobals "row_less" = some (some (.ref f5))) (l5 : K.lookup f5 = some ⟨oc5, od5, .func (W.fnOf "row_less" "row_less" (defArgs s_row_less) (defBody s_row_less) (defScope s_row_less) .none kV5 dc5 pm5 an5 cd5 ct5), sl5⟩) (g5 : W.codeIn K cd5 "row_less" = true) (k5 : W.keepIn K (.ref f5) = true)
  (a6 : W.nsIn K mainGlobals "shares_of" = some (some (.ref f6))) (l6 : K.lookup f6 = some ⟨oc6, od6, .func (W.fnOf "shares_of" "shares_of" (defArgs s_shares_of) (defBody s_shares_of) (defScope s_shares_of) .none kV6 dc6 pm6 an6 cd6 ct6), sl6⟩) (g6 : W.codeIn K cd6 "shares_of" = true) (k6 : W.keepIn K (.ref f6) = true)
  (a7 : W.nsIn K mainGlobals "slopes_of" = some (some (.ref f7))) (l7 : K.lookup f7 = some ⟨oc7, od7, .func (W.fnOf "slopes_of" "slopes_of" (defArgs s_slopes_of) (defBody s_slopes_of) (defScope s_slopes_of) .none kV7 dc7 pm7 an7 cd7 ct7), sl7⟩) (g7 : W.codeIn K cd7 "slopes_of" = true) (k7 : W.keepIn K (.ref f7) = true)
  (a8 : W.nsIn K mainGlobals "size_of" = some (some (.ref f8))) (l8 : K.lookup f8 = some ⟨oc8, od8, .func (W.fnOf "size_of" "size_of" (defArgs s_size_of) (defBody s_size_of) (defScope s_size_of) .none kV8 dc8 pm8 an8 cd8 ct8), sl8⟩) (g8 : W.codeIn K cd8 "size_of" = true) (k8 : W.keepIn K (.ref f8) = true)
  (a9 : W.nsIn K mainGlobals "crossing_of" = some (some (.ref f9))) (l9 : K.lookup f9 = some ⟨oc9, od9, .func (W.fnOf "crossing_of" "crossing_of" (defArgs s_crossing_of) (defBody s_crossing_of) (defScope s_crossing_of) .none kV9 dc9 pm9 an9 cd9 ct9), sl9⟩) (g9 : W.codeIn K cd9 "crossing_of" = true) (k9 : W.keepIn K (.ref f9) = true)
  (a10 : W.nsIn K mainGlobals "stretched" = some (some (.ref f10))) (l10 : K.lookup f10 = some ⟨oc10, od10, .func (W.fnOf "stretched" "stretched" (defArgs s_stretched) (defBody s_stretched) (defScope s_stretched) .none kV10 dc10 pm10 an10 cd10 ct10), sl10⟩) (g10 : W.codeIn K cd10 "stretched" = true) (k10 : W.keepIn K (.ref f10) = true)
  (a11 : W.nsIn K mainGlobals "row_product" = some (some (.ref f11))) (l11 : K.lookup f11 = some ⟨oc11, od11, .func (W.fnOf "row_product" "row_product" (defArgs s_row_product) (defBody s_row_product) (defScope s_row_product) .none kV11 dc11 pm11 an11 cd11 ct11), sl11⟩) (g11 : W.codeIn K cd11 "row_product" = true) (k11 : W.keepIn K (.ref f11) = true)
  (a12 : W.nsIn K mainGlobals "turned_by" = some (some (.ref f12))) (l12 : K.lookup f12 = some ⟨oc12, od12, .func (W.fnOf "turned_by" "turned_by" (defArgs s_turned_by) (defBody s_turned_by) (defScope s_turned_by) .none kV12 dc12 pm12 an12 cd12 ct12), sl12⟩) (g12 : W.codeIn K cd12 "turned_by" = true) (k12 : W.keepIn K (.ref f12) = true)
  (a13 : W.nsIn K mainGlobals "worth_of" = some (some (.ref f13))) (l13 : K.lookup f13 = some ⟨oc13, od13, .func (W.fnOf "worth_of" "worth_of" (defArgs s_worth_of) (defBody s_worth_of) (defScope s_worth_of) .none kV13 dc13 pm13 an13 cd13 ct13), sl13⟩) (g13 : W.codeIn K cd13 "worth_of" = true) (k13 : W.keepIn K (.ref f13) = true)
  (a14 : W.nsIn K mainGlobals "added" = some (some (.ref f14))) (l14 : K.lookup f14 = some ⟨oc14, od14, .func (W.fnOf "added" "added" (defArgs s_added) (defBody s_added) (defScope s_added) .none kV14 dc14 pm14 an14 cd14 ct14), sl14⟩) (g14 : W.codeIn K cd14 "added" = true) (k14 : W.keepIn K (.ref f14) = true)
  (a15 : W.nsIn K mainGlobals "lowest_point" = some (some (.ref f15))) (l15 : K.lookup f15 = some ⟨oc15, od15, .func (W.fnOf "lowest_point" "lowest_point" (defArgs s_lowest_point) (defBody s_lowest_point) (defScope s_lowest_point) .none kV15 dc15 pm15 an15 cd15 ct15), sl15⟩) (g15 : W.codeIn K cd15 "lowest_point" = true) (k15 : W.keepIn K (.ref f15) = true)
  (a16 : W.nsIn K mainGlobals "turned_over" = some (some (.ref f16))) (l16 : K.lookup f16 = some ⟨oc16, od16, .func (W.fnOf "turned_over" "turned_over" (defArgs s_turned_over) (defBody s_turned_over) (defScope s_turned_over) .none kV16 dc16 pm16 an16 cd16 ct16), sl16⟩) (g16 : W.codeIn K cd16 "turned_over" = true) (k16 : W.keepIn K (.ref f16) = true)
  (a17 : W.nsIn K mainGlobals "above_root" = some (some (.ref f17))) (l17 : K.lookup f17 = some ⟨oc17, od17, .func (W.fnOf "above_root" "above_root" (defArgs s_above_root) (defBody s_above_root) (defScope s_above_root) .none kV17 dc17 pm17 an17 cd17 ct17), sl17⟩) (g17 : W.codeIn K cd17 "above_root" = true) (k17 : W.keepIn K (.ref f17) = true)
  (a18 : W.nsIn K mainGlobals "root_of" = some (some (.ref f18))) (l18 : K.lookup f18 = some ⟨oc18, od18, .func (W.fnOf "root_of" "root_of" (defArgs s_root_of) (defBody s_root_of) (defScope s_root_of) .none kV18 dc18 pm18 an18 cd18 ct18), sl18⟩) (g18 : W.codeIn K cd18 "root_of" = true) (k18 : W.keepIn K (.ref f18) = true)
  (a19 : W.nsIn K mainGlobals "off_curve" = some (some (.ref f19))) (l19 : K.lookup f19 = some ⟨oc19, od19, .func (W.fnOf "off_curve" "off_curve" (defArgs s_off_curve) (defBody s_off_curve) (defScope s_off_curve) .none kV19 dc19 pm19 an19 cd19 ct19), sl19⟩) (g19 : W.codeIn K cd19 "off_curve" = true) (k19 : W.keepIn K (.ref f19) = true)
  (a20 : W.nsIn K mainGlobals "corners_on" = some (some (.ref f20))) (l20 : K.lookup f20 = some ⟨oc20, od20, .func (W.fnOf "corners_on" "corners_on" (defArgs s_corners_on) (defBody s_corners_on) (defScope s_corners_on) .none kV20 dc20 pm20 an20 cd20 ct20), sl20⟩) (g20 : W.codeIn K cd20 "corners_on" = true) (k20 : W.keepIn K (.ref f20) = true)
  (a21 : W.nsIn K mainGlobals "corners_of" = some (some (.ref f21))) (l21 : K.lookup f21 = some ⟨oc21, od21, .func (W.fnOf "corners_of" "corners_of" (defArgs s_corners_of) (defBody s_corners_of) (defScope s_corners_of) .none kV21 dc21 pm21 an21 cd21 ct21), sl21⟩) (g21 : W.codeIn K cd21 "corners_of" = true) (k21 : W.keepIn K (.ref f21) = true)
  {ocC22 : Value} {odC22 : Option Addr} {slC22 : Array (Option Value)} {nmC22 qnC22 : Str} {bsC22 mrC22 suC22 : List Value} {nsC22 : Addr} {hdC22 abC22 dlC22 : Bool} {snC22 : List Str} {coC22 : Option Bool}
  (o22 : K.lookup qc8 = some ⟨ocC22, odC22, .cls ⟨nmC22, bsC22, mrC22, nsC22, qnC22, hdC22, snC22, suC22, abC22, coC22, dlC22⟩, slC22⟩)
  (a22 : W.nsIn K nsC22 "__init__" = some (some (.ref qiFlat))) (l22 : K.lookup qiFlat = some ⟨oc22, od22, .func (W.fnOf "__init__" "Flat.__init__" (defArgs s_init_Flat) (defBody s_init_Flat) (defScope s_init_Flat) .none kV22 dc22 pm22 an22 cd22 ct22), sl22⟩) (g22 : W.codeIn K cd22 "Flat.__init__" = true) (k22 : W.keepIn K (.ref qiFlat) = true)
  (a23 : W.nsIn K mainGlobals "crossings_of" = some (some (.ref f23))) (l23 : K.lookup f23 = some ⟨oc23, od23, .func (W.fnOf "crossings_of" "crossings_of" (defArgs s_crossings_of) (defBody s_crossings_of) (defScope s_crossings_of) .none kV23 dc23 pm23 an23 cd23 ct23), sl23⟩) (g23 : W.codeIn K cd23 "crossings_of" = true) (k23 : W.keepIn K (.ref f23) = true)
  (a24 : W.nsIn K mainGlobals "vertex_of" = some (some (.ref f24))) (l24 : K.lookup f24 = some ⟨oc24, od24, .func (W.fnOf "vertex_of" "vertex_of" (defArgs s_vertex_of) (defBody s_vertex_of) (defScope s_vertex_of) .none kV24 dc24 pm24 an24 cd24 ct24), sl24⟩) (g24 : W.codeIn K cd24 "vertex_of" = true) (k24 : W.keepIn K (.ref f24) = true)
  (a25 : W.nsIn K mainGlobals "refuse_flat" = some (some (.ref f25))) (l25 : K.lookup f25 = some ⟨oc25, od25, .func (W.fnOf "refuse_flat" "refuse_flat" (defArgs s_refuse_flat) (defBody s_refuse_flat) (defScope s_refuse_flat) .none kV25 dc25 pm25 an25 cd25 ct25), sl25⟩) (g25 : W.codeIn K cd25 "refuse_flat" = true) (k25 : W.keepIn K (.ref f25) = true)
  (a26 : W.nsIn K mainGlobals "core_of_cores" = some (some (.ref f26))) (l26 : K.lookup f26 = some ⟨oc26, od26, .func (W.fnOf "core_of_cores" "core_of_cores" (defArgs s_core_of_cores) (defBody s_core_of_cores) (defScope s_core_of_cores) .none kV26 dc26 pm26 an26 cd26 ct26), sl26⟩) (g26 : W.codeIn K cd26 "core_of_cores" = true) (k26 : W.keepIn K (.ref f26) = true)
  (a27 : W.nsIn K mainGlobals "cores_of" = some (some (.ref f27))) (l27 : K.lookup f27 = some ⟨oc27, od27, .func (W.fnOf "cores_of" "cores_of" (defArgs s_cores_of) (defBody s_cores_of) (defScope s_cores_of) .none kV27 dc27 pm27 an27 cd27 ct27), sl27⟩) (g27 : W.codeIn K cd27 "cores_of" = true) (k27 : W.keepIn K (.ref f27) = true)
  (a28 : W.nsIn K mainGlobals "plain_of" = some (some (.ref f28))) (l28 : K.lookup f28 = some ⟨oc28, od28, .func (W.fnOf "plain_of" "plain_of" (defArgs s_plain_of) (defBody s_plain_of) (defScope s_plain_of) .none kV28 dc28 pm28 an28 cd28 ct28), sl28⟩) (g28 : W.codeIn K cd28 "plain_of" = true) (k28 : W.keepIn K (.ref f28) = true)
  (a29 : W.nsIn K mainGlobals "_law_of" = some (some (.ref f29))) (l29 : K.lookup f29 = some ⟨oc29, od29, .func (W.fnOf "_law_of" "_law_of" (defArgs s_of) (defBody s_of) (defScope s_of) .none kV29 dc29 pm29 an29 cd29 ct29), sl29⟩) (g29 : W.codeIn K cd29 "_law_of" = true) (k29 : W.keepIn K (.ref f29) = true)
  (a30 : W.nsIn K mainGlobals "_law_drawn" = some (some (.ref f30))) (l30 : K.lookup f30 = some ⟨oc30, od30, .func (W.fnOf "_law_drawn" "_law_drawn" (defArgs s_drawn) (defBody s_drawn) (defScope s_drawn) .none kV30 dc30 pm30 an30 cd30 ct30), sl30⟩) (g30 : W.codeIn K cd30 "_law_drawn" = true) (k30 : W.keepIn K (.ref f30) = true)
  (a31 : W.nsIn K mainGlobals "_law_row_times" = some (some (.ref f31))) (l31 : K.lookup f31 = some ⟨oc31, od31, .func (W.fnOf "_law_row_times" "_law_row_times" (defArgs s_row_times) (defBody s_row_times) (defScope s_row_times) .none kV31 dc31 pm31 an31 cd31 ct31), sl31⟩) (g31 : W.codeIn K cd31 "_law_row_times" = true) (k31 : W.keepIn K (.ref f31) = true)
  (a32 : W.nsIn K mainGlobals "_law_changed" = some (some (.ref f32))) (l32 : K.lookup f32 = some ⟨oc32, od32, .func (W.fnOf "_law_changed" "_law_changed" (defArgs s_changed) (defBody s_changed) (defScope s_changed) .none kV32 dc32 pm32 an32 cd32 ct32), sl32⟩) (g32 : W.codeIn K cd32 "_law_changed" = true) (k32 : W.keepIn K (.ref f32) = true)
  (a33 : W.nsIn K mainGlobals "_law_worth" = some (some (.ref f33))) (l33 : K.lookup f33 = some ⟨oc33, od33, .func (W.fnOf "_law_worth" "_law_worth" (defArgs s_worth) (defBody s_worth) (defScope s_worth) .none kV33 dc33 pm33 an33 cd33 ct33), sl33⟩) (g33 : W.codeIn K cd33 "_law_worth" = true) (k33 : W.keepIn K (.ref f33) = true)
  (a34 : W.nsIn K mainGlobals "_law_square_free" = some (some (.ref f34))) (l34 : K.lookup f34 = some ⟨oc34, od34, .func (W.fnOf "_law_square_free" "_law_square_free" (defArgs s_square_free) (defBody s_square_free) (defScope s_square_free) .none kV34 dc34 pm34 an34 cd34 ct34), sl34⟩) (g34 : W.codeIn K cd34 "_law_square_free" = true) (k34 : W.keepIn K (.ref f34) = true)
  (a35 : W.nsIn K mainGlobals "_law_shared" = some (some (.ref f35))) (l35 : K.lookup f35 = some ⟨oc35, od35, .func (W.fnOf "_law_shared" "_law_shared" (defArgs s_shared) (defBody s_shared) (defScope s_shared) .none kV35 dc35 pm35 an35 cd35 ct35), sl35⟩) (g35 : W.codeIn K cd35 "_law_shared" = true) (k35 : W.keepIn K (.ref f35) = true)
  (a36 : W.nsIn K mainGlobals "_law_whole" = some (some (.ref f36))) (l36 : K.lookup f36 = some ⟨oc36, od36, .func (W.fnOf "_law_whole" "_law_whole" (defArgs s_whole) (defBody s_whole) (defScope s_whole) .none kV36 dc36 pm36 an36 cd36 ct36), sl36⟩) (g36 : W.codeIn K cd36 "_law_whole" = true) (k36 : W.keepIn K (.ref f36) = true)
  (a37 : W.nsIn K mainGlobals "_law_wholes" = some (some (.ref f37))) (l37 : K.lookup f37 = some ⟨oc37, od37, .func (W.fnOf "_law_wholes" "_law_wholes" (defArgs s_wholes) (defBody s_wholes) (defScope s_wholes) .none kV37 dc37 pm37 an37 cd37 ct37), sl37⟩) (g37 : W.codeIn K cd37 "_law_wholes" = true) (k37 : W.keepIn K (.ref f37) = true)
  (a38 : W.nsIn K mainGlobals "_law_is_lowest" = some (some (.ref f38))) (l38 : K.lookup f38 = some ⟨oc38, od38, .func (W.fnOf "_law_is_lowest" "_law_is_lowest" (defArgs s_is_lowest) (defBody s_is_lowest) (defScope s_is_lowest) .none kV38 dc38 pm38 an38 cd38 ct38), sl38⟩) (g38 : W.codeIn K cd38 "_law_is_lowest" = true) (k38 : W.keepIn K (.ref f38) = true)
  (a39 : W.nsIn K mainGlobals "_law_vertex" = some (some (.ref f39))) (l39 : K.lookup f39 = some ⟨oc39, od39, .func (W.fnOf "_law_vertex" "_law_vertex" (defArgs s_vertex) (defBody s_vertex) (defScope s_vertex) .none kV39 dc39 pm39 an39 cd39 ct39), sl39⟩) (g39 : W.codeIn K cd39 "_law_vertex" = true) (k39 : W.keepIn K (.ref f39) = true)
  (a40 : W.nsIn K mainGlobals "_law_size" = some (some (.ref f40))) (l40 : K.lookup f40 = some ⟨oc40, od40, .func (W.fnOf "_law_size" "_law_size" (defArgs s_size) (defBody s_size) (defScope s_size) .none kV40 dc40 pm40 an40 cd40 ct40), sl40⟩) (g40 : W.codeIn K cd40 "_law_size" = true) (k40 : W.keepIn K (.ref f40) = true)
  (a41 : W.nsIn K mainGlobals "_law_measure" = some (some (.ref f41))) (l41 : K.lookup f41 = some ⟨oc41, od41, .func (W.fnOf "_law_measure" "_law_measure" (defArgs s_measure) (defBody s_measure) (defScope s_measure) .none kV41 dc41 pm41 an41 cd41 ct41), sl41⟩) (g41 : W.codeIn K cd41 "_law_measure" = true) (k41 : W.keepIn K (.ref f41) = true)
  (a42 : W.nsIn K mainGlobals "_law_is_plain" = some (some (.ref f42))) (l42 : K.lookup f42 = some ⟨oc42, od42, .func (W.fnOf "_law_is_plain" "_law_is_plain" (defArgs s_is_plain) (defBody s_is_plain) (defScope s_is_plain) .none kV42 dc42 pm42 an42 cd42 ct42), sl42⟩) (g42 : W.codeIn K cd42 "_law_is_plain" = true) (k42 : W.keepIn K (.ref f42) = true)
  (a43 : W.nsIn K mainGlobals "_law_is_table" = some (some (.ref f43))) (l43 : K.lookup f43 = some ⟨oc43, od43, .func (W.fnOf "_law_is_table" "_law_is_table" (defArgs s_is_table) (defBody s_is_table) (defScope s_is_table) .none kV43 dc43 pm43 an43 cd43 ct43), sl43⟩) (g43 : W.codeIn K cd43 "_law_is_table" = true) (k43 : W.keepIn K (.ref f43) = true)
  (a44 : W.nsIn K mainGlobals "_law_plain_drawn" = some (some (.ref f44))) (l44 : K.lookup f44 = some ⟨oc44, od44, .func (W.fnOf "_law_plain_drawn" "_law_plain_drawn" (defArgs s_plain_drawn) (defBody s_plain_drawn) (defScope s_plain_drawn) .none kV44 dc44 pm44 an44 cd44 ct44), sl44⟩) (g44 : W.codeIn K cd44 "_law_plain_drawn" = true) (k44 : W.keepIn K (.ref f44) = true)
  (a45 : W.nsIn K mainGlobals "_law_sheared" = some (some (.ref f45))) (l45 : K.lookup f45 = some ⟨oc45, od45, .func (W.fnOf "_law_sheared" "_law_sheared" (defArgs s_sheared) (defBody s_sheared) (defScope s_sheared) .none kV45 dc45 pm45 an45 cd45 ct45), sl45⟩) (g45 : W.codeIn K cd45 "_law_sheared" = true) (k45 : W.keepIn K (.ref f45) = true)
  (a46 : W.nsIn K mainGlobals "_law_form" = some (some (.ref f46))) (l46 : K.lookup f46 = some ⟨oc46, od46, .func (W.fnOf "_law_form" "_law_form" (defArgs s_form) (defBody s_form) (defScope s_form) .none kV46 dc46 pm46 an46 cd46 ct46), sl46⟩) (g46 : W.codeIn K cd46 "_law_form" = true) (k46 : W.keepIn K (.ref f46) = true)
  (a47 : W.nsIn K mainGlobals "_law_refused" = some (some (.ref f47))) (l47 : K.lookup f47 = some ⟨oc47, od47, .func (W.fnOf "_law_refused" "_law_refused" (defArgs s_refused) (defBody s_refused) (defScope s_refused) .none kV47 dc47 pm47 an47 cd47 ct47), sl47⟩) (g47 : W.codeIn K cd47 "_law_refused" = true) (k47 : W.keepIn K (.ref f47) = true)
  (a48 : W.nsIn K mainGlobals "law" = some (some (.ref f48))) (l48 : K.lookup f48 = some ⟨oc48, od48, .func (W.fnOf "law" "law" (defArgs s_law) (defBody s_law) (defScope s_law) .none kV48 dc48 pm48 an48 cd48 ct48), sl48⟩) (g48 : W.codeIn K cd48 "law" = true) (k48 : W.keepIn K (.ref f48) = true)
  (xm_CurveError : W.nsIn K mainGlobals "CurveError" = some (some (.ref qce)))
  (xm_NoNumber : W.nsIn K mainGlobals "NoNumber" = some (some (.ref qc0)))
  (xm_NotPlain : W.nsIn K mainGlobals "NotPlain" = some (some (.ref qc4)))
  (xm_NoVertex : W.nsIn K mainGlobals "NoVertex" = some (some (.ref qc7)))
  (xm_Flat : W.nsIn K mainGlobals "Flat" = some (some (.ref qc8)))
  (xm_OffCurve : W.nsIn K mainGlobals "OffCurve" = some (some (.ref qc9)))
  (xi_ce : W.kitOne K (.ref qc8) (.ref qce) = some true)
  (xi_0 : W.kitOne K (.ref qc8) (.ref qc0) = some false)
  (xi_4 : W.kitOne K (.ref qc8) (.ref qc4) = some false)
  (xi_7 : W.kitOne K (.ref qc8) (.ref qc7) = some false)
  (xi_8 : W.kitOne K (.ref qc8) (.ref qc8) = some true)
  (xi_9 : W.kitOne K (.ref qc8) (.ref qc9) = some false)
  (xi_ve : W.kitOne K (.ref qc8) (.type "ValueError") = some true)
  (xe0 : (W.clsIn K qc8).isSome = true)
  (xe1 : W.findIn K (.ref qc8) "__getattribute__" = some (some (.builtin "BaseException.__getattribute__")))
  (xe2 : W.findIn K (.ref qc8) "__getattr__" = some none)
  (xe3 : W.findIn K (.ref qc8) "__class__" = some (some (.builtin "object.__class__")))
  (xe4 : W.specialIn K (.builtin "object.__class__") "__get__" = some (some (.builtin "getset_descriptor.__get__")))
  (xe5 : W.takesIn K (.builtin "object.__class__") = some true)
  (xe6 : W.mroIn K qc8 (.type "object") = some true)
  (xe7 : W.mroIn K qc8 (.type "BaseException") = some true)
  (xx_Flat : excInB K qc8 qiFlat = true)
  (xxf_Flat : W.isFn K (.ref qiFlat) = true)
  (xxn_Flat : W.findIn K (.ref qc8) "vertex" = some none)
  (xxd_Flat : (W.clsIn K qc8).map (·.hasDict) = some true)
  (xxs_Flat : W.findIn K (.ref qc8) "__setattr__" = some (some (.builtin "object.__setattr__")))
  (xxo_Flat : (W.clsIn K qc8).any (fun cd => onlyVE cd.mro) = true)
  (xy1 : W.specialIn K (.ref qce) "__getattribute__" = some (some (.builtin "type.__getattribute__")))
  (xy2 : W.readsIn K qce (.type "type") = true)
  (xy3 : W.findCls K (.ref qce) (.type "type") "__init__" = some (.val (.builtin "ValueError.__init__")))
  (xx_CurveError : W.excIn K qce bmVE "ValueError.__new__" = true)
  (xu_Flat : W.mroIn K qc8 (.ref qce) = some true)
  (xm_AXES : W.nsIn K mainGlobals "AXES" = some (some (.ref qgAXES)))
  {odgAXES : Option Addr} {ngAXES : Nat} {slgAXES : Array (Option Value)}
  (xk_AXES : K.lookup qgAXES = some ⟨.type "tuple", odgAXES, .seq #[.ref qgAXES_0, .ref qgAXES_1, .ref qgAXES_2] ngAXES, slgAXES⟩)
  {odgAXES_0 : Option Addr} {ngAXES_0 : Nat} {slgAXES_0 : Array (Option Value)} {tkgAXES_0_0 tkgAXES_0_1 tkgAXES_0_2 : Tok}
  (xk_AXES_0 : K.lookup qgAXES_0 = some ⟨.type "tuple", odgAXES_0, .seq #[.int 1 tkgAXES_0_0, .int 0 tkgAXES_0_1, .int 0 tkgAXES_0_2] ngAXES_0, slgAXES_0⟩)
  {odgAXES_1 : Option Addr} {ngAXES_1 : Nat} {slgAXES_1 : Array (Option Value)} {tkgAXES_1_0 tkgAXES_1_1 tkgAXES_1_2 : Tok}
  (xk_AXES_1 : K.lookup qgAXES_1 = some ⟨.type "tuple", odgAXES_1, .seq #[.int 0 tkgAXES_1_0, .int 1 tkgAXES_1_1, .int 0 tkgAXES_1_2] ngAXES_1, slgAXES_1⟩)
  {odgAXES_2 : Option Addr} {ngAXES_2 : Nat} {slgAXES_2 : Array (Option Value)} {tkgAXES_2_0 tkgAXES_2_1 tkgAXES_2_2 : Tok}
  (xk_AXES_2 : K.lookup qgAXES_2 = some ⟨.type "tuple", odgAXES_2, .seq #[.int 0 tkgAXES_2_0, .int 0 tkgAXES_2_1, .int 1 tkgAXES_2_2] ngAXES_2, slgAXES_2⟩)
  (xm_TURNS : W.nsIn K mainGlobals "TURNS" = some (some (.ref qgTURNS)))
  {odgTURNS : Option Addr} {ngTURNS : Nat} {slgTURNS : Array (Option Value)}
  (xk_TURNS : K.lookup qgTURNS = some ⟨.type "tuple", odgTURNS, .seq #[.ref qgTURNS_0, .ref qgTURNS_1, .ref qgTURNS_2] ngTURNS, slgTURNS⟩)
  {odgTURNS_0 : Option Addr} {ngTURNS_0 : Nat} {slgTURNS_0 : Array (Option Value)} {tkgTURNS_0_0 tkgTURNS_0_1 tkgTURNS_0_2 : Tok}
  (xk_TURNS_0 : K.lookup qgTURNS_0 = some ⟨.type "tuple", odgTURNS_0, .seq #[.int 0 tkgTURNS_0_0, .int 1 tkgTURNS_0_1, .int 2 tkgTURNS_0_2] ngTURNS_0, slgTURNS_0⟩)
  {odgTURNS_1 : Option Addr} {ngTURNS_1 : Nat} {slgTURNS_1 : Array (Option Value)} {tkgTURNS_1_0 tkgTURNS_1_1 tkgTURNS_1_2 : Tok}
  (xk_TURNS_1 : K.lookup qgTURNS_1 = some ⟨.type "tuple", odgTURNS_1, .seq #[.int 1 tkgTURNS_1_0, .int 2 tkgTURNS_1_1, .int 0 tkgTURNS_1_2] ngTURNS_1, slgTURNS_1⟩)
  {odgTURNS_2 : Option Addr} {ngTURNS_2 : Nat} {slgTURNS_2 : Array (Option Value)} {tkgTURNS_2_0 tkgTURNS_2_1 tkgTURNS_2_2 : Tok}
  (xk_TURNS_2 : K.lookup qgTURNS_2 = some ⟨.type "tuple", odgTURNS_2, .seq #[.int 2 tkgTURNS_2_0, .int 0 tkgTURNS_2_1, .int 1 tkgTURNS_2_2] ngTURNS_2, slgTURNS_2⟩)
  (xi_ib : W.kitOne K (.type "int") (.type "bool") = some false)
  (xz_isinstance : W.nsIn K mainGlobals "isinstance" = some none)
  (xz_int : W.nsIn K mainGlobals "int" = some none)
  (xz_bool : W.nsIn K mainGlobals "bool" = some none)
  (xz_len : W.nsIn K mainGlobals "len" = some none)
  (xz_range : W.nsIn K mainGlobals "range" = some none)
  (xz_tuple : W.nsIn K mainGlobals "tuple" = some none)
  (xz_all : W.nsIn K mainGlobals "all" = some none)
  (xz_abs : W.nsIn K mainGlobals "abs" = some none)
  (xz_any : W.nsIn K mainGlobals "any" = some none)
  (xz_sum : W.nsIn K mainGlobals "sum" = some none)
  (xz_zip : W.nsIn K mainGlobals "zip" = some none)
  (xz_max : W.nsIn K mainGlobals "max" = some none)
  (xz_list : W.nsIn K mainGlobals "list" = some none)
  (xz_ValueError : W.nsIn K mainGlobals "ValueError" = some none)
  : ∃ fd : FuncData, (∀ (s : Shared) (v : Value), BindsTo s fd ⟨[v], []⟩ [("_law_script", v)]) /\ ∀ base : Heap, K.In base -> base.Ns mainGlobals mg -> FnOk l.prog w K mg base CX0 8 fa fd ["_law_script"] (spLaw K) := by
 have e := hfa.symm.trans (W.mg_of X G a48)
 cases e
 have T : Txt K mg ⟨qce, qc0, qc4, qc7, qc8, qc9, qiFlat, qgAXES, qgAXES_0, qgAXES_1, qgAXES_2, qgTURNS, qgTURNS_0, qgTURNS_1, qgTURNS_2⟩ := ⟨W.mg_of X G xm_CurveError, W.mg_of X G xm_NoNumber, W.mg_of X G xm_NotPlain, W.mg_of X G xm_NoVertex, W.mg_of X G xm_Flat, W.mg_of X G xm_OffCurve, xi_ce, xi_0, xi_4, xi_7, xi_8, xi_9, xi_ve, xe0, xe1, xe2, xe3, xe4, xe5, xe6, xe7, xx_Flat, xxf_Flat, xxn_Flat, xxd_Flat, xxs_Flat, xxo_Flat, xy1, xy2, xy3, xx_CurveError, xu_Flat, W.mg_of X G xm_AXES, TupK.mk xk_AXES (by show 3 <= sizeLine; decide) (.cons rfl (.cons rfl (.cons rfl .nil))), TupK.mk xk_AXES_0 (by show 3 <= sizeLine; decide) (.cons ⟨_, rfl⟩ (.cons ⟨_, rfl⟩ (.cons ⟨_, rfl⟩ .nil))), TupK.mk xk_AXES_1 (by show 3 <= sizeLine; decide) (.cons ⟨_, rfl⟩ (.cons ⟨_, rfl⟩ (.cons ⟨_, rfl⟩ .nil))), TupK.mk xk_AXES_2 (by show 3 <= sizeLine; decide) (.cons ⟨_, rfl⟩ (.cons ⟨_, rfl⟩ (.cons ⟨_, rfl⟩ .nil))), W.mg_of X G xm_TURNS, TupK.mk xk_TURNS (by show 3 <= sizeLine; decide) (.cons rfl (.cons rfl (.cons rfl .nil))), TupK.mk xk_TURNS_0 (by show 3 <= sizeLine; decide) (.cons ⟨_, rfl⟩ (.cons ⟨_, rfl⟩ (.cons ⟨_, rfl⟩ .nil))), TupK.mk xk_TURNS_1 (by show 3 <= sizeLine; decide) (.cons ⟨_, rfl⟩ (.cons ⟨_, rfl⟩ (.cons ⟨_, rfl⟩ .nil))), TupK.mk xk_TURNS_2 (by show 3 <= sizeLine; decide) (.cons ⟨_, rfl⟩ (.cons ⟨_, rfl⟩ (.cons ⟨_, rfl⟩ .nil))), xi_ib, W.mg_none_of X G xz_isinstance, W.mg_none_of X G xz_int, W.mg_none_of X G xz_bool, W.mg_none_of X G xz_len, W.mg_none_of X G xz_range, W.mg_none_of X G xz_tuple, W.mg_none_of X G xz_all, W.mg_none_of X G xz_abs, W.mg_none_of X G xz_any, W.mg_none_of X G xz_sum, W.mg_none_of X G xz_zip, W.mg_none_of X G xz_max, W.mg_none_of X G xz_list, W.mg_none_of X G xz_ValueError⟩
 have F1 := fun_mk (st := s_taken_out) l1 g1 k1
 have b1 := F1.binds (ps := ["number", "prime"]) fun _ _ _ _ _ _ => byL2 fun _ _ => rfl
 have F2 := fun_mk (st := s_divisor_after) l2 g2 k2
 have b2 := F2.binds (ps := ["divisor"]) fun _ _ _ _ _ _ => byL1 fun _ => rfl
 have F3 := fun_mk (st := s_prime_parts) l3 g3 k3
 have b3 := F3.binds (ps := ["number"]) fun _ _ _ _ _ _ => byL1 fun _ => rfl
 have F4 := fun_mk (st := s_core_of) l4 g4 k4
 have b4 := F4.binds (ps := ["number"]) fun _ _ _ _ _ _ => byL1 fun _ => rfl
 have F5 := fun_mk (st := s_row_less) l5 g5 k5
 have b5 := F5.binds (ps := ["row", "taken", "times"]) fun _ _ _ _ _ _ => byL3 fun _ _ _ => rfl
 have F6 := fun_mk (st := s_shares_of) l6 g6 k6
 have b6 := F6.binds (ps := ["one", "other"]) fun _ _ _ _ _ _ => byL2 fun _ _ => rfl
 have F7 := fun_mk (st := s_slopes_of) l7 g7 k7
 have b7 := F7.binds (ps := ["Q"]) fun _ _ _ _ _ _ => byL1 fun _ => rfl
 have F8 := fun_mk (st := s_size_of) l8 g8 k8
 have b8 := F8.binds (ps := ["Q"]) fun _ _ _ _ _ _ => byL1 fun _ => rfl
 have F9 := fun_mk (st := s_crossing_of) l9 g9 k9
 have b9 := F9.binds (ps := ["one", "other"]) fun _ _ _ _ _ _ => byL2 fun _ _ => rfl
 have F10 := fun_mk (st := s_stretched) l10 g10 k10
 have b10 := F10.binds (ps := ["P", "times"]) fun _ _ _ _ _ _ => byL2 fun _ _ => rfl
 have F11 := fun_mk (st := s_row_product) l11 g11 k11
 have b11 := F11.binds (ps := ["row", "P"]) fun _ _ _ _ _ _ => byL2 fun _ _ => rfl
 have F12 := fun_mk (st := s_turned_by) l12 g12 k12
 have b12 := F12.binds (ps := ["table", "P"]) fun _ _ _ _ _ _ => byL2 fun _ _ => rfl
 have F13 := fun_mk (st := s_worth_of) l13 g13 k13
 have b13 := F13.binds (ps := ["Q", "P"]) fun _ _ _ _ _ _ => byL2 fun _ _ => rfl
 have F14 := fun_mk (st := s_added) l14 g14 k14
 have b14 := F14.binds (ps := ["one", "other"]) fun _ _ _ _ _ _ => byL2 fun _ _ => rfl
 have F15 := fun_mk (st := s_lowest_point) l15 g15 k15
 have b15 := F15.binds (ps := ["P"]) fun _ _ _ _ _ _ => byL1 fun _ => rfl
 have F16 := fun_mk (st := s_turned_over) l16 g16 k16
 have b16 := F16.binds (ps := ["table"]) fun _ _ _ _ _ _ => byL1 fun _ => rfl
 have F17 := fun_mk (st := s_above_root) l17 g17 k17
 have b17 := F17.binds (ps := ["number"]) fun _ _ _ _ _ _ => byL1 fun _ => rfl
 have F18 := fun_mk (st := s_root_of) l18 g18 k18
 have b18 := F18.binds (ps := ["number"]) fun _ _ _ _ _ _ => byL1 fun _ => rfl
 have F19 := fun_mk (st := s_off_curve) l19 g19 k19
 have b19 := F19.binds (ps := ["Q", "points"]) fun _ _ _ _ _ _ => byL2 fun _ _ => rfl
 have F20 := fun_mk (st := s_corners_on) l20 g20 k20
 have b20 := F20.binds (ps := ["Q", "line"]) fun _ _ _ _ _ _ => byL2 fun _ _ => rfl
 have F21 := fun_mk (st := s_corners_of) l21 g21 k21
 have b21 := F21.binds (ps := ["Q"]) fun _ _ _ _ _ _ => byL1 fun _ => rfl
 have F22 := fun_mk (st := s_init_Flat) l22 g22 k22
 have b22 := F22.binds (ps := ["self", "vertex"]) fun _ _ _ _ _ _ => byL2 fun _ _ => rfl
 have F23 := fun_mk (st := s_crossings_of) l23 g23 k23
 have b23 := F23.binds (ps := ["lines", "others"]) fun _ _ _ _ _ _ => byL2 fun _ _ => rfl
 have F24 := fun_mk (st := s_vertex_of) l24 g24 k24
 have b24 := F24.binds (ps := ["Q"]) fun _ _ _ _ _ _ => byL1 fun _ => rfl
 have F25 := fun_mk (st := s_refuse_flat) l25 g25 k25
 have b25 := F25.binds (ps := ["Q"]) fun _ _ _ _ _ _ => byL1 fun _ => rfl
 have F26 := fun_mk (st := s_core_of_cores) l26 g26 k26
 have b26 := F26.binds (ps := ["one", "other"]) fun _ _ _ _ _ _ => byL2 fun _ _ => rfl
 have F27 := fun_mk (st := s_cores_of) l27 g27 k27
 have b27 := F27.binds (ps := ["worths", "size"]) fun _ _ _ _ _ _ => byL2 fun _ _ => rfl
 have F28 := fun_mk (st := s_plain_of) l28 g28 k28
 have b28 := F28.binds (ps := ["Q"]) fun _ _ _ _ _ _ => byL1 fun _ => rfl
 have F29 := fun_mk (st := s_of) l29 g29 k29
 have b29 := F29.binds (ps := ["_law_script", "_law_k"]) fun _ _ _ _ _ _ => byL2 fun _ _ => rfl
 have F30 := fun_mk (st := s_drawn) l30 g30 k30
 have b30 := F30.binds (ps := ["_law_cell", "_law_prime", "_law_many"]) fun _ _ _ _ _ _ => byL3 fun _ _ _ => rfl
 have F31 := fun_mk (st := s_row_times) l31 g31 k31
 have b31 := F31.binds (ps := ["_law_row", "_law_other"]) fun _ _ _ _ _ _ => byL2 fun _ _ => rfl
 have F32 := fun_mk (st := s_changed) l32 g32 k32
 have b32 := F32.binds (ps := ["_law_form_here", "_law_table"]) fun _ _ _ _ _ _ => byL2 fun _ _ => rfl
 have F33 := fun_mk (st := s_worth) l33 g33 k33
 have b33 := F33.binds (ps := ["_law_form_here", "_law_point"]) fun _ _ _ _ _ _ => byL2 fun _ _ => rfl
 have F34 := fun_mk (st := s_square_free) l34 g34 k34
 have b34 := F34.binds (ps := ["_law_number"]) fun _ _ _ _ _ _ => byL1 fun _ => rfl
 have F35 := fun_mk (st := s_shared) l35 g35 k35
 have b35 := F35.binds (ps := ["_law_numbers"]) fun _ _ _ _ _ _ => byL1 fun _ => rfl
 have F36 := fun_mk (st := s_whole) l36 g36 k36
 have b36 := F36.binds (ps := ["_law_found"]) fun _ _ _ _ _ _ => byL1 fun _ => rfl
 have F37 := fun_mk (st := s_wholes) l37 g37 k37
 have b37 := F37.binds (ps := ["_law_found", "_law_many"]) fun _ _ _ _ _ _ => byL2 fun _ _ => rfl
 have F38 := fun_mk (st := s_is_lowest) l38 g38 k38
 have b38 := F38.binds (ps := ["_law_point"]) fun _ _ _ _ _ _ => byL1 fun _ => rfl
 have F39 := fun_mk (st := s_vertex) l39 g39 k39
 have b39 := F39.binds (ps := ["_law_form_here", "_law_point"]) fun _ _ _ _ _ _ => byL2 fun _ _ => rfl
 have F40 := fun_mk (st := s_size) l40 g40 k40
 have b40 := F40.binds (ps := ["_law_form_here"]) fun _ _ _ _ _ _ => byL1 fun _ => rfl
 have F41 := fun_mk (st := s_measure) l41 g41 k41
 have b41 := F41.binds (ps := ["_law_table"]) fun _ _ _ _ _ _ => byL1 fun _ => rfl
 have F42 := fun_mk (st := s_is_plain) l42 g42 k42
 have b42 := F42.binds (ps := ["_law_triple"]) fun _ _ _ _ _ _ => byL1 fun _ => rfl
 have F43 := fun_mk (st := s_is_table) l43 g43 k43
 have b43 := F43.binds (ps := ["_law_table"]) fun _ _ _ _ _ _ => byL1 fun _ => rfl
 have F44 := fun_mk (st := s_plain_drawn) l44 g44 k44
 have b44 := F44.binds (ps := ["_law_cell", "_law_most"]) fun _ _ _ _ _ _ => byL2 fun _ _ => rfl
 have F45 := fun_mk (st := s_sheared) l45 g45 k45
 have b45 := F45.binds (ps := ["_law_form_here", "_law_cell"]) fun _ _ _ _ _ _ => byL2 fun _ _ => rfl
 have F46 := fun_mk (st := s_form) l46 g46 k46
 have b46 := F46.binds (ps := ["_law_script"]) fun _ _ _ _ _ _ => byL1 fun _ => rfl
 have F47 := fun_mk (st := s_refused) l47 g47 k47
 have b47 := F47.binds (ps := ["_law_form_here"]) fun _ _ _ _ _ _ => byL1 fun _ => rfl
 have F48 := fun_mk (st := s_law) l48 g48 k48
 refine ⟨W.fnOf "law" "law" (defArgs s_law) (defBody s_law) (defScope s_law) .none kV48 dc48 pm48 an48 cd48 ct48, fun s v => .of_eq rfl, fun base _ _ => ?_⟩
 have H_taken_out : Has l.prog w K mg base CX0 1 "taken_out" ["number", "prime"] (spTaken) := ⟨f1, _, ok_taken_out F1 T , b1, k1, W.mg_of X G a1⟩
 have H_divisor_after : Has l.prog w K mg base CX0 1 "divisor_after" ["divisor"] (spAfter) := ⟨f2, _, ok_divisor_after F2 T , b2, k2, W.mg_of X G a2⟩
 have H_prime_parts : Has l.prog w K mg base CX0 2 "prime_parts" ["number"] (spParts0) := ⟨f3, _, ok_prime_parts F3 T H_divisor_after H_taken_out, b3, k3, W.mg_of X G a3⟩
 have H_core_of : Has l.prog w K mg base CX0 3 "core_of" ["number"] (spCore0) := ⟨f4, _, ok_core_of F4 T H_prime_parts, b4, k4, W.mg_of X G a4⟩
 have H_row_less : Has l.prog w K mg base CX0 1 "row_less" ["row", "taken", "times"] (spRow) := ⟨f5, _, ok_row_less F5 T , b5, k5, W.mg_of X G a5⟩
 have H_shares_of : Has l.prog w K mg base CX0 2 "shares_of" ["one", "other"] (spShares) := ⟨f6, _, ok_shares_of F6 T H_row_less, b6, k6, W.mg_of X G a6⟩
 have H_slopes_of : Has l.prog w K mg base CX0 1 "slopes_of" ["Q"] (spSl) := ⟨f7, _, ok_slopes_of F7 T , b7, k7, W.mg_of X G a7⟩
 have H_size_of : Has l.prog w K mg base CX0 1 "size_of" ["Q"] (spSize) := ⟨f8, _, ok_size_of F8 T , b8, k8, W.mg_of X G a8⟩
 have H_crossing_of : Has l.prog w K mg base CX0 1 "crossing_of" ["one", "other"] (spCrK K) := ⟨f9, _, ok_crossing_of F9 T , b9, k9, W.mg_of X G a9⟩
 have H_stretched : Has l.prog w K mg base CX0 1 "stretched" ["P", "times"] (spStr K) := ⟨f10, _, ok_stretched F10 T , b10, k10, W.mg_of X G a10⟩
 have H_row_product : Has l.prog w K mg base CX0 1 "row_product" ["row", "P"] (spRpK K) := ⟨f11, _, ok_row_product F11 T , b11, k11, W.mg_of X G a11⟩
 have H_turned_by : Has l.prog w K mg base CX0 2 "turned_by" ["table", "P"] (spTbK K) := ⟨f12, _, ok_turned_by F12 T H_row_product, b12, k12, W.mg_of X G a12⟩
 have H_worth_of : Has l.prog w K mg base CX0 1 "worth_of" ["Q", "P"] (spWoK K) := ⟨f13, _, ok_worth_of F13 T , b13, k13, W.mg_of X G a13⟩
 have H_added : Has l.prog w K mg base CX0 1 "added" ["one", "other"] (spAddK K) := ⟨f14, _, ok_added F14 T , b14, k14, W.mg_of X G a14⟩
 have H_lowest_point : Has l.prog w K mg base CX0 3 "lowest_point" ["P"] (spLowS K) := ⟨f15, _, ok_lowest_point F15 T H_shares_of, b15, k15, W.mg_of X G a15⟩
 have H_turned_over : Has l.prog w K mg base CX0 1 "turned_over" ["table"] (spTrL) := ⟨f16, _, ok_turned_over F16 T , b16, k16, W.mg_of X G a16⟩
 have H_above_root : Has l.prog w K mg base CX0 1 "above_root" ["number"] (spAbove) := ⟨f17, _, ok_above_root F17 T , b17, k17, W.mg_of X G a17⟩
 have H_root_of : Has l.prog w K mg base CX0 2 "root_of" ["number"] (spRootE) := ⟨f18, _, ok_root_of F18 T H_above_root, b18, k18, W.mg_of X G a18⟩
 have H_off_curve : Has l.prog w K mg base CX0 2 "off_curve" ["Q", "points"] (spOff K) := ⟨f19, _, ok_off_curve F19 T H_added H_worth_of, b19, k19, W.mg_of X G a19⟩
 have H_corners_on : Has l.prog w K mg base CX0 4 "corners_on" ["Q", "line"] (spCorOn K) := ⟨f20, _, ok_corners_on F20 T H_crossing_of H_off_curve H_lowest_point H_slopes_of H_turned_by, b20, k20, W.mg_of X G a20⟩
 have H_corners_of : Has l.prog w K mg base CX0 5 "corners_of" ["Q"] (spCo K) := ⟨f21, _, ok_corners_of F21 T H_off_curve H_slopes_of H_turned_by H_corners_on, b21, k21, W.mg_of X G a21⟩
 have H_init_Flat : HasI l.prog w K mg base 1 qiFlat ["self", "vertex"] (spIni qc8 "vertex") := ⟨_, ok_init_Flat F22 T , b22⟩
 have H_crossings_of : Has l.prog w K mg base CX0 2 "crossings_of" ["lines", "others"] (spCrs K) := ⟨f23, _, ok_crossings_of F23 T H_crossing_of, b23, k23, W.mg_of X G a23⟩
 have H_vertex_of : Has l.prog w K mg base CX0 4 "vertex_of" ["Q"] (spVx0) := ⟨f24, _, ok_vertex_of F24 T H_size_of H_slopes_of H_crossings_of H_lowest_point, b24, k24, W.mg_of X G a24⟩
 have H_refuse_flat : Has l.prog w K mg base (XD l.prog w) 5 "refuse_flat" ["Q"] (spRfX qc8) := ⟨f25, _, ok_refuse_flat F25 T H_size_of H_vertex_of H_init_Flat, b25, k25, W.mg_of X G a25⟩
 have H_core_of_cores : Has l.prog w K mg base CX0 3 "core_of_cores" ["one", "other"] (spCc) := ⟨f26, _, ok_core_of_cores F26 T H_shares_of, b26, k26, W.mg_of X G a26⟩
 have H_cores_of : Has l.prog w K mg base CX0 4 "cores_of" ["worths", "size"] (spCores) := ⟨f27, _, ok_cores_of F27 T H_core_of H_core_of_cores, b27, k27, W.mg_of X G a27⟩
 have H_plain_of : Has l.prog w K mg base (XD l.prog w) 6 "plain_of" ["Q"] (spPofX qc8) := ⟨f28, _, ok_plain_of F28 T H_refuse_flat H_corners_of H_worth_of H_size_of H_cores_of H_root_of H_shares_of H_lowest_point H_stretched H_turned_over, b28, k28, W.mg_of X G a28⟩
 have H_of : Has l.prog w K mg base CX0 1 "_law_of" ["_law_script", "_law_k"] (spOf K) := ⟨f29, _, ok_of F29 T , b29, k29, W.mg_of X G a29⟩
 have H_drawn : Has l.prog w K mg base CX0 1 "_law_drawn" ["_law_cell", "_law_prime", "_law_many"] (spDrawn) := ⟨f30, _, ok_drawn F30 T , b30, k30, W.mg_of X G a30⟩
 have H_row_times : Has l.prog w K mg base CX0 1 "_law_row_times" ["_law_row", "_law_other"] (spRt) := ⟨f31, _, ok_row_times F31 T , b31, k31, W.mg_of X G a31⟩
 have H_changed : Has l.prog w K mg base CX0 2 "_law_changed" ["_law_form_here", "_law_table"] (spLc) := ⟨f32, _, ok_changed F32 T H_row_times, b32, k32, W.mg_of X G a32⟩
 have H_worth : Has l.prog w K mg base CX0 1 "_law_worth" ["_law_form_here", "_law_point"] (spLw) := ⟨f33, _, ok_worth F33 T , b33, k33, W.mg_of X G a33⟩
 have H_square_free : Has l.prog w K mg base CX0 1 "_law_square_free" ["_law_number"] (spSfP) := ⟨f34, _, ok_square_free F34 T , b34, k34, W.mg_of X G a34⟩
 have H_shared : HasS l.prog w K mg base 1 "_law_shared" ["_law_numbers"] (spShared) := ⟨f35, _, ok_shared F35 T , b35, k35, W.mg_of X G a35⟩
 have H_whole : HasS l.prog w K mg base 1 "_law_whole" ["_law_found"] (spWhole) := ⟨f36, _, ok_whole F36 T , b36, k36, W.mg_of X G a36⟩
 have H_wholes : HasS l.prog w K mg base 2 "_law_wholes" ["_law_found", "_law_many"] (spWhol3) := ⟨f37, _, ok_wholes F37 T H_whole, b37, k37, W.mg_of X G a37⟩
 have H_is_lowest : HasS l.prog w K mg base 3 "_law_is_lowest" ["_law_point"] (spIsLow) := ⟨f38, _, ok_is_lowest F38 T H_wholes H_shared, b38, k38, W.mg_of X G a38⟩
 have H_vertex : HasS l.prog w K mg base 4 "_law_vertex" ["_law_form_here", "_law_point"] (spVtx) := ⟨f39, _, ok_vertex F39 T H_is_lowest, b39, k39, W.mg_of X G a39⟩
 have H_size : Has l.prog w K mg base CX0 1 "_law_size" ["_law_form_here"] (spLSize) := ⟨f40, _, ok_size F40 T , b40, k40, W.mg_of X G a40⟩
 have H_measure : Has l.prog w K mg base CX0 1 "_law_measure" ["_law_table"] (spLm9) := ⟨f41, _, ok_measure F41 T , b41, k41, W.mg_of X G a41⟩
 have H_is_plain : Has l.prog w K mg base CX0 2 "_law_is_plain" ["_law_triple"] (spIsPl) := ⟨f42, _, ok_is_plain F42 T H_square_free H_shared, b42, k42, W.mg_of X G a42⟩
 have H_is_table : Has l.prog w K mg base CX0 3 "_law_is_table" ["_law_table"] (spIsTb) := ⟨f43, _, ok_is_table F43 T H_wholes H_measure, b43, k43, W.mg_of X G a43⟩
 have H_plain_drawn : Has l.prog w K mg base CX0 2 "_law_plain_drawn" ["_law_cell", "_law_most"] (spPd) := ⟨f44, _, ok_plain_drawn F44 T H_drawn, b44, k44, W.mg_of X G a44⟩
 have H_sheared : Has l.prog w K mg base CX0 3 "_law_sheared" ["_law_form_here", "_law_cell"] (spShr) := ⟨f45, _, ok_sheared F45 T H_drawn H_changed, b45, k45, W.mg_of X G a45⟩
 have H_form : Has l.prog w K mg base CX0 4 "_law_form" ["_law_script"] (spFm24 K) := ⟨f46, _, ok_form F46 T H_drawn H_of H_worth H_plain_drawn H_sheared, b46, k46, W.mg_of X G a46⟩
 have H_refused : Has l.prog w K mg base CX0 7 "_law_refused" ["_law_form_here"] (spRef24) := ⟨f47, _, ok_refused F47 T H_plain_of H_vertex, b47, k47, W.mg_of X G a47⟩
 exact ok_law F48 T H_form H_size H_refused H_plain_of H_is_table H_whole H_wholes H_is_plain H_changed
theorem walk {l : W.OpenLaw} {q : Program} {loose : List Str} {XP : (Str -> Option Value) -> Heap -> Prop} {YP : World -> Heap -> Prop} {d : DefRec} {K : Params -> W.Frag} (hn : l.most = some 63) (hdf : d.params.defaults = [])
  (hY : ∀ (w : World) (h : Heap), YP w h -> (K w.params).In h)
  (F : ∀ (w : World) (mg : Str -> Option Value) (fa : Addr) (h : Heap), (K w.params).In h -> h.Ns mainGlobals mg -> mg d.name = some (.ref fa) ->
   ∃ fd : FuncData, (∀ (s : Shared) (u : Value), BindsTo s fd ⟨[u], []⟩ [("_law_script", u)]) /\ ∀ base : Heap, (K w.params).In base -> base.Ns mainGlobals mg -> FnOk l.prog w (K w.params) mg base CX0 8 fa fd ["_law_script"] (spLaw (K w.params))) :
  W.WalkO q loose XP YP l.row.toRowW d [] (fun f vs => PySem.call f vs) :=
 L2.walk_b (n := 63) (k := 8) (x := "_law_script") (CX := fun _ => CX0) (sp := fun w => spLaw (K w.params)) hn (by decide) hdf ⟨rfl, by decide, by decide⟩ hY F (fun _ _ a ns hl hb hS => ⟨a, ns, rfl, hS, hl, hb, fun _ => rfl⟩) fun _ _ _ _ _ z => z
end K24
def PySem.W.Fast.tw3160367930289341213 : Unit := ()
def PySem.W.Fast.tw15716625113385974843 : Unit := ()
def PySem.W.Fast.tw9923729402466272507 : Unit := ()
def PySem.W.Fast.tw15830309252046355302 : Unit := ()
def PySem.W.Fast.tw13976718196671247870 : Unit := ()
def PySem.W.Fast.tw17925354713117690590 : Unit := ()
def PySem.W.Fast.tw2364272381247070427 : Unit := ()
def PySem.W.Fast.tw5503861540100386159 : Unit := ()
def PySem.W.Fast.tw16397972694109122093 : Unit := ()
def PySem.W.Fast.tw16073409710461731591 : Unit := ()
def PySem.W.Fast.tw5152299731712609918 : Unit := ()
def PySem.W.Fast.tw3130614115427747793 : Unit := ()
def PySem.W.Fast.tw17698759075777614126 : Unit := ()
def PySem.W.Fast.tw8804047886273771987 : Unit := ()
def PySem.W.Fast.tw14083882264311213032 : Unit := ()
def PySem.W.Fast.tw3626250750385385426 : Unit := ()
def PySem.W.Fast.tw3058807007727722498 : Unit := ()
def PySem.W.Fast.tw16612223309178794429 : Unit := ()
def PySem.W.Fast.tw11967253338916296216 : Unit := ()
def PySem.W.Fast.tw715182009773175198 : Unit := ()
def PySem.W.Fast.tw8533091573616653318 : Unit := ()
def PySem.W.Fast.tw15503417843663687381 : Unit := ()
def PySem.W.Fast.tw709903393943039279 : Unit := ()
def PySem.W.Fast.tw8194976439109367769 : Unit := ()
def PySem.W.Fast.tw13354390699673963846 : Unit := ()
def PySem.W.Fast.tw3375205660021323684 : Unit := ()
open PySem PySem.W PyProof.Rows
set_option maxRecDepth 100000 in
set_option maxHeartbeats 0 in
theorem PySem.Challenge.cw_conicplaces_k24_plain_ones_holds : PySem.Challenge.rw_conicplaces_k24_plain_ones.Holds := by
 w_on; o_law; k_head; (case hw => w_witness2)
 k_fill
 refine K24.walk (l := PySem.Challenge.rw_conicplaces_k24_plain_ones) rfl rfl (fun w h Y => W.kIn_of Y) ?F
 case F =>
  intro w mg fa h KX G hmg
  refine' K24.all_mk KX G hmg ?a1 ?l1 ?g1 ?k1 ?a2 ?l2 ?g2 ?k2 ?a3 ?l3 ?g3 ?k3 ?a4 ?l4 ?g4 ?k4 ?a5 ?l5 ?g5 ?k5 ?a6 ?l6 ?g6 ?k6 ?a7 ?l7 ?g7 ?k7 ?a8 ?l8 ?g8 ?k8 ?a9 ?l9 ?g9 ?k9 ?a10 ?l10 ?g10 ?k10 ?a11 ?l11 ?g11 ?k11 ?a12 ?l12 ?g12 ?k12 ?a13 ?l13 ?g13 ?k13 ?a14 ?l14 ?g14 ?k14 ?a15 ?l15 ?g15 ?k15 ?a16 ?l16 ?g16 ?k16 ?a17 ?l17 ?g17 ?k17 ?a18 ?l18 ?g18 ?k18 ?a19 ?l19 ?g19 ?k19 ?a20 ?l20 ?g20 ?k20 ?a21 ?l21 ?g21 ?k21 ?o22 ?a22 ?l22 ?g22 ?k22 ?a23 ?l23 ?g23 ?k23 ?a24 ?l24 ?g24 ?k24 ?a25 ?l25 ?g25 ?k25 ?a26 ?l26 ?g26 ?k26 ?a27 ?l27 ?g27 ?k27 ?a28 ?l28 ?g28 ?k28 ?a29 ?l29 ?g29 ?k29 ?a30 ?l30 ?g30 ?k30 ?a31 ?l31 ?g31 ?k31 ?a32 ?l32 ?g32 ?k32 ?a33 ?l33 ?g33 ?k33 ?a34 ?l34 ?g34 ?k34 ?a35 ?l35 ?g35 ?k35 ?a36 ?l36 ?g36 ?k36 ?a37 ?l37 ?g37 ?k37 ?a38 ?l38 ?g38 ?k38 ?a39 ?l39 ?g39 ?k39 ?a40 ?l40 ?g40 ?k40 ?a41 ?l41 ?g41 ?k41 ?a42 ?l42 ?g42 ?k42 ?a43 ?l43 ?g43 ?k43 ?a44 ?l44 ?g44 ?k44 ?a45 ?l45 ?g45 ?k45 ?a46 ?l46 ?g46 ?k46 ?a47 ?l47 ?g47 ?k47 ?a48 ?l48 ?g48 ?k48 ?xm_CurveError ?xm_NoNumber ?xm_NotPlain ?xm_NoVertex ?xm_Flat ?xm_OffCurve ?xi_ce ?xi_0 ?xi_4 ?xi_7 ?xi_8 ?xi_9 ?xi_ve ?xe0 ?xe1 ?xe2 ?xe3 ?xe4 ?xe5 ?xe6 ?xe7 ?xx_Flat ?xxf_Flat ?xxn_Flat ?xxd_Flat ?xxs_Flat ?xxo_Flat ?xy1 ?xy2 ?xy3 ?xx_CurveError ?xu_Flat ?xm_AXES ?xk_AXES ?xk_AXES_0 ?xk_AXES_1 ?xk_AXES_2 ?xm_TURNS ?xk_TURNS ?xk_TURNS_0 ?xk_TURNS_1 ?xk_TURNS_2 ?xi_ib ?xz_isinstance ?xz_int ?xz_bool ?xz_len ?xz_range ?xz_tuple ?xz_all ?xz_abs ?xz_any ?xz_sum ?xz_zip ?xz_max ?xz_list ?xz_ValueError
  (case a1 => k_is)
  (case l1 => k_is)
  (case g1 => k_is)
  (case k1 => k_is)
  (case a2 => k_is)
  (case l2 => k_is)
  (case g2 => k_is)
  (case k2 => k_is)
  (case a3 => k_is)
  (case l3 => k_is)
  (case g3 => k_is)
  (case k3 => k_is)
  (case a4 => k_is)
  (case l4 => k_is)
  (case g4 => k_is)
  (case k4 => k_is)
  (case a5 => k_is)
  (case l5 => k_is)
  (case g5 => k_is)
  (case k5 => k_is)
  (case a6 => k_is)
  (case l6 => k_is)
  (case g6 => k_is)
  (case k6 => k_is)
  (case a7 => k_is)
  (case l7 => k_is)
  (case g7 => k_is)
  (case k7 => k_is)
  (case a8 => k_is)
  (case l8 => k_is)
  (case g8 => k_is)
  (case k8 => k_is)
  (case a9 => k_is)
  (case l9 => k_is)
  (case g9 => k_is)
  (case k9 => k_is)
  (case a10 => k_is)
  (case l10 => k_is)
  (case g10 => k_is)
  (case k10 => k_is)
  (case a11 => k_is)
  (case l11 => k_is)
  (case g11 => k_is)
  (case k11 => k_is)
  (case a12 => k_is)
  (case l12 => k_is)
  (case g12 => k_is)
  (case k12 => k_is)
  (case a13 => k_is)
  (case l13 => k_is)
  (case g13 => k_is)
  (case k13 => k_is)
  (case a14 => k_is)
  (case l14 => k_is)
  (case g14 => k_is)
  (case k14 => k_is)
  (case a15 => k_is)
  (case l15 => k_is)
  (case g15 => k_is)
  (case k15 => k_is)
  (case a16 => k_is)
  (case l16 => k_is)
  (case g16 => k_is)
  (case k16 => k_is)
  (case a17 => k_is)
  (case l17 => k_is)
  (case g17 => k_is)
  (case k17 => k_is)
  (case a18 => k_is)
  (case l18 => k_is)
  (case g18 => k_is)
  (case k18 => k_is)
  (case a19 => k_is)
  (case l19 => k_is)
  (case g19 => k_is)
  (case k19 => k_is)
  (case a20 => k_is)
  (case l20 => k_is)
  (case g20 => k_is)
  (case k20 => k_is)
  (case a21 => k_is)
  (case l21 => k_is)
  (case g21 => k_is)
  (case k21 => k_is)
  (case a23 => k_is)
  (case l23 => k_is)
  (case g23 => k_is)
  (case k23 => k_is)
  (case a24 => k_is)
  (case l24 => k_is)
  (case g24 => k_is)
  (case k24 => k_is)
  (case a25 => k_is)
  (case l25 => k_is)
  (case g25 => k_is)
  (case k25 => k_is)
  (case a26 => k_is)
  (case l26 => k_is)
  (case g26 => k_is)
  (case k26 => k_is)
  (case a27 => k_is)
  (case l27 => k_is)
  (case g27 => k_is)
  (case k27 => k_is)
  (case a28 => k_is)
  (case l28 => k_is)
  (case g28 => k_is)
  (case k28 => k_is)
  (case a29 => k_is)
  (case l29 => k_is)
  (case g29 => k_is)
  (case k29 => k_is)
  (case a30 => k_is)
  (case l30 => k_is)
  (case g30 => k_is)
  (case k30 => k_is)
  (case a31 => k_is)
  (case l31 => k_is)
  (case g31 => k_is)
  (case k31 => k_is)
  (case a32 => k_is)
  (case l32 => k_is)
  (case g32 => k_is)
  (case k32 => k_is)
  (case a33 => k_is)
  (case l33 => k_is)
  (case g33 => k_is)
  (case k33 => k_is)
  (case a34 => k_is)
  (case l34 => k_is)
  (case g34 => k_is)
  (case k34 => k_is)
  (case a35 => k_is)
  (case l35 => k_is)
  (case g35 => k_is)
  (case k35 => k_is)
  (case a36 => k_is)
  (case l36 => k_is)
  (case g36 => k_is)
  (case k36 => k_is)
  (case a37 => k_is)
  (case l37 => k_is)
  (case g37 => k_is)
  (case k37 => k_is)
  (case a38 => k_is)
  (case l38 => k_is)
  (case g38 => k_is)
  (case k38 => k_is)
  (case a39 => k_is)
  (case l39 => k_is)
  (case g39 => k_is)
  (case k39 => k_is)
  (case a40 => k_is)
  (case l40 => k_is)
  (case g40 => k_is)
  (case k40 => k_is)
  (case a41 => k_is)
  (case l41 => k_is)
  (case g41 => k_is)
  (case k41 => k_is)
  (case a42 => k_is)
  (case l42 => k_is)
  (case g42 => k_is)
  (case k42 => k_is)
  (case a43 => k_is)
  (case l43 => k_is)
  (case g43 => k_is)
  (case k43 => k_is)
  (case a44 => k_is)
  (case l44 => k_is)
  (case g44 => k_is)
  (case k44 => k_is)
  (case a45 => k_is)
  (case l45 => k_is)
  (case g45 => k_is)
  (case k45 => k_is)
  (case a46 => k_is)
  (case l46 => k_is)
  (case g46 => k_is)
  (case k46 => k_is)
  (case a47 => k_is)
  (case l47 => k_is)
  (case g47 => k_is)
  (case k47 => k_is)
  (case a48 => k_is)
  (case l48 => k_is)
  (case g48 => k_is)
  (case k48 => k_is)
  (case xm_CurveError => k_is)
  (case xm_NoNumber => k_is)
  (case xm_NotPlain => k_is)
  (case xm_NoVertex => k_is)
  (case xm_Flat => k_is)
  (case xm_OffCurve => k_is)
  (case xm_AXES => k_is)
  (case xm_TURNS => k_is)
  (case o22 => k_is)
  (case a22 => k_is)
  (case l22 => k_is)
  (case g22 => k_is)
  (case k22 => k_is)
  (case xi_ce => kernel_rfl)
  (case xi_0 => kernel_rfl)
  (case xi_4 => kernel_rfl)
  (case xi_7 => kernel_rfl)
  (case xi_8 => kernel_rfl)
  (case xi_9 => kernel_rfl)
  (case xi_ve => kernel_rfl)
  (case xe0 => kernel_rfl)
  (case xe1 => kernel_rfl)
  (case xe2 => kernel_rfl)
  (case xe3 => kernel_rfl)
  (case xe4 => kernel_rfl)
  (case xe5 => kernel_rfl)
  (case xe6 => kernel_rfl)
  (case xe7 => kernel_rfl)
  (case xx_Flat => kernel_rfl)
  (case xxf_Flat => kernel_rfl)
  (case xxn_Flat => kernel_rfl)
  (case xxd_Flat => kernel_rfl)
  (case xxs_Flat => kernel_rfl)
  (case xxo_Flat => kernel_rfl)
  (case xy1 => kernel_rfl)
  (case xy2 => kernel_rfl)
  (case xy3 => kernel_rfl)
  (case xx_CurveError => kernel_rfl)
  (case xu_Flat => kernel_rfl)
  (case xk_AXES => k_is)
  (case xk_AXES_0 => k_is)
  (case xk_AXES_1 => k_is)
  (case xk_AXES_2 => k_is)
  (case xk_TURNS => k_is)
  (case xk_TURNS_0 => k_is)
  (case xk_TURNS_1 => k_is)
  (case xk_TURNS_2 => k_is)
  (case xi_ib => kernel_rfl)
  (case xz_isinstance => k_is)
  (case xz_int => k_is)
  (case xz_bool => k_is)
  (case xz_len => k_is)
  (case xz_range => k_is)
  (case xz_tuple => k_is)
  (case xz_all => k_is)
  (case xz_abs => k_is)
  (case xz_any => k_is)
  (case xz_sum => k_is)
  (case xz_zip => k_is)
  (case xz_max => k_is)
  (case xz_list => k_is)
  (case xz_ValueError => k_is)
